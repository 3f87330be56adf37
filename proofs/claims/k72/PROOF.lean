import PyProof.Rows.All
import Wide.All
import OpenK.AllK
import Wide.FinOn
import Lean
import PyProof.EqAt
import PyProof.EqKinds
import PyProof.TupleCall
import PyProof.Rows.Range3
import PyProof.Rows.FStr
import KE.KSortTup
import KE.KDictSum
import PyProof.DictUpdate
import PyProof.DictIter
import PyProof.DictCompW
import PyProof.Rows.ListMulArg
import KE.LcSums
import PyProof.SeqI3
import KE.KMinBuiltin
import KE.KRevIter
import PyProof.ListRange
import PyProof.TupleOfSeq
import PySem.Challenge.RW_holdplaces_k72_families_of_guards
set_option Elab.async false
set_option bootstrap.genMatcherCode false
set_option genSizeOf false
set_option compiler.extract_closed false
set_option maxHeartbeats 8000000
set_option maxRecDepth 100000
set_option linter.all false
noncomputable section
open List renaming drop_eq_getElem_cons→eO,mem_append_right→bP,take_append_drop→bZ,mem_cons_of_mem→aO,mem_cons_self→aL,length_append→di,size_toArray→a7,append_assoc→bw,lookup_cons→bB,any_eq_true→bK,all_eq_true→bS,length_cons→b_,filter_cons→cP,length_take→dn,not_mem_nil→dH,mem_filter→aS,length_map→aV,append_nil→cb,replicate→bY,map_cons→aJ,mem_cons→aM,mem_map→aN,map_map→bh,range→aX
open Option renaming bind_eq_some_iff→bE,map_eq_some_iff→bF,bind_eq_bind→bQ
open PySem.Builtin renaming bitNot→b4,bitAnd→cM
open Array renaming length_toList→bb,toList_append→bf
open PySem renaming mem_of_lookup→cm,wpAny_truthy_bool→bJ,wpAny_call_entry→cQ,wpAny_holding→bO,Comprehension→bT,bootBuiltins→bU,mainGlobals→aE,sizeLine_eq→bx,wpAny_bind→ah,wpAny_pure→aC,wpAny_mono→bD,compareOp→a6,cellsFrom→bt,sizeLine→aK,NameKind→aW,starEach→a_,binaryOp→bI,Program→aB,Shared→af,Around→aD,Value→ae,wpAny→aq,model→ar,World→az,Scope→aR
open Bool renaming false_eq_true→bp,false_ne_true→bX,not_eq_true'→bR,and_eq_true→aQ,or_eq_true→bG
open Nat renaming lt_of_lt_of_le→bA,lt_succ_of_lt→cN,lt_irrefl→bN,le_trans→a8,ne_of_lt→bq,le_refl→aF,zero_le→bz
open PySem.W renaming mg_none_of→dj,kia_one→bL,kitOne→cq,keepIn→cR,Frag→aA,nsIn→aG,fnOf→cw
open Option.some renaming injEq→cn,inj→bM
open ForInStep renaming yield→cc
open PySem.NameKind renaming free→b6
open PySem.Heap renaming lt_size→aP
open PySem.Str renaming ofString→a9
open PySem.Obj renaming mapSeq→br
open False renaming elim→bH
open PySem.Value renaming bool→bV,ref→aY
open And renaming intro→aw
open PyProof.Rows renaming pendingOf→aZ,wpS_bind→au,wpS_pure→av,IntsAre→bg,SortSt→aH,seqObj→aI,mirror→aU,arrOf→ag,Keyed→ao
set_option Elab.async false
namespace L2
open PySem PySem.Spec PyProof.Rows
abbrev Key:=Sum Int Str
noncomputable def sF:Key->ae->Bool
 | .inl k,v=>ae.isInt k v
 | .inr x,v=>ae.isStrOf x v
noncomputable def uJ(w:az):Key->Int
 | .inl k=>hashInt k
 | .inr x=>hashStr w x
theorem zP:∀{k:Key}{v:ae},sF k v=true->(∃i t,k=Sum.inl i/\v=ae.int i t)\/(∃x t,k=Sum.inr x/\v=ae.str x t)
 | .inl i,v,h=>by
  obtain⟨t,e⟩:=ae.isInt_shape (k:=i) (v:=v) h;exact .inl ⟨i,t,rfl,e⟩
 | .inr x,v,h=>by
  obtain⟨t,e⟩:=ae.isStrOf_shape (x:=x) (v:=v) h;exact .inr ⟨x,t,rfl,e⟩
theorem DI(a b:Int):decide ((Sum.inl a:Key)=Sum.inl b)=(a==b):=by
 by_cases e:a=b
 ·subst e;simp
 ·have h:¬ (Sum.inl a:Key)=Sum.inl b:=λq=>e (Sum.inl.inj q)
  rw[decide_eq_false h];exact(beq_eq_false_iff_ne.mpr e).symm
theorem Bi(a b:Str):decide ((Sum.inr a:Key)=Sum.inr b)=decide (a=b):=by
 by_cases e:a=b
 ·subst e;simp
 ·have h:¬ (Sum.inr a:Key)=Sum.inr b:=λq=>e (Sum.inr.inj q)
  rw[decide_eq_false h,decide_eq_false e]
theorem Eo(a:Int)(b:Str):decide ((Sum.inl a:Key)=Sum.inr b)=false:=decide_eq_false (λq=>nomatch q)
theorem BM(a:Str)(b:Int):decide ((Sum.inr a:Key)=Sum.inl b)=false:=decide_eq_false (λq=>nomatch q)
noncomputable def kK(prog:aB)(w:az):PySem.KeyKind prog w Key where
 is:=sF
 hash:=uJ w
 inj:=λv a b ha hb=>by
  rcases zP ha with ⟨i,t,rfl,rfl⟩|⟨x,t,rfl,rfl⟩
  ·rcases zP hb with ⟨j,u,rfl,e⟩|⟨y,u,rfl,e⟩
   ·injection e with e1 _;rw[e1]
   ·exact nomatch e
  ·rcases zP hb with ⟨j,u,rfl,e⟩|⟨y,u,rfl,e⟩
   ·exact nomatch e
   ·injection e with e1 _;rw[e1]
 byValue:=λk v h=>by
  rcases zP h with ⟨i,t,rfl,rfl⟩|⟨x,t,rfl,rfl⟩<;>rfl
 pyHash:=λhv h=>by
  rcases zP hv with ⟨i,t,rfl,rfl⟩|⟨x,t,rfl,rfl⟩
  ·exact wpAny_pyHash_int h
  ·exact wpAny_pyHash_str h
 eqBool:=λhu hv h=>by
  rcases zP hu with ⟨i,t,rfl,rfl⟩|⟨x,t,rfl,rfl⟩
  ·rcases zP hv with ⟨j,u,rfl,rfl⟩|⟨y,u,rfl,rfl⟩
   ·rw[DI]at h;exact wpAny_eqBool_int h
   ·rw[Eo]at h;exact SeqAt.EqAt.int_str i t y u _ _ _ _ h
  ·rcases zP hv with ⟨j,u,rfl,rfl⟩|⟨y,u,rfl,rfl⟩
   ·rw[BM]at h;exact SeqAt.EqAt.str_int x t j u _ _ _ _ h
   ·rw[Bi]at h;exact wpAny_eqBool_str h
 «strs»:=λk x t v h=>by
  rcases zP h with ⟨i,u,rfl,e⟩|⟨y,u,rfl,e⟩
  ·exact nomatch e
  ·injection e with e1 _
   subst e1;cases v<;>rfl
inductive V where
 |non|bl (b:Bool)|int (i:Int)|str (x:Str)|byt (b:Array UInt8)|flt (b:UInt64)|ref (a:Addr)|ty (n:String)
 deriving DecidableEq
def RelV:V->ae->Prop
 | .non,u=>u=ae.none
 | .bl b,u=>u=bV b
 | .int i,u=>∃t,u=ae.int i t
 | .str x,u=>∃t,u=ae.str x t
 | .byt b,u=>∃t,u=ae.bytes b t
 | .flt b,u=>∃t,u=ae.float b t
 | .ref a,u=>u=aY a
 | .ty n,u=>u=ae.type n
abbrev Vals:List V->List ae->Prop:=Paired RelV
theorem Vals.length{xs:List V}{us:List ae}(r:Vals xs us):xs.length=us.length:=Paired.length r
theorem Vals.get:∀{xs:List V}{us:List ae}{i:Nat}{x:V},Vals xs us->xs[i]? = some x->∃u,us[i]? = some u/\RelV x u
 |_,_,_,_,.nil,e=>by simp at e
 |_,_,0,_,.cons r _,e=>by simp at e;subst e;exact⟨_,rfl,r⟩
 |_,_,i+1,x,.cons _ t,e=>by
  obtain⟨u,h1,h2⟩:=Vals.get (i:=i) (x:=x) t (by simpa using e);exact⟨u,by simpa using h1,h2⟩
theorem Vals.set{x:V}{u:ae}(r:RelV x u):∀{xs:List V}{us:List ae} (i:Nat),Vals xs us->Vals (xs.set i x) (us.set i u)
 |_,_,_,.nil=>.nil
 |_,_,0,.cons _ t=>.cons r t
 |_,_,i+1,.cons q t=>.cons q (Vals.set r i t)
theorem Vals.append:∀{xs ys:List V}{us ws:List ae},Vals xs us->Vals ys ws->Vals (xs++ys) (us++ws)
 |_,_,_,_,.nil,s=>s
 |_,_,_,_,.cons r t,s=>.cons r (Vals.append t s)
theorem Vals.take:∀{xs:List V}{us:List ae} (n:Nat),Vals xs us->Vals (xs.take n) (us.take n)
 |_,_,0,_=>.nil
 |_,_,_+1,.nil=>.nil
 |_,_,n+1,.cons r t=>.cons r (Vals.take n t)
theorem Vals.drop:∀{xs:List V}{us:List ae} (n:Nat),Vals xs us->Vals (xs.drop n) (us.drop n)
 |_,_,0,r=>r
 |_,_,_+1,.nil=>.nil
 |_,_,n+1,.cons _ t=>Vals.drop n t
def dD:Option V->Option ae->Prop
 |some v,some u=>RelV v u
 |none,none=>True
 |_,_=>False
def KV{κ:Type}:List (κ×V)->List (κ×ae)->Prop:=Paired λ(p:κ×V) (q:κ×ae)=>p.1=q.1/\RelV p.2 q.2
noncomputable def kV:Key->V
 | .inl i=>.int i
 | .inr x=>.str x
inductive HO where
 |lst (xs:List V)
 |tup (xs:List V)
 |dK (kvs:List (Key×V))|dT (kvs:List (List Key×V))
 |set (S:Int->Bool) (n:Nat)
 |ins (C dx:Addr) (fs:List (Str×V))
 |own (x:Addr)
 |xd (fs:List (Str×V))
 |met (f x:Addr)
 |rng (lo hi:Int)
 |frz (o:Obj) (u:HO)
 |tbl (ps:Array ae)
 |ext (φ:Heap->Prop)
abbrev Hp:=Addr->Option HO
noncomputable def upd(H:Hp)(a:Addr)(o:HO):Hp:=λb=>if b=a then some o else H b
theorem zw{H:Hp}{a:Addr}{o:HO}:upd H a o a=some o:=by unfold upd;rw[if_pos rfl]
theorem ql{H:Hp}{a b:Addr}{o:HO}(h:b≠a):upd H a o b=H b:=by unfold upd;rw[if_neg h]
theorem iG{H:Hp}{a b:Addr}{o:HO}(h:H a=some o)(h':H b=none):a≠b:=by
 intro e;subst e;rw[h]at h';cases h'
section
variable(P:aB)(w:az)
def zJ(H:Hp)(h:Heap)(a:Addr):HO->Prop
 | .lst xs=>xs.length<=aK/\∃(its:List ae) (n:Nat),Vals xs its/\h.get? a=some {cls:=.type "list",data:=.seq its.toArray n}
 | .tup xs=>xs.length<=aK/\∃its:List ae,Vals xs its/\IsTup h a its.toArray
 | .dK kvs=>kvs.length<=aK/\(a==sysModules)=false/\∃vs,KV kvs vs/\h.DictOf (kK P w) a vs
 | .dT kvs=>kvs.length<=aK/\(a==sysModules)=false/\∃xs:List (List Key×Addr×ae),
   Paired (λ(p:List Key×V) (q:List Key×Addr×ae)=>p.1=q.1/\H q.2.1=some (.tup (p.1.map kV))/\RelV p.2 q.2.2) kvs xs /\
   ∃o es ep,h.get? a=some o/\o.ExactDict/\o.data=.dict es ep/\es.toList=xs.map (entryOfKey (tupleKind (kK P w)))/\(xs.map (·.1)).Nodup
 | .set S n=>h.SetOf (intKind P w) a S n
 | .ins C dx fs=>H dx=some (.own a)/\fs.length<=1000/\dx≠a/\h.get? a=some (PySem.W.instObj C dx) /\
   ∃mA,h.Ns1 dx mA/\(∀f,dD (fs.lookup f) (mA f))/\PySem.Within mA (fs.map (·.1))
 | .own _=>∃o,h.get? a=some o
 | .xd fs=>∃mA,h.Ns1 a mA/\∀f,dD (fs.lookup f) (mA f)
 | .rng lo hi=>∃t u v,h.get? a=some {cls:=.type "range",data:=.fields #[.int lo t,.int hi u,.int 1 v]}
 | .frz o u=>h.get? a=some o/\zJ H h a u
 | .tbl ps=>h.get? a=some {cls:=.none,data:=.fields ps}
 | .met f x=>h.get? a=some (PySem.W.methodObj (.ref f) (.ref x))
 | .ext φ=>φ h/\(∃o,h.get? a=some o)/\∀h1 h2:Heap,φ h1->(∀o,h1.get? a=some o->h2.get? a=some o)->φ h2
def HOk(H:Hp)(h:Heap):Prop:=∀a o,H a=some o->zJ P w H h a o
end
section
variable{P:aB}{w:az}{H H':Hp}{h h':Heap}{a:Addr}{o:HO}
theorem zJ.lt(x:zJ P w H h a o):a<h.objs.size:=by
 cases o with
 |lst xs=>obtain⟨_,_,_,_,e⟩:=x;exact aP e
 |tup xs=>obtain⟨_,_,_,p⟩:=x;exact p.lt
 |dK kvs=>obtain⟨_,_,_,_,o,_,_,e,_⟩:=x;exact aP e
 |dT kvs=>obtain⟨_,_,_,_,o,_,_,e,_⟩:=x;exact aP e
 |set S n=>obtain⟨o,_,_,_,e,_⟩:=x;exact aP e
 |ins C dx fs=>obtain⟨_,_,_,e,_⟩:=x;exact aP e
 |own y=>obtain⟨_,e⟩:=x;exact aP e
 |xd fs=>obtain⟨_,⟨_,_,_,e,_⟩,_⟩:=x;exact aP e
 |rng lo hi=>obtain⟨_,_,_,e⟩:=x;exact aP e
 |frz ob u=>obtain⟨e,_⟩:=x;exact aP e
 |tbl ps=>exact aP (show h.get? a=some _ from x)
 |met f y=>exact aP (show h.get? a=some _ from x)
 |ext φ=>obtain⟨_,⟨_,e⟩,_⟩:=x;exact aP e
theorem Paired.mapP{α β:Type}{F G:α->β->Prop}:∀{l₁:List α}{l₂:List β},Paired F l₁ l₂->(∀a b,F a b->G a b)->Paired G l₁ l₂
 |_,_,.nil,_=>.nil
 |_,_,.cons r t,f=>.cons (f _ _ r) (Paired.mapP t f)
theorem zJ.stay(x:zJ P w H h a o)(k:∀b u,(b=a\/H b=some (.own a))->h.get? b=some u->h'.get? b=some u)
  (ho:∀b,H b=some (.own a)->H' b=some (.own a)) (ht:∀b xs,H b=some (.tup xs)->H' b=some (.tup xs)):zJ P w H' h' a o:=by
 induction o with
 |lst xs=>obtain⟨z,its,n,r,e⟩:=x;exact⟨z,its,n,r,k _ _ (.inl rfl) e⟩
 |tup xs=>obtain⟨z,its,r,ob,e,c⟩:=x;exact⟨z,its,r,ob,k _ _ (.inl rfl) e,c⟩
 |dK kvs=>obtain⟨z,y,vs,r,ob,es,ep,e,c⟩:=x;exact⟨z,y,vs,r,ob,es,ep,k _ _ (.inl rfl) e,c⟩
 |dT kvs=>
  obtain⟨z,y,xs,r,ob,es,ep,e,c⟩:=x;exact⟨z,y,xs,Paired.mapP r λp q z=>⟨z.1,ht _ _ z.2.1,z.2.2⟩,ob,es,ep,k _ _ (.inl rfl) e,c⟩
 |set S n=>obtain⟨ob,es,ep,t,e,c⟩:=x;exact⟨ob,es,ep,t,k _ _ (.inl rfl) e,c⟩
 |ins C dx fs=>
  obtain⟨d,z,ne,e,mA,⟨od,es,ep,e2,c⟩,r⟩:=x;exact⟨ho _ d,z,ne,k _ _ (.inl rfl) e,mA,⟨od,es,ep,k _ _ (.inr d) e2,c⟩,r⟩
 |own y=>obtain⟨ob,e⟩:=x;exact⟨ob,k _ _ (.inl rfl) e⟩
 |xd fs=>obtain⟨mA,⟨od,es,ep,e,c⟩,r⟩:=x;exact⟨mA,⟨od,es,ep,k _ _ (.inl rfl) e,c⟩,r⟩
 |rng lo hi=>obtain⟨t,u,v,e⟩:=x;exact⟨t,u,v,k _ _ (.inl rfl) e⟩
 |frz ob u ih=>obtain⟨e,q⟩:=x;exact⟨k _ _ (.inl rfl) e,ih q⟩
 |tbl ps=>
  have e:h.get? a=some {cls:=.none,data:=.fields ps}:=x;show h'.get? a=some {cls:=.none,data:=.fields ps};exact k a _ (.inl rfl) e
 |met f y=>
  have e:h.get? a=some (PySem.W.methodObj (.ref f) (.ref y)):=x;show h'.get? a=some (PySem.W.methodObj (.ref f) (.ref y));exact k a _ (.inl rfl) e
 |ext φ=>obtain⟨p,⟨o,e⟩,st⟩:=x;exact⟨st _ _ p λo q=>k _ _ (.inl rfl) q,⟨o,k _ _ (.inl rfl) e⟩,st⟩
theorem HOk.lt(x:HOk P w H h)(e:H a=some o):a<h.objs.size:=(x a o e).lt
theorem HOk.fresh(x:HOk P w H h)(e:h.objs.size<=a):H a=none:=by
 cases q:H a with
 |none=>rfl
 |some u=>exact absurd (bA (x.lt q) e) (bN _)
theorem HOk.kept(x:HOk P w H h)(k:∀b u,h.get? b=some u->h'.get? b=some u):HOk P w H h':=λa o e=>
 (x a o e).stay (λb u _ q=>k b u q) (λ_ q=>q) λ_ _ q=>q
theorem HOk.laid(x:HOk P w H h)(k:∀b u,h.get? b=some u->h'.get? b=some u)(hp:h.objs.size<=a)(new:zJ P w (upd H a o) h' a o):HOk P w (upd H a o) h':=λb u e=>by
 have hn:=x.fresh hp;by_cases hb:b=a
 ·subst hb;rw[zw]at e;cases e;exact new
 ·rw[ql hb]at e;exact(x b u e).stay (λc v _ q=>k c v q) (λc q=>by rw[ql (iG q hn)];exact q) λc xs q=>by rw[ql (iG q hn)];exact q
end
def Rd(H:Hp)(a:Addr)(u:HO):Prop:=H a=some u\/∃o,H a=some (.frz o u)
theorem Rd.of{H:Hp}{a:Addr}{u:HO}(h:H a=some u):Rd H a u:=.inl h
theorem Rd.ok{P:aB}{w:az}{H:Hp}{h:Heap}{a:Addr}{u:HO}(r:Rd H a u)(x:HOk P w H h):zJ P w H h a u:=by
 rcases r with r|⟨o,r⟩
 ·exact x a u r
 ·obtain⟨_,q⟩:=x a _ r;exact q
def Mut:Option HO->Prop
 |some (.lst _)=>True
 |some (.dK _)=>True
 |some (.dT _)=>True
 |some (.set _ _)=>True
 |some (.ins _ _ _)=>True
 |some (.ext _)=>True
 |_=>False
section
variable{P:aB}{w:az}{H:Hp}{h h':Heap}{x e:Addr}{o':HO}
theorem HOk.write(ok:HOk P w H h)(mu:Mut (H x))(he:e=x\/H e=some (.own x))(k:∀b u,b≠e->h.get? b=some u->h'.get? b=some u)(Gh:∃u,h'.get? e=some u)
  (new:zJ P w (upd H x o') h' x o'):HOk P w (upd H x o') h':=λb u q=>by
 have HL:∀c y,H c=some (.own y)->c≠x:=λc y r z=>by subst z;rw[r]at mu;exact mu
 have Jx:∀c xs,H c=some (.tup xs)->c≠x:=λc xs r z=>by subst z;rw[r]at mu;exact mu
 by_cases hb:b=x
 ·subst hb;rw[zw]at q;cases q;exact new
 ·rw[ql hb]at q;by_cases G_:b=e
  ·have q':H b=some (.own x):=by
    rcases he with z|z
    ·exact absurd (G_.trans z) hb
    ·rw[G_];exact z
   rw[q]at q';cases q';obtain⟨v,hv⟩:=Gh;exact⟨v,by rw[G_];exact hv⟩
  ·refine(ok b u q).stay (λc v hc r=>k c v ?_ r) (λc r=>by rw[ql (HL c b r)];exact r) λc xs r=>by rw[ql (Jx c xs r)];exact r
   rcases hc with rfl|hc
   ·exact G_
   ·rintro rfl;rcases he with z|z
    ·exact HL c b hc z
    ·rw[hc]at z;cases z;exact hb rfl
end
structure Un(fs ex:List Addr)(H H':Hp)(h h':Heap):Prop where
 keep:∀b o,h.get? b=some o->H b=none->b∉fs->b∉ex->h'.get? b=some o
 slot:∀b o,h.get? b=some o->H b=none->b∈fs->b∉ex->∃sl,h'.get? b=some {o with slots:=sl}
 free:∀b o,h.get? b=some o->H b=none->b∉ex->H' b=none
 there:∀b o,h.get? b=some o->b∉ex->∃o',h'.get? b=some o'
 tups:∀b xs,H b=some (.tup xs)->H' b=some (.tup xs)
 frzs:∀b o u,H b=some (.frz o u)->H' b=some (.frz o u)
 tbls:∀b ps,H b=some (.tbl ps)->∃more,H' b=some (.tbl (ps++more))
section
variable{fs fs' ex ex':List Addr}{H H1 H2:Hp}{h h1 h2 h':Heap}{a x e:Addr}{o:HO}
theorem Un.any(u:Un fs ex H H1 h h1){b:Addr}{ob:Obj}(q:h.get? b=some ob)(n:H b=none)(hx:b∉ex):∃sl,h1.get? b=some {ob with slots:=sl}:=by
 by_cases hb:b∈fs
 ·exact u.slot b ob q n hb hx
 ·exact⟨ob.slots,u.keep b ob q n hb hx⟩
theorem Un.kept(k:∀b u,h.get? b=some u->h'.get? b=some u):Un fs ex H H h h':=
 ⟨λb ob q _ _ _=>k b ob q,λb ob q _ _ _=>⟨ob.slots,k b ob q⟩,λ_ _ _ n _=>n,λb ob q _=>⟨ob,k b ob q⟩,λ_ _ q=>q,λ_ _ _ q=>q,λ_ ps q=>⟨#[],by rw[q];simp⟩⟩
theorem Un.refl:Un fs ex H H h h:=Un.kept λ_ _ q=>q
theorem Un.laid(k:∀b u,h.get? b=some u->h'.get? b=some u)(hp:h.objs.size<=a)(hn:H a=none):Un fs ex H (upd H a o) h h' where
 keep:=λb u q _ _ _=>k b u q
 slot:=λb u q _ _ _=>⟨u.slots,k b u q⟩
 free:=λb u q n _=>by rw[ql (bq (bA (aP q) hp))];exact n
 there:=λb u q _=>⟨u,k b u q⟩
 tups:=λb xs q=>by rw[ql (iG q hn)];exact q
 frzs:=λb u xs q=>by rw[ql (iG q hn)];exact q
 tbls:=λb ps q=>⟨#[],by rw[ql (iG q hn),q];simp⟩
theorem Un.write(mu:Mut (H x))(he:e=x\/H e=some (.own x))(k:∀b u,b≠e->h.get? b=some u->h'.get? b=some u)(Gh:∃u,h'.get? e=some u):Un fs ex H (upd H x o) h h':=by
 have hx:∀b,H b=none->b≠x:=λb n z=>by subst z;rw[n]at mu;exact mu
 have hb:∀b,H b=none->b≠e:=λb n z=>by
  subst z;rcases he with r|r
  ·exact hx b n r
  ·rw[n]at r;cases r
 have hm:∀b u,H b=some u->¬ Mut (some u)->b≠x:=λb u q nm z=>by subst z;rw[q]at mu;exact nm mu
 refine⟨λb u q n _ _=>k b u (hb b n) q,λb u q n _ _=>⟨u.slots,k b u (hb b n) q⟩,λb u q n _=>by rw[ql (hx b n)];exact n,λb u q _=>?_,
  λb xs q=>by rw[ql (hm b _ q λz=>z)];exact q,λb u xs q=>by rw[ql (hm b _ q λz=>z)];exact q,λb ps q=>⟨#[],by rw[ql (hm b _ q λz=>z),q];simp⟩⟩
 by_cases G_:b=e
 ·subst G_;exact Gh
 ·exact⟨u,k b u G_ q⟩
end
noncomputable def trk(h:Heap)(H:Hp):List Addr:=(aX h.objs.size).filter λa=>(H a).isSome
noncomputable def fq(h:Heap)(H:Hp):Heap:=PySem.W.hideAll h (trk h H)
theorem BB(h:Heap)(H:Hp):(fq h H).objs.size=h.objs.size:=PySem.W.hideAll_size _ _
theorem uc{h:Heap}{H:Hp}{b:Addr}{o:Obj}(e:h.get? b=some o)(n:H b=none):(fq h H).get? b=some o:=
 PySem.W.hideAll_get _ e λhm=>by
  have q:(H b).isSome=true:=(aS.mp hm).2;rw[n]at q;simp at q
theorem xf{h:Heap}{H:Hp}{b:Addr}{o:Obj}(e:(fq h H).get? b=some o):h.get? b=some o/\H b=none:=by
 have e':h.get? b=some o:=PySem.W.of_hideAll (trk h H) e;refine⟨e',?_⟩;cases q:H b with
 |none=>rfl
 |some x=>
  have hm:b∈trk h H:=aS.mpr ⟨List.mem_range.mpr (aP e'),by simp[q]⟩;have z:(fq h H).get? b=none:=PySem.W.hideAll_none (trk h H) hm;rw[z]at e;cases e
noncomputable def jI(g h:Heap)(L:Addr):List (Addr×Obj):=(aX h.objs.size).filterMap λa=>if a=L\/(g.get? a).isSome=true then none else (h.get? a).map λo=>(a,o)
theorem rS{g h:Heap}{L a:Addr}{o:Obj}(h1:a≠L)(h2:g.get? a=none)(h3:h.get? a=some o):(a,o)∈jI g h L:=
 List.mem_filterMap.mpr ⟨a,List.mem_range.mpr (aP h3),by simp[h1,h2,h3]⟩
theorem vw{g h:Heap}{L:Addr}{p:Addr×Obj}(hp:p∈jI g h L):p.1≠L/\g.get? p.1=none/\h.get? p.1=some p.2:=by
 obtain⟨b,_,e⟩:=List.mem_filterMap.mp hp;split at e
 ·cases e
 ·rename_i hn
  cases q:h.get? b with
  |none=>rw[q]at e;simp at e
  |some u=>
   rw[q]at e;simp only[Option.map_some,cn]at e;subst e;refine⟨λz=>hn (.inl z),?_,q⟩;show g.get? b=none;cases r:g.get? b with
   |none=>rfl
   |some v=>exact(hn (.inr (by simp[r]))).elim
noncomputable def rest(g h:Heap)(L d:Addr):List (Addr×Obj):=(jI g h L).filter λp=>decide (p.1≠d)
theorem D9{g h:Heap}{L:Addr}:News g L h (jI g h L):=λp hp=>let ⟨a,b,c⟩:=vw hp;⟨c,a,b⟩
structure Mod(K:aA)(mg:Str->Option ae)(base:Heap):Prop where
 kin:K.In base
 glob:base.Ns aE mg
 blt:∃mb,base.Ns builtinsNs mb/\∀x:Str,x≠"__name__"->mb x=bU x
 nolimit:base.NoLimit
structure Cx where
 prog:aB
 w:az
 K:aA
 mg:Str->Option ae
 base:Heap
 A:aD
 N:List Str
 s₀:af
 H₀:Hp
 env:Env
 outer:List Env
 stack:List Env
 ex:List Addr
 fn:Str->Bool
 calm:Bool
 pn:List (Addr×Obj)
 xe:ae->af->Prop
noncomputable def frs(l:List Env):List Addr:=l.filterMap (·.frame)
abbrev Cx.fs(X:Cx):List Addr:=frs X.outer
def fC(sc:aR)(x:Str):Prop:=sc.names.lookup x=some .local\/sc.names.lookup x=some .cell\/sc.names.lookup x=some .free
def Loc(sc:aR)(x:Str):Prop:=sc.names.lookup x=some .local\/sc.names.lookup x=some .cell
def Look(env:Env)(h:Heap)(m:Str->Option ae)(x:Str)(u:ae):Prop:=
 (env.kindOf x=some .local/\m x=some u)\/((env.kindOf x=some .cell\/env.kindOf x=some .free)/\∃c,env.cells.lookup x=some c/\h.IsCell c (some u))
structure Cx.Ok(X:Cx):Prop where
 mod:Mod X.K X.mg X.base
 kind:X.env.scope.kind=.function
 glob:X.env.globals=aE
 blt:X.env.builtins=builtinsNs
 above:X.s₀.heap.objs.size<=X.env.locals
 inj:∀x y c,X.env.cells.lookup x=some c->X.env.cells.lookup y=some c->x=y
 has:∀x,(X.env.kindOf x=some .cell\/X.env.kindOf x=some .free)->∃c,X.env.cells.lookup x=some c
 cab:∀x c,X.fn x=true->X.env.cells.lookup x=some c->X.s₀.heap.objs.size<=c
 hd:X.calm=true->X.A.handled=none
 frames:X.A.frames=some X.stack
 stk:X.stack=X.outer\/(X.stack=X.env::X.outer/\X.env.frame=some X.env.locals)
 exf:∀b∈X.ex,b≠X.env.locals/\∀x c,X.env.cells.lookup x=some c->c≠b
 bs:∀b o,X.base.get? b=some o->X.s₀.heap.get? b=some o/\X.H₀ b=none
 bsz:X.base.objs.size<=X.s₀.heap.objs.size
 noex:∀b o,X.base.get? b=some o->b∉X.ex
 exfs:∀b∈X.ex,b∉X.fs
 funs:X.s₀.heap.FunFrames X.base X.outer
 frf:∀b∈X.fs,X.H₀ b=none
structure Inv(X:Cx)(pins:List (Addr×Obj))(σ:List (Option V))(H:Hp)(s:af):Prop where
 ok:X.Ok
 os:s.os=X.s₀.os
 bare:AllBare s.gens
 base:Un X.fs X.ex X.H₀ H X.s₀.heap s.heap
 loc:∃m,s.heap.Ns X.env.locals m/\∀(i:Nat) (x:Str) (v:V),X.N[i]? = some x->σ[i]? = some (some v)->fC X.env.scope x->∃u,RelV v u/\Look X.env s.heap m x u
 cell:∀x c,X.env.cells.lookup x=some c->∃v,s.heap.IsCell c v
 free:H X.env.locals=none
 freeC:∀x c,X.env.cells.lookup x=some c->H c=none
 pin:∀p∈X.pn++pins,s.heap.get? p.1=some p.2/\H p.1=none/\p.1≠X.env.locals/\p.1∉X.fs/\∀v,p.2.data≠.cell v
 hok:HOk X.prog X.w H s.heap
 len:σ.length=X.N.length
section
variable{X:Cx}{pins:List (Addr×Obj)}{σ:List (Option V)}{H H':Hp}{s:af}{h':Heap}
theorem Cx.Ok.nofr(ok:X.Ok){b:Addr}{o:Obj}(e:X.base.get? b=some o):b∉X.fs:=λhb=>by
 have:=(ok.funs.mem hb).1;rw[e]at this;cases this
theorem Inv.bs(I:Inv X pins σ H s):∀b o,X.base.get? b=some o->s.heap.get? b=some o/\H b=none:=λb o e=>
 ⟨I.base.keep b o (I.ok.bs b o e).1 (I.ok.bs b o e).2 (I.ok.nofr e) (I.ok.noex b o e),I.base.free b o (I.ok.bs b o e).1 (I.ok.bs b o e).2 (I.ok.noex b o e)⟩
theorem Inv.bk(I:Inv X pins σ H s):∀b o,X.base.get? b=some o->s.heap.get? b=some o:=λb o e=>(I.bs b o e).1
theorem Inv.mod(I:Inv X pins σ H s):Mod X.K X.mg X.base:=I.ok.mod
theorem Inv.kIn(I:Inv X pins σ H s):X.K.In s.heap:=I.ok.mod.kin.keeps I.bk
theorem Inv.nolimit(I:Inv X pins σ H s):s.heap.NoLimit:=I.ok.mod.nolimit.keeps I.bk
theorem Inv.fr(I:Inv X pins σ H s):∃m,Fr X.base X.env.locals s.heap m:=
 let ⟨m,hn,_⟩:=I.loc
 ⟨m,hn,I.bk,a8 I.ok.bsz I.ok.above⟩
theorem Inv.lt(I:Inv X pins σ H s):X.env.locals<s.heap.objs.size:=let ⟨_,hn,_⟩:=I.loc;hn.lt
theorem Inv.sz(I:Inv X pins σ H s):X.s₀.heap.objs.size<=s.heap.objs.size:=a8 I.ok.above (Nat.le_of_lt I.lt)
theorem Inv.nofs(I:Inv X pins σ H s){a:Addr}(h:s.heap.objs.size<=a):a∉X.fs:=λhb=>by
 obtain⟨_,o,ho,_⟩:=I.ok.funs.mem hb;exact absurd (bA (aP ho) (a8 I.sz h)) (bN _)
theorem Inv.cne(I:Inv X pins σ H s):∀x c,X.env.cells.lookup x=some c->c≠X.env.locals:=λx c e z=>by
 obtain⟨v,o,ho,hd⟩:=I.cell x c e;obtain⟨m,⟨o',es,ep,Fu,FJ,_⟩,_⟩:=I.loc;rw[z,Fu]at ho;cases ho;rw[FJ]at hd;cases hd
theorem Inv.funs(I:Inv X pins σ H s):s.heap.FunFrames X.base X.outer:=by
 have all:∀(l:List Env),(∀b∈frs l,b∈X.fs)->X.s₀.heap.FunFrames X.base l->s.heap.FunFrames X.base l:=by
  intro l
  induction l with
  |nil=>intro _ _;trivial
  |cons env r ih=>
   intro hs hl;obtain⟨hk,⟨L,o,hf,hn,ho,hd⟩,hr⟩:=hl;have hL:L∈X.fs:=hs L (by unfold frs;rw[List.filterMap_cons,hf];exact aL);obtain⟨sl,e⟩:=I.base.slot L o ho (I.ok.frf L hL) hL λz=>I.ok.exfs L z hL
   exact⟨hk,⟨L,_,hf,hn,e,hd⟩,ih (λb hb=>hs b (by unfold frs;rw[List.filterMap_cons,hf];exact aO _ hb)) hr⟩
 exact all X.outer (λ_ hb=>hb) I.ok.funs
theorem Inv.stack(I:Inv X pins σ H s):s.heap.FunFrames X.base X.stack:=by
 rcases I.ok.stk with e|⟨e,hf⟩
 ·rw[e];exact I.funs
 ·rw[e];obtain⟨m,hn,_⟩:=I.loc;refine .cons (by rw[I.ok.kind];decide) hf hn ?_ I.funs;exact Heap.get?_none_of_le (a8 I.ok.bsz I.ok.above)
theorem Inv.stkSub(I:Inv X pins σ H s):∀b∈frs X.stack,b∈X.env.locals::X.fs:=λb hb=>by
 rcases I.ok.stk with e|⟨e,hf⟩
 ·rw[e]at hb;exact aO _ hb
 ·rw[e]at hb;unfold frs at hb;rw[List.filterMap_cons,hf]at hb;exact hb
theorem Inv.stkFree(I:Inv X pins σ H s):∀b∈frs X.stack,H b=none:=λb hb=>by
 rcases aM.mp (I.stkSub b hb)with e|hb
 ·rw[e];exact I.free
 ·obtain⟨_,o,ho,_⟩:=I.ok.funs.mem hb;exact I.base.free b o ho (I.ok.frf b hb) λz=>I.ok.exfs b z hb
theorem Inv.step{g':Array GenState}{t':Nat}{d':Drawn}{ch:List Addr}(I:Inv X pins σ H s)
  (FK:∀b∈ch,(b∈X.ex\/X.s₀.heap.objs.size<=b)/\b≠X.env.locals/\(∀x c,X.env.cells.lookup x=some c->c≠b)/\∀p∈X.pn++pins,p.1≠b)
  (keep:∀b o,b≠X.env.locals->b∉X.fs->b∉ch->s.heap.get? b=some o->H b=none->h'.get? b=some o)
  (slot:∀b o,b≠X.env.locals->b∈X.fs->b∉ch->s.heap.get? b=some o->H b=none->∃sl,h'.get? b=some {o with slots:=sl}) (free:∀b o,b∉ch->s.heap.get? b=some o->H b=none->H' b=none)
  (there:∀b o,b∉ch->s.heap.get? b=some o->∃o',h'.get? b=some o')
  (tups:∀b xs,H b=some (.tup xs)->H' b=some (.tup xs)) (frzs:∀b o u,H b=some (.frz o u)->H' b=some (.frz o u)) (tbls:∀b ps,H b=some (.tbl ps)->∃more,H' b=some (.tbl (ps++more)))
  (ns:∀m,s.heap.Ns X.env.locals m->h'.Ns X.env.locals m) (hok:HOk X.prog X.w H' h') (hg:AllBare g') :
  Inv X pins σ H' {s with heap:=h',gens:=g',drawn:=d',toks:=t'}:=by
 have IG:∀b o,X.s₀.heap.get? b=some o->b≠X.env.locals:=λb o e=>bq (bA (aP e) I.ok.above)
 have G':∀b o,X.s₀.heap.get? b=some o->b∉X.ex->b∉ch:=λb o e hx hb=>by
  rcases(FK b hb).1 with z|z
  ·exact hx z
  ·exact absurd (bA (aP e) z) (bN _)
 have cellK:∀x c,X.env.cells.lookup x=some c->∀v,s.heap.IsCell c v->h'.IsCell c v:=λx c e v ⟨o,ho,hd⟩=>by
  have FA:c∉ch:=λz=>(FK c z).2.2.1 x c e rfl
  by_cases hc:c∈X.fs
  ·obtain⟨sl,q⟩:=slot c o (I.cne x c e) hc FA ho (I.freeC x c e);exact⟨_,q,hd⟩
  ·exact⟨o,keep c o (I.cne x c e) hc FA ho (I.freeC x c e),hd⟩
 refine⟨I.ok,I.os,hg,⟨λb o e n hb hx=>?_,λb o e n hb hx=>?_,λb o e n hx=>?_,λb o e hx=>?_,λb xs e=>tups b xs (I.base.tups b xs e),λb o xs e=>frzs b o xs (I.base.frzs b o xs e),λb ps e=>?_⟩,?_,λx c e=>?_,?_,λx c e=>?_,λp hp=>?_,hok,I.len⟩
 ·exact keep b o (IG b o e) hb (G' b o e hx) (I.base.keep b o e n hb hx) (I.base.free b o e n hx)
 ·obtain⟨sl,e1⟩:=I.base.slot b o e n hb hx;obtain⟨Jy,e2⟩:=slot b _ (IG b o e) hb (G' b o e hx) e1 (I.base.free b o e n hx);exact⟨Jy,e2⟩
 ·obtain⟨o',e1⟩:=I.base.there b o e hx;exact free b o' (G' b o e hx) e1 (I.base.free b o e n hx)
 ·obtain⟨o',e1⟩:=I.base.there b o e hx;exact there b o' (G' b o e hx) e1
 ·obtain⟨m1,e1⟩:=I.base.tbls b ps e;obtain⟨m2,e2⟩:=tbls b _ e1;exact⟨m1++m2,by rw[e2,Array.append_assoc]⟩
 ·obtain⟨m,hn,hl⟩:=I.loc;refine⟨m,ns m hn,λi x v e1 e2 e3=>?_⟩;obtain⟨u,r,l⟩:=hl i x v e1 e2 e3;refine⟨u,r,?_⟩;rcases l with l|⟨k,c,e,z⟩
  ·exact .inl l
  ·exact .inr ⟨k,c,e,cellK x c e _ z⟩
 ·obtain⟨v,z⟩:=I.cell x c e;exact⟨v,cellK x c e v z⟩
 ·obtain⟨m,⟨o,_,_,ho,_⟩,_⟩:=I.loc;exact free _ o (λz=>(FK _ z).2.1 rfl) ho I.free
 ·obtain⟨v,o,ho,hd⟩:=I.cell x c e;exact free c o (λz=>(FK c z).2.2.1 x c e rfl) ho (I.freeC x c e)
 ·obtain⟨e,n,ne,nf,d⟩:=I.pin p hp;have FA:p.1∉ch:=λz=>(FK p.1 z).2.2.2 p hp rfl
  exact⟨keep p.1 p.2 ne nf FA e n,free p.1 p.2 FA e n,ne,nf,d⟩
theorem Inv.un{t':Nat}(I:Inv X pins σ H s)(u:Un X.fs [] H H' s.heap h')(hok:HOk X.prog X.w H' h'):Inv X pins σ H' {s with heap:=h',toks:=t'}:=by
 obtain⟨m,⟨o,es,ep,ho,r⟩,_⟩:=id I.loc;obtain⟨sl,hL⟩:=u.any ho I.free (by simp);exact I.step (g':=s.gens) (d':=s.drawn) (ch:=[]) (λ_ z=>nomatch z) (λb o _ hb _ e n=>u.keep b o e n hb (by simp)) (λb o _ hb _ e n=>u.slot b o e n hb (by simp)) (λb o _ e n=>u.free b o e n (by simp)) (λb o _ e=>u.there b o e (by simp)) u.tups u.frzs u.tbls (λm' hm=>by
  obtain⟨o',HM,ep',Fu,r'⟩:=hm;rw[ho]at Fu;cases Fu;exact⟨_,HM,ep',hL,r'⟩) hok I.bare
theorem Inv.call{g':Array GenState}{t':Nat}{d':Drawn}{ch:List Addr}(I:Inv X pins σ H s)(u:Un (frs X.stack) ch H H' s.heap h')(hok:HOk X.prog X.w H' h')(hg:AllBare g')
  (FK:∀b∈ch,(b∈X.ex\/X.s₀.heap.objs.size<=b)/\b≠X.env.locals/\(∀x c,X.env.cells.lookup x=some c->c≠b)/\∀p∈X.pn++pins,p.1≠b) :
  Inv X pins σ H' {s with heap:=h',gens:=g',drawn:=d',toks:=t'}:=by
 obtain⟨m,⟨o,es,ep,ho,r⟩,_⟩:=id I.loc;obtain⟨sl,hL⟩:=u.any ho I.free λz=>(FK _ z).2.1 rfl
 exact I.step (ch:=ch) FK (λb o hL hb hc e n=>u.keep b o e n (λz=>(aM.mp (I.stkSub b z)).elim hL hb) hc) (λb o _ _ hc e n=>u.any e n hc) (λb o hc e n=>u.free b o e n hc) (λb o hc e=>u.there b o e hc) u.tups u.frzs u.tbls (λm' hm=>by
  obtain⟨o',HM,ep',Fu,r'⟩:=hm;rw[ho]at Fu;cases Fu;exact⟨_,HM,ep',hL,r'⟩) hok hg
theorem Inv.turned{t':Nat}{it:Addr}(I:Inv X pins σ H s)(k:∀b o,b≠it->s.heap.get? b=some o->h'.get? b=some o)(hn:H it=none)(hL:it≠X.env.locals)
  (h1:it∈X.ex\/X.s₀.heap.objs.size<=it) (h2:∀x c,X.env.cells.lookup x=some c->c≠it) (h3:∀p∈X.pn++pins,p.1≠it):Inv X pins σ H {s with heap:=h',toks:=t'}:=by
 have Kt:∀b u,H b=some u->b≠it:=λb u e z=>by rw[z,hn]at e;cases e
 refine I.step (g':=s.gens) (d':=s.drawn) (ch:=[it]) (λb hb=>?_) (λb o _ _ hc e _=>k b o (λz=>hc (by simp[z])) e) (λb o _ _ hc e _=>⟨o.slots,k b o (λz=>hc (by simp[z])) e⟩) (λ_ _ _ _ n=>n)
  (λb o hc e=>⟨o,k b o (λz=>hc (by simp[z])) e⟩) (λ_ _ e=>e) (λ_ _ _ e=>e) (λb ps e=>⟨#[],by rw[e];simp⟩) (λm hm=>?_) (λb u e=>?_) I.bare
 ·have e:b=it:=by simpa using hb
  subst e;exact⟨h1,hL,h2,h3⟩
 ·obtain⟨o,es,ep,ho,r⟩:=hm;exact⟨o,es,ep,k _ o (Ne.symm hL) ho,r⟩
 ·refine(I.hok b u e).stay (λc v hc q=>k c v ?_ q) (λ_ q=>q) λ_ _ q=>q
  rcases hc with z|z
  ·rw[z];exact Kt b u e
  ·exact Kt c _ z
theorem Inv.tok(I:Inv X pins σ H s)(t:Nat):Inv X pins σ H {s with toks:=t}:=I.un (h':=s.heap) (t':=t) Un.refl I.hok
theorem Inv.kept{t':Nat}(I:Inv X pins σ H s)(k:∀b u,s.heap.get? b=some u->h'.get? b=some u):Inv X pins σ H {s with heap:=h',toks:=t'}:=I.un (Un.kept k) (I.hok.kept k)
theorem Inv.laid{a:Addr}{o:HO}{t':Nat}(I:Inv X pins σ H s)(k:∀b u,s.heap.get? b=some u->h'.get? b=some u)(hp:s.heap.objs.size<=a)(new:zJ X.prog X.w (upd H a o) h' a o) :
  Inv X pins σ (upd H a o) {s with heap:=h',toks:=t'}:=I.un (Un.laid k hp (I.hok.fresh hp)) (I.hok.laid k hp new)
theorem Inv.write{x e:Addr}{o:HO}{t':Nat}(I:Inv X pins σ H s)(mu:Mut (H x))(he:e=x\/H e=some (.own x))(k:∀b u,b≠e->s.heap.get? b=some u->h'.get? b=some u)(Gh:∃u,h'.get? e=some u)
  (new:zJ X.prog X.w (upd H x o) h' x o):Inv X pins σ (upd H x o) {s with heap:=h',toks:=t'}:=I.un (Un.write mu he k Gh) (I.hok.write mu he k Gh new)
theorem Inv.pins_of{G0:List (Addr×Obj)}(I:Inv X pins σ H s)(h:∀p∈G0,s.heap.get? p.1=some p.2/\H p.1=none/\p.1≠X.env.locals/\p.1∉X.fs/\∀v,p.2.data≠.cell v):Inv X G0 σ H s:=
 ⟨I.ok,I.os,I.bare,I.base,I.loc,I.cell,I.free,I.freeC,λp hp=>(List.mem_append.mp hp).elim (λz=>I.pin p (List.mem_append_left _ z)) (h p),I.hok,I.len⟩
theorem n_{N:List Str}(hN:N.Nodup){i j:Nat}{x:Str}(a:N[i]? = some x)(b:N[j]? = some x):i=j:=by
 obtain⟨h1,e1⟩:=List.getElem?_eq_some_iff.mp a;obtain⟨h2,e2⟩:=List.getElem?_eq_some_iff.mp b;exact(List.getElem_inj hN).mp (e1.trans e2.symm)
theorem lR{M:Model}{A:aD}{E:ae->af->Prop}{i:Nat}{x:Str}{v:V}{u:ae}{Q:Unit->af->Prop}(I:Inv X pins σ H s)(hN:X.N.Nodup)(hi:X.N[i]? = some x)(hx:Loc X.env.scope x)(r:RelV v u)
  (h:∀s',Inv X pins (σ.set i (some v)) H s'->(∃a,Heap.SameBut a s.heap s'.heap/\(a=X.env.locals\/X.env.cells.lookup x=some a))->Q () s') (hf:X.fn x=true\/X.env.scope.names.lookup x=some .local):aq M A (storeName X.env x u) Q E s:=by
 obtain⟨m,hn,hl⟩:=id I.loc;have Jz:(X.env.scope.kind==.class||(X.env.scope.kind==.module&&X.env.locals != X.env.globals))=false:=by rw[I.ok.kind];rfl
 have hiσ:i<σ.length:=by rw[I.len];exact(List.getElem?_eq_some_iff.mp hi).1
 have cne:=I.cne;have tracked:∀{a:Addr}{h':Heap},(∃o,s.heap.get? a=some o/\H a=none)->Heap.SameBut a s.heap h'->HOk X.prog X.w H h':=λ{a h'} ha hs b ob e=>by
  obtain⟨_,_,G1⟩:=ha;refine(I.hok b ob e).stay (λc w' hc q=>(hs.2 c ?_).trans q) (λ_ q=>q) λ_ _ q=>q
  rintro rfl;rcases hc with rfl|hc
  ·rw[G1]at e;cases e
  ·rw[G1]at hc;cases hc
 rcases hx with hk|hk
 ·refine wpAny_storeName_local hk hn (λh' Ha hs=>?_) Jz;obtain⟨oL,_,_,Fj,_⟩:=id hn;refine h _ ⟨I.ok,I.os,I.bare,⟨λb o e n hb hx=>?_,λb o e n hb hx=>?_,I.base.free,λb o e hx=>?_,I.base.tups,I.base.frzs,I.base.tbls⟩,⟨_,Ha,λj y v' e1 e2 e3=>?_⟩,λy c e=>?_,I.free,I.freeC,λp hp=>?_,tracked ⟨oL,Fj,I.free⟩ hs,by simpa using I.len⟩ ⟨_,hs,.inl rfl⟩
  ·exact(hs.2 b (bq (bA (aP e) I.ok.above))).trans (I.base.keep b o e n hb hx)
  ·obtain⟨sl,e1⟩:=I.base.slot b o e n hb hx;exact⟨sl,(hs.2 b (bq (bA (aP e) I.ok.above))).trans e1⟩
  ·obtain⟨o',e1⟩:=I.base.there b o e hx;exact⟨o',(hs.2 b (bq (bA (aP e) I.ok.above))).trans e1⟩
  ·by_cases hj:j=i
   ·subst hj;rw[hi]at e1;cases e1;rw[List.getElem?_set_self hiσ]at e2;cases e2;exact⟨u,r,.inl ⟨hk,by simp⟩⟩
   ·rw[List.getElem?_set_ne (Ne.symm hj)]at e2;obtain⟨u',r',q⟩:=hl j y v' e1 e2 e3;refine⟨u',r',?_⟩;rcases q with ⟨k,e⟩|⟨k,c,e,z⟩
    ·refine .inl ⟨k,?_⟩;have:y≠x:=λe=>hj (n_ hN e1 (e▸hi))
     simp[this,e]
    ·exact .inr ⟨k,c,e,z.sameBut hs (cne y c e)⟩
  ·obtain⟨w',z⟩:=I.cell y c e;exact⟨w',z.sameBut hs (cne y c e)⟩
  ·obtain⟨e,n,ne,nf,d⟩:=I.pin p hp;exact⟨(hs.2 p.1 ne).trans e,n,ne,nf,d⟩
 ·have JA:X.fn x=true:=by
   rcases hf with z|z
   ·exact z
   ·rw[z]at hk;cases hk
  obtain⟨c,hc⟩:=I.ok.has x (.inl hk);obtain⟨w',z⟩:=I.cell x c hc;refine wpAny_storeName_cell I.ok.kind hk hc z (λh' HA hs=>?_);obtain⟨oc,Ku,JB⟩:=id z;refine h {s with heap:=h'} ⟨I.ok,I.os,I.bare,⟨λb o e n hb hx=>?_,λb o e n hb hx=>?_,I.base.free,λb o e hx=>?_,I.base.tups,I.base.frzs,I.base.tbls⟩,⟨m,hn.sameBut hs (Ne.symm (cne x c hc)),λj y v' e1 e2 e3=>?_⟩,λy c' e=>?_,I.free,I.freeC,λp hp=>?_,tracked ⟨oc,Ku,I.freeC x c hc⟩ hs,by simpa using I.len⟩ ⟨c,hs,.inr hc⟩
  ·exact(hs.2 b (bq (bA (aP e) (I.ok.cab x c JA hc)))).trans (I.base.keep b o e n hb hx)
  ·obtain⟨sl,e1⟩:=I.base.slot b o e n hb hx;exact⟨sl,(hs.2 b (bq (bA (aP e) (I.ok.cab x c JA hc)))).trans e1⟩
  ·obtain⟨o',e1⟩:=I.base.there b o e hx;exact⟨o',(hs.2 b (bq (bA (aP e) (I.ok.cab x c JA hc)))).trans e1⟩
  ·by_cases hj:j=i
   ·subst hj;rw[hi]at e1;cases e1;rw[List.getElem?_set_self hiσ]at e2;cases e2;exact⟨u,r,.inr ⟨.inl hk,c,hc,HA⟩⟩
   ·rw[List.getElem?_set_ne (Ne.symm hj)]at e2;obtain⟨u',r',q⟩:=hl j y v' e1 e2 e3;refine⟨u',r',?_⟩;rcases q with q|⟨k,c',e,z'⟩
    ·exact .inl q
    ·refine .inr ⟨k,c',e,z'.sameBut hs ?_⟩;rintro rfl;exact hj (n_ hN e1 (I.ok.inj _ _ _ e hc▸hi))
  ·by_cases Kv:c'=c
   ·subst Kv;exact⟨_,HA⟩
   ·obtain⟨w2,z2⟩:=I.cell y c' e;exact⟨w2,z2.sameBut hs Kv⟩
  ·obtain⟨e,n,ne,nf,d⟩:=I.pin p hp;refine⟨(hs.2 p.1 ?_).trans e,n,ne,nf,d⟩;intro q;rw[q,Ku]at e;have q':oc=p.2:=bM e;exact d w' (by rw[<-q'];exact JB)
theorem lL{M:Model}{A:aD}{E:ae->af->Prop}{i:Nat}{x:Str}{v:V}{u:ae}{Q:Unit->af->Prop}(I:Inv X pins σ H s)(hN:X.N.Nodup)(hi:X.N[i]? = some x)(hx:Loc X.env.scope x)(r:RelV v u)
  (h:∀s',Inv X pins (σ.set i (some v)) H s'->Q () s') (hf:X.fn x=true\/X.env.scope.names.lookup x=some .local):aq M A (storeName X.env x u) Q E s:=
 lR I hN hi hx r (λs' I' _=>h s' I') hf
theorem Inv.call'{s':af}{ch:List Addr}(I:Inv X pins σ H s)(ho:s'.os=s.os)(u:Un (frs X.stack) ch H H' s.heap s'.heap)(hok:HOk X.prog X.w H' s'.heap)(hg:AllBare s'.gens)
  (FK:∀b∈ch,(b∈X.ex\/X.s₀.heap.objs.size<=b)/\b≠X.env.locals/\(∀x c,X.env.cells.lookup x=some c->c≠b)/\∀p∈X.pn++pins,p.1≠b):Inv X pins σ H' s':=by
 obtain⟨h',g',d',t',o'⟩:=s';have e:o'=s.os:=ho;subst e;exact I.call (g':=g') (t':=t') (d':=d') u hok hg FK
end
abbrev XK:=ae->Option Addr->Hp->Prop
abbrev St:=List (Option V)
abbrev VK:=V->Hp->Prop
abbrev TE:=St->Hp->VK->Prop
abbrev TT:=St->Hp->(Bool->Hp->Prop)->Prop
abbrev TA:=St->Hp->(List V->Hp->Prop)->Prop
structure Ends where
 nx:St->Hp->Prop
 rt:VK
 bk:St->Hp->Prop:=λ_ _=>False
 ct:St->Hp->Prop:=λ_ _=>False
abbrev TS:=Ends->St->Hp->Prop
def EP(X:Cx)(pins:List (Addr×Obj))(σ:St)(Q:VK)(u:ae)(s':af):Prop:=∃v H',Inv X pins σ H' s'/\RelV v u/\Q v H'
def TP(X:Cx)(pins:List (Addr×Obj))(σ:St)(Q:Bool->Hp->Prop)(b:Bool)(s':af):Prop:=∃H',Inv X pins σ H' s'/\Q b H'
def AP(X:Cx)(pins:List (Addr×Obj))(σ:St)(Q:List V->Hp->Prop)(us:List ae)(s':af):Prop:=∃vs H',Inv X pins σ H' s'/\Vals vs us/\Q vs H'
def SP(X:Cx)(pins:List (Addr×Obj))(D:Ends)(f:Flow)(s':af):Prop:=
 match f with
 | .next=>∃σ' H',Inv X pins σ' H' s'/\D.nx σ' H'
 | .brk=>∃σ' H',Inv X pins σ' H' s'/\D.bk σ' H'
 | .cont=>∃σ' H',Inv X pins σ' H' s'/\D.ct σ' H'
 | .ret u=>∃v σ' H',Inv X pins σ' H' s'/\RelV v u/\D.rt v H'
def PE(X:Cx)(e:Expr)(t:TE):Prop:=
 ∀(pins:List (Addr×Obj)) (s:af) (σ:St) (H:Hp) (Q:VK),Inv X pins σ H s->t σ H Q->aq (ar X.prog X.w) X.A (eval e X.env) (EP X pins σ Q) X.xe s
def PT(X:Cx)(e:Expr)(t:TT):Prop:=
 ∀(pins:List (Addr×Obj)) (s:af) (σ:St) (H:Hp) (Q:Bool->Hp->Prop),Inv X pins σ H s->t σ H Q->aq (ar X.prog X.w) X.A (isTrue e X.env (eval e X.env)) (TP X pins σ Q) X.xe s
def PW(X:Cx)(e:Expr)(t:TT):Prop:=
 ∀(whole:Sem ae) (pins:List (Addr×Obj)) (s:af) (σ:St) (H:Hp) (Q:Bool->Hp->Prop),Inv X pins σ H s->t σ H Q->aq (ar X.prog X.w) X.A (isTrue e X.env whole) (TP X pins σ Q) X.xe s
theorem PW.pt{X:Cx}{e:Expr}{t:TT}(h:PW X e t):PT X e t:=h _
def PA(X:Cx)(es:List Expr)(t:TA):Prop:=
 ∀(pos:Pos) (pins:List (Addr×Obj)) (s:af) (σ:St) (H:Hp) (Q:List V->Hp->Prop),Inv X pins σ H s->t σ H Q->aq (ar X.prog X.w) X.A (spliced (backTo pos (a_ es X.env))) (AP X pins σ Q) X.xe s
def PS(X:Cx)(st:Stmt)(t:TS):Prop:=
 ∀(pins:List (Addr×Obj)) (s:af) (σ:St) (H:Hp) (D:Ends),Inv X pins σ H s->t D σ H->aq (ar X.prog X.w) X.A (exec st X.env) (SP X pins D) X.xe s
def PSs(X:Cx)(st:List Stmt)(t:TS):Prop:=
 ∀(pins:List (Addr×Obj)) (s:af) (σ:St) (H:Hp) (D:Ends),Inv X pins σ H s->t D σ H->aq (ar X.prog X.w) X.A (execs st X.env) (SP X pins D) X.xe s
theorem thn{α:Type}{t:Sem α}{Q Q':α->af->Prop}{M:Model}{A:aD}{E:ae->af->Prop}{s:af}(h:aq M A t Q E s)(hQ:∀a s,Q a s->Q' a s):aq M A t Q' E s:=bD h hQ λ_ _ x=>x
section
variable{X:Cx}
theorem bin{a b:Expr}{ta tb:TE}(ha:PE X a ta)(hb:PE X b tb){pins:List (Addr×Obj)}{s:af}{σ:St}{H:Hp}{R:V->V->Hp->Prop}(I:Inv X pins σ H s)(h:ta σ H λx H1=>tb σ H1 λy H2=>R x y H2)
  {α:Type}{Q:α->af->Prop}{f:ae->ae->Sem α}
  (hf:∀v u s2 x y H2,Inv X pins σ H2 s2->RelV x v->RelV y u->R x y H2->aq (ar X.prog X.w) X.A (f v u) Q X.xe s2) :
  aq (ar X.prog X.w) X.A (eval a X.env) (λv s₁=>aq (ar X.prog X.w) X.A (eval b X.env) (λu s₂=>aq (ar X.prog X.w) X.A (f v u) Q X.xe s₂) X.xe s₁) X.xe s:=by
 refine thn (ha pins s σ H _ I h) λv s1 ⟨x,H1,I1,r1,q1⟩=>?_
 refine thn (hb pins s1 σ H1 _ I1 q1) λu s2 ⟨y,H2,I2,r2,q2⟩=>?_
 exact hf v u s2 x y H2 I2 r1 r2 q2
def gY(i:Nat):TE:=λσ H Q=>∃v,σ[i]? = some (some v)/\Q v H
def tC(v:V):TE:=λ_ H Q=>Q v H
theorem g9{i:Nat}{x:Str}{pos:Pos}(hN:X.N[i]? = some x)(hv:fC X.env.scope x)(hd:(x==("__debug__" : Str))=false)(F5:(x==("__classdict__" : Str))=false):PE X (.Name x pos) (gY i):=by
 intro pins s σ H Q I h;obtain⟨v,e,h⟩:=h;obtain⟨m,hn,hl⟩:=I.loc;obtain⟨u,r,l⟩:=hl i x v hN e hv;have fin:EP X pins σ Q u s:=⟨v,H,I,r,h⟩
 rcases l with ⟨hk,hm⟩|⟨hk,c,hc,FU⟩
 ·exact wpAny_Name (wpAny_loadName_local I.ok.kind hk hn hm fin) hd
 ·rcases hk with hk|hk
  ·exact wpAny_Name (wpAny_loadName_cell I.ok.kind hk hc FU fin) hd
  ·exact wpAny_Name (wpAny_loadName_free I.ok.kind hk hc FU fin F5) hd
theorem wR{i j pos}:PE X (.Constant (.int i) j pos) (tC (.int i)):=λ_ _ _ H _ I h=>wpAny_Constant_int ⟨.int i,H,I.tok _,⟨_,rfl⟩,h⟩
theorem tW{b j pos}:PE X (.Constant (.bool b) j pos) (tC (.bl b)):=λ_ _ _ H _ I h=>Constant_bool ⟨.bl b,H,I,rfl,h⟩
theorem yJ{j pos}:PE X (.Constant .none j pos) (tC .non):=λ_ _ _ H _ I h=>Constant_none ⟨.non,H,I,rfl,h⟩
theorem EM{x j pos}:PE X (.Constant (.str x) j pos) (tC (.str x)):=λ_ _ _ H _ I h=>Calls.Constant_str ⟨.str x,H,I.tok _,⟨_,rfl⟩,h⟩
def Gl(X:Cx)(x:Str):Prop:=X.env.kindOf x=some .globalImplicit
theorem lK{E:ae->af->Prop}{pins:List (Addr×Obj)}{s:af}{σ:St}{H:Hp}{x:Str}{u:ae}{pos:Pos}{Q:ae->af->Prop}(I:Inv X pins σ H s)(hg:Gl X x)(hm:X.mg x=some u)(h:Q u s)
  (hd:(x==("__debug__" : Str))=false):aq (ar X.prog X.w) X.A (eval (.Name x pos) X.env) Q E s:=
 Calls.Name_function_global I.ok.kind hg (Calls.loadGlobal_global (by rw[I.ok.glob];exact I.mod.glob.keeps I.bk) hm h) hd
theorem gX{E:ae->af->Prop}{pins:List (Addr×Obj)}{s:af}{σ:St}{H:Hp}{x:Str}{u:ae}{pos:Pos}{Q:ae->af->Prop}(I:Inv X pins σ H s)(hg:Gl X x)(hm:X.mg x=none)(hv:bU x=some u)(h:Q u s)
  (hn:x≠"__name__") (hd:(x==("__debug__" : Str))=false):aq (ar X.prog X.w) X.A (eval (.Name x pos) X.env) Q E s:=by
 obtain⟨mb,h1,h2⟩:=I.mod.blt;exact Calls.Name_function_global I.ok.kind hg (Calls.loadGlobal_builtin (by rw[I.ok.glob];exact I.mod.glob.keeps I.bk) hm (by rw[I.ok.blt];exact h1.keeps I.bk) ((h2 x hn).trans hv) h) hd
theorem lQ{x:Str}{v:V}{u:ae}{pos:Pos}(hg:Gl X x)(hm:X.mg x=some u)(r:RelV v u)(hd:(x==("__debug__" : Str))=false):PE X (.Name x pos) (tC v):=
 λ_ _ _ H _ I h=>lK I hg hm ⟨v,H,I,r,h⟩ hd
theorem uF{x:Str}{v:V}{u:ae}{pos:Pos}(hg:Gl X x)(hm:X.mg x=none)(hv:bU x=some u)(r:RelV v u)(hn:x≠"__name__")(hd:(x==("__debug__" : Str))=false):PE X (.Name x pos) (tC v):=
 λ_ _ _ H _ I h=>gX I hg hm hv ⟨v,H,I,r,h⟩ hn hd
variable{a b:Expr}{ta tb:TE}{pos:Pos}
variable{tA tB':TT}{rest:List Expr}
def DS(t u:TT):TT:=λσ H Q=>t σ H λc H1=>if c=true then u σ H1 Q else Q false H1
def tOr(t u:TT):TT:=λσ H Q=>t σ H λc H1=>if c=true then Q true H1 else u σ H1 Q
def uy(t:TT):TT:=λσ H Q=>t σ H λc H1=>Q (!c) H1
theorem xp(ha:PT X a tA):PW X (.BoolOp .And [a] pos) tA:=by
 intro wh pins s σ H Q I h;refine isTrue_and (thn (ha pins s σ H Q I h) λc s1 e=>?_);cases c with
 |true=>exact isTrue_and_nil e
 |false=>exact e
theorem x9(ha:PT X a tA):PW X (.BoolOp .Or [a] pos) tA:=by
 intro wh pins s σ H Q I h;refine isTrue_or (thn (ha pins s σ H Q I h) λc s1 e=>?_);cases c with
 |false=>exact isTrue_or_nil e
 |true=>exact e
theorem En(ha:PT X a tA)(hb:PW X (.BoolOp .And (b::rest) pos) tB'):PW X (.BoolOp .And (a::b::rest) pos) (DS tA tB'):=by
 intro wh pins s σ H Q I h;refine isTrue_and (thn (ha pins s σ H _ I h) λc s1 ⟨H1,I1,q1⟩=>?_);cases c with
 |true=>exact hb wh pins s1 σ H1 Q I1 q1
 |false=>exact⟨H1,I1,q1⟩
theorem uA(ha:PT X a tA)(hb:PW X (.BoolOp .Or (b::rest) pos) tB'):PW X (.BoolOp .Or (a::b::rest) pos) (tOr tA tB'):=by
 intro wh pins s σ H Q I h;refine isTrue_or (thn (ha pins s σ H _ I h) λc s1 ⟨H1,I1,q1⟩=>?_);cases c with
 |true=>exact⟨H1,I1,q1⟩
 |false=>exact hb wh pins s1 σ H1 Q I1 q1
theorem wa(ha:PT X a tA):PT X (.UnaryOp .Not a pos) (uy tA):=by
 intro pins s σ H Q I h;exact isTrue_not (ha pins s σ H (λc H1=>Q (!c) H1) I h)
def wK(ta tb:TE):TE:=λσ H Q=>ta σ H λx H1=>∃c,x=.bl c/\if c=true then tb σ H1 Q else Q (.bl false) H1
def vW(ta tb:TE):TE:=λσ H Q=>ta σ H λx H1=>∃c,x=.bl c/\if c=true then Q (.bl true) H1 else tb σ H1 Q
def t5(ta:TE):TE:=λσ H Q=>ta σ H λx H1=>∃c,x=.bl c/\Q (.bl (!c)) H1
theorem CD{op}{t:TE}(h:PE X a t):PE X (.BoolOp op [a] pos) t:=λpins s σ H Q I hw=>BoolOp_one (h pins s σ H Q I hw)
theorem DN(ha:PE X a ta)(hb:PE X (.BoolOp .And (b::rest) pos) tb):PE X (.BoolOp .And (a::b::rest) pos) (wK ta tb):=by
 intro pins s σ H Q I h;refine BoolOp_and (thn (ha pins s σ H _ I h) λv s1 ⟨x,H1,I1,r1,q1⟩=>?_);obtain⟨c,rfl,q1⟩:=q1;cases r1;refine bJ ?_;cases c with
 |true=>exact hb pins s1 σ H1 Q I1 q1
 |false=>exact⟨.bl false,H1,I1,rfl,q1⟩
theorem yM(ha:PE X a ta)(hb:PE X (.BoolOp .Or (b::rest) pos) tb):PE X (.BoolOp .Or (a::b::rest) pos) (vW ta tb):=by
 intro pins s σ H Q I h;refine BoolOp_or (thn (ha pins s σ H _ I h) λv s1 ⟨x,H1,I1,r1,q1⟩=>?_);obtain⟨c,rfl,q1⟩:=q1;cases r1;refine bJ ?_;cases c with
 |false=>exact hb pins s1 σ H1 Q I1 q1
 |true=>exact⟨.bl true,H1,I1,rfl,q1⟩
theorem A0(ha:PE X a ta):PE X (.UnaryOp .Not a pos) (t5 ta):=by
 intro pins s σ H Q I h;refine UnaryOp_ (thn (ha pins s σ H _ I h) λv s1 ⟨x,H1,I1,r1,q1⟩=>?_);obtain⟨c,rfl,q1⟩:=q1;cases r1;exact not_of (bJ ⟨.bl (!c),H1,I1,rfl,q1⟩)
def tIf(t:TT)(ta tb:TE):TE:=λσ H Q=>t σ H λc H1=>if c=true then ta σ H1 Q else tb σ H1 Q
theorem wj{c:Expr}(hc:PT X c tA)(ha:PE X a ta)(hb:PE X b tb):PE X (.IfExp c a b pos) (tIf tA ta tb):=by
 intro pins s σ H Q I h;refine wpAny_IfExp (thn (hc pins s σ H _ I h) λd s1 ⟨H1,I1,q1⟩=>?_);cases d with
 |true=>exact ha pins s1 σ H1 Q I1 q1
 |false=>exact hb pins s1 σ H1 Q I1 q1
end
def SqL(K:aA)(H:Hp)(a:Addr)(xs:List V):Prop:=
 Rd H a (.lst xs) \/
  ∃(o:Obj) (its:Array ae) (n:Nat),K.lookup a=some o/\o.cls=.type "list"/\o.dict=none/\o.data=.seq its n/\its.size<=aK/\Vals xs its.toList
def SqT(K:aA)(H:Hp)(a:Addr)(xs:List V):Prop:=
 Rd H a (.tup xs) \/
  ∃(o:Obj) (its:Array ae) (n:Nat),K.lookup a=some o/\o.cls=.type "tuple"/\o.data=.seq its n/\its.size<=aK/\Vals xs its.toList
noncomputable def vF:ae->Option V
 | .none=>some .non
 | .bool b=>some (.bl b)
 | .int i _=>some (.int i)
 | .str x _=>some (.str x)
 | .bytes b _=>some (.byt b)
 | .float b _=>some (.flt b)
 | .ref a=>some (.ref a)
 | .type n=>some (.ty n)
 |_=>none
theorem RelV.abs{x:V}{u:ae}(r:RelV x u):vF u=some x:=by
 cases x with
 |non=>cases r;rfl
 |bl _=>cases r;rfl
 |int _=>obtain⟨t,rfl⟩:=r;rfl
 |str _=>obtain⟨t,rfl⟩:=r;rfl
 |byt _=>obtain⟨t,rfl⟩:=r;rfl
 |flt _=>obtain⟨t,rfl⟩:=r;rfl
 |ref _=>cases r;rfl
 |ty _=>cases r;rfl
theorem RelV.inj{x y:V}{u:ae}(r:RelV x u)(q:RelV y u):x=y:=bM (r.abs.symm.trans q.abs)
theorem Vals.inj{xs ys:List V}{us:List ae}(h:Vals xs us)(h':Vals ys us):xs=ys:=by
 induction h generalizing ys with
 |nil=>cases h';rfl
 |cons r t ih=>cases h' with
  |cons r' t'=>rw[r.inj r',ih t']
section
variable{X:Cx}{pins:List (Addr×Obj)}{σ:St}{H:Hp}{s:af}{a:Addr}{xs ys:List V}
theorem SqL.of{K:aA}(h:H a=some (.lst xs)):SqL K H a xs:=.inl (.inl h)
theorem SqT.of{K:aA}(h:H a=some (.tup xs)):SqT K H a xs:=.inl (.inl h)
theorem Inv.list(I:Inv X pins σ H s)(h:SqL X.K H a xs):∃its:List ae,Vals xs its/\PlainL s.heap a its.toArray/\xs.length<=sizeLine:=by
 rcases h with h|⟨o,its,n,hk,hc,hd,hs,hz,r⟩
 ·obtain⟨z,its,n,r,e⟩:=h.ok I.hok;exact⟨its,r,⟨_,n,e,rfl,rfl,rfl⟩,z⟩
 ·refine⟨its.toList,r,⟨o,n,I.kIn a o hk,hc,hd,by simpa using hs⟩,?_⟩;have e:=r.length;simp only[bb]at e;lia
theorem Inv.tuple(I:Inv X pins σ H s)(h:SqT X.K H a xs):∃its:List ae,Vals xs its/\IsTup s.heap a its.toArray/\xs.length<=sizeLine:=by
 rcases h with h|⟨o,its,n,hk,hc,hs,hz,r⟩
 ·obtain⟨z,its,r,p⟩:=h.ok I.hok;exact⟨its,r,p,z⟩
 ·refine⟨its.toList,r,⟨o,I.kIn a o hk,hc,n,by simpa using hs⟩,?_⟩;have e:=r.length;simp only[bb]at e;lia
theorem Inv.list_inj(I:Inv X pins σ H s)(h:SqL X.K H a xs)(h':SqL X.K H a ys):xs=ys:=by
 obtain⟨its,r,⟨o,n,e,_,_,d⟩,_⟩:=I.list h;obtain⟨its',r',⟨o',n',e',_,_,d'⟩,_⟩:=I.list h';rw[e]at e';cases e';rw[d]at d';injection d' with d1 _
 have:its=its':=by simpa using congrArg Array.toList d1
 subst this;exact r.inj r'
theorem Inv.tuple_inj(I:Inv X pins σ H s)(h:SqT X.K H a xs)(h':SqT X.K H a ys):xs=ys:=by
 obtain⟨its,r,⟨o,e,_,n,d⟩,_⟩:=I.tuple h;obtain⟨its',r',⟨o',e',_,n',d'⟩,_⟩:=I.tuple h';rw[e]at e';cases e';rw[d]at d';injection d' with d1 _
 have:its=its':=by simpa using congrArg Array.toList d1
 subst this;exact r.inj r'
end
abbrev Cx.wish(X:Cx)(E:ae->af->Prop):Cx:={X with xe:=E}
abbrev Cx.nox(X:Cx):Cx:=X.wish λ_ _=>False
theorem Cx.Ok.wish{X:Cx}(ok:X.Ok)(E:ae->af->Prop):(X.wish E).Ok:=
 ⟨ok.mod,ok.kind,ok.glob,ok.blt,ok.above,ok.inj,ok.has,ok.cab,ok.hd,ok.frames,ok.stk,ok.exf,ok.bs,ok.bsz,ok.noex,ok.exfs,ok.funs,ok.frf⟩
theorem Cx.Ok.unwish{X:Cx}{E:ae->af->Prop}(ok:(X.wish E).Ok):X.Ok:=
 ⟨ok.mod,ok.kind,ok.glob,ok.blt,ok.above,ok.inj,ok.has,ok.cab,ok.hd,ok.frames,ok.stk,ok.exf,ok.bs,ok.bsz,ok.noex,ok.exfs,ok.funs,ok.frf⟩
section
variable{X:Cx}{pins:List (Addr×Obj)}{σ:St}{H:Hp}{s:af}{E:ae->af->Prop}
theorem Inv.wish(I:Inv X pins σ H s)(E:ae->af->Prop):Inv (X.wish E) pins σ H s:=⟨I.ok.wish E,I.os,I.bare,I.base,I.loc,I.cell,I.free,I.freeC,I.pin,I.hok,I.len⟩
theorem Inv.unwish(I:Inv (X.wish E) pins σ H s):Inv X pins σ H s:=⟨I.ok.unwish,I.os,I.bare,I.base,I.loc,I.cell,I.free,I.freeC,I.pin,I.hok,I.len⟩
theorem SP.unwish{D:Ends}{f:Flow}{s':af}(h:SP (X.wish E) pins D f s'):SP X pins D f s':=by
 cases f with
 |next=>obtain⟨σ',H',I,q⟩:=h;exact⟨σ',H',I.unwish,q⟩
 |brk=>obtain⟨σ',H',I,q⟩:=h;exact⟨σ',H',I.unwish,q⟩
 |cont=>obtain⟨σ',H',I,q⟩:=h;exact⟨σ',H',I.unwish,q⟩
 |ret u=>obtain⟨v,σ',H',I,r,q⟩:=h;exact⟨v,σ',H',I.unwish,r,q⟩
end
section
variable{X:Cx}{st:Stmt}{rest:List Stmt}{t u:TS}{e:Expr}{te:TE}{pos:Pos}
def gN:TS:=λD σ H=>D.nx σ H
def AL(t u:TS):TS:=λD σ H=>t {D with nx:=u D} σ H
theorem uq:PSs X [] gN:=λ_ _ σ H _ I h=>wpAny_execs_nil ⟨σ,H,I,h⟩
theorem uo(h1:PS X st t)(h2:PSs X rest u):PSs X (st::rest) (AL t u):=by
 intro pins s σ H D I h;refine wpAny_execs_cons (thn (h1 pins s σ H {D with nx:=u D} I h) λf s1 q=>?_);cases f with
 |next=>
  obtain⟨σ',H',I',q⟩:=q;exact h2 pins s1 σ' H' D I' q
 |ret v=>exact q
 |brk=>exact q
 |cont=>exact q
theorem Inv.quiet{pins:List (Addr×Obj)}{σ:St}{H:Hp}{s:af}(I:Inv X pins σ H s):interactive X.env=false:=by simp[interactive,I.ok.kind]
def uX(te:TE):TS:=λD σ H=>te σ H λ_ H1=>D.nx σ H1
theorem k8(he:PE X e te)(hs:swapsWith e none pos.line X.env=pure false):PS X (.Expr e pos) (uX te):=by
 intro pins s σ H D I h;exact wpAny_Expr_any (thn (he pins s σ H _ I h) λv s1 ⟨x,H1,I1,r1,q1⟩=>⟨σ,H1,I1,q1⟩) I.quiet hs
def vQ(te:TE):TS:=λD σ H=>te σ H D.rt
theorem kM(he:PE X e te):PS X (.Return (some e) pos) (vQ te):=by
 intro pins s σ H D I h;exact wpAny_Return_some (thn (he pins s σ H _ I h) λv s1 ⟨x,H1,I1,r1,q1⟩=>⟨x,σ,H1,I1,r1,q1⟩)
def wH:TS:=λD _ H=>D.rt .non H
theorem yq:PS X (.Return none pos) wH:=λ_ _ σ H _ I h=>wpAny_Return_none ⟨.non,σ,H,I,rfl,h⟩
def gK(c:TT)(t u:TS):TS:=λD σ H=>c σ H λb H1=>if b=true then t D σ H1 else u D σ H1
theorem Cw{c:Expr}{a b:List Stmt}{tc:TT}(hc:PT X c tc)(ha:PSs X a t)(hb:PSs X b u):PS X (.If c a b pos) (gK tc t u):=by
 intro pins s σ H D I h;refine wpAny_If (thn (hc pins s σ H _ I h) λd s1 ⟨H1,I1,q1⟩=>?_);cases d with
 |true=>exact ha pins s1 σ H1 D I1 q1
 |false=>exact hb pins s1 σ H1 D I1 q1
end
abbrev TG:=V->St->Hp->(St->Hp->Prop)->Prop
abbrev TGs:=List V->St->Hp->(St->Hp->Prop)->Prop
def PG(X:Cx)(target:Expr)(t:TG):Prop:=
 ∀(pins:List (Addr×Obj)) (s:af) (σ:St) (H:Hp) (v:V) (u:ae) (Q:St->Hp->Prop),Inv X pins σ H s->RelV v u->t v σ H Q ->
  aq (ar X.prog X.w) X.A (assign target X.env u) (λ_ s'=>∃σ' H',Inv X pins σ' H' s'/\Q σ' H') X.xe s
def PGs(X:Cx)(ts:List Expr)(t:TGs):Prop:=
 ∀(pins:List (Addr×Obj)) (s:af) (σ:St) (H:Hp) (vs:List V) (us:List ae) (Q:St->Hp->Prop),Inv X pins σ H s->Vals vs us->t vs σ H Q ->
  aq (ar X.prog X.w) X.A (assignInOrder ((assignEach ts X.env).map (·.2)) us) (λ_ s'=>∃σ' H',Inv X pins σ' H' s'/\Q σ' H') X.xe s
abbrev lp:=V->V->V->Hp->(Hp->Prop)->Prop
def fN(X:Cx)(t:lp):Prop:=
 ∀(pins:List (Addr×Obj)) (s:af) (σ:St) (H:Hp) (o i v:V) (ov iv u:ae) (Q:Hp->Prop),Inv X pins σ H s->RelV o ov->RelV i iv->RelV v u->t o i v H Q ->
  aq (ar X.prog X.w) X.A (setItem ov iv u) (λ_ s'=>∃H',Inv X pins σ H' s'/\Q H') X.xe s
abbrev TIp:=V->V->Hp->VK->Prop
def PIp(X:Cx)(op:Operator)(t:TIp):Prop:=
 ∀(pins:List (Addr×Obj)) (s:af) (σ:St) (H:Hp) (x y:V) (v u:ae) (Q:VK),Inv X pins σ H s->RelV x v->RelV y u->t x y H Q ->
  aq (ar X.prog X.w) X.A (inplaceOp op v u) (EP X pins σ Q) X.xe s
section
variable{X:Cx}{pos:Pos}
def eZ(i:Nat):TG:=λv σ H Q=>Q (σ.set i (some v)) H
theorem x_{i:Nat}{x:Str}(hN:X.N.Nodup)(hi:X.N[i]? = some x)(hx:Loc X.env.scope x)(hf:X.fn x=true\/X.env.scope.names.lookup x=some .local):PG X (.Name x pos) (eZ i):=by
 intro pins s σ H v u Q I r h;exact wpAny_assign_Name (lL I hN hi hx r (λs' I'=>⟨_,H,I',h⟩) hf)
def oD:TGs:=λvs σ H Q=>vs=[]/\Q σ H
def tj(t:TG)(u:TGs):TGs:=λvs σ H Q=>∃v r,vs=v::r/\t v σ H λσ' H'=>u r σ' H' Q
theorem yv:PGs X [] oD:=by
 intro pins s σ H vs us Q I r h;obtain⟨e,h⟩:=h;subst e;cases r;exact assignInOrder_nil ⟨σ,H,I,h⟩
theorem Dm{e:Expr}{es:List Expr}{t:TG}{u:TGs}(h1:PG X e t)(h2:PGs X es u)
  (hs:(assignEach (e::es) X.env).map (·.2)=assign e X.env::(assignEach es X.env).map (·.2)):PGs X (e::es) (tj t u):=by
 intro pins s σ H vs us Q I r h;obtain⟨v,vr,e1,h⟩:=h;subst e1;cases r with
 |cons r rr=>
  rw[hs];refine assignInOrder_cons (thn (h1 pins s σ H _ _ _ I r h) λ_ s1 ⟨σ1,H1,I1,q1⟩=>?_);exact h2 pins s1 σ1 H1 _ _ Q I1 rr q1
def tf(K:aA)(n:Nat)(t:TGs):TG:=λv σ H Q=>∃a xs,v=.ref a/\SqT K H a xs/\xs.length=n/\t xs σ H Q
theorem Aa{es:List Expr}{k:Nat}{t:TGs}{n:Nat}(hc:X.calm=true)(h:PGs X es t)
  (hn:(assignEach es X.env).length=n) (FV:(assignEach es X.env).findIdx? (·.1)=none):PG X (.Tuple es k pos) (tf X.K n t):=by
 intro pins s σ H v u Q I r hw;obtain⟨a,xs,e1,hq,hl,hw⟩:=hw;subst e1;cases r;obtain⟨its,rv,ht,hz⟩:=I.tuple hq;refine assign_Tuple_tuple (I.ok.hd hc) ht (by simp[hn,<-hl,rv.length]) FV λh' hx=>?_
 have I1:Inv X pins σ H {s with heap:=h'}:=I.kept (t':=s.toks) λb o e=>hx b o (bq (aP e)) e
 exact h pins _ σ H xs _ Q I1 (by simpa using rv) hw
def AM(to ti:TE)(t:lp):TG:=λv σ H Q=>to σ H λo H1=>ti σ H1 λi H2=>t o i v H2 λH3=>Q σ H3
theorem Dh{o i:Expr}{to ti:TE}{t:lp}(ho:PE X o to)(hi:PE X i ti)(hs:fN X t)
  (ha:∀v,assign (.Subscript o i pos) X.env v=(do
   let ov <-holding [v] (eval o X.env)
   let iv <-holding [v,ov] (eval i X.env)
   standAt pos
   holding [v,ov,iv] (setItem ov iv v)
   release [v,ov,iv] [])):PG X (.Subscript o i pos) (AM to ti t):=by
 intro pins s σ H v u Q I r h;rw[ha];refine ah (bO (thn (ho pins s σ H _ I h) λov s1 ⟨x,H1,I1,r1,q1⟩=>?_));refine ah (bO (thn (hi pins s1 σ H1 _ I1 q1) λiv s2 ⟨y,H2,I2,r2,q2⟩=>?_));refine ah (wpAny_standAt (ah (bO (thn (hs pins s2 σ H2 x y v ov iv u _ I2 r1 r2 r q2) λ_ s3 ⟨H3,I3,q3⟩=>?_))));exact wpAny_release ⟨σ,H3,I3,q3⟩
def jn(te:TE)(g:TG):TS:=λD σ H=>te σ H λx H1=>g x σ H1 D.nx
theorem sU{tg e:Expr}{te:TE}{g:TG}(he:PE X e te)(hg:PG X tg g)(hs:swapsWithSole [tg] e pos.line X.env=pure false)(hw:swappedStores [tg] e X.env=pure none)
  (h1:(assignEach [tg] X.env).map (·.2)=[assign tg X.env]):PS X (.Assign [tg] e pos) (jn te g):=by
 intro pins s σ H D I h;refine wpAny_Assign_stores (thn (he pins s σ H _ I h) λv s1 ⟨x,H1,I1,r1,q1⟩=>?_) hs hw;rw[h1];exact thn (hg pins s1 σ H1 x v _ I1 r1 q1) λ_ s2 q=>q
theorem jF{i:Nat}{x:Str}{e:Expr}{te:TE}{pos':Pos}(hN:X.N.Nodup)(hi:X.N[i]? = some x)(hx:Loc X.env.scope x)(he:PE X e te)(hs:swapsWith e (some (.Name x pos')) pos.line X.env=pure false)(hf:X.fn x=true\/X.env.scope.names.lookup x=some .local) :
  PS X (.Assign [.Name x pos'] e pos) (jn te (eZ i)):=by
 intro pins s σ H D I h;refine wpAny_Assign_Name (thn (he pins s σ H _ I h) λv s1 ⟨y,H1,I1,r1,q1⟩=>?_) hs;exact lL I1 hN hi hx r1 (λs2 I2=>⟨_,H1,I2,q1⟩) hf
def Ab(i:Nat)(te:TE)(ti:TIp):TS:=λD σ H=>∃x,σ[i]? = some (some x)/\te σ H λy H1=>ti x y H1 λz H2=>D.nx (σ.set i (some z)) H2
theorem wD{i:Nat}{x:Str}{e:Expr}{te:TE}{op:Operator}{ti:TIp}{pos':Pos}(hN:X.N.Nodup)(hi:X.N[i]? = some x)(hx:Loc X.env.scope x)(he:PE X e te)(ho:PIp X op ti)(hf:X.fn x=true\/X.env.scope.names.lookup x=some .local) :
  PS X (.AugAssign (.Name x pos') op e pos) (Ab i te ti):=by
 intro pins s σ H D I h;obtain⟨v,e1,h⟩:=h;obtain⟨m,hn,hl⟩:=I.loc;have Li:fC X.env.scope x:=by rcases hx with k|k;exact .inl k;exact .inr (.inl k)
 obtain⟨u,r,l⟩:=hl i x v hi e1 Li;refine wpAny_AugAssign_Name ?_;have go:aq (ar X.prog X.w) X.A (eval e X.env) (λw s₂=>aq (ar X.prog X.w) X.A (inplaceOp op u w) (λr s₃=>aq (ar X.prog X.w) X.A (storeName X.env x r) (λ_=>SP X pins D .next) X.xe s₃) X.xe s₂) X.xe s:=by
  refine thn (he pins s σ H _ I h) λw s1 ⟨y,H1,I1,r1,q1⟩=>?_
  refine thn (ho pins s1 σ H1 v y u w _ I1 r r1 q1) λz s2 ⟨zv,H2,I2,r2,q2⟩=>?_
  exact lL I2 hN hi hx r2 (λs3 I3=>⟨_,H2,I3,q2⟩) hf
 rcases l with ⟨hk,hm⟩|⟨hk,c,hc,FU⟩
 ·exact wpAny_loadName_local I.ok.kind hk hn hm go
 ·rcases hk with hk|hk
  ·exact wpAny_loadName_cell I.ok.kind hk hc FU go
  ·rcases hx with k|k
   ·have:X.env.scope.names.lookup x=some .free:=hk;rw[k]at this;cases this
   ·have:X.env.scope.names.lookup x=some .free:=hk;rw[k]at this;cases this
def ipI(f:Int->Int->Int):TIp:=λx y H Q=>∃i j,x=.int i/\y=.int j/\Q (.int (f i j)) H
theorem CG:PIp X .Add (ipI λi j=>i+j):=by
 intro pins s σ H x y v u Q I r1 r2 h;obtain⟨i,j,e1,e2,q⟩:=h;subst e1;subst e2;obtain⟨t,rfl⟩:=r1;obtain⟨t',rfl⟩:=r2;exact iadd_int ⟨.int _,H,I.tok _,⟨_,rfl⟩,q⟩
end
section
variable{X:Cx}{pos:Pos}
def AB(c:TT)(tb:TS):TS:=λD σ H=>∃W:Nat->St->Hp->Prop,(∃m,W m σ H)/\∀m σ H,W m σ H ->
 c σ H λb H1=>if b=true then ∃N:St->Hp->Prop,(∀σ' H',N σ' H'->∃m',m'<m/\W m' σ' H')/\tb {D with nx:=N,ct:=N,bk:=D.nx} σ H1 else D.nx σ H1
theorem wt{c:Expr}{body:List Stmt}{tc:TT}{tb:TS}(hp:PassesOwn (ar X.prog X.w) X.A X.env X.xe)(hc:PT X c tc)(hb:PSs X body tb):PS X (.While c body [] pos) (AB tc tb):=by
 intro pins s σ H D I h;obtain⟨W,⟨m0,w0⟩,turn⟩:=h;refine wpAny_While (codeAny_whileLoop (λn s'=>∃σ' H',Inv X pins σ' H' s'/\W n σ' H') ?_ m0 ⟨σ,H,I,w0⟩);rintro n s1 ⟨σ1,H1,I1,w1⟩;refine wpAny_passesOwn hp (thn (hc pins s1 σ1 H1 _ I1 (turn n σ1 H1 w1)) λb s2 ⟨H2,I2,q2⟩=>?_);cases b with
 |true=>
  obtain⟨N,hN,q2⟩:=q2;rw[if_pos rfl];refine wpAny_passesOwn hp (thn (hb pins s2 σ1 H2 _ I2 q2) λf s3 q3=>?_);cases f with
  |next=>
   obtain⟨σ3,H3,I3,n3⟩:=q3;obtain⟨m',hm,w3⟩:=hN σ3 H3 n3;exact⟨m',hm,σ3,H3,I3,w3⟩
  |cont=>
   obtain⟨σ3,H3,I3,n3⟩:=q3;obtain⟨m',hm,w3⟩:=hN σ3 H3 n3;exact⟨m',hm,σ3,H3,I3,w3⟩
  |brk=>exact q3
  |ret v=>exact q3
 |false=>
  rw[if_neg bX];exact wpAny_execs_nil ⟨σ1,H2,I2,q2⟩
end
structure It where
 go:Nat->Hp->Prop
 yld:Nat->Hp->V->Hp->Prop
 stop:Nat->Hp->Prop
def cF(X:Cx)(pins:List (Addr×Obj))(H:Hp)(b:Addr):Prop:=
 H b=none/\b≠X.env.locals/\b∉X.fs/\(b∈X.ex\/X.s₀.heap.objs.size<=b)/\(∀x c,X.env.cells.lookup x=some c->c≠b)/\∀p∈X.pn++pins,p.1≠b
theorem Inv.fpOk{X:Cx}{pins:List (Addr×Obj)}{σ:St}{H H':Hp}{s:af}{b:Addr}(I:Inv X pins σ H s)(hb:s.heap.objs.size<=b)(hn:H' b=none):cF X pins H' b:=by
 refine⟨hn,Nat.ne_of_gt (bA I.lt hb),I.nofs hb,.inr (a8 I.sz hb),λx c e z=>?_,λp hp z=>?_⟩
 ·obtain⟨v,q⟩:=I.cell x c e;exact absurd (bA q.lt (by rw[z];exact hb)) (bN _)
 ·exact absurd (bA (aP (I.pin p hp).1) (by rw[z];exact hb)) (bN _)
structure Turn(P:aB)(w:az)(K:aA)(tg:Expr)(J:It)(fp:List Addr)(it:Addr)(tn:Nat->Heap->Prop):Prop where
 mem:it∈fp
 obj:∀i h,tn i h->∀b∈fp,∃o,h.get? b=some o/\∀v,o.data≠.cell v
 keep:∀i h h',tn i h->(∀b∈fp,∀o,h.get? b=some o->h'.get? b=some o)->tn i h'
 item:∀(X:Cx),X.prog=P->X.w=w->X.K=K->X.calm=true->∀(i:Nat) (pins:List (Addr×Obj)) (s:af) (σ:St) (H:Hp) (E:ae->af->Prop),Inv X pins σ H s->(∀b∈fp,cF X pins H b)->tn i s.heap->J.go i H ->
  aq (ar P w) X.A (pyNext (.ref it)) (λr s1=>∃u,r=some u /\
   aq (ar P w) X.A (letOwnedTupleGo tg (.ref it) u) (λ_ s2=>∃x H',Inv X pins σ H' s2/\RelV x u/\J.yld i H x H'/\tn (i+1) s2.heap/\∀b∈fp,H' b=none) E s1) E s
 done:∀(X:Cx),X.prog=P->X.w=w->X.K=K->X.calm=true->∀(i:Nat) (pins:List (Addr×Obj)) (s:af) (σ:St) (H:Hp) (E:ae->af->Prop),Inv X pins σ H s->(∀b∈fp,cF X pins H b)->tn i s.heap->J.stop i H ->
  aq (ar P w) X.A (pyNext (.ref it)) (λr s1=>r=none/\Inv X pins σ H s1) E s
 self:∀(A:aD) (i:Nat) (s:af) (Q:ae->af->Prop) (E:ae->af->Prop),tn i s.heap->Q (.ref it) s->aq (ar P w) A (pyIter (.ref it)) Q E s
abbrev TI:=St->Hp->(It->Hp->Prop)->Prop
def PIE(X:Cx)(pins:List (Addr×Obj))(σ:St)(tg:Expr)(R:It->Hp->Prop)(Gi:ae)(s2:af):Prop:=
 ∃(it:Addr) (fp:List Addr) (tn:Nat->Heap->Prop) (J:It) (H':Hp),Gi=.ref it/\Inv X pins σ H' s2/\Turn X.prog X.w X.K tg J fp it tn/\tn 0 s2.heap/\(∀b∈fp,cF X pins H' b)/\R J H'
def PI(X:Cx)(tg iter:Expr)(wi:TI):Prop:=
 ∀(pins:List (Addr×Obj)) (s:af) (σ:St) (H:Hp) (R:It->Hp->Prop),Inv X pins σ H s->wi σ H R ->
  aq (ar X.prog X.w) X.A (eval iter X.env) (λv s1=>aq (ar X.prog X.w) X.A (pyIter v) (PIE X pins σ tg R) X.xe s1) X.xe s
theorem iN{M:Model}{A:aD}{E:ae->af->Prop}{s:af}{tg:Expr}{it:Addr}{u:ae}{o:Obj}{n:String}{vs:Array ae}{Q:Unit->af->Prop}(ho:s.heap.get? it=some o)(hc:o.cls=.type n)(hd:o.data=.fields vs)
  (hn:["enumerate","zip","dict_itemiterator","dict_reverseitemiterator","odict_iterator","itertools.zip_longest","itertools.pairwise"].contains n=false) (hQ:Q () s):aq M A (letOwnedTupleGo tg (.ref it) u) Q E s:=by
 unfold letOwnedTupleGo;cases tg<;>first
  |exact aC hQ
  | (cases u<;>first
    |exact aC hQ
    | (refine ah (wpAny_load ho ?_)
       rw[hc,hd];show aq M A (if (["enumerate","zip","dict_itemiterator","dict_reverseitemiterator","odict_iterator","itertools.zip_longest","itertools.pairwise"].contains n&&vs[0]? == some (rawInt _))=true then _ else _) Q E s;rw[if_neg (by intro h;rw[hn,Bool.false_and]at h;cases h)];exact aC hQ))
noncomputable def Itl(K:aA)(a:Addr):It:=
 ⟨λi H=>∃xs x,SqL K H a xs/\xs[i]? = some x,λi H x H'=>H'=H/\∀xs,SqL K H a xs->xs[i]? = some x,λi H=>∃xs,SqL K H a xs/\xs.length<=i⟩
noncomputable def Itt(K:aA)(a:Addr):It:=
 ⟨λi H=>∃xs x,SqT K H a xs/\xs[i]? = some x,λi H x H'=>H'=H/\∀xs,SqT K H a xs->xs[i]? = some x,λi H=>∃xs,SqT K H a xs/\xs.length<=i⟩
noncomputable def Itr(lo:Int)(n:Nat):It:=⟨λi _=>i<n,λi H x H'=>H'=H/\x=.int (lo+i),λi _=>n<=i⟩
theorem wc{P:aB}{w:az}{K:aA}{tg:Expr}(a it:Addr):Turn P w K tg (Itl K a) [it] it (λi h=>h.IsListIter it a i) where
 mem:=by simp
 obj:=λi h st b hb=>by
  have e:b=it:=by simpa using hb
  subst e;obtain⟨o,e,c,d⟩:=st;exact⟨o,e,λv z=>by rw[d]at z;cases z⟩
 keep:=λi h h' st k=>st.at λo e=>k it (by simp) o e
 item:=by
  intro X hP hw hK hc i pins s σ H E I hf st hg;subst hP hw hK;obtain⟨xs,x,hq,hx⟩:=hg;obtain⟨its,rv,p,hz⟩:=I.list hq;obtain⟨u,hu,ru⟩:=rv.get hx;obtain⟨f0,f1,f2,f3,f4,f5⟩:=hf it (by simp);refine wpAny_pyNext_list_item st p.isList (x:=u) (by simpa using hu) λh' st' sb=>?_
  have I1:Inv X pins σ H {s with heap:=h'}:=I.turned (t':=s.toks) (λb o hb e=>(sb.2 b hb).trans e) f0 f1 f3 f4 f5;obtain⟨o,e,c,d⟩:=id st';exact⟨u,rfl,iN (s:={s with heap:=h'}) e c d (by decide) ⟨x,H,I1,ru,⟨rfl,λys hy=>by rw[I.list_inj hy hq];exact hx⟩,st',λb hb=>(hf b hb).1⟩⟩
 done:=by
  intro X hP hw hK hc i pins s σ H E I hf st hg;subst hP hw hK;obtain⟨xs,hq,hx⟩:=hg;obtain⟨its,rv,p,hz⟩:=I.list hq;obtain⟨f0,f1,f2,f3,f4,f5⟩:=hf it (by simp);have hl:=rv.length;exact wpAny_pyNext_list_end (I.ok.hd hc) st p.isList (by simp;lia) λh' eb=>⟨rfl,I.turned (t':=s.toks) (λb o hb e=>eb b o hb e) f0 f1 f3 f4 f5⟩
 self:=λ_ _ _ _ _ st h=>wpAny_pyIter_listiter st h
theorem B_{P:aB}{w:az}{K:aA}{tg:Expr}(a it:Addr):Turn P w K tg (Itt K a) [it] it (λi h=>h.IsTupleIter it a i) where
 mem:=by simp
 obj:=λi h st b hb=>by
  have e:b=it:=by simpa using hb
  subst e;obtain⟨o,e,c,d⟩:=st;exact⟨o,e,λv z=>by rw[d]at z;cases z⟩
 keep:=λi h h' st k=>st.at λo e=>k it (by simp) o e
 item:=by
  intro X hP hw hK hc i pins s σ H E I hf st hg;subst hP hw hK;obtain⟨xs,x,hq,hx⟩:=hg;obtain⟨its,rv,p,hz⟩:=I.tuple hq;obtain⟨u,hu,ru⟩:=rv.get hx;obtain⟨f0,f1,f2,f3,f4,f5⟩:=hf it (by simp);refine wpAny_pyNext_tuple_item st (show s.heap.IsTuple a its.toArray from p) (x:=u) (by simpa using hu) λh' st' sb=>?_
  have I1:Inv X pins σ H {s with heap:=h'}:=I.turned (t':=s.toks) (λb o hb e=>(sb.2 b hb).trans e) f0 f1 f3 f4 f5;obtain⟨o,e,c,d⟩:=id st';exact⟨u,rfl,iN (s:={s with heap:=h'}) e c d (by decide) ⟨x,H,I1,ru,⟨rfl,λys hy=>by rw[I.tuple_inj hy hq];exact hx⟩,st',λb hb=>(hf b hb).1⟩⟩
 done:=by
  intro X hP hw hK hc i pins s σ H E I hf st hg;subst hP hw hK;obtain⟨xs,hq,hx⟩:=hg;obtain⟨its,rv,p,hz⟩:=I.tuple hq;obtain⟨f0,f1,f2,f3,f4,f5⟩:=hf it (by simp);have hl:=rv.length;exact wpAny_pyNext_tuple_end (I.ok.hd hc) st (show s.heap.IsTuple a its.toArray from p) (by simp;lia) λh' eb=>⟨rfl,I.turned (t':=s.toks) (λb o hb e=>eb b o hb e) f0 f1 f3 f4 f5⟩
 self:=λ_ _ _ _ _ st h=>wpAny_pyIter_tupleiter st h
theorem Cm{P:aB}{w:az}{K:aA}{tg:Expr}(it:Addr)(lo:Int)(n:Nat):Turn P w K tg (Itr lo n) [it] it (λi h=>IsRangeIter h it (lo+(i:Nat) * 1) ((n:Int)-(i:Nat)) 1) where
 mem:=by simp
 obj:=λi h st b hb=>by
  have e:b=it:=by simpa using hb
  subst e;exact⟨_,st,λv z=>by
   have z':Data.fields _=Data.cell v:=z;cases z'⟩
 keep:=λi h h' st k=>k it (by simp) _ st
 item:=by
  intro X hP hw hK hc i pins s σ H E I hf st hg;subst hP hw hK;obtain⟨f0,f1,f2,f3,f4,f5⟩:=hf it (by simp);have W:=Walks.range (prog:=X.prog) (w:=X.w) (I.ok.hd hc) it lo 1 n;refine W.item i s _ _ hg st λv h' tk hv st' kk=>?_
  obtain⟨t,rfl⟩:=hv;have I1:Inv X pins σ H {s with heap:=h',toks:=tk}:=I.turned (λb o hb e=>kk b o (by simpa using hb) e) f0 f1 f3 f4 f5;refine⟨_,rfl,iN (s:={s with heap:=h',toks:=tk}) (n:="range_iterator") st' rfl rfl (by decide) ⟨.int (lo+i),H,I1,⟨t,?_⟩,⟨rfl,rfl⟩,st',λb hb=>(hf b hb).1⟩⟩;rw[Int.mul_one]
 done:=by
  intro X hP hw hK hc i pins s σ H E I hf st hg;subst hP hw hK;obtain⟨f0,f1,f2,f3,f4,f5⟩:=hf it (by simp);exact wpAny_pyNext_range_end (I.ok.hd hc) st (by have:n<=i:=hg;lia) λh' eb=>⟨rfl,I.turned (t':=s.toks) (λb o hb e=>eb b o hb e) f0 f1 f3 f4 f5⟩
 self:=λ_ _ _ _ _ st h=>wpAny_pyIter_rangeiter st h
section
variable{X:Cx}{tg:Expr}
def D8(K:aA)(tl:TE):TI:=λσ H R=>tl σ H λx H1=>∃a,x=.ref a/\(∃xs,SqL K H1 a xs)/\R (Itl K a) H1
def AS(K:aA)(tl:TE):TI:=λσ H R=>tl σ H λx H1=>∃a,x=.ref a/\(∃xs,SqT K H1 a xs)/\R (Itt K a) H1
theorem D5{l:Expr}{tl:TE}(hl:PE X l tl):PI X tg l (D8 X.K tl):=by
 intro pins s σ H R I h;refine thn (hl pins s σ H _ I h) λv s1 ⟨x,H1,I1,r1,q1⟩=>?_
 obtain⟨a,e,⟨xs,hq⟩,q⟩:=q1;subst e;cases r1;obtain⟨its,rv,p,hz⟩:=I1.list hq;refine wpAny_pyIter_list p.isList ?_;refine⟨s1.heap.objs.size,[s1.heap.objs.size],_,_,H1,rfl,I1.kept (t':=s1.toks) λb o e=>Heap.get?_push_of_some _ e,wc a _,⟨_,Heap.get?_push_size _ rfl,rfl,rfl⟩,λb hb=>?_,q⟩;have e:b=s1.heap.objs.size:=by simpa using hb
 subst e;exact I1.fpOk (aF _) (I1.hok.fresh (aF _))
theorem uz{l:Expr}{tl:TE}(hl:PE X l tl):PI X tg l (AS X.K tl):=by
 intro pins s σ H R I h;refine thn (hl pins s σ H _ I h) λv s1 ⟨x,H1,I1,r1,q1⟩=>?_
 obtain⟨a,e,⟨xs,hq⟩,q⟩:=q1;subst e;cases r1;obtain⟨its,rv,p,hz⟩:=I1.tuple hq;refine wpAny_pyIter_tuple (show s1.heap.IsTuple a its.toArray from p) ?_;refine⟨s1.heap.objs.size,[s1.heap.objs.size],_,_,H1,rfl,I1.kept (t':=s1.toks) λb o e=>Heap.get?_push_of_some _ e,B_ a _,⟨_,Heap.get?_push_size _ rfl,rfl,rfl⟩,λb hb=>?_,q⟩;have e:b=s1.heap.objs.size:=by simpa using hb
 subst e;exact I1.fpOk (aF _) (I1.hok.fresh (aF _))
theorem nh{pins:List (Addr×Obj)}{σ:St}{H:Hp}{s:af}{R:It->Hp->Prop}{E:ae->af->Prop}{lo hi:Int}{t u v:Tok}{tk:Nat}(I:Inv X pins σ H s)(h1:-(2^62)<=lo)(h2:lo<2^62)(h3:-(2^62)<=hi)(h4:hi<2^62)
  (q:R (Itr lo (hi-lo).toNat) H):aq (ar X.prog X.w) X.A (pyIter (.ref s.heap.objs.size)) (PIE X pins σ tg R) E {s with heap:=s.heap.push {cls:=.type "range",data:=.fields #[.int lo t,.int hi u,.int 1 v]},toks:=tk}:=by
 refine wpAny_pyIter_range (IsRange.new ..) (small_one h1 h2 h3 h4) ?_;have I1:Inv X pins σ H {s with heap:=s.heap.push {cls:=.type "range",data:=.fields #[.int lo t,.int hi u,.int 1 v]},toks:=tk}:=I.kept λb o e=>Heap.get?_push_of_some _ e
 refine⟨(s.heap.push {cls:=.type "range",data:=.fields #[.int lo t,.int hi u,.int 1 v]}).objs.size,[(s.heap.push {cls:=.type "range",data:=.fields #[.int lo t,.int hi u,.int 1 v]}).objs.size],_,_,H,rfl,
  I1.kept (t':=tk) λb o e=>Heap.get?_push_of_some _ e,Cm _ lo (hi-lo).toNat,?_,λb hb=>?_,q⟩
 ·have e1:lo+((0:Nat):Int) * 1=lo:=by simp
  have e2:(((hi-lo).toNat:Nat):Int)-((0:Nat):Int)=Builtin.Range.rangeSize lo hi 1:=by rw[rangeSize_one];split<;>lia
  show IsRangeIter _ _ (lo+((0:Nat):Int) * 1) ((((hi-lo).toNat:Nat):Int)-((0:Nat):Int)) 1;rw[e1,e2];exact Heap.get?_push_size _ rfl
 ·have e:b=(s.heap.push {cls:=.type "range",data:=.fields #[.int lo t,.int hi u,.int 1 v]}).objs.size:=by simpa using hb
  subst e;exact I1.fpOk (aF _) (I1.hok.fresh (aF _))
def ur(ta:TA):TI:=λσ H R=>ta σ H λvs H1=>∃j:Int,vs=[.int j]/\-(2^62)<=j/\j<2^62/\R (Itr 0 j.toNat) H1
def Dj(ta:TA):TI:=λσ H R=>ta σ H λvs H1=>∃i j:Int,vs=[.int i,.int j]/\(-(2^62)<=i/\i<2^62/\-(2^62)<=j/\j<2^62)/\R (Itr i (j-i).toNat) H1
theorem Ei{a:Expr}{ta:TA}{p pos:Pos}(hg:Gl X "range")(hm:X.mg "range" = none)(ha:PA X [a] ta)(hs:a_ [a] X.env=[(false,eval a X.env)]):PI X tg (.Call (.Name "range" p) [a] [] pos) (ur ta):=by
 intro pins s σ H R I h;refine Call_ (gX (hn:=by decide) (hd:=by decide) I hg hm boot_range (PyProof.Rows.callWith_type1 (thn (ha pos pins s σ H _ I h) λus s1 ⟨vs,H1,I1,r1,q1⟩=>?_) hs rfl));obtain⟨j,e,q1,q2,q⟩:=q1;subst e;cases r1 with
 |cons r rr=>
  cases rr;obtain⟨t,rfl⟩:=r;exact call_range_1 (nh I1 (by lia) (by lia) q1 q2 (by simpa using q))
theorem ye{a b:Expr}{ta:TA}{p pos:Pos}(hg:Gl X "range")(hm:X.mg "range" = none)(ha:PA X [a,b] ta)(hs:a_ [a,b] X.env=[(false,eval a X.env),(false,eval b X.env)])(HB:a_ [b] X.env=[(false,eval b X.env)]) :
  PI X tg (.Call (.Name "range" p) [a,b] [] pos) (Dj ta):=by
 intro pins s σ H R I h;refine Call_ (gX (hn:=by decide) (hd:=by decide) I hg hm boot_range (PyProof.Rows.callWith_type1 (thn (ha pos pins s σ H _ I h) λus s1 ⟨vs,H1,I1,r1,q1⟩=>?_) (by rw[hs,HB]) (by rw[HB];rfl)));obtain⟨i,j,e,⟨q1,q2,q3,q4⟩,q⟩:=q1;subst e;cases r1 with
 |cons r rr=>
  cases rr with
  |cons r' rr=>
   cases rr;obtain⟨t,rfl⟩:=r;obtain⟨t',rfl⟩:=r';exact call_range_2 (nh I1 q1 q2 q3 q4 q)
def BA(wi:TI)(g:TG)(tb:TS):TS:=λD σ H=>wi σ H λJ H1=>∃W:Nat->Nat->St->Hp->Prop,(∃m,W 0 m σ H1)/\∀i m σ H,W i m σ H ->
 (J.stop i H/\D.nx σ H)\/(J.go i H/\∃N:St->Hp->Prop,(∀σ' H',N σ' H'->∃m',m'<m/\W (i+1) m' σ' H')/\∀x H',J.yld i H x H'->g x σ H' λσ2 H2=>tb {D with nx:=N,ct:=N,bk:=D.nx} σ2 H2)
noncomputable def iA(fp:List Addr)(h:Heap):List (Addr×Obj):=fp.filterMap λb=>(h.get? b).map λo=>(b,o)
theorem gQ{fp:List Addr}{h:Heap}{b:Addr}{o:Obj}(hb:b∈fp)(e:h.get? b=some o):(b,o)∈iA fp h:=List.mem_filterMap.mpr ⟨b,hb,by rw[e];rfl⟩
theorem Ex{fp:List Addr}{h:Heap}{p:Addr×Obj}(hp:p∈iA fp h):p.1∈fp/\h.get? p.1=some p.2:=by
 obtain⟨b,hb,e⟩:=List.mem_filterMap.mp hp;cases q:h.get? b with
 |none=>rw[q]at e;cases e
 |some o=>
  rw[q]at e;have e':(b,o)=p:=bM e;subst e';exact⟨hb,q⟩
theorem Inv.pinned{pins:List (Addr×Obj)}{σ:St}{H:Hp}{s:af}{fp:List Addr}(I:Inv X pins σ H s)(hf:∀b∈fp,cF X pins H b)(ho:∀b∈fp,∃o,s.heap.get? b=some o/\∀v,o.data≠.cell v):Inv X (pins++iA fp s.heap) σ H s:=
 I.pins_of λp hp=>(List.mem_append.mp hp).elim (λz=>I.pin p (bP _ z)) λz=>by
  obtain⟨hb,e⟩:=Ex z;obtain⟨f0,f1,f2,_⟩:=hf p.1 hb;obtain⟨o,e',d⟩:=ho p.1 hb;rw[e]at e';cases e';exact⟨e,f0,f1,f2,d⟩
theorem Inv.unpinned{pins pl:List (Addr×Obj)}{σ:St}{H:Hp}{s:af}(I:Inv X (pins++pl) σ H s):Inv X pins σ H s:=I.pins_of λp hp=>I.pin p (bP _ (List.mem_append_left _ hp))
theorem wg{iter:Expr}{body:List Stmt}{wi:TI}{g:TG}{tb:TS}{pos:Pos}(hp:PassesOwn (ar X.prog X.w) X.A X.env X.xe)(hc:X.calm=true)(hi:PI X tg iter wi)(hg:PG X tg g)(hb:PSs X body tb)
  (hs:∀x,foldedSetIterable iter X.env x=pure x):PS X (.For tg iter body [] pos) (BA wi g tb):=by
 intro pins s σ H D I h;refine wpAny_For (thn (hi pins s σ H _ I h) λv s1 h1=>thn h1 λGi s2 h2=>?_) hs;obtain⟨it,fp,tn,J,H2,e,I2,T,FC,f2,W,⟨m0,w0⟩,turn⟩:=h2;subst e
 -- what stays true of the iterator's objects through the loop
 have Fo:∀{H':Hp},(∀b∈fp,H' b=none)->∀b∈fp,cF X pins H' b:=λhn b hb=>⟨hn b hb,(f2 b hb).2⟩
 refine codeAny_forLoop_any (λn s'=>∃i σ' H',Inv X pins σ' H' s'/\tn i s'.heap/\(∀b∈fp,H' b=none)/\W i n σ' H') ?_ m0 ⟨0,σ,H2,I2,FC,λb hb=>(f2 b hb).1,w0⟩;rintro n s3 ⟨i,σ3,H3,I3,Fs,G2,w3⟩;rcases turn i n σ3 H3 w3 with ⟨stop,qn⟩|⟨go,N,hN,step⟩
 ·refine wpAny_passesOwn hp (thn (T.done X rfl rfl rfl hc i pins s3 σ3 H3 X.xe I3 (Fo G2) Fs stop) λr s4 ⟨hr,I4⟩=>?_);subst hr;exact wpAny_execs_nil ⟨σ3,H3,I4,qn⟩
 ·refine wpAny_passesOwn hp (thn (T.item X rfl rfl rfl hc i pins s3 σ3 H3 X.xe I3 (Fo G2) Fs go) λr s4 ⟨u,hr,h4⟩=>?_);subst hr;refine wpAny_passesOwn hp (thn h4 λ_ s5 ⟨x,H5,I5,r5,y5,Gn,HN⟩=>?_);have I5':=I5.pinned (Fo HN) (T.obj _ _ Gn);refine wpAny_passesOwn hp (thn (hg _ s5 σ3 H5 x u _ I5' r5 (step x H5 y5)) λ_ s6 ⟨σ6,H6,I6,q6⟩=>?_);refine wpAny_passesOwn hp (thn (hb _ s6 σ6 H6 _ I6 q6) λf s7 q7=>?_);have again:∀{σ7:St}{H7:Hp},Inv X (pins++iA fp s5.heap) σ7 H7 s7->N σ7 H7->∃m,m<n/\∃i σ' H',Inv X pins σ' H' s7/\tn i s7.heap/\(∀b∈fp,H' b=none)/\W i m σ' H':=λ{σ7 H7} I7 n7=>by
   obtain⟨m',hm,w7⟩:=hN σ7 H7 n7;refine⟨m',hm,i+1,σ7,H7,I7.unpinned,T.keep _ _ _ Gn λb hb o e=>(I7.pin (b,o) (bP _ (bP _ (gQ hb e)))).1,λb hb=>?_,w7⟩;obtain⟨o,e,d⟩:=T.obj _ _ Gn b hb;exact(I7.pin (b,o) (bP _ (bP _ (gQ hb e)))).2.1
  cases f with
  |next=>obtain⟨σ7,H7,I7,n7⟩:=q7;exact again I7 n7
  |cont=>obtain⟨σ7,H7,I7,n7⟩:=q7;exact again I7 n7
  |brk=>obtain⟨σ7,H7,I7,q7⟩:=q7;exact⟨σ7,H7,I7.unpinned,q7⟩
  |ret v=>obtain⟨x7,σ7,H7,I7,r7,q7⟩:=q7;exact⟨x7,σ7,H7,I7.unpinned,r7,q7⟩
end
abbrev R2:=V->V->Hp->VK->Prop
def OpR(X:Cx)(f:ae->ae->Sem ae)(r:R2):Prop:=
 ∀(pins:List (Addr×Obj)) (s:af) (σ:St) (H:Hp) (x y:V) (v u:ae) (Q:VK),Inv X pins σ H s->RelV x v->RelV y u->r x y H Q ->
  aq (ar X.prog X.w) X.A (f v u) (EP X pins σ Q) X.xe s
def UnR(X:Cx)(f:ae->Sem ae)(r:V->Hp->VK->Prop):Prop:=
 ∀(pins:List (Addr×Obj)) (s:af) (σ:St) (H:Hp) (x:V) (v:ae) (Q:VK),Inv X pins σ H s->RelV x v->r x H Q ->
  aq (ar X.prog X.w) X.A (f v) (EP X pins σ Q) X.xe s
def zf(X:Cx)(f:ae)(r:List V->Hp->VK->Prop):Prop:=
 ∀(pins:List (Addr×Obj)) (s:af) (σ:St) (H:Hp) (xs:List V) (us:List ae) (Q:VK),Inv X pins σ H s->Vals xs us->r xs H Q ->
  aq (ar X.prog X.w) X.A (call f us) (EP X pins σ Q) X.xe s
def vT(X:Cx)(r:V->Hp->(Bool->Hp->Prop)->Prop):Prop:=
 ∀(pins:List (Addr×Obj)) (s:af) (σ:St) (H:Hp) (x:V) (v:ae) (Q:Bool->Hp->Prop),Inv X pins σ H s->RelV x v->r x H Q ->
  aq (ar X.prog X.w) X.A (truthy v) (TP X pins σ Q) X.xe s
def tOp(r:R2)(ta tb:TE):TE:=λσ H Q=>ta σ H λx H1=>tb σ H1 λy H2=>r x y H2 Q
def tUn(r:V->Hp->VK->Prop)(ta:TE):TE:=λσ H Q=>ta σ H λx H1=>r x H1 Q
def rI(C:Int->Int->Prop)(g:Int->Int->V):R2:=λx y H Q=>∃i j,x=.int i/\y=.int j/\C i j/\Q (g i j) H
def rI0(g:Int->Int->V):R2:=λx y H Q=>∃i j,x=.int i/\y=.int j/\Q (g i j) H
def rU(g:Int->V):V->Hp->VK->Prop:=λx H Q=>∃i,x=.int i/\Q (g i) H
section
variable{X:Cx}{a b c:Expr}{ta tb tc:TE}{pos:Pos}
theorem mH(ha:PE X a ta)(hb:PE X b tb){pins:List (Addr×Obj)}{s:af}{σ:St}{H:Hp}{R:V->V->Hp->Prop}(I:Inv X pins σ H s)
  (h:ta σ H λx H1=>tb σ H1 λy H2=>R x y H2) {Q:ae->af->Prop}{f:ae->ae->Sem ae}
  (hf:∀v u s2 x y H2,Inv X pins σ H2 s2->RelV x v->RelV y u->R x y H2->aq (ar X.prog X.w) X.A (f v u) Q X.xe s2) :
  aq (ar X.prog X.w) X.A (eval a X.env) (λv s₁=>aq (ar X.prog X.w) X.A (eval b X.env) (λu s₂=>aq (ar X.prog X.w) X.A (f v u) Q X.xe s₂) X.xe s₁) X.xe s:=by
 refine thn (ha pins s σ H _ I h) λv s1 ⟨x,H1,I1,r1,q1⟩=>?_
 refine thn (hb pins s1 σ H1 _ I1 q1) λu s2 ⟨y,H2,I2,r2,q2⟩=>?_
 exact hf v u s2 x y H2 I2 r1 r2 q2
theorem BE{op:Operator}{r:R2}(ho:OpR X (bI op) r)(ha:PE X a ta)(hb:PE X b tb):PE X (.BinOp a op b pos) (tOp r ta tb):=by
 intro pins s σ H Q I h;exact wpAny_BinOp (mH ha hb I h λv u s2 x y H2 I2 rx ry q=>ho pins s2 σ H2 x y v u Q I2 rx ry q)
theorem Ea{op:UnaryOp}{r:V->Hp->VK->Prop}(ho:UnR X (unaryOp op) r)(ha:PE X a ta):PE X (.UnaryOp op a pos) (tUn r ta):=by
 intro pins s σ H Q I h;exact UnaryOp_ (thn (ha pins s σ H _ I h) λv s1 ⟨x,H1,I1,r1,q1⟩=>ho pins s1 σ H1 x v Q I1 r1 q1)
theorem opI{f:ae->ae->Sem ae}{C:Int->Int->Prop}{g:Int->Int->Int}
  (rule:∀(i j:Int) (t u:Tok) (s:af) (Q:ae->af->Prop) (E:ae->af->Prop),C i j->Q (.int (g i j) s.toks) {s with toks:=s.toks+1}->aq (ar X.prog X.w) X.A (f (.int i t) (.int j u)) Q E s) :
  OpR X f (rI C λi j=>.int (g i j)):=by
 intro pins s σ H x y v u Q I rx ry h;obtain⟨i,j,rfl,rfl,hc,q⟩:=h;obtain⟨t,rfl⟩:=rx;obtain⟨t',rfl⟩:=ry;exact rule i j t t' s _ _ hc ⟨.int (g i j),H,I.tok _,⟨_,rfl⟩,q⟩
theorem iO{f:ae->ae->Sem ae}{g:Int->Int->Int}
  (rule:∀(i j:Int) (t u:Tok) (s:af) (Q:ae->af->Prop) (E:ae->af->Prop),Q (.int (g i j) s.toks) {s with toks:=s.toks+1}->aq (ar X.prog X.w) X.A (f (.int i t) (.int j u)) Q E s) :
  OpR X f (rI0 λi j=>.int (g i j)):=by
 intro pins s σ H x y v u Q I rx ry h;obtain⟨i,j,rfl,rfl,q⟩:=h;obtain⟨t,rfl⟩:=rx;obtain⟨t',rfl⟩:=ry;exact rule i j t t' s _ _ ⟨.int (g i j),H,I.tok _,⟨_,rfl⟩,q⟩
theorem j7{f:ae->ae->Sem ae}{g:Int->Int->Bool}
  (rule:∀(i j:Int) (t u:Tok) (s:af) (Q:ae->af->Prop) (E:ae->af->Prop),Q (.bool (g i j)) s->aq (ar X.prog X.w) X.A (f (.int i t) (.int j u)) Q E s) :
  OpR X f (rI0 λi j=>.bl (g i j)):=by
 intro pins s σ H x y v u Q I rx ry h;obtain⟨i,j,rfl,rfl,q⟩:=h;obtain⟨t,rfl⟩:=rx;obtain⟨t',rfl⟩:=ry;exact rule i j t t' s _ _ ⟨.bl (g i j),H,I,rfl,q⟩
def pA(i j:Int):Prop:=0<=j/\j<=1000000/\i.natAbs<2^64
def lq(i j:Int):Prop:=(-(2^64)<i/\i<2^64)\/(-(2^64)<j/\j<2^64)
theorem lq.ok{i j:Int}(h:lq i j):IntMulOk i j:=by
 rcases h with ⟨h1,h2⟩|⟨h1,h2⟩
 ·exact .of_left (intBits_le_64 h1 h2)
 ·exact .of_right (intBits_le_64 h1 h2)
theorem CJ(k:Nat):(0:Int)<=2^k:=by
 rw[two_pow_cast];exact Int.natCast_nonneg _
theorem xJ:OpR X (bI .Add) (rI0 λi j=>.int (i+j)):=iO λ_ _ _ _ _ _ _ q=>add_int q
theorem Al:OpR X (bI .Sub) (rI0 λi j=>.int (i-j)):=iO λ_ _ _ _ _ _ _ q=>sub_int q
theorem y9:OpR X (bI .Mult) (rI lq λi j=>.int (i * j)):=opI λ_ _ _ _ _ _ _ hc q=>mul_int q hc.ok
theorem uB:OpR X (bI .Mod) (rI (λ_ j=>0<j) λi j=>.int (i%j)):=opI λi j _ _ _ _ _ hc q=>by
 have h1:(0:Int)<j:=hc;exact mod_int' (by lia) (by rw[Int.fmod_eq_emod_of_nonneg i (by lia)];exact q)
theorem tL:OpR X (bI .Pow) (rI pA λi j=>.int (i^j.toNat)):=opI λ_ _ _ _ _ _ _ hc q=>pow_int_small hc.1 hc.2.1 hc.2.2 q
theorem tQ:OpR X (bI .LShift) (rI pA λi j=>.int (i * 2^j.toNat)):=opI λ_ _ _ _ _ _ _ hc q=>lshift_int_small hc.1 hc.2.1 hc.2.2 q
theorem yn:OpR X (bI .RShift) (rI (λ_ j=>0<=j) λi j=>.int (i/2^j.toNat)):=opI λi j _ _ _ _ _ hc q=>
 rshift_int hc (by rw[Int.fdiv_eq_ediv_of_nonneg i (CJ _)];exact q)
theorem wF:OpR X (bI .BitAnd) (rI0 λi j=>.int (Builtin.bitAnd i j)):=iO λ_ _ _ _ _ _ _ q=>and_int q
theorem tF:OpR X (bI .BitOr) (rI0 λi j=>.int (Builtin.bitOr i j)):=iO λ_ _ _ _ _ _ _ q=>or_int q
theorem yZ:OpR X (bI .BitXor) (rI0 λi j=>.int (Builtin.bitXor i j)):=iO λ_ _ _ _ _ _ _ q=>xor_int q
theorem unI{f:ae->Sem ae}{g:Int->Int}
  (rule:∀(i:Int) (t:Tok) (s:af) (Q:ae->af->Prop) (E:ae->af->Prop),Q (.int (g i) s.toks) {s with toks:=s.toks+1}->aq (ar X.prog X.w) X.A (f (.int i t)) Q E s) :
  UnR X f (rU λi=>.int (g i)):=by
 intro pins s σ H x v Q I rx h;obtain⟨i,rfl,q⟩:=h;obtain⟨t,rfl⟩:=rx;exact rule i t s _ _ ⟨.int (g i),H,I.tok _,⟨_,rfl⟩,q⟩
theorem y0:UnR X (unaryOp .USub) (rU λi=>.int (-i)):=unI λ_ _ _ _ _ q=>neg_int q
end
section
variable{X:Cx}{a b c:Expr}{ta tb tc:TE}{pos:Pos}
theorem ju{pins:List (Addr×Obj)}{σ:St}{H:Hp}{s:af}{Q:VK}{k k':Bool}(I:Inv X pins σ H s)(q:Q (.bl k) H)(e:k=k'):EP X pins σ Q (.bool k') s:=by
 subst e;exact⟨.bl k,H,I,rfl,q⟩
theorem wZ:OpR X (a6 .Lt) (rI0 λi j=>.bl (decide (i<j))):=j7 λ_ _ _ _ _ _ _ q=>lt_int q
theorem y7:OpR X (a6 .LtE) (rI0 λi j=>.bl (decide (i<=j))):=j7 λ_ _ _ _ _ _ _ q=>le_int q
theorem Au:OpR X (a6 .Gt) (rI0 λi j=>.bl (decide (j<i))):=j7 λ_ _ _ _ _ _ _ q=>gt_int q
theorem DQ:OpR X (a6 .GtE) (rI0 λi j=>.bl (decide (j<=i))):=j7 λ_ _ _ _ _ _ _ q=>ge_int q
theorem Br:OpR X (a6 .Is) (λx y H Q=>y=.non/\Q (.bl (decide (x=.non))) H):=by
 intro pins s σ H x y v u Q I rx ry h;obtain⟨rfl,q⟩:=h;cases ry;refine is_none_gen (ju I q ?_);cases x<;>first
  | (cases rx;rfl)
  | (obtain⟨t,rfl⟩:=rx;rfl)
theorem DO:OpR X (a6 .IsNot) (λx y H Q=>y=.non/\Q (.bl (!decide (x=.non))) H):=by
 intro pins s σ H x y v u Q I rx ry h;obtain⟨rfl,q⟩:=h;cases ry;refine isnot_none_gen (ju I q ?_);cases x<;>first
  | (cases rx;rfl)
  | (obtain⟨t,rfl⟩:=rx;rfl)
theorem OpR.or{f:ae->ae->Sem ae}{r r':R2}(h:OpR X f r)(h':OpR X f r'):OpR X f (λx y H Q=>r x y H Q\/r' x y H Q):=by
 intro pins s σ H x y v u Q I rx ry q;rcases q with q|q
 ·exact h pins s σ H x y v u Q I rx ry q
 ·exact h' pins s σ H x y v u Q I rx ry q
theorem xy{op:CmpOp}{r:R2}(ho:OpR X (a6 op) r)(ha:PE X a ta)(hb:PE X b tb)(hm:behindInMarks op b=false):PE X (.Compare a [op] [b] pos) (tOp r ta tb):=by
 intro pins s σ H Q I h;exact wpAny_Compare1 (mH ha hb I h λv u s2 x y H2 I2 rx ry q=>ho pins s2 σ H2 x y v u Q I2 rx ry q) hm
def mz(t:TE):TT:=λσ H Q=>t σ H λx H'=>∃k,x=.bl k/\Q k H'
theorem B6{op:CmpOp}{r:R2}(ho:OpR X (a6 op) r)(ha:PE X a ta)(hb:PE X b tb)(hm:behindInMarks op b=false):PT X (.Compare a [op] [b] pos) (mz (tOp r ta tb)):=by
 intro pins s σ H Q I h;refine wpAny_isTrue_Compare1 (thn (ha pins s σ H _ I h) λv s1 ⟨x,H1,I1,r1,q1⟩=>thn (hb pins s1 σ H1 _ I1 q1) λu s2 ⟨y,H2,I2,r2,q2⟩=>
  thn (ho pins s2 σ H2 x y v u _ I2 r1 r2 q2) λc s3 ⟨z,H3,I3,r3,k,e,q3⟩=>?_) hm
 subst e;cases r3;exact bJ ⟨H3,I3,q3⟩
def pE(r r':R2)(ta tb tc:TE):TE:=λσ H Q=>ta σ H λx H1=>tb σ H1 λy H2=>r x y H2 λz H3=>∃k,z=.bl k /\
 (if k=true then tc σ H3 λw' H4=>r' y w' H4 Q else Q (.bl false) H3)
theorem Bc{op Fb:CmpOp}{r r':R2}(ho:OpR X (a6 op) r)(Fu:OpR X (a6 Fb) r')(ha:PE X a ta)(hb:PE X b tb)(hc:PE X c tc)
  (hm:lastMarks [op,Fb] [b,c]=false):PE X (.Compare a [op,Fb] [b,c] pos) (pE r r' ta tb tc):=by
 intro pins s σ H Q I h;refine Compare_chain (thn (ha pins s σ H _ I h) λv s1 ⟨x,H1,I1,r1,q1⟩=>chain_link (thn (hb pins s1 σ H1 _ I1 q1) λu s2 ⟨y,H2,I2,r2,q2⟩=>
  thn (ho pins s2 σ H2 x y v u _ I2 r1 r2 q2) λd s3 ⟨z,H3,I3,r3,k,e,q3⟩=>?_)) hm
 subst e;cases r3;refine bJ ?_;cases k with
 |false=>exact ite_ff ⟨.bl false,H3,I3,rfl,q3⟩
 |true=>exact ite_tt (chain_last (thn (hc pins s3 σ H3 _ I3 q3) λw' s4 ⟨z',H4,I4,r4,q4⟩=>Fu pins s4 σ H4 y z' u w' Q I4 r2 r4 q4))
theorem Ay{op Fb:CmpOp}{r r':R2}(ho:OpR X (a6 op) r)(Fu:OpR X (a6 Fb) r')(ha:PE X a ta)(hb:PE X b tb)(hc:PE X c tc)
  (hm:lastMarks [op,Fb] [b,c]=false):PT X (.Compare a [op,Fb] [b,c] pos) (mz (pE r r' ta tb tc)):=by
 intro pins s σ H Q I h;refine isTrue_chain (thn (ha pins s σ H _ I h) λv s1 ⟨x,H1,I1,r1,q1⟩=>test_link (thn (hb pins s1 σ H1 _ I1 q1) λu s2 ⟨y,H2,I2,r2,q2⟩=>
  thn (ho pins s2 σ H2 x y v u _ I2 r1 r2 q2) λd s3 ⟨z,H3,I3,r3,k,e,q3⟩=>?_)) hm
 subst e;cases r3;refine bJ ?_;cases k with
 |false=>
  obtain⟨k',e',q'⟩:=q3;cases e';exact ite_ff ⟨H3,I3,q'⟩
 |true=>
  refine ite_tt (test_last (thn (hc pins s3 σ H3 _ I3 q3) λw' s4 ⟨z',H4,I4,r4,q4⟩=>thn (Fu pins s4 σ H4 y z' u w' _ I4 r2 r4 q4) λd' s5 ⟨z2,H5,I5,r5,k2,e2,q5⟩=>?_));subst e2;cases r5;exact bJ ⟨H5,I5,q5⟩
def lF(K:aA)(x:V)(H:Hp)(k:Bool):Prop:=
 match x with
 | .non=>k=false
 | .bl b=>k=b
 | .int i=>k=(i != 0)
 | .str y=>y.length<=aK/\k=((y.length:Int) != 0)
 | .byt y=>y.size<=aK/\k=((y.size:Int) != 0)
 | .ref p=>(∃xs,SqL K H p xs/\k = !xs.isEmpty)\/(∃xs,SqT K H p xs/\k = !xs.isEmpty)\/∃kvs,H p=some (.dK kvs)/\k = !kvs.isEmpty
 |_=>False
theorem u5{κ:Type}{kvs:List (κ×V)}{vs:List (κ×ae)}(r:KV kvs vs):(!vs.isEmpty) = !kvs.isEmpty:=by
 cases r<;>rfl
theorem nW{xs:List V}{its:List ae}(r:Vals xs its):(!its.toArray.isEmpty) = !xs.isEmpty:=by
 cases r<;>simp
theorem iJ:(aK:Nat)<2^63:=by rw[bx];decide
theorem AE:vT X (λx H Q=>∃k,lF X.K x H k/\Q k H):=by
 intro pins s σ H x v Q I rx h;obtain⟨k,e,q⟩:=h;have hl:=iJ;have hs:aK=16777216:=bx;cases x with
 |non=>
  cases rx;have e':k=false:=e;subst e';exact truthy_none ⟨H,I,q⟩
 |bl b=>
  cases rx;have e':k=b:=e;subst e';exact bJ ⟨H,I,q⟩
 |int i=>
  obtain⟨t,rfl⟩:=rx;have e':k=(i != 0):=e;subst e';exact PySem.P.truthy_int ⟨H,I,q⟩
 |str y=>
  obtain⟨t,rfl⟩:=rx;obtain⟨hy,e'⟩:y.length<=aK/\k=((y.length:Int) != 0):=e;subst e';exact PySem.P.truthy_str (by lia) ⟨H,I.tok _,q⟩
 |byt y=>
  obtain⟨t,rfl⟩:=rx;obtain⟨hy,e'⟩:y.size<=aK/\k=((y.size:Int) != 0):=e;subst e';exact PySem.W.truthy_bytes (by lia) ⟨H,I.tok _,q⟩
 |ref p=>
  cases rx;have e':(∃xs,SqL X.K H p xs/\k = !xs.isEmpty)\/(∃xs,SqT X.K H p xs/\k = !xs.isEmpty)\/∃kvs,H p=some (.dK kvs)/\k = !kvs.isEmpty:=e;rcases e' with ⟨xs,hx,e'⟩|⟨xs,hx,e'⟩|⟨kvs,hx,e'⟩
  ·subst e';obtain⟨its,r,pl,hz⟩:=I.list hx;have hlen:=r.length;exact wpAny_truthy_list pl.isList (by simp only[a7];lia) ⟨H,I.tok _,by rw[nW r];exact q⟩
  ·subst e';obtain⟨its,r,pl,hz⟩:=I.tuple hx;have hlen:=r.length;exact truthy_tuple pl (by simp only[a7];lia) ⟨H,I.tok _,by rw[nW r];exact q⟩
  ·subst e';obtain⟨hz,hS,vs,r,m⟩:kvs.length<=aK/\(p==sysModules)=false/\∃vs,KV kvs vs/\s.heap.DictOf (kK X.prog X.w) p vs:=I.hok p _ hx;have hlen:kvs.length=vs.length:=Paired.length r;exact wpAny_truthy_dict hS m (by lia) ⟨H,I.tok _,by rw[u5 r];exact q⟩
 |_=>exact(show False from e).elim
theorem CB(ha:PE X a ta)(he:∀whole,isTrue a X.env whole=(do let v <-whole;standAt a.pos;holding [v] (truthy v))) :
  PT X a (λσ H Q=>ta σ H λx H'=>∃k,lF X.K x H' k/\Q k H'):=by
 intro pins s σ H Q I h;exact isTrue_plain (thn (ha pins s σ H _ I h) λv s1 ⟨x,H1,I1,r1,q1⟩=>AE pins s1 σ H1 x v Q I1 r1 q1) (he _)
theorem vals1{x:V}{us:List ae}(r:Vals [x] us):∃u,us=[u]/\RelV x u:=by
 cases r with
 |cons r1 r2=>cases r2;exact⟨_,rfl,r1⟩
theorem vals2{x y:V}{us:List ae}(r:Vals [x,y] us):∃u w',us=[u,w']/\RelV x u/\RelV y w':=by
 cases r with
 |cons r1 r2=>
  cases r2 with
  |cons r3 r4=>cases r4;exact⟨_,_,rfl,r1,r3⟩
theorem uI(hc:X.calm=true):zf X (.builtin "max") (λxs H Q=>∃i j,xs=[.int i,.int j]/\Q (.int (if j>i then j else i)) H):=by
 intro pins s σ H xs us Q I r h;obtain⟨i,j,rfl,q⟩:=h;obtain⟨u,w',rfl,⟨t,rfl⟩,⟨t',rfl⟩⟩:=vals2 r;refine max_two_ints (I.ok.hd hc) λh' tk k=>⟨_,H,I.kept k,?_,q⟩
 by_cases hj:j>i
 ·rw[if_pos hj,if_pos hj];exact⟨_,rfl⟩
 ·rw[if_neg hj,if_neg hj];exact⟨_,rfl⟩
theorem CS(hc:X.calm=true):zf X (.builtin "min") (λxs H Q=>∃i j,xs=[.int i,.int j]/\Q (.int (if j<i then j else i)) H):=by
 intro pins s σ H xs us Q I r h;obtain⟨i,j,rfl,q⟩:=h;obtain⟨u,w',rfl,⟨t,rfl⟩,⟨t',rfl⟩⟩:=vals2 r;refine min_two_ints (I.ok.hd hc) λh' tk k=>⟨_,H,I.kept k,?_,q⟩
 by_cases hj:j<i
 ·rw[if_pos hj,if_pos hj];exact⟨_,rfl⟩
 ·rw[if_neg hj,if_neg hj];exact⟨_,rfl⟩
theorem yg:zf X (.type "int") (λxs H Q=>(∃i,xs=[.int i]/\Q (.int i) H)\/∃k,xs=[.bl k]/\Q (.int (if k then 1 else 0)) H):=by
 intro pins s σ H xs us Q I r h;rcases h with ⟨i,rfl,q⟩|⟨k,rfl,q⟩
 ·obtain⟨u,rfl,t,rfl⟩:=vals1 r;exact call_int_int ⟨.int i,H,I,⟨_,rfl⟩,q⟩
 ·obtain⟨u,rfl,r1⟩:=vals1 r;cases r1;exact call_int_bool ⟨.int (if k then 1 else 0),H,I.tok _,⟨_,rfl⟩,q⟩
end
structure mI(h:Heap)(x dx C:Addr)(mA:Str->Option ae):Prop where
 obj:h.get? x=some (PySem.W.instObj C dx)
 ns:h.Ns1 dx mA
 ne:dx≠x
theorem Ee{h:Heap}{dx:Addr}{mA:Str->Option ae}(n:h.Ns1 dx mA):∃od,h.get? dx=some od/\∀name,PySem.W.lookIn name od=some (mA name):=by
 obtain⟨o,es,ep,ho,hd,hk,_,hm⟩:=n;refine⟨o,ho,λname=>?_⟩;have e:=hm name;unfold nsFind findBy at e;rw[<-Array.find?_toList]at e;unfold PySem.W.lookIn;rw[hd];dsimp only;split
 ·rename_i y q
  rw[q]at e;exact congrArg some e
 ·rename_i q
  rw[q]at e;have a:es.toList.any (·.refKey)=false:=by
   rw[List.any_eq_false];intro y hy;obtain⟨z,t,FL⟩:=hk y (Array.mem_toList_iff.mp hy);simp[DictEntry.refKey,FL]
  have a':¬ es.toList.any (·.refKey)=true:=by rw[a];exact bX
  rw[if_neg a'];exact congrArg some e
theorem mI.look{h:Heap}{x dx C:Addr}{mA:Str->Option ae}(I:mI h x dx C mA):∃od,PySem.W.InstAt h x (PySem.W.instObj C dx) C (some od)/\∀name,PySem.W.lookIn name od=some (mA name):=
 let ⟨od,ho,hl⟩:=Ee I.ns
 ⟨od,⟨I.obj,rfl,rfl,ho⟩,hl⟩
section
variable{prog:aB}{w:az}{A:aD}{E:ae->af->Prop}{s:af}{K:aA}{x dx C f:Addr}{mA:Str->Option ae}{name:Str}{v:ae}
end
theorem dD.some_of{v:V}{o:Option ae}(r:dD (some v) o):∃u,o=some u/\RelV v u:=by
 cases o with
 |none=>exact(show False from r).elim
 |some u=>exact⟨u,rfl,r⟩
section
variable{P:aB}{w:az}{H H':Hp}{h h':Heap}{a C dx:Addr}{fs fs':List (Str×V)}
theorem CH(hok:HOk P w H h)(e:H a=some (.ins C dx fs)):∃mA,mI h a dx C mA/\(∀f,dD (fs.lookup f) (mA f))/\PySem.Within mA (fs.map (·.1))/\fs.length<=1000/\H dx=some (.own a):=by
 obtain⟨d,z,ne,ob,mA,n,r,q⟩:=(show zJ P w H h a (.ins C dx fs)from hok a _ e)
 exact⟨mA,⟨ob,n,ne⟩,r,q,z,d⟩
end
structure Cls(K:aA)(C:Addr):Prop where
 pg:PySem.W.plainGet K C Str.empty=true
 hd:PySem.W.hasDictIn K C=true
 po:PySem.W.plainOver K C=true
 sa:PySem.W.findIn K (.ref C) "__setattr__" = some (some (.builtin "object.__setattr__"))
theorem Cls.get{K:aA}{C:Addr}(c:Cls K C)(f:Str):PySem.W.plainGet K C f=true:=c.pg
section
variable{X:Cx}{pins:List (Addr×Obj)}{σ:St}{H:Hp}{s:af}{a C dx:Addr}{fs:List (Str×V)}{f:Str}{v:V}{A:aD}{E:ae->af->Prop}
end
section
variable{X:Cx}{o e value:Expr}{f:Str}{pos pos' tpos:Pos}{ta tv:TE}
end
section
variable{X:Cx}{pins:List (Addr×Obj)}{σ:St}{H:Hp}{s:af}{A:aD}{E:ae->af->Prop}{Q:ae->af->Prop}{c:ae}{b:Bool}
inductive dQ(K:aA)(H:Hp):V->ae->Prop where
 |non:dQ K H .non (.type "NoneType")
 |bl (x:Bool):dQ K H (.bl x) (.type "bool")
 |int (i:Int):dQ K H (.int i) (.type "int")
 |str (x:Str):dQ K H (.str x) (.type "str")
 |flt (x:UInt64):dQ K H (.flt x) (.type "float")
 |lst {a:Addr}{xs:List V} (e:H a=some (.lst xs)):dQ K H (.ref a) (.type "list")
 |frz {a:Addr}{o:Obj}{xs:List V} (e:H a=some (.frz o (.lst xs))):dQ K H (.ref a) (.type "list")
 |tup {a:Addr}{xs:List V} (e:H a=some (.tup xs)):dQ K H (.ref a) (.type "tuple")
 |dK {a:Addr}{kvs:List (Key×V)} (e:H a=some (.dK kvs)):dQ K H (.ref a) (.type "dict")
 |dT {a:Addr}{kvs:List (List Key×V)} (e:H a=some (.dT kvs)):dQ K H (.ref a) (.type "dict")
 |ins {a C dx:Addr}{fs:List (Str×V)} (e:H a=some (.ins C dx fs)) (cl:Cls K C) (ha:PySem.W.findIn K (.ref C) "__class__" = some (some (.builtin "object.__class__")))
   (hn:PySem.W.specialIn K (.builtin "object.__class__") "__get__" = some (some (.builtin "getset_descriptor.__get__"))) (htk:PySem.W.takesIn K (.builtin "object.__class__")=some true)
   (hm:PySem.W.mroIn K C (.type "object")=some true):dQ K H (.ref a) (.ref C)
theorem jD{x:V}{u t:ae}(I:Inv X pins σ H s)(rx:RelV x u)(ty:dQ X.K H x t)(e:cq X.K t c=some b)(h:∀tk,Q (.bool b) {s with toks:=tk}) :
  aq (ar X.prog X.w) A (call (.builtin "isinstance") [u,c]) Q E s:=by
 cases ty with
 |non=>cases (show u=ae.none from rx);exact bL PySem.W.kitx_none I.kIn True.intro e (λz=>nomatch z) h
 |bl y=>cases (show u=bV y from rx);exact bL PySem.W.kitx_bool I.kIn True.intro e (λz=>nomatch z) h
 |int i=>obtain⟨t,q⟩:=(show ∃t,u=ae.int i t from rx);cases q;exact bL PySem.W.kitx_int I.kIn True.intro e (λz=>nomatch z) h
 |str y=>obtain⟨t,q⟩:=(show ∃t,u=ae.str y t from rx);cases q;exact bL PySem.W.kitx_str I.kIn True.intro e (λz=>nomatch z) h
 |flt y=>obtain⟨t,q⟩:=(show ∃t,u=ae.float y t from rx);cases q;exact bL PySem.W.kitx_float I.kIn True.intro e (λz=>nomatch z) h
 | @lst a xs ea=>
  cases (show u=aY a from rx);obtain⟨_,_,n,_,h1⟩:=(show zJ X.prog X.w H s.heap a (.lst xs)from I.hok a _ ea)
  exact bL PySem.W.kitx_list I.kIn ⟨_,h1,rfl⟩ e (λz=>nomatch z) h
 | @frz a ob xs ea=>
  cases (show u=aY a from rx);obtain⟨_,_,_,n,_,h1⟩:=(show zJ X.prog X.w H s.heap a (.frz ob (.lst xs))from I.hok a _ ea)
  exact bL PySem.W.kitx_list I.kIn ⟨_,h1,rfl⟩ e (λz=>nomatch z) h
 | @tup a xs ea=>
  cases (show u=aY a from rx);obtain⟨_,_,_,p⟩:=(show zJ X.prog X.w H s.heap a (.tup xs)from I.hok a _ ea)
  obtain⟨o,h1,h2,_⟩:=p;exact bL PySem.W.kitx_tuple I.kIn ⟨o,h1,h2⟩ e (λz=>nomatch z) h
 | @dK a kvs ea=>
  cases (show u=aY a from rx);obtain⟨_,_,vs,_,p⟩:=(show zJ X.prog X.w H s.heap a (.dK kvs)from I.hok a _ ea)
  obtain⟨o,es,ep,h1,h2,_⟩:=p;exact bL PySem.W.kitx_dict I.kIn ⟨o,h1,h2.1⟩ e (λz=>nomatch z) h
 | @dT a kvs ea=>
  cases (show u=aY a from rx);obtain⟨_,_,xs,_,o,es,ep,h1,h2,_⟩:=(show zJ X.prog X.w H s.heap a (.dT kvs)from I.hok a _ ea)
  exact bL PySem.W.kitx_dict I.kIn ⟨o,h1,h2.1⟩ e (λz=>nomatch z) h
 | @ins a C dx fs ea cl ha hn htk hm=>
  cases (show u=aY a from rx);obtain⟨mA,O,_⟩:=CH I.hok ea;obtain⟨od,J,_⟩:=O.look;exact bL (PySem.W.kitx_own (cl.get _) cl.hd ha hn htk hm) I.kIn J e (λz=>nomatch z) h
end
structure cC(k:Nat)(A:aD):Prop where
 hd:A.handled=none
 dp:A.depth+3 * k+5<recursionLimit
 un:A.units+16 * k+200<cLine
theorem cC.deeper{k:Nat}{A:aD}(r:cC (k+1) A)(env:Env):cC k (A.deeper env):=
 ⟨r.hd,by have:=r.dp;show A.depth+1+3 * k+5<_;lia,by have:=r.un;show A.units+3+16 * k+200<_;lia⟩
theorem cC.depth{k:Nat}{A:aD}(r:cC k A):A.depth<recursionLimit:=by have:=r.dp;lia
theorem cC.units{k:Nat}{A:aD}(r:cC k A):A.units+64<cLine:=by have:=r.un;lia
def uL:TA:=λ_ H Q=>Q [] H
def DH(ta:TE)(tr:TA):TA:=λσ H Q=>ta σ H λx H1=>tr σ H1 λxs H2=>Q (x::xs) H2
section
variable{X:Cx}{e:Expr}{es:List Expr}{te:TE}{t:TA}{pos:Pos}
theorem g8:PA X [] uL:=λ_ _ _ _ H Q I h=>Calls.spliced_nil ⟨[],H,I,.nil,h⟩
theorem gk(ha:PE X e te)(hr:PA X es t)(hs:a_ (e::es) X.env=(false,eval e X.env)::a_ es X.env):PA X (e::es) (DH te t):=by
 intro pos pins s σ H Q I h;rw[hs];show aq _ _ (spliced ((false,eval e X.env)::backTo pos (a_ es X.env))) _ _ s;refine Calls.spliced_cons (thn (ha pins s σ H _ I h) λu s1 ⟨x,H1,I1,r1,q1⟩=>?_);exact thn (hr pos pins s1 σ H1 _ I1 q1) λus s2 ⟨xs,H2,I2,r2,q2⟩=>⟨x::xs,H2,I2,.cons r1 r2,q2⟩
def xK(t:TA):TE:=λσ H Q=>t σ H λxs H1=>xs.length<=aK/\∀p,H1 p=none->Q (.ref p) (upd H1 p (.tup xs))
def D0(t:TA):TE:=λσ H Q=>t σ H λxs H1=>xs.length<=aK/\∀p,H1 p=none->Q (.ref p) (upd H1 p (.lst xs))
theorem CL{x1}(h:PA X es t):PE X (.Tuple es x1 pos) (xK t):=by
 intro pins s σ H Q I hq;refine wpAny_Tuple_spliced (thn (h pos pins s σ H _ I hq) λus s1 ⟨xs,H1,I1,r,z,q⟩=>⟨by rw[<-r.length];exact z,?_⟩);have hf:H1 s1.heap.objs.size=none:=I1.hok.fresh (aF _);refine⟨.ref s1.heap.objs.size,upd H1 s1.heap.objs.size (.tup xs),I1.laid (t':=s1.toks) (λb u e=>Heap.get?_push_of_some _ e) (aF _) ?_,rfl,q _ hf⟩;exact⟨z,us,r,⟨_,Heap.get?_push_size _ rfl,rfl,_,rfl⟩⟩
theorem BW(h:PA X es t):PE X (.List es pos) (D0 t):=by
 intro pins s σ H Q I hq;refine wpAny_List_spliced (thn (h pos pins s σ H _ I hq) λus s1 ⟨xs,H1,I1,r,z,q⟩=>⟨by rw[<-r.length];exact z,?_⟩);have hf:H1 s1.heap.objs.size=none:=I1.hok.fresh (aF _);refine⟨.ref s1.heap.objs.size,upd H1 s1.heap.objs.size (.lst xs),I1.laid (t':=s1.toks) (λb u e=>Heap.get?_push_of_some _ e) (aF _) ?_,rfl,q _ hf⟩;exact⟨z,us,0,r,Heap.get?_push_size _ rfl⟩
end
abbrev Sp:=List V->Hp->VK->XK->Prop
abbrev CXT:=List Env->Hp->af->XK->ae->af->Prop
structure jg(P:aB)(w:az)(K:aA)(mg:Str->Option ae)(base:Heap)(A:aD)(outer:List Env)(s:af)(H:Hp):Prop where
 frames:A.frames=some outer
 mod:Mod K mg base
 bs:∀b o,base.get? b=some o->s.heap.get? b=some o/\H b=none
 bsz:base.objs.size<=s.heap.objs.size
 funs:s.heap.FunFrames base outer
 frf:∀b∈frs outer,H b=none
 hok:HOk P w H s.heap
 bare:AllBare s.gens
def CE(outer:List Env)(P:aB)(w:az)(H:Hp)(s:af)(Q:VK)(u:ae)(s':af):Prop:=
 ∃v H',s'.os=s.os/\AllBare s'.gens/\Un (frs outer) [] H H' s.heap s'.heap/\HOk P w H' s'.heap/\RelV v u/\Q v H'
def CR(CX:CXT)(outer:List Env)(P:aB)(w:az)(H:Hp)(s:af)(Q:VK)(E:XK)(r:Result)(s':af):Prop:=
 match r with
 | .ok (.ret u)=>CE outer P w H s Q u s'
 | .ok _=>False
 | .error e=>CX outer H s E e s'
structure gj(P:aB)(w:az)(K:aA)(mg:Str->Option ae)(base:Heap)(CX:CXT)(k:Nat)(f:Addr)(fd:FuncData)(ps:List Str)(sp:Sp):Prop where
 len:∀vs H Q E,sp vs H Q E->vs.length=ps.length
 run:∀(A:aD) (outer:List Env) (s:af) (H:Hp) (args:Args) (us:List ae) (vs:List V) (Q:VK) (E:XK),cC k A->jg P w K mg base A outer s H->BindsTo s fd args (ps.zip us)->Vals vs us->sp vs H Q E ->
  codeAny (ar P w) A (.call (.ref f) args) (CR CX outer P w H s Q E) s
section
variable{X:Cx}{pins:List (Addr×Obj)}{σ:St}{H:Hp}{s s':af}
theorem Inv.env0(I:Inv X pins σ H s):jg X.prog X.w X.K X.mg X.base X.A X.stack s H:=
 ⟨I.ok.frames,I.ok.mod,I.bs,a8 I.ok.bsz I.sz,I.stack,I.stkFree,I.hok,I.bare⟩
theorem Inv.after{Q:VK}{u:ae}(I:Inv X pins σ H s)(h:CE X.stack X.prog X.w H s Q u s'):EP X pins σ Q u s':=by
 obtain⟨v,H',os,bare,un,hok,r,q⟩:=h;obtain⟨hh,g,d,t,HC⟩:=s';obtain rfl:HC=s.os:=os;exact⟨v,H',I.call (h':=hh) (g':=g) (d':=d) (t':=t) (ch:=[]) un hok bare (λb z=>absurd z (by simp)),r,q⟩
end
def mN(sp:Sp)(FN:List V)(E:XK)(t:TA):TE:=λσ H Q=>t σ H λvs H1=>sp (vs++FN) H1 Q E
def Binds(K:aA)(fd:FuncData)(ps:List Str)(ds:List ae):Prop:=
 ∀(s:af) (us:List ae),K.In s.heap->(us++ds).length=ps.length->BindsTo s fd ⟨us,[]⟩ (ps.zip (us++ds))
theorem Binds.all{K:aA}{fd:FuncData}{ps:List Str}(h:∀us:List ae,us.length=ps.length->bindArgs fd ⟨us,[]⟩=pure (ps.zip us)):Binds K fd ps []:=λs us _ hl=>by
 rw[cb]at hl ⊢;exact .of_eq (h us hl)
def Passes(CX:CXT)(X:Cx)(E:XK):Prop:=∀(pins:List (Addr×Obj)) (σ:St) (H:Hp) (s:af) (e:ae) (s':af),Inv X pins σ H s->CX X.stack H s E e s'->X.xe e s'
section
variable{X:Cx}{CX:CXT}{k:Nat}{f C:Addr}{fd:FuncData}{ps:List Str}{sp:Sp}{FN:List V}{ds:List ae}{E:XK}{x m:Str}{p pos apos:Pos}{e o:Expr}{es:List Expr}{ta:TE}{t:TA}
theorem tK{pins:List (Addr×Obj)}{σ:St}{H:Hp}{s:af}{Q:VK}{us:List ae}{vs:List V}(F:gj X.prog X.w X.K X.mg X.base CX k f fd ps sp)(hr:cC k X.A)(hb:Binds X.K fd ps ds)(hd:Vals FN ds)(hx:Passes CX X E)
  (I:Inv X pins σ H s) (r:Vals vs us) (h:sp (vs++FN) H Q E):aq (ar X.prog X.w) X.A (call (.ref f) us) (EP X pins σ Q) X.xe s:=by
 have r2:Vals (vs++FN) (us++ds):=r.append hd;have hl:(us++ds).length=ps.length:=by rw[<-r2.length];exact F.len _ _ _ _ h
 refine wpAny_call (codeAny_mono (F.run X.A X.stack s H ⟨us,[]⟩ (us++ds) (vs++FN) Q E hr I.env0 (hb s us I.kIn hl) r2 h) λr s' hq=>?_);cases r with
 |error e=>exact hx pins σ H s e s' I hq
 |ok fl=>
  cases fl with
  |ret u=>exact I.after hq
  |next=>exact bH hq
  |brk=>exact bH hq
  |cont=>exact bH hq
theorem B8(F:gj X.prog X.w X.K X.mg X.base CX k f fd ps sp)(hr:cC k X.A)(hg:Gl X x)(hm:X.mg x=some (.ref f))(hk:cR X.K (.ref f)=true)(hb:Binds X.K fd ps ds)(hd:Vals FN ds)(hx:Passes CX X E)
  (ha:PA X (e::es) t) (Hb:(x==("__debug__" : Str))=false) (he:a_ (e::es) X.env=(false,eval e X.env)::a_ es X.env) (G3:(backTo pos (a_ es X.env)).any (·.1)=false) :
  PE X (.Call (.Name x p) (e::es) [] pos) (mN sp FN E t):=by
 intro pins s σ H Q I h;refine wpAny_Call_Name_kw (lK I hg hm ?_ Hb);refine PySem.W.callWith_K (h₀:=X.base) I.ok.mod.kin hk (thn (ha pos pins s σ H _ I h) λus s1 ⟨vs,H1,I1,r,q⟩=>⟨I1.kIn,?_⟩) he G3;exact tK F hr hb hd hx I1 r q
end
section
variable{X:Cx}{CX:CXT}{k:Nat}{f C:Addr}{fd:FuncData}{ps ks:List Str}{sp:Sp}{E:XK}{x m:Str}{p pos apos kpos:Pos}{e o:Expr}{es:List Expr}{Ng:List Keyword}{te ta:TE}{t tk:TA}{nm:Option Str}
variable{g:List ae->List ae->List ae}{gV:List V->List V->List V}
end
structure iL(N P:List Str)(sc:aR):Prop where
 kind:sc.kind=.function
 co:sc.isCoroutine=false
 gen:sc.isGenerator=false
 nd:N.Nodup
 pre:N.take P.length=P
 par:∀x∈P,sc.names.lookup x=some .local\/sc.names.lookup x=some .cell
 nofree:∀y∈sc.names,y.2≠.free
theorem m8{kindOf:Str->Option aW}{x:Str}:∀{binds:List (Str×ae)}{m:Str->Option ae},(∀v,(x,v)∉binds)->bindL kindOf binds m x=m x
 | [],_,_=>rfl
 | (n,v)::r,m,h=>by
  unfold bindL;rw[m8 λw hw=>h w (aO _ hw)];split
  ·have:x≠n:=by rintro rfl;exact h v aL
   simp[this]
  ·rfl
theorem nZ{kindOf:Str->Option aW}{x:Str}:∀{binds:List (Str×ae)}{m:Str->Option ae},(∀v,(x,v)∉binds)->bindC kindOf binds m x=m x
 | [],_,_=>rfl
 | (n,v)::r,m,h=>by
  unfold bindC;rw[nZ λw hw=>h w (aO _ hw)];split
  ·rfl
  ·have:x≠n:=by rintro rfl;exact h v aL
   simp[this]
theorem m4{kindOf:Str->Option aW}{x:Str}{v:ae}:∀{P:List Str}{vs:List ae}{i:Nat}{m:Str->Option ae},P.Nodup->P[i]? = some x->vs[i]? = some v->kindOf x=some .local ->
  bindL kindOf (P.zip vs) m x=some v
 | [],_,_,_,_,h,_,_=>by simp at h
 |_::_,[],_,_,_,_,h,_=>by simp at h
 |p::P,w::vs,0,m,nd,h1,h2,hk=>by
  simp at h1 h2;subst h1;subst h2;show bindL kindOf ((p,w)::P.zip vs) m p=_;unfold bindL;rw[m8 λv hv=>(List.nodup_cons.mp nd).1 (List.of_mem_zip hv).1,if_pos hk];simp
 |p::P,w::vs,i+1,m,nd,h1,h2,hk=>by
  show bindL kindOf ((p,w)::P.zip vs) m x=_;unfold bindL;exact m4 (i:=i) (List.nodup_cons.mp nd).2 (by simpa using h1) (by simpa using h2) hk
theorem oV{kindOf:Str->Option aW}{x:Str}{v:ae}:∀{P:List Str}{vs:List ae}{i:Nat}{m:Str->Option ae},P.Nodup->P[i]? = some x->vs[i]? = some v->kindOf x≠some .local ->
  bindC kindOf (P.zip vs) m x=some v
 | [],_,_,_,_,h,_,_=>by simp at h
 |_::_,[],_,_,_,_,h,_=>by simp at h
 |p::P,w::vs,0,m,nd,h1,h2,hk=>by
  simp at h1 h2;subst h1;subst h2;show bindC kindOf ((p,w)::P.zip vs) m p=_;unfold bindC;rw[nZ λv hv=>(List.nodup_cons.mp nd).1 (List.of_mem_zip hv).1,if_neg hk];simp
 |p::P,w::vs,i+1,m,nd,h1,h2,hk=>by
  show bindC kindOf ((p,w)::P.zip vs) m x=_;unfold bindC;exact oV (i:=i) (List.nodup_cons.mp nd).2 (by simpa using h1) (by simpa using h2) hk
noncomputable def start(N:List Str)(vs:List V):St:=vs.map some++bY (N.length-vs.length) none
noncomputable def fD(CX:CXT)(P:aB)(w:az)(K:aA)(mg:Str->Option ae)(base:Heap)(N:List Str)(qual:Str)(scope:aR)(f:Addr)(cd:ae)(A:aD)(outer:List Env)(s:af)(H:Hp)(E:XK):Cx where
 prog:=P
 w:=w
 K:=K
 mg:=mg
 base:=base
 A:=A.deeper (envOfC qual scope s.heap.objs.size f cd)
 N:=N
 s₀:=s
 H₀:=H
 env:=envOfC qual scope s.heap.objs.size f cd
 outer:=outer
 stack:=envOfC qual scope s.heap.objs.size f cd::outer
 ex:=[]
 calm:=true
 fn:=λ_=>true
 pn:=[]
 xe:=λe s'=>aq (ar P w) (A.deeper (envOfC qual scope s.heap.objs.size f cd)) (leaving (envOfC qual scope s.heap.objs.size f cd) e) (λ_ s''=>CX outer H s E e s'') (λe' s''=>CX outer H s E e' s'') s'
theorem kg{sc:aR}{n:Nat}{x:Str}(h:sc.names.lookup x=some .cell):∃c,(bt n sc.names []).lookup x=some c:=by
 have q:=PySem.W.cellsFrom_some sc.names n [] (.inl h);exact Option.isSome_iff_exists.mp q
theorem t6{CX:CXT}{P:aB}{w:az}{K:aA}{mg:Str->Option ae}{base:Heap}{N ps:List Str}{qual:Str}{scope:aR}{f:Addr}{cd:ae}{A:aD}{outer:List Env}{s s1:af}{H:Hp}{E:XK}{us:List ae}{vs:List V}
  (S:iL N ps scope) (hd:A.handled=none) (e0:jg P w K mg base A outer s H) (hl:vs.length=ps.length) (r:Vals vs us)
  (x:InCallC s s.heap.objs.size (bindL (envOfC qual scope s.heap.objs.size f cd).kindOf (ps.zip us) λ_=>none) (bt (s.heap.objs.size+1) scope.names []) (bindC (envOfC qual scope s.heap.objs.size f cd).kindOf (ps.zip us) λ_=>none) s1) :
  Inv (fD CX P w K mg base N qual scope f cd A outer s H E) [] (start N vs) H s1:=by
 have G3:ps.length<=N.length:=by have:=congrArg List.length S.pre;rw[dn]at this;lia
 obtain⟨h1,tk,rfl,hk⟩:=x.done;have HP:∀b:Addr,b∉(fD CX P w K mg base N qual scope f cd A outer s H E).ex:=λb z=>absurd (show b∈([]:List Addr)from z) (by simp)
 refine⟨⟨e0.mod,S.kind,rfl,rfl,aF _,λy z c h1 h2=>?_,λy hy=>?_,λy c _ h=>?_,λ_=>hd,aD.frames_deeper e0.frames,.inr ⟨rfl,rfl⟩,λb z=>absurd z (HP b),e0.bs,e0.bsz,λb _ _=>HP b,λb z=>absurd z (HP b),e0.funs,e0.frf⟩,
  rfl,e0.bare,Un.kept hk,⟨_,x.toInCall.ns,λi y v h1 h2 h3=>?_⟩,λy c h=>⟨_,x.cell y c h⟩,e0.hok.fresh (aF _),λy c h=>?_,λp hp=>absurd (show p∈([]:List (Addr×Obj))from hp) (by simp),e0.hok.kept hk,?_⟩
 ·exact name_of_addr x.apart (cm h1) (cm h2)
 ·have hy:scope.names.lookup y=some .cell\/scope.names.lookup y=some .free:=hy;rcases hy with hy|hy
  ·exact kg hy
  ·exact absurd rfl (S.nofree _ (cm hy))
 ·exact Nat.le_of_lt (x.above y c (cm h))
 ·have hi:i<vs.length:=by
   unfold start at h2;by_cases hi:i<vs.length
   ·exact hi
   ·rw[List.getElem?_append_right (by simpa using hi)]at h2;rw[List.getElem?_replicate]at h2;split at h2<;>cases h2
  have ha:vs[i]? = some v:=by
   unfold start at h2;rw[List.getElem?_append_left (by simpa using hi),List.getElem?_map]at h2;cases e:vs[i]? with
   |none=>rw[e]at h2;cases h2
   |some a=>rw[e]at h2;cases h2;rfl
  obtain⟨u,hu,rv⟩:=r.get ha;have hp:ps[i]? = some y:=by
   rw[<-S.pre,List.getElem?_take_of_lt (by lia)];exact h1
  have Kw:ps.Nodup:=by rw[<-S.pre];exact S.nd.sublist (List.take_sublist _ _)
  refine⟨u,rv,?_⟩;rcases S.par y (List.mem_of_getElem? hp)with k|k
  ·exact .inl ⟨k,m4 Kw hp hu k⟩
  ·obtain⟨c,e⟩:=kg (n:=s.heap.objs.size+1) k;refine .inr ⟨.inl k,c,e,?_⟩;have q:=x.cell y c e;rw[oV Kw hp hu (by show scope.names.lookup y≠_;rw[k];decide)]at q;exact q
 ·exact e0.hok.fresh (Nat.le_of_lt (x.above y c (cm h)))
 ·unfold start;show _=N.length;rw[di,aV,List.length_replicate];lia
theorem xk{CX:CXT}{P:aB}{w:az}{K:aA}{mg:Str->Option ae}{base:Heap}{k:Nat}{f:Addr}{name qual:Str}{params:Arguments}{body:List Stmt}{scope:aR}{dV kV doc pm cdv ct oc:ae}{an od:Option Addr}
  {osl:Array (Option ae)}{N ps:List Str}{sp:Sp} (lk:K.lookup f=some ⟨oc,od,.func (cw name qual params body scope dV kV doc pm an cdv ct),osl⟩) (F5:PySem.W.codeIn K cdv qual=true) (S:iL N ps scope)
  (len:∀vs H Q E,sp vs H Q E->vs.length=ps.length)
  (Fd:∀(A:aD) (outer:List Env) (s:af) (H:Hp) (vs:List V) (Q:VK) (E:XK),cC k (A.deeper (envOfC qual scope s.heap.objs.size f cdv))->sp vs H Q E ->
   ∃t,PSs (fD CX P w K mg base N qual scope f cdv A outer s H E) body t/\t {nx:=λ_ H'=>Q .non H',rt:=Q} (start N vs) H) :
  gj P w K mg base CX (k+1) f (cw name qual params body scope dV kV doc pm an cdv ct) ps sp:=by
 refine⟨len,λA outer s H args us vs Q E hr e0 hb r GI=>?_⟩;have hl:=len _ _ _ _ GI;have KX:K.In s.heap:=e0.mod.kin.keeps λb o e=>(e0.bs b o e).1
 have lim:s.heap.NoLimit:=e0.mod.nolimit.keeps λb o e=>(e0.bs b o e).1
 have HQ:∀y∈ps.zip us,scope.names.lookup y.1=some .local\/(scope.names.lookup y.1=some .cell/\((bt (s.heap.objs.size+1) scope.names []).lookup y.1).isSome=true):=λ⟨n,v⟩ hy=>by
  rcases S.par n (List.of_mem_zip hy).1 with q|q
  ·exact .inl q
  ·exact .inr ⟨q,PySem.W.cellsFrom_some _ _ _ (.inl q)⟩
 refine codeAny_call_function hr.depth (KX _ _ lk) rfl S.co S.gen rfl (PySem.W.codeRec_of KX F5) (hb _ _ _ _ ?_);refine wpAny_newFunctionEnv_cells S.kind HQ λenv he s1 x=>?_
 subst he;refine⟨lim.keeps x.toInCall.keep,codeAny_func ?_⟩;obtain⟨t,ht,hq⟩:=Fd A outer s H vs Q E (hr.deeper _) GI;have I:Inv (fD CX P w K mg base N qual scope f cdv A outer s H E) [] (start N vs) H s1:=t6 S hr.hd e0 hl r x;refine bD (ht [] s1 (start N vs) H _ I hq) (λfl s' hs=>?_) λe s' hs=>hs
 have fin:∀{σ':St}{H':Hp}{v:V}{u:ae},Inv (fD CX P w K mg base N qual scope f cdv A outer s H E) [] σ' H' s'->RelV v u->Q v H'->CE outer P w H s Q u s':=
  λ{σ' H' v u} J rv q=>⟨v,H',J.os,J.bare,J.base,J.hok,rv,q⟩
 cases fl with
 |ret u=>
  obtain⟨v,σ',H',J,rv,q⟩:=hs;exact fin J rv q
 |next=>
  obtain⟨σ',H',J,q⟩:=hs;exact fin (v:=V.non) (u:=ae.none) J rfl q
 |brk=>
  obtain⟨_,_,_,q⟩:=hs;exact bH q
 |cont=>
  obtain⟨_,_,_,q⟩:=hs;exact bH q
section
variable{X:Cx}{x:Str}{p pos:Pos}{e:Expr}{es:List Expr}{t:TA}{id T:String}{r:List V->Hp->VK->Prop}
def tCB(r:List V->Hp->VK->Prop)(t:TA):TE:=λσ H Q=>t σ H λvs H1=>r vs H1 Q
theorem pD(hc:zf X (.builtin id) r)(hg:Gl X x)(hm:X.mg x=none)(hv:bU x=some (.builtin id))(ha:PA X (e::es) t)(hn:x≠"__name__")(Hb:(x==("__debug__" : Str))=false)
  (he:a_ (e::es) X.env=(false,eval e X.env)::a_ es X.env) (G3:(backTo pos (a_ es X.env)).any (·.1)=false):PE X (.Call (.Name x p) (e::es) [] pos) (tCB r t):=by
 intro pins s σ H Q I h;refine wpAny_Call_Name_kw (gX I hg hm hv ?_ hn Hb);exact PyProof.Rows.callWith_builtin1 (thn (ha pos pins s σ H _ I h) λus s1 ⟨vs,H1,I1,r1,q1⟩=>hc pins s1 σ H1 vs us Q I1 r1 q1) he G3
theorem xu(hc:zf X (.type T) r)(hg:Gl X x)(hm:X.mg x=none)(hv:bU x=some (.type T))(ha:PA X (e::es) t)(hn:x≠"__name__")(Hb:(x==("__debug__" : Str))=false)
  (he:a_ (e::es) X.env=(false,eval e X.env)::a_ es X.env) (G3:(backTo pos (a_ es X.env)).any (·.1)=false):PE X (.Call (.Name x p) (e::es) [] pos) (tCB r t):=by
 intro pins s σ H Q I h;refine wpAny_Call_Name_kw (gX I hg hm hv ?_ hn Hb);exact PyProof.Rows.callWith_type1 (thn (ha pos pins s σ H _ I h) λus s1 ⟨vs,H1,I1,r1,q1⟩=>hc pins s1 σ H1 vs us Q I1 r1 q1) he G3
end
end L2
namespace HT
open PySem PyProof.Rows
noncomputable def lexLt:List Int->List Int->Bool
 | [],[]=>false
 | [],_::_=>true
 |_::_,[]=>false
 |x::xs,y::ys=>if x=y then lexLt xs ys else decide (x<y)
theorem pR(x y:Int)(xs ys:List Int):lexLt (x::xs) (y::ys)=if x=y then lexLt xs ys else decide (x<y):=rfl
theorem oO:lexLt [] []=false:=rfl
theorem sJ(y:Int)(ys:List Int):lexLt [] (y::ys)=true:=rfl
theorem sG(x:Int)(xs:List Int):lexLt (x::xs) []=false:=rfl
theorem Aw(A:aD)(s:af)(a:Int)(t:Tok)(c:Int)(u:Tok):∃e,SeqAt.EqAt A s (.int a t) (.int c u) e/\(e=true↔a=c):=
 ⟨(a==c),SeqAt.EqAt.int_int a t c u,by simp⟩
theorem uP(A:aD)(s:af)(a:Int)(t:Tok)(c:Int)(u:Tok)(prog:aB)(w:az)(E:ae->af->Prop)(Q:ae->af->Prop)(h:Q (.bool (decide (a<c))) s) :
  aq (ar prog w) A (richCompare .Lt (.int a t) (.int c u)) Q E s:=
 (PyProof.Rows.lt_int h:aq (ar prog w) A (a6 .Lt (.int a t) (.int c u)) Q E s)
section
open PySem.SeqAt
open PySem.AutoSeq1 (wpAny_loadPart')
open PySem.MeetsSeq PySem.MeetsSeq2 PySem.MeetsSeq3
theorem tm(l b:Addr)(items E2:Array ae)(n n2:Nat)(dd F6:Option Addr)(sl GJ:Array (Option ae))(ns ms:List Int)(hi:bg items.toList ns)(hj:bg E2.toList ms) :
  Meets (Builtin.«tuple.__lt__» ⟨[.ref l,.ref b],[]⟩)
   (λ_ R s=>s.heap.get? l=some {cls:=.type "tuple",dict:=dd,data:=.seq items n,slots:=sl}/\s.heap.get? b=some {cls:=.type "tuple",dict:=F6,data:=.seq E2 n2,slots:=GJ} /\
    R (.ok (.ret (.bool (lexLt ns ms)))) s):=
 .of_wp λprog w A R s h=>by
  obtain⟨hp,g,d,tk,os⟩:=s;obtain⟨hl,hb,h⟩:=h;have f2:=AutoSeq1.sub_tuple_tuple;have z1:items.size=ns.length:=by rw[<-hi.length];simp
  have z2:E2.size=ms.length:=by rw[<-hj.length];simp
  wp_walk using wpAny_loadPart' hl,wpAny_loadPart' hb,wpAny_forIn_list _ (λrest b s'=>b.1=none/\s'=⟨hp,g,d,tk,os⟩/\∃(vs ws:List ae) (Fl HD:List Int),rest=vs.zip ws /\
   bg vs Fl/\bg ws HD/\Fl.length+E2.size=HD.length+items.size/\R (.ok (.ret (.bool (lexLt Fl HD)))) ⟨hp,g,d,tk,os⟩) _
  case turn=>
   rintro⟨y,x⟩ rest b s' ⟨Ff,rfl,vs,ws,Fl,HD,hz,JC,IH,hlen,hR⟩;cases JC with
   |nil=>rw[List.zip_nil_left]at hz;cases hz
   |cons a t JD=>
    cases IH with
    |nil=>rw[List.zip_nil_right]at hz;cases hz
    |cons c u JE=>
     rw[List.zip_cons_cons]at hz;injection hz with Lj Gp
     injection Lj with hy hx
     subst hy hx;rw[pR]at hR;simp only[b_]at hlen;obtain⟨e,he,HR⟩:=Aw A.in1 ⟨hp,g,d,tk,os⟩ a t c u;refine ah (he prog w _ _ ?_);cases e with
     |true=>
      rw[if_pos (HR.mp rfl)]at hR
      wp_walk
      exact⟨rfl,rfl,_,_,_,_,Gp,JD,JE,by lia,hR⟩
     |false=>
      rw[if_neg (λq=>absurd (HR.mpr q) bX)]at hR;have Lk:=uP A.in1 ⟨hp,g,d,tk,os⟩ a t c u prog w
      wp_walk using Lk
      exact⟨_,rfl,by simpa using hR⟩
  case fin=>
   rintro⟨b1,b2⟩ s' ⟨Ff,rfl,vs,ws,Fl,HD,hz,JC,IH,hlen,hR⟩;simp only at Ff;subst Ff;have hv:lexLt Fl HD=decide (items.size<E2.size):=by
    cases JC with
    |nil=>
     cases IH with
     |nil=>
      simp only[List.length_nil]at hlen;rw[oO];exact(decide_eq_false (by lia)).symm
     |cons c u hw=>
      simp only[List.length_nil,b_]at hlen;rw[sJ];exact(decide_eq_true (by lia)).symm
    |cons a t hv=>
     cases IH with
     |nil=>
      simp only[List.length_nil,b_]at hlen;rw[sG];exact(decide_eq_false (by lia)).symm
     |cons c u hw=>
      rw[List.zip_cons_cons]at hz;cases hz
   rw[hv]at hR
   wp_walk
   exact⟨_,rfl,by simpa[Builtin.Tuple.tupleCompareSizes]using hR⟩
  case h=>
   exact⟨rfl,rfl,items.toList,E2.toList,ns,ms,rfl,hi,hj,by lia,h⟩
end
section
variable{prog:aB}{w:az}{A:aD}{E:ae->af->Prop}{s:af}
theorem uY{l b:Addr}{items E2:Array ae}{ns ms:List Int}{Q:ae->af->Prop}(hl:IsTup s.heap l items)(hb:IsTup s.heap b E2)(hi:bg items.toList ns)(hj:bg E2.toList ms)
  (hu:A.units<cLine) (h:Q (.bool (lexLt ns ms)) s):aq (ar prog w) A (a6 .Lt (.ref l) (.ref b)) Q E s:=by
 obtain⟨⟨cls,dd,data,sl⟩,ho,hc,n,hd⟩:=id hl;obtain⟨⟨Hc,F6,data2,GJ⟩,FO,Fy,n2,hd2⟩:=id hb;simp only at hc hd Fy hd2;subst hc hd Fy hd2;exact richCompare_meets_room (op:=.Lt) ⟨_,ho,rfl⟩ ⟨_,FO,rfl⟩ PySem.F.slot_tuple_lt PySem.F.entry_tuple_lt (PySem.F.args_tuple_lt_2 _ _) (tm l b items E2 n n2 dd F6 sl GJ ns ms hi hj)
  ⟨ho,FO,show bV (lexLt ns ms)≠ae.notImplemented/\Q (.bool (lexLt ns ms)) s from ⟨(λx=>nomatch x),h⟩⟩ hu
theorem xA{t b:Addr}{vs ws:List ae}{Q:ae->af->Prop}(ht:IsTup s.heap t vs.toArray)(hb:IsTup s.heap b ws.toArray)(hv:vs≠[])
  (h1:ws=[]->Q (.ref t) s) (h2:ws≠[]->Q (.ref s.heap.objs.size) {s with heap:=s.heap.push {cls:=.type "tuple",data:=.seq (vs++ws).toArray}})
  (hsz:vs.length+ws.length<=aK):aq (ar prog w) A (bI .Add (.ref t) (.ref b)) Q E s:=by
 obtain⟨⟨cls,dd,data,sl⟩,ho,hc,n,hd⟩:=id ht;obtain⟨⟨Hc,F6,data2,GJ⟩,FO,Fy,n2,hd2⟩:=id hb;simp only at hc hd Fy hd2;subst hc hd Fy hd2;have e:vs.toArray++ws.toArray=(vs++ws).toArray:=by simp
 by_cases hw:ws=[]
 ·exact concat_meets ⟨_,ho,rfl⟩ ⟨_,FO,rfl⟩ noFill_tuple_add seq_tuple_add PySem.F.slot_tuple_add PySem.F.entry_tuple_add (PySem.F.args_tuple_add_2 _ _)
   (tuple_addW1 t b vs.toArray ws.toArray n n2 dd F6 sl GJ (by simpa using hv) (by simp[hw])) ⟨ho,FO,h1 hw⟩
 ·refine concat_meets ⟨_,ho,rfl⟩ ⟨_,FO,rfl⟩ noFill_tuple_add seq_tuple_add PySem.F.slot_tuple_add PySem.F.entry_tuple_add (PySem.F.args_tuple_add_2 _ _)
   (tuple_addW2 t b vs.toArray ws.toArray n n2 dd F6 sl GJ (by simpa using hv) (by simpa using hw) (by rw[a7,a7];exact hsz)) ⟨ho,FO,?_⟩
  rw[e];exact h2 hw
noncomputable def sIx(n d:Nat):Option Int->Nat
 |none=>d
 |some v=>if v<0 then (v+(n:Int)).toNat else min v.toNat n
end
end HT
namespace L2
open PySem PySem.Spec PyProof.Rows
abbrev TO:=St->Hp->(Option Int->Hp->Prop)->Prop
def PO(X:Cx)(e:Option Expr)(t:TO):Prop:=
 ∀(pins:List (Addr×Obj)) (s:af) (σ:St) (H:Hp) (Q:Option Int->Hp->Prop),Inv X pins σ H s->t σ H Q ->
  aq (ar X.prog X.w) X.A (evalPart e X.env) (λu s'=>∃o H',Inv X pins σ H' s'/\IsPart u o/\Q o H') X.xe s
def Di:TO:=λ_ H Q=>Q none H
def ym(t:TE):TO:=λσ H Q=>t σ H λx H1=>∃i,x=.int i/\Q (some i) H1
theorem intsAre_of{ns:List Int}:∀{us:List ae},Vals (ns.map V.int) us->bg us ns:=by
 induction ns with
 |nil=>intro us r;rw[List.map_nil]at r;cases r;exact .nil
 |cons n ns ih=>
  intro us r;rw[aJ]at r;cases r with
  |cons r1 r2=>
   obtain⟨t,e⟩:=r1;subst e;exact .cons n t (ih r2)
section
variable{X:Cx}{e:Expr}{te:TE}{lo hi:Option Expr}{tl th:TO}{pos p2:Pos}
theorem wW:PO X none Di:=by
 intro pins s σ H Q I h;rw[evalPart_none];exact aC ⟨none,H,I,.none,h⟩
theorem EA(h:PE X e te):PO X (some e) (ym te):=by
 intro pins s σ H Q I hw;rw[evalPart_some];refine thn (h pins s σ H _ I hw) λu s1 ⟨x,H1,I1,r1,q1⟩=>?_
 obtain⟨i,rfl,q⟩:=q1;obtain⟨t,rfl⟩:=r1;exact⟨some i,H1,I1,.int i t,q⟩
def SlR(X:Cx)(r:V->Option Int->Option Int->Hp->VK->Prop):Prop:=
 ∀(pins:List (Addr×Obj)) (s:af) (σ:St) (H:Hp) (x:V) (v vl vu:ae) (lo hi:Option Int) (sl:Addr) (Q:VK),Inv X pins σ H s->RelV x v->s.heap.IsSliceOf sl vl vu .none->IsPart vl lo->IsPart vu hi->r x lo hi H Q ->
  ∃T id,typeLookup (.type T) "__getitem__" = pure (some (.builtin id))/\s.TypeIs v T/\aq (ar X.prog X.w) X.A (getItem v (.ref sl)) (EP X pins σ Q) X.xe s
def tSl(r:V->Option Int->Option Int->Hp->VK->Prop)(te:TE)(tl th:TO):TE:=λσ H Q=>te σ H λx H1=>tl σ H1 λl H2=>th σ H2 λu H3=>r x l u H3 Q
theorem wq{r:V->Option Int->Option Int->Hp->VK->Prop}(hr:SlR X r)(he:PE X e te)(hl:PO X lo tl)(hu:PO X hi th):PE X (.Subscript e (.Slice lo hi none p2) pos) (tSl r te tl th):=by
 intro pins s σ H Q I h;refine Subscript_ (thn (he pins s σ H _ I h) λv s1 ⟨x,H1,I1,r1,q1⟩=>?_);refine wpAny_Slice (thn (hl pins s1 σ H1 _ I1 q1) λvl s2 ⟨l,H2,I2,pl,q2⟩=>thn (hu pins s2 σ H2 _ I2 q2) λvu s3 ⟨u,H3,I3,pu,q3⟩=>?_);rw[evalPart_none];refine aC ?_;have I4:Inv X pins σ H3 {s3 with heap:=s3.heap.push {cls:=.type "slice",data:=.fields #[vl,vu,.none]}}:=I3.kept (t':=s3.toks) λb ob q=>Heap.get?_push_of_some _ q
 obtain⟨T,id,hT,ht,hg⟩:=hr pins {s3 with heap:=s3.heap.push {cls:=.type "slice",data:=.fields #[vl,vu,.none]}} σ H3 x v vl vu l u s3.heap.objs.size Q I4 r1 (Heap.IsSliceOf.new ..) pl pu q3;show aq (ar X.prog X.w) X.A (subscriptTail e (.Slice lo hi none p2) v (.ref s3.heap.objs.size)) (EP X pins σ Q) X.xe {s3 with heap:=s3.heap.push {cls:=.type "slice",data:=.fields #[vl,vu,.none]}};exact tail_any (ops:=[.ref s3.heap.objs.size,v]) ht hT hg (by with_unfolding_all rfl)
noncomputable def ip(xs:List V)(lo hi:Option Int):List V:=(xs.drop (HT.sIx xs.length 0 lo)).take (HT.sIx xs.length xs.length hi-HT.sIx xs.length 0 lo)
theorem yx(xs:List V)(lo hi:Option Int):(ip xs lo hi).length<=xs.length:=by
 unfold ip;rw[dn,List.length_drop];lia
def xZ(K:aA):R2:=λx y H Q=>∃a b ns ms,x=.ref a/\y=.ref b/\SqT K H a (ns.map V.int)/\SqT K H b (ms.map V.int)/\Q (.bl (HT.lexLt ns ms)) H
theorem Dw(hu:X.A.units<cLine):OpR X (a6 .Lt) (xZ X.K):=by
 intro pins s σ H x y v u Q I rx ry h;obtain⟨a,b,ns,ms,rfl,rfl,ha,hb,q⟩:=h;cases rx;cases ry;obtain⟨its,r1,p1,_⟩:=I.tuple ha;obtain⟨FD,r2,p2,_⟩:=I.tuple hb;have i1:bg its.toArray.toList ns:=intsAre_of r1;have i2:bg FD.toArray.toList ms:=intsAre_of r2;exact HT.uY p1 p2 i1 i2 hu ⟨.bl (HT.lexLt ns ms),H,I,rfl,q⟩
def x8(K:aA):R2:=λx y H Q=>∃a b xs ys,x=.ref a/\y=.ref b/\SqT K H a xs/\SqT K H b ys/\xs≠[]/\xs.length+ys.length<=aK /\
 (ys=[]->Q (.ref a) H)/\(ys≠[]->∀p,H p=none->Q (.ref p) (upd H p (.tup (xs++ys))))
theorem Vals.nil_iff{xs:List V}{us:List ae}(r:Vals xs us):us=[]↔xs=[]:=by
 cases r with
 |nil=>simp
 |cons _ _=>simp
theorem Bp:OpR X (bI .Add) (x8 X.K):=by
 intro pins s σ H x y v u Q I rx ry h;obtain⟨a,b,xs,ys,rfl,rfl,ha,hb,hx,hz,q1,q2⟩:=h;cases rx;cases ry;obtain⟨its,r1,p1,_⟩:=I.tuple ha;obtain⟨FD,r2,p2,_⟩:=I.tuple hb;refine HT.xA p1 p2 (λz=>hx (r1.nil_iff.mp z)) (λz=>⟨.ref a,H,I,rfl,q1 (r2.nil_iff.mp z)⟩) (λz=>?_) (by rw[<-r1.length,<-r2.length];exact hz);refine⟨.ref s.heap.objs.size,_,I.laid (t':=s.toks) (o:=.tup (xs++ys)) (λb ob q=>Heap.get?_push_of_some _ q) (aF _) ?_,rfl,q2 (λw=>z (r2.nil_iff.mpr w)) _ (I.hok.fresh (aF _))⟩;exact⟨by rw[di];exact hz,_,r1.append r2,IsTup.new _ _⟩
end
noncomputable def ixN(n:Nat)(i:Int):Option Nat:=if 0<=i then (if i<n then some i.toNat else none)else if -(n:Int)<=i then some (i+n).toNat else none
noncomputable def atI{α:Type}(xs:List α)(i:Int):Option α:=(ixN xs.length i).bind λj=>xs[j]?
theorem mX{n:Nat}{i:Int}{j:Nat}(h:ixN n i=some j):seqIndex? i n=some j/\j<n/\-(n:Int)<=i/\i<n:=by
 unfold ixN at h;by_cases h0:0<=i
 ·rw[if_pos h0]at h;by_cases h1:i<n
  ·rw[if_pos h1]at h;have e:i.toNat=j:=bM h;exact⟨by rw[seqIndex_of h0 h1,e],by lia,by lia,h1⟩
  ·rw[if_neg h1]at h;cases h
 ·rw[if_neg h0]at h;by_cases h1:-(n:Int)<=i
  ·rw[if_pos h1]at h;have e:(i+n).toNat=j:=bM h;exact⟨by rw[seqIndex_neg (by lia) h1,e],by lia,h1,by lia⟩
  ·rw[if_neg h1]at h;cases h
theorem rG{α:Type}{xs:List α}{i:Int}{v:α}(h:atI xs i=some v):∃j,seqIndex? i xs.length=some j/\xs[j]? = some v/\j<xs.length/\-(xs.length:Int)<=i/\i<xs.length:=by
 unfold atI at h;cases e:ixN xs.length i with
 |none=>rw[e]at h;cases h
 |some j=>
  rw[e]at h;obtain⟨h1,h2,h3,h4⟩:=mX e;exact⟨j,h1,h,h2,h3,h4⟩
def mU(b:Expr):Prop:=∀o i,subscripted b false o i=operate [o,i] (getItem o i)
def IxR(X:Cx)(r:R2):Prop:=
 ∀(value slice:Expr) (pins:List (Addr×Obj)) (s:af) (σ:St) (H:Hp) (x y:V) (v u:ae) (Q:VK),Inv X pins σ H s->RelV x v->RelV y u->r x y H Q ->
  subscripted slice false v u=operate [v,u] (getItem v u)->aq (ar X.prog X.w) X.A (subscriptTail value slice v u) (EP X pins σ Q) X.xe s
def MtR(X:Cx)(id:String)(r:V->List V->Hp->VK->Prop):Prop:=
 ∀(pins:List (Addr×Obj)) (s:af) (σ:St) (H:Hp) (x:V) (xs:List V) (v:ae) (us:List ae) (Q:VK),Inv X pins σ H s->RelV x v->Vals xs us->r x xs H Q ->
  aq (ar X.prog X.w) X.A (call (.builtin id) (v::us)) (EP X pins σ Q) X.xe s
section
variable{X:Cx}{a b:Expr}{ta tb:TE}{pos:Pos}
theorem IxR.or{r r':R2}(h:IxR X r)(h':IxR X r'):IxR X (λx y H Q=>r x y H Q\/r' x y H Q):=by
 intro value slice pins s σ H x y v u Q I rx ry q hs;rcases q with q|q
 ·exact h value slice pins s σ H x y v u Q I rx ry q hs
 ·exact h' value slice pins s σ H x y v u Q I rx ry q hs
theorem tN{r:R2}(hr:IxR X r)(ha:PE X a ta)(hb:PE X b tb)(hs:mU b):PE X (.Subscript a b pos) (tOp r ta tb):=by
 intro pins s σ H Q I h;exact Subscript_ (mH ha hb I h λv u s2 x y H2 I2 rx ry q=>hr a b pins s2 σ H2 x y v u Q I2 rx ry q (hs _ _))
def vO(K:aA):R2:=λx y H Q=>∃p xs i v,x=.ref p/\y=.int i/\SqL K H p xs/\atI xs i=some v/\Q v H
def Bt(K:aA):R2:=λx y H Q=>∃p xs i v,x=.ref p/\y=.int i/\SqT K H p xs/\atI xs i=some v/\Q v H
theorem yX:IxR X (vO X.K):=by
 intro value slice pins s σ H x y v u Q I rx ry h hs;obtain⟨p,xs,i,z,rfl,rfl,hq,he,q⟩:=h;cases rx;obtain⟨t,rfl⟩:=ry;obtain⟨its,r,pl,hz⟩:=I.list hq;obtain⟨j,h1,h2,h3,h4,h5⟩:=rG he;obtain⟨w,ew,F7⟩:=r.get h2;have hl:=r.length;have hn:=iJ;have fin:EP X pins σ Q w s:=⟨z,H,I,F7,q⟩
 by_cases h0:0<=i
 ·have hj:i.toNat=j:=by
   rw[seqIndex_of h0 h5]at h1;exact bM h1
  exact item_listR pl.isList h0 (by lia) (by rw[hj];simpa using ew) fin hs
 ·have hj:(i+(its.toArray.size:Int)).toNat=j:=by
   rw[seqIndex_neg (by lia) h4]at h1;rw[a7,<-hl];exact bM h1
  exact subscriptTail_builtinR (x:=w) pl.isList.typeIs slot_list_getitem.lookup
   (wpAny_getItem_list_neg (Q:=λr s'=>r=w/\EP X pins σ Q r s') pl.isList (by lia) (by rw[a7]<;>lia) (by lia) (by rw[hj];simpa using ew) ⟨rfl,fin⟩) hs
theorem yj:IxR X (Bt X.K):=by
 intro value slice pins s σ H x y v u Q I rx ry h hs;obtain⟨p,xs,i,z,rfl,rfl,hq,he,q⟩:=h;cases rx;obtain⟨t,rfl⟩:=ry;obtain⟨its,r,pl,hz⟩:=I.tuple hq;obtain⟨j,h1,h2,h3,h4,h5⟩:=rG he;obtain⟨w,ew,F7⟩:=r.get h2;have hl:=r.length;have hn:=iJ;have fin:EP X pins σ Q w s:=⟨z,H,I,F7,q⟩
 exact subscriptTail_builtinR (x:=w) pl.typeIs slot_tuple_getitem.lookup
  (getItem_tuple (j:=j) (Q:=λr s'=>r=w/\EP X pins σ Q r s') pl (by lia) (by lia) (by rw[a7,<-hl];exact h1) (by simpa using ew) ⟨rfl,fin⟩) hs
theorem B9(its:List ae)(n j:Nat)(u:ae):br (·.setIfInBounds j u) {cls:=.type "list",data:=.seq its.toArray n}={cls:=.type "list",data:=.seq (its.set j u).toArray n}:=by
 simp[br]
theorem Inv.lst{pins:List (Addr×Obj)}{σ:St}{H:Hp}{s:af}{p:Addr}{xs:List V}(I:Inv X pins σ H s)(h:H p=some (.lst xs)) :
  ∃(its:List ae) (n:Nat),Vals xs its/\s.heap.get? p=some {cls:=.type "list",data:=.seq its.toArray n}/\xs.length<=sizeLine:=by
 obtain⟨z,its,n,r,e⟩:=I.hok p _ h;exact⟨its,n,r,e,z⟩
theorem Inv.lstUpd{pins:List (Addr×Obj)}{σ:St}{H:Hp}{s:af}{p:Addr}{xs ys:List V}{its its':List ae}{n n':Nat}{f:Obj->Obj}(I:Inv X pins σ H s)(h:H p=some (.lst xs))
  (ho:s.heap.get? p=some {cls:=.type "list",data:=.seq its.toArray n}) (hf:f {cls:=.type "list",data:=.seq its.toArray n}={cls:=.type "list",data:=.seq its'.toArray n'}) (r:Vals ys its') (hz:ys.length<=aK) (t:Nat) :
  Inv X pins σ (upd H p (.lst ys)) {s with heap:=s.heap.update p f,toks:=t}:=by
 have e:(s.heap.update p f).get? p=some {cls:=.type "list",data:=.seq its'.toArray n'}:=by
  rw[Heap.get?_update_self f ho (by rw[hf]<;>rfl),hf]
 refine I.write (x:=p) (e:=p) (by rw[h];trivial) (.inl rfl) (λb u hb q=>(Heap.get?_update_other _ _ (Ne.symm hb)).trans q) ⟨_,e⟩ ?_;exact⟨hz,its',n',r,e⟩
def y6:V->V->V->Hp->(Hp->Prop)->Prop:=λo i v H Q=>∃p xs k j,o=.ref p/\i=.int k/\H p=some (.lst xs)/\ixN xs.length k=some j/\Q (upd H p (.lst (xs.set j v)))
theorem set_list:fN X y6:=by
 intro pins s σ H o i v ov iv u Q I ro ri rv h;obtain⟨p,xs,k,j,rfl,rfl,hp,hj,q⟩:=h;cases ro;obtain⟨t,rfl⟩:=ri;obtain⟨its,n,r,ho,hz⟩:=I.lst hp;obtain⟨h1,h2,h3,h4⟩:=mX hj;have hl:=r.length;have hn:=iJ;have I':Inv X pins σ (upd H p (.lst (xs.set j v))) {s with heap:=s.heap.update p (br (·.setIfInBounds j u))}:=
  I.lstUpd hp ho (B9 its n j u) (r.set rv j) (by rw[List.length_set];exact hz) s.toks
 by_cases h0:0<=k
 ·have hk:k.toNat=j:=by
   rw[seqIndex_of h0 h4]at h1;exact bM h1
  exact PySem.W.ki_setAt ho h0 (by lia) (by rw[a7,<-hl];exact h4) (by rw[hk];exact⟨_,I',q⟩)
 ·have hk:(k+(its.toArray.size:Int)).toNat=j:=by
   rw[seqIndex_neg (by lia) h3]at h1;rw[a7,<-hl];exact bM h1
  exact PySem.W.ki_setBack ho (by lia) (by rw[a7,<-hl];exact h3) (by lia) (by rw[hk];exact⟨_,I',q⟩)
theorem wd(lo hi:Option Int)(n:Nat):(sliceBounds lo hi none n).1=((HT.sIx n 0 lo:Nat):Int)/\(sliceBounds lo hi none n).2.1=((HT.sIx n n hi:Nat):Int)/\(sliceBounds lo hi none n).2.2=1:=by
 refine⟨?_,?_,rfl⟩
 ·cases lo with
  |none=>simp[sliceBounds,HT.sIx]
  |some i=>
   simp only[sliceBounds,HT.sIx,Option.getD_none,show (1:Int)>0 by decide,if_true];by_cases h:i<0
   ·simp only[h,if_true]<;>lia
   ·simp only[h,if_false]<;>lia
 ·cases hi with
  |none=>simp[sliceBounds,HT.sIx]
  |some i=>
   simp only[sliceBounds,HT.sIx,Option.getD_none,show (1:Int)>0 by decide,if_true];by_cases h:i<0
   ·simp only[h,if_true]<;>lia
   ·simp only[h,if_false]<;>lia
theorem wM(its:List ae)(lo hi:Option Int):slicePick its.toArray lo hi none=((its.drop (HT.sIx its.length 0 lo)).take (HT.sIx its.length its.length hi-HT.sIx its.length 0 lo)).toArray:=by
 obtain⟨h1,h2,h3⟩:=wd lo hi its.toArray.size;unfold slicePick;rw[h1,h2,h3];simp only[sliceRange_one,pick_run,a7]<;>rfl
def D1(K:aA):V->Option Int->Option Int->Hp->VK->Prop:=λx lo hi H Q=>∃a xs,x=.ref a/\SqL K H a xs/\∀p,H p=none->Q (.ref p) (upd H p (.lst (ip xs lo hi)))
theorem DJ:SlR X (D1 X.K):=by
 intro pins s σ H x v vl vu lo hi sl Q I rx hs pl pu h;obtain⟨a,xs,rfl,hx,q⟩:=h;cases rx;obtain⟨its,r,ht,hz⟩:=I.list hx;have hlen:=r.length;refine⟨"list",_,slot_list_getitem.lookup,ht.isList.typeIs,?_⟩;refine wpAny_getItem_list_slice ht.isList hs pl pu .none (by simp) ?_ (by rw[a7]<;>lia);rw[wM,<-hlen];refine⟨.ref s.heap.objs.size,_,I.laid (t':=s.toks) (o:=.lst (ip xs lo hi)) (λb ob q=>Heap.get?_push_of_some _ q) (aF _) ?_,rfl,q _ (I.hok.fresh (aF _))⟩;exact⟨a8 (yx xs lo hi) hz,_,0,(r.drop (HT.sIx xs.length 0 lo)).take (HT.sIx xs.length xs.length hi-HT.sIx xs.length 0 lo),Heap.get?_push_size _ rfl⟩
theorem vX:zf X (.builtin "len") (λxs H Q=>∃p ys,xs=[.ref p]/\(SqL X.K H p ys\/SqT X.K H p ys)/\Q (.int ys.length) H):=by
 intro pins s σ H xs us Q I r h;obtain⟨p,ys,rfl,hq,q⟩:=h;obtain⟨u,rfl,rx⟩:=vals1 r;cases rx;have hn:=iJ;rcases hq with hq|hq
 ·obtain⟨its,r',pl,hz⟩:=I.list hq;have hlen:=r'.length;exact Calls.call_len_list pl.isList (by simp only[a7]<;>lia) ⟨.int ys.length,H,I.tok _,⟨s.toks+1,by rw[a7,hlen]⟩,q⟩
 ·obtain⟨its,r',pl,hz⟩:=I.tuple hq;have hlen:=r'.length;exact len_tuple pl (by simp only[a7]<;>lia) ⟨.int ys.length,H,I.tok _,⟨s.toks+1,by rw[a7,hlen]⟩,q⟩
theorem zf.or{f:ae}{r r':List V->Hp->VK->Prop}(h:zf X f r)(h':zf X f r'):zf X f (λxs H Q=>r xs H Q\/r' xs H Q):=by
 intro pins s σ H xs us Q I rs q;rcases q with q|q
 ·exact h pins s σ H xs us Q I rs q
 ·exact h' pins s σ H xs us Q I rs q
theorem As:zf X (.type "tuple") (λxs H Q=>∃p ys,xs=[.ref p]/\((SqL X.K H p ys/\∀l,H l=none->Q (.ref l) (upd H l (.tup ys)))\/(SqT X.K H p ys/\Q (.ref p) H))):=by
 intro pins s σ H xs us Q I r h;obtain⟨p,ys,rfl,h⟩:=h;obtain⟨u,rfl,rx⟩:=vals1 r;cases rx;rcases h with ⟨hq,q⟩|⟨hq,q⟩
 ·obtain⟨its,r',pl,hz⟩:=I.list hq;have hlen:=r'.length;refine call_tuple_list pl.isList (λh' kp=>?_) (by simp only[a7]<;>lia);have I1:Inv X pins σ H {s with heap:=h'}:=I.kept (t':=s.toks) kp;have I2:Inv X pins σ (upd H h'.objs.size (.tup ys)) {s with heap:=h'.push {cls:=.type "tuple",data:=.seq its.toArray}}:=
   I1.laid (t':=s.toks) (λb o e=>Heap.get?_push_of_some _ e) (aF _) (show zJ X.prog X.w _ _ _ (.tup ys)from ⟨hz,its,r',IsTup.new _ _⟩)
  exact⟨.ref h'.objs.size,_,I2,rfl,q _ (I1.hok.fresh (aF _))⟩
 ·obtain⟨its,r',pl,hz⟩:=I.tuple hq;exact call_tuple_same pl ⟨.ref p,H,I,rfl,q⟩
def tyV(K:aA)(T:String)(x:V)(H:Hp):Prop:=match x with
 | .str _=>T = "str"
 | .int _=>T = "int"
 | .ref p=>(T = "list"/\∃xs,SqL K H p xs)\/(T = "tuple"/\∃o,K.lookup p=some o/\o.cls=.type "tuple"/\o.dict=none) \/
   (T = "dict"/\((∃kvs,H p=some (.dK kvs))\/∃kvs,H p=some (.dT kvs)))\/(T = "set"/\∃S n,H p=some (.set S n))
 |_=>False
theorem yY{pins:List (Addr×Obj)}{σ:St}{H:Hp}{s:af}{T:String}{x:V}{v:ae}(I:Inv X pins σ H s)(r:RelV x v)(ty:tyV X.K T x H) :
  s.TypeIs v T/\∀a,v=.ref a->∃ob,s.heap.get? a=some ob/\ob.dict=none:=by
 cases x with
 |str z=>
  obtain⟨t,rfl⟩:=r;cases (show T = "str" from ty);exact⟨typeIs_str s z t,λ_ e=>nomatch e⟩
 |int i=>
  obtain⟨t,rfl⟩:=r;cases (show T = "int" from ty);exact⟨typeIs_int s i t,λ_ e=>nomatch e⟩
 |ref p=>
  cases r;rcases ty with ⟨rfl,xs,hq⟩|⟨rfl,o,hk,hc,hd⟩|⟨rfl,hk⟩|⟨rfl,S,n,hk⟩
  ·obtain⟨its,_,pl,_⟩:=I.list hq;refine⟨pl.isList.typeIs,λa e=>?_⟩;cases e;obtain⟨o,n,e,c,hd,_⟩:=pl;exact⟨o,e,hd⟩
  ·refine⟨⟨o,I.kIn p o hk,hc⟩,λa e=>?_⟩;cases e;exact⟨o,I.kIn _ o hk,hd⟩
  ·have z:∃o,s.heap.get? p=some o/\o.ExactDict:=by
    rcases hk with ⟨kvs,hk⟩|⟨kvs,hk⟩
    ·obtain⟨_,_,_,_,o,_,_,e,ex,_⟩:=I.hok p _ hk;exact⟨o,e,ex⟩
    ·obtain⟨_,_,_,_,o,_,_,e,ex,_⟩:=I.hok p _ hk;exact⟨o,e,ex⟩
   obtain⟨o,e,ex⟩:=z;refine⟨⟨o,e,ex.1⟩,λa e2=>?_⟩;cases e2;exact⟨o,e,ex.2.1⟩
  ·obtain⟨o,_,_,_,e,ex,_⟩:=I.hok p _ hk;refine⟨⟨o,e,ex.1⟩,λa e2=>?_⟩;cases e2;exact⟨o,e,ex.2.1⟩
 |_=>exact bH ty
def tBM(K:aA)(T:String)(r:V->List V->Hp->VK->Prop)(to:TE)(t:TA):TE:=λσ H Q=>to σ H λx H1=>tyV K T x H1/\t σ H1 λxs H2=>r x xs H2 Q
variable{o e:Expr}{es:List Expr}{to:TE}{t:TA}{name:Str}{apos cpos:Pos}{T id:String}{r:V->List V->Hp->VK->Prop}
theorem Ec(pa:PlainAttrs T)(slot:Slot T name id)(HS:typeOf (.builtin id)=pure (.type "method_descriptor"))(hm:MtR X id r)(ho:PE X o to)(ha:PA X (e::es) t)
  (HU:attributeBase o name X.env (eval o X.env)=eval o X.env)
  (JF:((backTo cpos (a_ (e::es) X.env)).all (λx=>!x.1)&&(backToKw cpos (keywordEach [] X.env)).all (λx=>x.1.isSome)
   && decide ((e::es).length+([]:List Keyword).length+(if ([]:List Keyword).isEmpty then 0 else 1)<30))=true:=by rfl)
  (HV:(apos.endLine==cpos.line)=true) (hs:a_ (e::es) X.env=(false,eval e X.env)::a_ es X.env) (Hd:(backTo cpos (a_ es X.env)).any (·.1)=false) :
  PE X (.Call (.Attribute o name apos) (e::es) [] cpos) (tBM X.K T r to t):=by
 intro pins s σ H Q I h;refine wpAny_Call_method_late HU JF HV rfl (thn (ho pins s σ H _ I h) λv s1 ⟨x,H1,I1,r1,ty,q1⟩=>?_);obtain⟨h1,h2⟩:=yY I1 r1 ty;refine⟨T,id,pa,slot,HS,h1,h2,?_⟩;have hA:=ha cpos pins s1 σ H1 _ I1 q1;rw[hs]at hA ⊢;refine Calls.callWith_builtin (by show (false||(backTo cpos (a_ es X.env)).any (·.1))=false;rw[Hd]<;>rfl) (Calls.evalArgs_plain ?_);exact thn hA λus s2 ⟨vs,H2,I2,r2,q2⟩=>hm pins s2 σ H2 x vs v us Q I2 r1 r2 q2
/- xs.append(e), list.index on a module's tuple .. are MtR facts of 06m -/
end
def MtM(X:Cx)(id:String)(r:V->List V->Hp->VK->Prop):Prop:=
 ∀(pins:List (Addr×Obj)) (s:af) (σ:St) (H:Hp) (x:V) (xs:List V) (v:ae) (us:List ae) (Q:VK),Inv X pins σ H s->RelV x v->Vals xs us->r x xs H Q ->
  aq (ar X.prog X.w) X.A (call (.builtin id) (v::us)) (EP X pins σ Q) X.xe s
theorem Vals.one{x:V}{us:List ae}(h:Vals [x] us):∃u,us=[u]/\RelV x u:=by
 cases h with
 |cons r h=>cases h;exact⟨_,rfl,r⟩
theorem Vals.two{x y:V}{us:List ae}(h:Vals [x,y] us):∃u v,us=[u,v]/\RelV x u/\RelV y v:=by
 cases h with
 |cons r h=>cases h with
  |cons q h=>cases h;exact⟨_,_,rfl,r,q⟩
theorem Vals.zero:∀{us:List ae},Vals [] us->us=[]
 |_,.nil=>rfl
section
variable{X:Cx}{pins:List (Addr×Obj)}{σ:St}{H:Hp}{s:af}{l b:Addr}{xs ys zs:List V}
theorem Inv.lset{its its':List ae}{n:Nat}{f:Array ae->Array ae}{t':Nat}(I:Inv X pins σ H s)(hH:H l=some (.lst xs))
  (e:s.heap.get? l=some {cls:=.type "list",data:=.seq its.toArray n}) (hf:f its.toArray=its'.toArray) (hv:Vals ys its') (hz:ys.length<=aK) :
  Inv X pins σ (upd H l (.lst ys)) {s with heap:=s.heap.update l (br f),toks:=t'}:=by
 have q:=PySem.IsL.update e f;rw[hf]at q;refine I.write (x:=l) (e:=l) (by rw[hH];exact trivial) (.inl rfl) (λb' u hb hu=>(Heap.get?_update_other s.heap (br f) (Ne.symm hb)).trans hu) ⟨_,q⟩ ?_;exact⟨hz,its',_,hv,q⟩
theorem Inv.lnew{its:List ae}{t':Nat}(I:Inv X pins σ H s)(hv:Vals ys its)(hz:ys.length<=aK) :
  Inv X pins σ (upd H s.heap.objs.size (.lst ys)) {s with heap:=s.heap.push {cls:=.type "list",data:=.seq its.toArray},toks:=t'}:=
 I.laid (λ_ _ q=>Heap.get?_push_of_some _ q) (aF _) ⟨hz,its,0,hv,Heap.get?_push_size _ rfl⟩
theorem Inv.fresh(I:Inv X pins σ H s):H s.heap.objs.size=none:=I.hok.fresh (aF _)
theorem Inv.lstM(I:Inv X pins σ H s)(hH:H l=some (.lst xs)):xs.length<=aK/\∃(its:List ae) (n:Nat),Vals xs its/\xs.length=its.length/\s.heap.get? l=some {cls:=.type "list",data:=.seq its.toArray n}:=by
 obtain⟨z,its,n,r,e⟩:=I.hok l _ hH;exact⟨z,its,n,r,r.length,e⟩
end
section
variable{X:Cx}
def xQ:V->List V->Hp->VK->Prop:=λx vs H Q=>∃l xs y,x=.ref l/\vs=[y]/\H l=some (.lst xs)/\xs.length<aK/\Q .non (upd H l (.lst (xs++[y])))
theorem tq:MtM X "list.append" xQ:=by
 intro pins s σ H x vs v us Q I rx rv h;obtain⟨l,xs,y,rfl,rfl,hH,hz,q⟩:=h;cases rx;obtain⟨u,rfl,ru⟩:=rv.one;obtain⟨z,its,n,r,hl,e⟩:=I.lstM hH;refine call_meets F.slot_list_append ⟨_,e,rfl⟩ F.entry_list_append (F.args_list_append_2 _ _) (PySem.list_append l its.toArray n u (by rw[a7];lia)) ⟨e,?_⟩;refine⟨.non,_,I.lset (its':=its++[u]) hH e (by simp) (r.append (.cons ru .nil)) ?_,rfl,q⟩;rw[di,List.length_singleton];lia
end
section
variable{prog:aB}{w:az}{A:aD}{E:ae->af->Prop}{s:af}
set_option maxRecDepth 100000 in
end
section
variable{X:Cx}
end
end L2
namespace Att
open PySem PySem.W PySem.Calls PyProof.Rows
theorem wm{P:Params}{h:Heap}:∀(ns:List Int) (vs:List ae),WellAll P h vs (ns.map WData.int)->bg vs ns:=by
 intro ns
 induction ns with
 |nil=>
  intro vs w;rw[List.map_nil]at w;cases w;exact .nil
 |cons n ns ih=>
  intro vs w;rw[aJ]at w;cases w with
  |cons a b=>
   cases a;exact .cons _ _ (ih _ b)
theorem w8{l:OpenLaw}{n:Nat}(hn:l.most=some n){P:Params}{h:Heap}{args:List WData}{vals:List ae}
  (GP:l.row.toRowW.claim.pre args=true) (JG:WellAll P h vals args) :
  ∃a vs ns,vals=[aY a]/\args=[WData.list (ns.map WData.int)]/\h.get? a=some {cls:=.type "list",data:=.seq vs.toArray}/\bg vs ns/\ns.length<=n:=by
 have JH:WShape.hasAll [] args [.list .int]=true:=(pre_splitW GP).1;have hc:l.pre.holds [] {args:=args}=true:=(pre_splitW GP).2;obtain⟨d,r,rfl,h1,h2⟩:=hasAllW_cons JH;obtain rfl:=hasAllW_nil h2;obtain⟨xs,rfl,h3⟩:=hasW_list h1;obtain⟨ns,rfl⟩:=items_int h3;have hlen:ns.length<=n:=by
  unfold OpenLaw.pre at hc;have h4:(WTm.not (.lt (.lit (.int (n:Int))) (.len (.arg 0)))).holds [] {args:=[.list (ns.map .int)]}=true:=by
   have h4:=(holds_andW hc).1;rw[hn]at h4;exact h4
  have h5:=condW_of h4 (w_not (w_lt w_lit (w_len_list (w_arg rfl))));rw[aV]at h5;refine Nat.le_of_not_lt λq=>?_
  have q':(n:Int)<((ns.length:Nat):Int):=by lia
  first
   | (rw[decide_eq_true q']at h5;exact absurd h5 (by decide))
   | (simp at h5;lia)
 cases JG with
 |cons w1 w2=>
  cases w2;cases w1 with
  |list ho E9=>exact⟨_,_,ns,rfl,rfl,ho,wm ns _ E9,hlen⟩
theorem Ey(l:OpenLaw)(args:List WData):l.row.toRowW.claim.post args (.bool true) args=true:=
 postW_of (r:=l.row.toRowW) (X:=(true==true))
  (show WShape.has [] (.bool true) .bool=true by first|rfl|decide|simp[WShape.has,WShape.arms,WShape.armsAll])
  (show (WTm.eq .res (.lit (.bool true))).value [] {args:=args,res:=some (.bool true),after:=args}=some (.bool (true==true))from w_eq_bool (w_res rfl) w_lit) rfl
theorem AU{l:OpenLaw}{n:Nat}{q:aB}{loose:List Str}{XP:(Str->Option ae)->Heap->Prop}{YP:az->Heap->Prop}{d:DefRec}
  (hn:l.most=some n) (He:d.params.defaults=[])
  (call:∀(w:az) (s₀ s₁:af) (mg mb:Str->Option ae) (fa:Addr) (o:Obj) (pm cd doc:ae) (a:Addr) (vs:List ae) (ns:List Int),
   Ground q loose [] XP w s₀ mg mb s₁.heap->YP w s₁.heap ->
   s₁.heap.get? fa=some o->o.data=.func (docDef d.name d.params d.body d.scope pm cd doc)->s₁.heap.CodeRec cd d.name->mg d.name=some (.ref fa) ->
   s₁.heap.get? a=some {cls:=.type "list",data:=.seq vs.toArray}->bg vs ns->ns.length<=n->s₁.gens = #[] ->
   codeAny (ar l.prog w) callerA (.call (.ref fa) ⟨[.ref a],[]⟩) (λr s'=>r=.ok (.ret (.bool true))/\OldK s₁.heap s'.heap/\s'.os=s₁.os/\AllBare s'.gens) s₁) :
  WalkO q loose XP YP l.row.toRowW d [] (λf vs=>PySem.call f vs):=by
 intro w s₀ s₁ mg mb G Y fa o pm cd doc dV kV ho hd F5 hD hmg hg args vals as GP hlay hrd JG Fg;obtain rfl:dV=.none:=Dflts.none hD He;obtain rfl:kV=.none:=Dflts.noKw hD;obtain⟨a,vs,ns,rfl,rfl,Hg,hints,hlen⟩:=w8 hn GP JG;refine enter_call (codeAny_mono (call w s₀ s₁ mg mb fa o pm cd doc a vs ns G Y ho (fd_plain hd) F5 hmg Hg hints hlen hg) λr s' hq=>?_);obtain⟨rfl,h2,h3,h4⟩:=hq;exact⟨.inl ⟨.bool true,.bool true,[],rfl,λ_=>rfl,.bool true,Ey l _,λ_=>⟨List.Pairwise.nil,λ_ hm=>(nomatch hm)⟩⟩,h2,h3,h4⟩
section
variable{prog:aB}{w:az}{A:aD}{E:ae->af->Prop}{s:af}{K:Frag}
end
end Att
namespace L2
open PySem PySem.Spec PyProof.Rows
theorem ow:∀{vs:List ae}{ns:List Int},bg vs ns->Vals (ns.map V.int) vs
 |_,_,.nil=>.nil
 |_,_,.cons n t h=>.cons ⟨t,rfl⟩ (ow h)
def kU(H:Hp):Prop:=∀b,H b=none\/∃o xs,H b=some (.frz o (.lst xs))
theorem Bv{P:aB}{w:az}{K:aA}{mg mb:Str->Option ae}{CX:CXT}{k:Nat}{fa a:Addr}{fd:FuncData}{x:Str}{sp:Sp}{s₁:af}{vs:List ae}{ns:List Int}
  (KX:K.In s₁.heap) (hns:s₁.heap.Ns aE mg) (hb:s₁.heap.Ns builtinsNs mb) (Ll:∀x:Str,x≠"__name__"->mb x=bU x) (JI:s₁.heap.NoLimit) (hg:s₁.gens = #[])
  (ha:s₁.heap.get? a=some {cls:=.type "list",data:=.seq vs.toArray}) (hi:bg vs ns) (hl:ns.length<=aK) (hr:cC k callerA)
  (F:∀base:Heap,K.In base->base.Ns aE mg->gj P w K mg base CX k fa fd [x] sp) (HW:∀(s:af) (u:ae),BindsTo s fd ⟨[u],[]⟩ [(x,u)])
  (GI:∀H:Hp,kU H->SqL K H a (ns.map V.int)->sp [.ref a] H (λv _=>v=.bl true) λ_ _ _=>False)
  (JJ:∀H e s',CX [] H s₁ (λ_ _ _=>False) e s'->False) :
  codeAny (ar P w) callerA (.call (.ref fa) ⟨[.ref a],[]⟩) (λr s'=>r=.ok (.ret (.bool true))/\OldK s₁.heap s'.heap/\s'.os=s₁.os/\AllBare s'.gens) s₁:=by
 have rv:=ow hi;have JK:=hi.length
 -- from an abstract heap in which nothing but the script may be tracked
 have core:∀H:Hp,kU H->SqL K H a (ns.map V.int)->HOk P w H s₁.heap->(∀b,H b≠none->b=a)->(H a≠none->K.lookup a=none) ->
   codeAny (ar P w) callerA (.call (.ref fa) ⟨[.ref a],[]⟩) (λr s'=>r=.ok (.ret (.bool true))/\OldK s₁.heap s'.heap/\s'.os=s₁.os/\AllBare s'.gens) s₁:=by
  intro H hO hS hok hA hK;have FW:∀{b:Addr}{o:Obj},s₁.heap.get? b=some o->H b=none->(fq s₁.heap H).get? b=some o:=λe n=>uc e n
  have HP:∀{b:Addr}{o:Obj}{es:Array DictEntry}{ep:Nat},s₁.heap.get? b=some o->o.data=.dict es ep->H b=none:=λ{b o es ep} e d=>by
   cases q:H b with
   |none=>rfl
   |some u=>
    have e':b=a:=hA b (by rw[q];simp);subst e';rw[ha]at e;cases e;have d':Data.seq vs.toArray _=Data.dict es ep:=d;cases d'
  have II:∀{b:Addr}{m:Str->Option ae},s₁.heap.Ns b m->(fq s₁.heap H).Ns b m:=λ{b m} ⟨o,es,ep,e,d,r⟩=>⟨o,es,ep,FW e (HP e d),d,r⟩
  have Kx:K.In (fq s₁.heap H):=λb o e=>FW (KX b o e) (by
   cases q:H b with
   |none=>rfl
   |some u=>
    have e':b=a:=hA b (by rw[q];simp);subst e';rw[hK (by rw[q];simp)]at e;cases e)
  have hM:Mod K mg (fq s₁.heap H):=⟨Kx,II hns,⟨mb,II hb,Ll⟩,let ⟨mc,h1,h2⟩:=JI;⟨mc,II h1,h2⟩⟩
  have e0:jg P w K mg (fq s₁.heap H) callerA [] s₁ H:=⟨rfl,hM,λb o e=>xf e,Nat.le_of_eq (BB _ _),trivial,λb hb=>absurd (show b∈([]:List Addr)from hb) (by simp),hok,.of_eq hg⟩
  refine codeAny_mono ((F _ Kx (II hns)).run callerA [] s₁ H ⟨[.ref a],[]⟩ [.ref a] [.ref a] _ _ hr e0 (HW s₁ (.ref a)) (.cons rfl .nil) (GI H hO hS)) λr s' h=>?_
  cases r with
  |error e=>exact(JJ H e s' h).elim
  |ok fl=>
   cases fl with
   |next=>exact bH h
   |brk=>exact bH h
   |cont=>exact bH h
   |ret u=>
    obtain⟨v,H',os,bare,un,JL,r',q⟩:=h;have q':v=.bl true:=q;subst q';obtain rfl:u=bV true:=r';refine⟨rfl,OldK.of_keep λb o e=>?_,os,bare⟩;cases q:H b with
    |none=>exact un.keep b o e q (by intro z;exact absurd (show b∈([]:List Addr)from z) (by simp)) (by simp)
    |some u=>
     rcases hO b with z|⟨ob,xs,z⟩
     ·rw[q]at z;cases z
     ·have z2:=un.frzs b ob _ z;obtain⟨e1,_⟩:=hok b _ z;obtain⟨e2,_⟩:=JL b _ z2;rw[e]at e1;cases e1;exact e2
 cases hk:K.lookup a with
 |some o=>
  -- the script is one of the module's own objects
  have e:=KX a o hk;rw[ha]at e;cases e;refine core (λ_=>none) (λ_=>.inl rfl) (.inr ⟨_,vs.toArray,_,hk,rfl,rfl,rfl,by rw[a7,JK];exact hl,by simpa using rv⟩) (λb u z=>by have z':(none:Option HO)=some u:=z;cases z') (λb z=>absurd rfl z) λz=>absurd rfl z
 |none=>
  refine core (λb=>if b=a then some (.frz {cls:=.type "list",data:=.seq vs.toArray} (.lst (ns.map V.int)))else none) (λb=>?_) (.inl (.inr ⟨{cls:=.type "list",data:=.seq vs.toArray},if_pos rfl⟩)) (λb u z=>?_) (λb z=>?_) λ_=>hk
  ·by_cases hb:b=a
   ·exact .inr ⟨_,_,if_pos hb⟩
   ·exact .inl (if_neg hb)
  ·by_cases hb:b=a
   ·have z':=(if_pos hb).symm.trans z;cases z';subst hb;exact⟨ha,by rw[aV];exact hl,vs,_,rv,ha⟩
   ·have z':=(if_neg hb).symm.trans z;cases z'
  ·by_cases hb:b=a
   ·exact hb
   ·exact absurd (if_neg hb) z
theorem Dq{l:PySem.W.OpenLaw}{n k:Nat}{q:aB}{loose:List Str}{XP:(Str->Option ae)->Heap->Prop}{YP:az->Heap->Prop}{d:DefRec}{K:Params->aA}{CX:az->CXT}{sp:az->Sp}{x:Str}
  (hn:l.most=some n) (Ky:n<=aK) (He:d.params.defaults=[]) (hr:cC k callerA)
  (hY:∀(w:az) (h:Heap),YP w h->(K w.params).In h)
  (F:∀(w:az) (mg:Str->Option ae) (fa:Addr) (h:Heap),(K w.params).In h->h.Ns aE mg->mg d.name=some (.ref fa) ->
   ∃fd:FuncData,(∀(s:af) (u:ae),BindsTo s fd ⟨[u],[]⟩ [(x,u)]) /\
    ∀base:Heap,(K w.params).In base->base.Ns aE mg->gj l.prog w (K w.params) mg base (CX w) k fa fd [x] (sp w))
  (GI:∀(w:az) (H:Hp) (a:Addr) (ns:List Int),ns.length<=n->kU H->SqL (K w.params) H a (ns.map V.int)->sp w [.ref a] H (λv _=>v=.bl true) λ_ _ _=>False)
  (JJ:∀(w:az) (H:Hp) (s:af) (e:ae) (s':af),CX w [] H s (λ_ _ _=>False) e s'->False) :
  PySem.W.WalkO q loose XP YP l.row.toRowW d [] (λf vs=>PySem.call f vs):=by
 refine Att.AU hn He λw s₀ s₁ mg mb fa o pm cd doc a vs ns G Y ho hd F5 hmg Hg hints hlen hg=>?_
 have KX:=hY w _ Y;obtain⟨fd,hb,hF⟩:=F w mg fa _ KX G.T.g hmg;exact Bv KX G.T.g G.T.b G.T.builtins G.T.nolimit hg Hg hints (a8 hlen Ky) hr hF hb (λH hO hS=>GI w H a ns hlen hO hS) λH e s'=>JJ w H s₁ e s'
end L2
/- THE LAST THEOREM (shape; LID, My.* are yours):
   My.Adr: a structure of the addresses that your layer names (classes, functions); My.Txt K t: a structure (Prop) of the equations over K;
   My.txt_mk : {K} {implicit addresses ..} (e1 : nsIn K mainGlobals "law" = some (some (.ref f))) (e2 : K.lookup f = some ⟨oc, od, .func (fnOf "law" "law" params body scope dV kV doc pm an cdv ct), sl⟩) (e3 : codeIn K cdv "law" = true) .. : ∃ t, My.Txt K t
set_option maxRecDepth 100000 in
set_option maxHeartbeats 0 in
theorem PySem.Challenge.cw_LID_holds : PySem.Challenge.rw_LID.Holds := by
 w_on; o_law; k_head; (case hw => w_witness2)
 k_fill
 refine L2.walk_of (l := PySem.Challenge.rw_LID) (n := 63) (k := 40) (x := "script") (CX := fun w => ..) (sp := fun _ => My.sp_law) rfl (by decide) rfl ⟨rfl, by decide, by decide⟩ (fun w h Y => PySem.W.kIn_of Y) ?F ?S ?C
 case F =>
  intro w mg fa h KX G hmg;have T : ∃ t, My.Txt (L2.KOf KX) t := by
   dsimp only [L2.KOf]                          -- K must stand as «<heap const> w.params» for k_is
   refine' My.txt_mk ?e1 ?e2 ?e3 ..
   (case e1 => PySem.W.k_is)                    -- in the order: a name -> its address -> its object -> its parts
   (case e2 => PySem.W.k_is)
   ..
  obtain ⟨t, T⟩ := T;have e0 := hmg.symm.trans (PySem.W.mg_of KX G T.law);cases e0                                       -- fa is the law's own address
  exact ⟨_, fun s u => .of_eq rfl, fun base kb nb => My.law_fn T kb nb⟩     -- if «.of_eq rfl» comes too early: refine' ⟨_, ?b, fun base kb nb => My.law_fn T kb nb⟩; exact fun s u => .of_eq rfl
 case S => exact fun w H a ns hl hO hS => ..
 case C => exact ..
(the tactic k_is has no namespace: write k_is) -/
namespace L2
open PySem PySem.Spec PyProof.Rows
noncomputable def zh(s:Stmt):Arguments:=match s with
 | .FunctionDef _ a _ _ _ _ _ _ _ _=>a
 |_=>{posonlyargs:=[],args:=[],vararg:=none,kwonlyargs:=[],kw_defaults:=[],kwarg:=none,defaults:=[]}
noncomputable def eh(s:Stmt):List Stmt:=match s with
 | .FunctionDef _ _ b _ _ _ _ _ _ _=>b
 |_=>[]
noncomputable def zb(s:Stmt):Scope:=match s with
 | .FunctionDef _ _ _ _ _ _ sc _ _ _=>sc
 |_=>{kind:=.function,names:=[],isGenerator:=false,isCoroutine:=false}
abbrev E0:XK:=λ_ _ _=>False
structure Fun(K:aA)(x qual:Str)(st:Stmt)(f:Addr)(fd:FuncData):Prop where
 ex:∃(oc:ae) (od:Option Addr) (kV doc pm:ae) (an:Option Addr) (cdv ct:ae) (osl:Array (Option ae)),
  fd=cw x qual (zh st) (eh st) (zb st) .none kV doc pm an cdv ct/\K.lookup f=some ⟨oc,od,.func fd,osl⟩/\PySem.W.codeIn K cdv qual=true
 kp:cR K (.ref f)=true
section
variable{P:aB}{w:az}{K:aA}{mg:Str->Option ae}{base:Heap}
theorem Fun.binds{x qual:Str}{st:Stmt}{f:Addr}{fd:FuncData}{ps:List Str}(F:Fun K x qual st f fd)
  (h:∀(kV doc pm:ae) (an:Option Addr) (cdv ct:ae) (us:List ae),us.length=ps.length->bindArgs (cw x qual (zh st) (eh st) (zb st) .none kV doc pm an cdv ct) ⟨us,[]⟩=pure (ps.zip us)):Binds K fd ps []:=by
 obtain⟨oc,od,kV,doc,pm,an,cdv,ct,osl,rfl,lk,F5⟩:=F.ex;exact .all (h kV doc pm an cdv ct)
theorem mR{x qual:Str}{st:Stmt}{f:Addr}{oc:ae}{od an:Option Addr}{osl:Array (Option ae)}{kV doc pm cdv ct:ae}(l:K.lookup f=some ⟨oc,od,.func (cw x qual (zh st) (eh st) (zb st) .none kV doc pm an cdv ct),osl⟩)
  (c:PySem.W.codeIn K cdv qual=true) (k:cR K (.ref f)=true):Fun K x qual st f (cw x qual (zh st) (eh st) (zb st) .none kV doc pm an cdv ct):=⟨⟨oc,od,kV,doc,pm,an,cdv,ct,osl,rfl,l,c⟩,k⟩
end
section
variable{X:Cx}
end
def qf(H H':Hp):Prop:=∀b o,H b=some o->H' b=some o
theorem qf.refl(H:Hp):qf H H:=λ_ _ h=>h
theorem qf.trans{H H1 H2:Hp}(a:qf H H1)(b:qf H1 H2):qf H H2:=λc o h=>b c o (a c o h)
theorem qf.free{H H':Hp}(e:qf H H'){l:Addr}(h:H' l=Option.none):H l=Option.none:=by
 cases q:H l with
 |none=>rfl
 |some o=>
  rw[e l o q]at h;cases h
theorem qf.seq{K:aA}{H H':Hp}{a:Addr}{xs:List V}(e:qf H H')(h:SqL K H a xs):SqL K H' a xs:=by
 rcases h with (h|⟨o,h⟩)|h
 ·exact .inl (.inl (e _ _ h))
 ·exact .inl (.inr ⟨o,e _ _ h⟩)
 ·exact .inr h
noncomputable def fK(elt:Expr)(gens:List bT)(scope:aR)(pos:Pos)(d:Nat)(acc:ae)(env:Env):Sem Unit:=
 match gens[d+1]? with
 |some g'=>do
  let x <-eval g'.iter env
  standAt g'.iter.pos
  let x <-foldedSetIterable g'.iter env x
  let _ <-runOwn (.compStart (.ListComp elt gens scope pos) (d+1) (<-holding [x] (pyIter x)) acc env) env
  pure ()
 |none=>do
  let _ <-call (.builtin "list.append") [acc,<-eval elt env]
  pure ()
theorem BC{elt:Expr}{gens:List bT}{scope:aR}{pos:Pos}{d:Nat}{g:bT}{it acc:ae}{env:Env}(hg:gens[d]? = some g)(ha:g.is_async=0)
  (hn:∀g',gens[d+1]? = some g'->g'.is_async=0) :
  compTurn (.ListComp elt gens scope pos) d it acc env=(do
   standAt g.iter.pos
   match <-pyNext it with
   |none=>pure (.done .next)
   |some v=>
    letOwnedTupleGo g.target it v
    assign g.target env v
    let ok <-(forIn g.ifs true λc r=>if r=true then do let ok <-isTrue c env (eval c env);pure (cc ok)else pure (cc r))
    if ok then
     fK elt gens scope pos d acc env
     again (.compLoop (.ListComp elt gens scope pos) d it acc env)
    else again (.compLoop (.ListComp elt gens scope pos) d it acc env)):=by
 unfold compTurn;cases e:gens[d+1]? with
 |none=>
  simp only[hg,ha,e,fK]
  rfl
 |some g'=>
  have Lm:=hn g' e;simp only[hg,ha,e,Lm,fK];simp only[bne_self_eq_false,bp,if_false,bind_assoc,pure_bind]
  rfl
theorem yr{prog:aB}{w:az}{A:aD}{R:Result->af->Prop}{s:af}{elt:Expr}{gens:List bT}{scope:aR}{pos:Pos}{d:Nat}{g:bT}{it acc:ae}{env:Env}
  (hg:gens[d]? = some g) (ha:g.is_async=0)
  (h0:codeAny (ar prog w) A (.compLoop (.ListComp elt gens scope pos) d it acc env) R s)
  (h:aq (ar prog w) A (pyIter it) (λFx s'=>codeAny (ar prog w) A (.compLoop (.ListComp elt gens scope pos) d Fx acc env) R s')
   (notedBy (ar prog w) A env λx s'=>R (.error x) s') s) :
  codeAny (ar prog w) A (.compStart (.ListComp elt gens scope pos) d it acc env) R s:=by
 refine codeAny_of_tree ?_;show aq _ _ ((compStart (.ListComp elt gens scope pos) d it acc env).onRaise (λx=>do noteFrame x env;standAt theWindowsPlace)) _ _ s;refine wpAny_notedAt ?_;unfold compStart;have e2:(clausesOf (.ListComp elt gens scope pos))[d]? = some g:=hg;simp only[e2];rw[if_neg (by show ¬ (g.is_async != 0)=true;simp[ha])];show aq _ _ (ask>>=_) _ _ s;refine ah (wpAny_askSetting (wpAny_ite ?_));split
 ·first
   |exact ah (aC (aC (aw rfl h0)))
   |exact aC (aw rfl h0)
 ·first
   |exact ah (wpAny_rule (ah (wpAny_standAt (ah (bD h (λFx s' h'=>aC (aw rfl h')) λ_ _ x=>x)))))
   | (refine ah (wpAny_rule ?_);show aq _ _ (standAt g.iter.pos>>=_) _ _ s;exact ah (wpAny_standAt (ah (bD h (λFx s' h'=>aC (aw rfl h')) λ_ _ x=>x))))
def PTs(Y:Cx)(ifs:List Expr)(t:TT):Prop:=
 ∀(pins:List (Addr×Obj)) (s:af) (σ:St) (H:Hp) (Q:Bool->Hp->Prop),Inv Y pins σ H s->t σ H Q ->
  aq (ar Y.prog Y.w) Y.A (forIn ifs true λc r=>if r=true then do let ok <-isTrue c Y.env (eval c Y.env);pure (cc ok)else pure (cc r)) (TP Y pins σ Q) Y.xe s
def BV:TT:=λ_ H Q=>Q true H
theorem AY{Y:Cx}:PTs Y [] BV:=λ_ _ _ H _ I h=>wpAny_tests_nil ⟨H,I,h⟩
theorem yK{Y:Cx}{c:Expr}{t:TT}(hc:PT Y c t):PTs Y [c] t:=λpins s σ H Q I h=>wpAny_tests_one (hc pins s σ H Q I h)
def PB(Y:Cx)(m:Sem Unit)(t:TS):Prop:=
 ∀(pins:List (Addr×Obj)) (s:af) (σ:St) (H:Hp) (D:Ends),Inv Y pins σ H s->t D σ H ->
  aq (ar Y.prog Y.w) Y.A m (λ_ s'=>∃σ' H',Inv Y pins σ' H' s'/\D.nx σ' H') Y.xe s
section
variable{Y:Cx}{elt:Expr}{gens:List bT}{scope:aR}{pos:Pos}{d:Nat}
def jv(acc:Addr)(te:TE):TS:=λD σ H=>te σ H λy H1=>∃xs,H1 acc=some (.lst xs)/\xs.length<aK/\D.nx σ (upd H1 acc (.lst (xs++[y])))
theorem s_{acc:Addr}{te:TE}(hn:gens[d+1]? = none)(he:PE Y elt te):PB Y (fK elt gens scope pos d (.ref acc) Y.env) (jv acc te):=by
 intro pins s σ H D I h;unfold fK;rw[hn];refine ah (thn (he pins s σ H _ I h) λu s1 ⟨y,H1,I1,r1,xs,hx,hz,q⟩=>?_);refine ah (thn (tq pins s1 σ H1 (.ref acc) [y] (.ref acc) [u] (λ_ H'=>D.nx σ H') I1 rfl (.cons r1 .nil) ⟨acc,xs,y,rfl,rfl,hx,hz,q⟩) λ_ s2 ⟨_,H2,I2,_,q2⟩=>?_);exact aC ⟨σ,H2,I2,q2⟩
theorem Bq{g:bT}{it:Addr}{acc:ae}{fp:List Addr}{tn:Nat->Heap->Prop}{J:It}{tg:TG}{tt:TT}{tb:TS}(hc:Y.calm=true)(hx:∀e s,¬ Y.xe e s)(hg:gens[d]? = some g)(ha:g.is_async=0)
  (hn:∀g',gens[d+1]? = some g'->g'.is_async=0) (T:Turn Y.prog Y.w Y.K g.target J fp it tn) (pg:PG Y g.target tg) (pt:PTs Y g.ifs tt) (pb:PB Y (fK elt gens scope pos d acc Y.env) tb)
  {pins:List (Addr×Obj)}{s:af}{σ:St}{H:Hp}{D:Ends} (I:Inv Y pins σ H s) (st:tn 0 s.heap) (fr:∀b∈fp,cF Y pins H b)
  (h:∃W:Nat->Nat->St->Hp->Prop,(∃m,W 0 m σ H)/\∀i m σ H,W i m σ H ->
   (J.stop i H/\D.nx σ H)\/(J.go i H/\∃N:St->Hp->Prop,(∀σ' H',N σ' H'->∃m',m'<m/\W (i+1) m' σ' H')/\∀x H',J.yld i H x H'->tg x σ H' λσ2 H2=>gK tt tb gN {D with nx:=N,ct:=N,bk:=D.nx} σ2 H2)) :
  codeAny (ar Y.prog Y.w) Y.A (.compLoop (.ListComp elt gens scope pos) d (.ref it) acc Y.env) (λr s'=>r=.ok .next/\∃σ' H',Inv Y pins σ' H' s'/\D.nx σ' H') s:=by
 obtain⟨W,⟨m0,w0⟩,turn⟩:=h;have Fo:∀{H':Hp},(∀b∈fp,H' b=none)->∀b∈fp,cF Y pins H' b:=λhn b hb=>⟨hn b hb,(fr b hb).2⟩
 refine codeAny_loop rfl (λn s'=>∃i σ' H',Inv Y pins σ' H' s'/\tn i s'.heap/\(∀b∈fp,H' b=none)/\W i n σ' H') ?_ m0 ⟨0,σ,H,I,st,λb hb=>(fr b hb).1,w0⟩;rintro n s3 ⟨i,σ3,H3,I3,Fs,G2,w3⟩;show aq _ Y.A ((compTurn (.ListComp elt gens scope pos) d (.ref it) acc Y.env).onRaise (λx=>do noteFrame x Y.env;theTreesLotGoes x)) _ _ s3;refine wpAny_noted ?_;rw[BC hg ha hn];have nox:∀{E:ae->af->Prop} (e:ae) (s:af),Y.xe e s->E e s:=λe s z=>absurd z (hx e s)
 refine ah (wpAny_standAt ?_);rcases turn i n σ3 H3 w3 with ⟨stop,qn⟩|⟨go,N,hN,step⟩
 ·refine ah (thn (T.done Y rfl rfl rfl hc i pins s3 σ3 H3 _ I3 (Fo G2) Fs stop) λr s4 ⟨hr,I4⟩=>?_);subst hr;exact aC ⟨rfl,σ3,H3,I4,qn⟩
 ·refine ah (thn (T.item Y rfl rfl rfl hc i pins s3 σ3 H3 _ I3 (Fo G2) Fs go) λr s4 ⟨u,hr,h4⟩=>?_);subst hr;refine ah (thn h4 λ_ s5 ⟨x,H5,I5,r5,y5,Gn,HN⟩=>?_);have I5':=I5.pinned (Fo HN) (T.obj _ _ Gn);refine ah (bD (pg _ s5 σ3 H5 x u _ I5' r5 (step x H5 y5)) (λ_ s6 ⟨σ6,H6,I6,q6⟩=>?_) nox);have again:∀{s7:af}{σ7:St}{H7:Hp},Inv Y (pins++iA fp s5.heap) σ7 H7 s7->N σ7 H7->∃m,m<n/\∃i σ' H',Inv Y pins σ' H' s7/\tn i s7.heap/\(∀b∈fp,H' b=none)/\W i m σ' H':=λ{s7 σ7 H7} I7 n7=>by
   obtain⟨m',hm,w7⟩:=hN σ7 H7 n7;refine⟨m',hm,i+1,σ7,H7,I7.unpinned,T.keep _ _ _ Gn λb hb o e=>(I7.pin (b,o) (bP _ (bP _ (gQ hb e)))).1,λb hb=>?_,w7⟩;obtain⟨o,e,d⟩:=T.obj _ _ Gn b hb;exact(I7.pin (b,o) (bP _ (bP _ (gQ hb e)))).2.1
  refine ah (bD (pt _ s6 σ6 H6 _ I6 q6) (λb s7 ⟨H7,I7,q7⟩=>?_) nox);cases b with
  |true=>
   rw[if_pos rfl];rw[if_pos rfl]at q7;refine ah (bD (pb _ s7 σ6 H7 _ I7 q7) (λ_ s8 ⟨σ8,H8,I8,q8⟩=>?_) nox);exact aC ⟨rfl,again I8 q8⟩
  |false=>
   rw[if_neg bX];rw[if_neg bX]at q7;exact aC ⟨rfl,again I7 q7⟩
end
theorem lV{env:Env}:∀{names:List (Str×aW)}{cs:List (Str×Addr)},(∀x∈names,x.2=.free->∃c,env.cells.lookup x.1=some c) ->
  ∃cl,(forIn names cs (λ(x:Str×aW) (cs:List (Str×Addr))=>if (x.2==b6)=true then do let c <-cellOf env x.1;pure (cc ((x.1,c)::cs))else pure (cc cs)):Sem (List (Str×Addr)))=pure cl /\
   (∀x c,cl.lookup x=some c->env.cells.lookup x=some c\/cs.lookup x=some c)/\(∀x,(∃c,cs.lookup x=some c)->∃c,cl.lookup x=some c)/\∀x∈names,x.2=.free->∃c,cl.lookup x.1=some c
 | [],cs,_=>⟨cs,by rw[List.forIn_nil],λ_ _ h=>.inr h,λ_ h=>h,λ_ h=>nomatch h⟩
 | (n,k)::r,cs,h=>by
  rw[List.forIn_cons];by_cases hk:k=.free
  ·subst hk;obtain⟨c,hc⟩:=h (n,.free) aL rfl;have e:cellOf env n=pure c:=by
    have HA:env.cells.lookup n=some c:=hc;unfold cellOf;rw[HA]
   obtain⟨cl,e1,e2,e3,e4⟩:=lV (names:=r) (cs:=(n,c)::cs) λx hx=>h x (aO _ hx)
   refine⟨cl,?_,λx c' q=>?_,λx q=>e3 x ?_,λx hx hf=>?_⟩
   ·simp only[beq_self_eq_true,if_true,e,pure_bind];exact e1
   ·rcases e2 x c' q with z|z
    ·exact .inl z
    ·rw[bB]at z;by_cases HE:(x==n)=true
     ·rw[HE]at z;have:x=n:=by simpa using HE
      subst this;cases z;exact .inl hc
     ·have Hh:(x==n)=false:=by simpa using HE
      rw[Hh]at z;exact .inr z
   ·rw[bB];by_cases HE:(x==n)=true
    ·rw[HE];exact⟨c,rfl⟩
    ·have Hh:(x==n)=false:=by simpa using HE
     rw[Hh];exact q
   ·rcases aM.mp hx with z|z
    ·subst z;exact e3 n ⟨c,by rw[bB,beq_self_eq_true]⟩
    ·exact e4 x z hf
  ·have Ln:(k==b6)=false:=by simpa using hk
   obtain⟨cl,e1,e2,e3,e4⟩:=lV (names:=r) (cs:=cs) λx hx=>h x (aO _ hx)
   refine⟨cl,?_,e2,e3,λx hx hf=>?_⟩
   ·simp only[Ln,bp,if_false,pure_bind];exact e1
   ·rcases aM.mp hx with z|z
    ·subst z;exact absurd hf hk
    ·exact e4 x z hf
theorem jH{env:Env}{scope:aR}(h:∀x∈scope.names,x.2=.free->∃c,env.cells.lookup x.1=some c) :
  ∃cl,closureFor scope env=pure cl/\(∀x c,cl.lookup x=some c->env.cells.lookup x=some c)/\∀x∈scope.names,x.2=.free->∃c,cl.lookup x.1=some c:=by
 obtain⟨cl,e1,e2,_,e4⟩:=lV (env:=env) (names:=scope.names) (cs:=[]) h;refine⟨cl,?_,λx c q=>(e2 x c q).elim (λz=>z) (λz=>by simp at z),e4⟩;have e:closureFor scope env=(forIn scope.names [] (λ(x:Str×aW) (cs:List (Str×Addr))=>if (x.2==b6)=true then do let c <-cellOf env x.1;pure (cc ((x.1,c)::cs))else pure (cc cs))>>=λcs=>pure cs):=rfl;rw[e,e1,pure_bind]
theorem jZ{env:Env}:∀{names:List (Str×aW)}{x:Str}{k:aW},
  (names.map λ(n,k)=>if (k==b6&&env.scope.kind==.function&&env.kindOf n==some .cell)then (n,aW.cell)else (n,k)).lookup x=some k ->
  names.lookup x=some k\/(k=.cell/\names.lookup x=some .free)
 | [],_,_,h=>by simp at h
 | (n,k')::r,x,k,h=>by
  have ih:=@jZ env r x k;have h':List.lookup x ((if (k'==b6&&env.scope.kind==.function&&env.kindOf n==some .cell)=true then (n,aW.cell)else (n,k'))::r.map (λ(n,k)=>if (k==b6&&env.scope.kind==.function&&env.kindOf n==some .cell)then (n,aW.cell)else (n,k)))=some k:=h;cases hx:x==n with
  |true=>
   by_cases hc:(k'==b6&&env.scope.kind==.function&&env.kindOf n==some .cell)=true
   ·rw[if_pos hc]at h';simp only[bB,hx]at h';cases h';have:k'=.free:=by
     have z:(k'==b6)=true:=by
      cases q:(k'==b6)with
      |true=>rfl
      |false=>rw[q]at hc;simp at hc
     simpa using z
    subst this;exact .inr ⟨rfl,by simp[bB,hx]⟩
   ·rw[if_neg hc]at h';simp only[bB,hx]at h';cases h';exact .inl (by simp[bB,hx])
  |false=>
   have h2:(r.map (λ(n,k)=>if (k==b6&&env.scope.kind==.function&&env.kindOf n==some .cell)then (n,aW.cell)else (n,k))).lookup x=some k:=by
    by_cases hc:(k'==b6&&env.scope.kind==.function&&env.kindOf n==some .cell)=true
    ·rw[if_pos hc]at h';simpa only[bB,hx]using h'
    ·rw[if_neg hc]at h';simpa only[bB,hx]using h'
   rcases ih h2 with z|z
   ·exact .inl (by simpa only[bB,hx]using z)
   ·exact .inr ⟨z.1,by simpa only[bB,hx]using z.2⟩
noncomputable def gB(names:List (Str×aW)):List Str:=(names.filter λy=>y.2==.cell).map (·.1)
theorem kC:∀(names:List (Str×aW)) (n:Nat) (a b:List (Str×Addr)),bt n names (a++b)=bt n names a++b
 | [],_,_,_=>rfl
 | (x,k)::r,n,a,b=>by
  unfold bt;split
  ·exact kC r (n+1) ((x,n)::a) b
  ·exact kC r n a b
theorem kY{x:Str}{c:Addr}:∀{names:List (Str×aW)}{n:Nat}{a:List (Str×Addr)},(x,c)∈bt n names a->(x,c)∈a\/(x,aW.cell)∈names
 | [],_,_,h=>.inl h
 | (y,k)::r,n,a,h=>by
  unfold bt at h;split at h
  ·rename_i hk
   rcases kY h with z|z
   ·rcases aM.mp z with q|q
    ·have hk:k=.cell:=by simpa using hk
     cases q;exact .inr (by rw[hk];exact aL)
    ·exact .inl q
   ·exact .inr (aO _ z)
  ·rcases kY h with z|z
   ·exact .inl z
   ·exact .inr (aO _ z)
theorem oF{M:Model}{A:aD}{E:ae->af->Prop}{s:af}{scope:aR}{globals:Addr}{cl:List (Str×Addr)}{qual:Str}{env:Env}{Q:Env->af->Prop}
  (hQ:∀h₁,h₁.Ns s.heap.objs.size (λ_=>none)->(∀b o,s.heap.get? b=some o->h₁.get? b=some o)->CellsOk h₁ (s.heap.objs.size+1) (bt (s.heap.objs.size+1) scope.names []) ->
   Q (newEnv scope s.heap.objs.size globals (bt (s.heap.objs.size+1) scope.names []++cl) qual none .none (some env) builtinsNs) {s with heap:=h₁}) :
  aq M A (newFunctionEnv scope globals cl [] qual none .none (some env)) Q E s:=by
 simp only[newFunctionEnv,Option.isSome_some,if_true];refine ah (wpAny_alloc ?_);refine ah (wpAny_layCells _ (λname kind cells=>by cases JM:kind==aW.cell<;>simp[JM]) _ _ _ _ ?_);have ok:=cellsFrom_ok scope.names (s.heap.push {cls:=.type "dict",data:=.dict #[]}) (s.heap.objs.size+1) [] ⟨λ_ _ hm=>(nomatch hm),List.Pairwise.nil⟩ (by rw[Heap.size_push];exact aF _);rw[Heap.size_push]at ok;rw[show ({s with heap:=s.heap.push {cls:=.type "dict",data:=.dict #[]}}:af).heap.objs.size=s.heap.objs.size+1 from Heap.size_push ..];rw[show cl=[]++cl from rfl,kC];rw[List.forIn_nil];exact ah (aC (aC (hQ _ ((Heap.Ns.new s.heap (.type "dict")).keeps (pushCells_keeps _ _)) (λb o e=>pushCells_keeps _ _ b o (Heap.get?_push_of_some _ e)) ok)))
noncomputable def qq(X:Cx)(NY:List Str)(scope:aR)(cl:List (Str×Addr))(C:Addr)(s₀:af)(H₀:Hp)(fp:List Addr):Cx where
 prog:=X.prog
 w:=X.w
 K:=X.K
 mg:=X.mg
 base:=X.base
 A:=X.A
 N:=NY
 s₀:=s₀
 H₀:=H₀
 env:=compEnvC scope (bt (C+1) scope.names []++cl) C X.env
 outer:=X.stack
 stack:=X.stack
 ex:=fp
 fn:=λx=>(gB scope.names).contains x
 calm:=X.calm
 pn:=[]
 xe:=λ_ _=>False
noncomputable def caps(cap:List (Option Nat))(σ:St):St:=cap.map λo=>o.bind λj=>(σ[j]?).join
def oR(X:Cx)(NY:List Str)(cap:List (Option Nat))(scope:aR):Prop:=
 cap.length=NY.length/\∀(i j:Nat),cap[i]? = some (some j)->∃x,NY[i]? = some x/\X.N[j]? = some x/\scope.names.lookup x=some .free/\(X.env.kindOf x=some .cell\/X.env.kindOf x=some .free)
structure zq(X:Cx)(NY:List Str)(cap:List (Option Nat))(scope:aR):Prop where
 kind:scope.kind=.function
 cells:∀y∈scope.names,y.2=.cell->scope.names.lookup y.1=some .cell
 names:∀y∈scope.names,y.2=.local->scope.names.lookup y.1=some .local
 free:∀y∈scope.names,y.2=.free->X.env.kindOf y.1=some .cell\/X.env.kindOf y.1=some .free
 cap:oR X NY cap scope
theorem z_{cap:List (Option Nat)}{σ:St}{i:Nat}{v:V}(h:(caps cap σ)[i]? = some (some v)):∃j,cap[i]? = some (some j)/\σ[j]? = some (some v):=by
 unfold caps at h;rw[List.getElem?_map]at h;cases e:cap[i]? with
 |none=>rw[e]at h;simp at h
 |some o=>
  rw[e]at h;cases o with
  |none=>simp at h
  |some j=>
   refine⟨j,rfl,?_⟩;have h':(σ[j]?).join=some v:=by simpa using h
   cases q:σ[j]? with
   |none=>rw[q]at h';cases h'
   |some z=>rw[q]at h';exact congrArg some h'
theorem nS{X:Cx}{pins:List (Addr×Obj)}{σ:St}{H:Hp}{s:af}{NY:List Str}{cap:List (Option Nat)}{scope:aR}{cl:List (Str×Addr)}{fp:List Addr}{h₁:Heap}{m:Str->Option ae}
  (I:Inv X pins σ H s) (S:zq X NY cap scope) (E6:∀x c,cl.lookup x=some c->X.env.cells.lookup x=some c) (E9:∀x∈scope.names,x.2=.free->∃c,cl.lookup x.1=some c)
  (hf:∀b∈fp,cF X pins H b) (EZ:∀b∈fp,b<s.heap.objs.size) (hn:h₁.Ns s.heap.objs.size m) (hk:∀b o,s.heap.get? b=some o->h₁.get? b=some o) (GQ:CellsOk h₁ (s.heap.objs.size+1) (bt (s.heap.objs.size+1) scope.names [])) {tk:Nat} :
  Inv (qq X NY scope cl s.heap.objs.size s H fp) [] (caps cap σ) H {s with heap:=h₁,toks:=tk}:=by
 have JN:∀x,(compEnvC scope (bt (s.heap.objs.size+1) scope.names []++cl) s.heap.objs.size X.env).kindOf x=some .cell\/(compEnvC scope (bt (s.heap.objs.size+1) scope.names []++cl) s.heap.objs.size X.env).kindOf x=some .free->scope.names.lookup x=some .free\/scope.names.lookup x=some .cell:=λx hx=>by
  rcases hx with q|q
  ·rcases jZ (env:=X.env) (names:=scope.names) (x:=x) (k:=.cell) q with z|z
   ·exact .inr z
   ·exact .inl z.2
  ·rcases jZ (env:=X.env) (names:=scope.names) (x:=x) (k:=.free) q with z|z
   ·exact .inl z
   ·exact .inl z.2
 have HX:∀x c,cl.lookup x=some c->c<s.heap.objs.size:=λx c e=>by
  obtain⟨v,q⟩:=I.cell x c (E6 x c e);exact q.lt
 -- a cell is one of its own, or one from around
 have two:∀x c,(bt (s.heap.objs.size+1) scope.names []++cl).lookup x=some c->(x,c)∈bt (s.heap.objs.size+1) scope.names []\/cl.lookup x=some c:=λx c e=>by
  rw[List.lookup_append]at e;cases q:(bt (s.heap.objs.size+1) scope.names []).lookup x with
  |none=>rw[q]at e;exact .inr e
  |some c'=>rw[q]at e;cases e;exact .inl (cm q)
 have JO:∀x c,(x,c)∈bt (s.heap.objs.size+1) scope.names []->scope.names.lookup x=some .cell:=λx c e=>by
  rcases kY e with z|z
  ·cases z
  ·exact S.cells _ z rfl
 have F8:∀x c,(x,c)∈bt (s.heap.objs.size+1) scope.names []->s.heap.objs.size<c:=λx c e=>(GQ.empty x c e).2
 have Kz:∀x c,scope.names.lookup x=some .free->cl.lookup x=some c->(bt (s.heap.objs.size+1) scope.names []++cl).lookup x=some c:=λx c e1 e2=>by
  rw[List.lookup_append];cases q:(bt (s.heap.objs.size+1) scope.names []).lookup x with
  |none=>rw[e2];rfl
  |some c'=>have:=JO x c' (cm q);rw[e1]at this;cases this
 refine⟨⟨I.ok.mod,S.kind,I.ok.glob,I.ok.blt,aF _,λx y c e1 e2=>?_,λx hx=>?_,λx c e e2=>?_,I.ok.hd,I.ok.frames,.inl rfl,λb hb=>?_,λb o e=>I.bs b o e,a8 I.ok.bsz I.sz,λb o e hb=>?_,λb hb z=>?_,I.stack,I.stkFree⟩,
  rfl,I.bare,Un.kept hk,⟨m,hn,λi x v e1 e2 e3=>?_⟩,λx c e=>?_,I.hok.fresh (aF _),λx c e=>?_,λp hp=>absurd (show p∈([]:List (Addr×Obj))from hp) (by simp),I.hok.kept hk,?_⟩
 ·rcases two x c e1 with z1|z1<;>rcases two y c e2 with z2|z2
  ·exact name_of_addr GQ.apart z1 z2
  ·exact absurd (Nat.lt_trans (HX y c z2) (F8 x c z1)) (bN _)
  ·exact absurd (Nat.lt_trans (HX x c z1) (F8 y c z2)) (bN _)
  ·exact I.ok.inj x y c (E6 x c z1) (E6 y c z2)
 ·rcases JN x hx with z|z
  ·obtain⟨c,hc⟩:=E9 (x,.free) (cm z) rfl;exact⟨c,Kz x c z hc⟩
  ·obtain⟨c,hc⟩:=kg (n:=s.heap.objs.size+1) z;refine⟨c,?_⟩;show (bt (s.heap.objs.size+1) scope.names []++cl).lookup x=some c;rw[List.lookup_append,hc];rfl
 ·have e:(gB scope.names).contains x=true:=e;have hm:scope.names.lookup x=some .cell:=by
   simp only[gB,List.contains_iff_mem,aN,aS,beq_iff_eq]at e;obtain⟨y,⟨y1,y2⟩,rfl⟩:=e;exact S.cells y y1 y2
  rcases two x c e2 with z|z
  ·exact Nat.le_of_lt (F8 x c z)
  ·obtain⟨c',hc⟩:=kg (n:=s.heap.objs.size+1) hm;have e2:(bt (s.heap.objs.size+1) scope.names []++cl).lookup x=some c:=e2;rw[List.lookup_append,hc]at e2;cases e2;exact Nat.le_of_lt (F8 x _ (cm hc))
 ·obtain⟨f0,f1,f2,f3,f4,f5⟩:=hf b hb;refine⟨bq (EZ b hb),λx c e=>?_⟩;rcases two x c e with z|z
  ·exact λw=>absurd (Nat.lt_trans (F8 x c z) (w▸EZ b hb)) (bN _)
  ·exact f4 x c (E6 x c z)
 ·obtain⟨f0,f1,f2,f3,f4,f5⟩:=hf b hb;rcases f3 with z|z
  ·exact I.ok.noex b o e z
  ·exact absurd (bA (aP e) (a8 I.ok.bsz z)) (bN _)
 ·obtain⟨f0,f1,f2,f3,f4,f5⟩:=hf b hb;rcases aM.mp (I.stkSub b z)with q|q
  ·exact f1 q
  ·exact f2 q
 ·obtain⟨j,c1,c2⟩:=z_ e2;obtain⟨x',n1,n2,n3,n4⟩:=S.cap.2 i j c1;have ex:x'=x:=bM (n1.symm.trans e1);subst ex;obtain⟨m',_,hl⟩:=I.loc;obtain⟨u,r,l⟩:=hl j x' v n2 c2 (n4.elim (λz=>.inr (.inl z)) λz=>.inr (.inr z));refine⟨u,r,.inr ⟨?_,?_⟩⟩
  ·rcases e3 with z|z|z
   ·rcases jZ (env:=X.env) (names:=scope.names) (x:=x') (k:=.local) z with q|q
    ·rw[n3]at q;cases q
    ·cases q.1
   ·exact .inl z
   ·exact .inr z
  ·rcases l with ⟨kk,_⟩|⟨_,c,ec,ic⟩
   ·rcases n4 with z|z
    ·rw[kk]at z;cases z
    ·rw[kk]at z;cases z
   ·obtain⟨c',KA⟩:=E9 (x',.free) (cm n3) rfl;have:=E6 x' c' KA;rw[ec]at this;cases this;obtain⟨o,ho,hd⟩:=ic;exact⟨c,Kz x' c n3 KA,o,hk _ _ ho,hd⟩
 ·rcases two x c e with z|z
  ·exact⟨_,(GQ.empty x c z).1⟩
  ·obtain⟨v,o,ho,hd⟩:=I.cell x c (E6 x c z);exact⟨v,o,hk _ _ ho,hd⟩
 ·rcases two x c e with z|z
  ·exact I.hok.fresh (Nat.le_of_lt (F8 x c z))
  ·exact I.freeC x c (E6 x c z)
 ·show (caps cap σ).length=NY.length;unfold caps;rw[aV];exact S.cap.1
def mJ(cap:List (Option Nat))(wi:TI)(tg:TG)(tt:TT)(tb:Addr->TS):TE:=λσ H Q=>wi σ H λJ H1=>∀acc,H1 acc=none ->
 ∃W:Nat->Nat->St->Hp->Prop,(∃m,W 0 m (caps cap σ) (upd H1 acc (.lst [])))/\∀i m τ H,W i m τ H ->
  (J.stop i H/\(Ends.mk (λ_ H=>Q (.ref acc) H) (λ_ _=>False) (λ_ _=>False) (λ_ _=>False)).nx τ H)\/(J.go i H/\∃N:St->Hp->Prop,(∀σ' H',N σ' H'->∃m',m'<m/\W (i+1) m' σ' H')/\∀x H',J.yld i H x H' ->
   tg x τ H' λσ2 H2=>gK tt (tb acc) gN {(Ends.mk (λ_ H=>Q (.ref acc) H) (λ_ _=>False) (λ_ _=>False) (λ_ _=>False))with nx:=N,ct:=N,bk:=(Ends.mk (λ_ H=>Q (.ref acc) H) (λ_ _=>False) (λ_ _=>False) (λ_ _=>False)).nx} σ2 H2)
structure Loose(X:Cx)(pins:List (Addr×Obj))(C:Addr):Prop where
 loc:C≠X.env.locals
 cell:∀x c,X.env.cells.lookup x=some c->c≠C
 up:X.s₀.heap.objs.size<=C
 pin:∀p∈X.pn++pins,p.1≠C
theorem Loose.turn{X:Cx}{pins:List (Addr×Obj)}{C:Addr}{σ:St}{H:Hp}{s:af}{h':Heap}(L:Loose X pins C)(I:Inv X pins σ H s)(hn:H C=none)(hs:Heap.SameBut C s.heap h'):Inv X pins σ H {s with heap:=h'}:=
 I.turned (t':=s.toks) (it:=C) (λb o hb e=>(hs.2 b hb).trans e) hn L.loc (.inr L.up) L.cell L.pin
section
variable{X:Cx}{elt tgt it:Expr}{ifs:List Expr}{gs:List bT}{scope:aR}{pos:Pos}{NY:List Str}{cap:List (Option Nat)}{wi:TI}{tg:TG}{tt:TT}{tb:Addr->TS}
theorem p9{Q:VK}{pins:List (Addr×Obj)}{σ:St}{H:Hp}{s s2:af}{cl:List (Str×Addr)}{Gi:ae}{E:ae->af->Prop}{use:Option (ae->Sem Unit)}{QQ:ae->af->Prop}
  (hc:X.calm=true) (S:zq X NY cap scope) (HY:∀g'∈gs,g'.is_async=0)
  (E6:∀x c,cl.lookup x=some c->X.env.cells.lookup x=some c) (E9:∀x∈scope.names,x.2=.free->∃c,cl.lookup x.1=some c)
  (hb:∀cl C s₀ H₀ fp,PG (qq X NY scope cl C s₀ H₀ fp) tgt tg/\PTs (qq X NY scope cl C s₀ H₀ fp) ifs tt/\∀acc,PB (qq X NY scope cl C s₀ H₀ fp) (fK elt (⟨tgt,it,ifs,0⟩::gs) scope pos 0 (.ref acc) (qq X NY scope cl C s₀ H₀ fp).env) (tb acc))
  (h2:PIE X pins σ tgt (λJ H1=>∀acc,H1 acc=none ->
   ∃W:Nat->Nat->St->Hp->Prop,(∃m,W 0 m (caps cap σ) (upd H1 acc (.lst [])))/\∀i m τ H,W i m τ H ->
    (J.stop i H/\(Ends.mk (λ_ H=>Q (.ref acc) H) (λ_ _=>False) (λ_ _=>False) (λ_ _=>False)).nx τ H)\/(J.go i H/\∃N:St->Hp->Prop,(∀σ' H',N σ' H'->∃m',m'<m/\W (i+1) m' σ' H')/\∀x H',J.yld i H x H' ->
     tg x τ H' λσ2 H2=>gK tt (tb acc) gN {(Ends.mk (λ_ H=>Q (.ref acc) H) (λ_ _=>False) (λ_ _=>False) (λ_ _=>False))with nx:=N,ct:=N,bk:=(Ends.mk (λ_ H=>Q (.ref acc) H) (λ_ _=>False) (λ_ _=>False) (λ_ _=>False)).nx} σ2 H2)) Gi s2)
  (fin:∀(acc C:Addr) (s':af) (m:Str->Option ae) (H':Hp),s'.heap.Ns C m->Loose X pins C->Inv X pins σ H' s'->H' C=none->Q (.ref acc) H'->compPost (ar X.prog X.w) X.A E use QQ (.ref acc) C (.ok .next) s') :
  aq (ar X.prog X.w) X.A (newList []) (λacc s₃=>aq (ar X.prog X.w) X.A (newFunctionEnv scope X.env.globals cl [] X.env.qual none .none (some X.env)) (λGq s₄=>
   codeAny (ar X.prog X.w) X.A (.compStart (.ListComp elt (⟨tgt,it,ifs,0⟩::gs) scope pos) 0 Gi acc {Gq with scope:=relabel scope X.env}) (compPost (ar X.prog X.w) X.A E use QQ acc Gq.locals) s₄) E s₃) E s2:=by
 obtain⟨ia,fp,tn,J,H2,e,I2,T,FC,f2,q⟩:=h2;subst e;have Gr:∀b∈fp,b<s2.heap.objs.size:=λb hb=>by
  obtain⟨o,ho,_⟩:=T.obj _ _ FC b hb;exact aP ho
 refine wpAny_newObj_type ?_;have E5:H2 s2.heap.objs.size=none:=I2.hok.fresh (aF _);have I3:Inv X pins σ (upd H2 s2.heap.objs.size (.lst [])) {s2 with heap:=s2.heap.push {cls:=.type "list",dict:=none,data:=.seq ([]:List ae).toArray}}:=
  I2.laid (t':=s2.toks) (λb u e=>Heap.get?_push_of_some _ e) (aF _) ⟨bz _,[],0,.nil,Heap.get?_push_size _ rfl⟩
 have Hi:(s2.heap.push {cls:=.type "list",dict:=none,data:=.seq ([]:List ae).toArray}).objs.size=s2.heap.objs.size+1:=Heap.size_push ..;generalize HZ:({s2 with heap:=s2.heap.push {cls:=.type "list",dict:=none,data:=.seq ([]:List ae).toArray}}:af)=s3 at I3 ⊢;have hsz:s3.heap.objs.size=s2.heap.objs.size+1:=by rw[<-HZ];exact Hi
 have Fs:tn 0 s3.heap:=T.keep _ _ _ FC λb hb o e=>by rw[<-HZ];exact Heap.get?_push_of_some _ e
 have f3:∀b∈fp,cF X pins (upd H2 s2.heap.objs.size (.lst [])) b:=λb hb=>⟨by rw[ql (bq (Gr b hb))];exact(f2 b hb).1,(f2 b hb).2⟩
 have Gs:∀b∈fp,b<s3.heap.objs.size:=λb hb=>by rw[hsz];exact cN (Gr b hb)
 refine oF λh₁ hns₁ FX GQ=>?_
 have IY:=nS (tk:=s3.toks) I3 S E6 E9 f3 Gs hns₁ FX GQ;have H_:tn 0 h₁:=T.keep _ _ _ Fs λb hb o e=>FX b o e
 obtain⟨pg,pt,pb⟩:=hb cl s3.heap.objs.size s3 (upd H2 s2.heap.objs.size (.lst [])) fp;have fY:∀b∈fp,cF (qq X NY scope cl s3.heap.objs.size s3 (upd H2 s2.heap.objs.size (.lst [])) fp) [] (upd H2 s2.heap.objs.size (.lst [])) b:=λb hb=>by
  obtain⟨g0,g1,g2,g3,g4,g5⟩:=f3 b hb;refine⟨g0,bq (Gs b hb),λz=>?_,.inl hb,(IY.ok.exf b hb).2,λp hp=>absurd (show p∈([]:List (Addr×Obj))from hp) (by simp)⟩;rcases aM.mp (I3.stkSub b z)with w|w
  ·exact g1 w
  ·exact g2 w
 have L:=Bq (elt:=elt) (gens:=⟨tgt,it,ifs,0⟩::gs) (scope:=scope) (pos:=pos) (d:=0) (Y:=qq X NY scope cl s3.heap.objs.size s3 (upd H2 s2.heap.objs.size (.lst [])) fp) (acc:=.ref s2.heap.objs.size) hc (λ_ _ z=>z) rfl rfl
  (λg' hg'=>HY g' (List.mem_of_getElem? (i:=0) (by simpa using hg'))) T pg pt (pb s2.heap.objs.size) IY H_ fY (q s2.heap.objs.size E5)
 refine codeAny_mono (yr (elt:=elt) (gens:=⟨tgt,it,ifs,0⟩::gs) (scope:=scope) (pos:=pos) (d:=0) (env:=compEnvC scope (bt (s3.heap.objs.size+1) scope.names []++cl) s3.heap.objs.size X.env) rfl rfl L (T.self _ 0 _ _ _ H_ L)) λr s' ⟨e,τ',H',I',q'⟩=>?_
 subst e;obtain⟨m',Ha,_⟩:=id I'.loc;have Hj:s3.heap.objs.size≠X.env.locals:=Nat.ne_of_gt I3.lt;have Hk:∀x c,X.env.cells.lookup x=some c->c≠s3.heap.objs.size:=λx c e z=>by
  obtain⟨v,qv⟩:=I3.cell x c e;exact absurd qv.lt (by rw[z];exact bN _)
 have J1:Inv X pins σ H' s':=by
  refine I3.call' (ch:=fp) I'.os I'.base I'.hok I'.bare λb hb=>?_
  obtain⟨g0,g1,g2,g3,g4,g5⟩:=f3 b hb;exact⟨g3,g1,g4,g5⟩
 refine fin s2.heap.objs.size s3.heap.objs.size s' m' H' Ha ⟨Hj,Hk,I3.sz,λp hp z=>?_⟩ J1 I'.free q';have:=aP (I3.pin p hp).1;rw[z]at this;exact bN _ this
theorem CK(hc:X.calm=true)(S:zq X NY cap scope)(hi:PI X tgt it wi)
  (hb:∀cl C s₀ H₀ fp,PG (qq X NY scope cl C s₀ H₀ fp) tgt tg/\PTs (qq X NY scope cl C s₀ H₀ fp) ifs tt/\∀acc,PB (qq X NY scope cl C s₀ H₀ fp) (fK elt (⟨tgt,it,ifs,0⟩::gs) scope pos 0 (.ref acc) (qq X NY scope cl C s₀ H₀ fp).env) (tb acc))
  (HY:∀g'∈gs,g'.is_async=0)
  (hs:∀x,foldedSetIterable it X.env x=pure x):PE X (.ListComp elt (⟨tgt,it,ifs,0⟩::gs) scope pos) (mJ cap wi tg tt tb):=by
 intro pins s σ H Q I h;obtain⟨cl,Gv,E6,E9⟩:=jH (env:=X.env) (scope:=scope) λx hx hf=>I.ok.has x.1 (S.free x hx hf)
 rw[eval_ListComp];refine wpAny_comprehension_free (use:=none) rfl hs Gv S.kind S.names (thn (hi pins s σ H _ I h) λv s1 h1=>thn h1 λGi s2 h2=>?_);exact p9 (s:=s) (H:=H) (use:=none) hc S HY E6 E9 hb h2 λacc C s' m H' hn L I' hC q=>⟨m,hn,λh' Fh=>⟨.ref acc,H',L.turn I' hC Fh,rfl,q⟩⟩
theorem yu{i:Nat}{x:Str}{pos' spos:Pos}(hN:X.N.Nodup)(F9:X.N[i]? = some x)(hx:Loc X.env.scope x)(hc:X.calm=true)(S:zq X NY cap scope)(hi:PI X tgt it wi)
  (hb:∀cl C s₀ H₀ fp,PG (qq X NY scope cl C s₀ H₀ fp) tgt tg/\PTs (qq X NY scope cl C s₀ H₀ fp) ifs tt/\∀acc,PB (qq X NY scope cl C s₀ H₀ fp) (fK elt (⟨tgt,it,ifs,0⟩::gs) scope pos 0 (.ref acc) (qq X NY scope cl C s₀ H₀ fp).env) (tb acc))
  (HY:∀g'∈gs,g'.is_async=0)
  (JP:swapsWith (.ListComp elt (⟨tgt,it,ifs,0⟩::gs) scope pos) (some (.Name x pos')) spos.line X.env=pure true)
  (hf:X.fn x=true\/X.env.scope.names.lookup x=some .local)
  (hs:∀x,foldedSetIterable it X.env x=pure x) :
  PS X (.Assign [.Name x pos'] (.ListComp elt (⟨tgt,it,ifs,0⟩::gs) scope pos) spos) (jn (mJ cap wi tg tt tb) (eZ i)):=by
 intro pins s σ H D I h;obtain⟨cl,Gv,E6,E9⟩:=jH (env:=X.env) (scope:=scope) λx hx hf=>I.ok.has x.1 (S.free x hx hf)
 rw[exec_Assign_Name_used _ _ _ _ JP];refine ah (wpAny_standAt (ah ?_));show aq _ _ (do let _ <-comprehension (.ListComp elt (⟨tgt,it,ifs,0⟩::gs) scope pos) scope X.env _ (newList []) false (eval it X.env) (some (assign (.Name x pos') X.env))) _ _ s;refine ah (bD (wpAny_comprehension_free (use:=some (assign (.Name x pos') X.env)) (Q:=λ_ s'=>SP X pins D .next s') rfl hs Gv S.kind S.names (thn (hi pins s σ H _ I h) λv s1 h1=>thn h1 λGi s2 h2=>?_)) (λ_ s' q=>aC (aC q)) λ_ _ e=>e);refine p9 (s:=s) (H:=H) (Q:=λx H1=>eZ i x σ H1 D.nx) (use:=some (assign (.Name x pos') X.env)) hc S HY E6 E9 hb h2 λacc C s' m H' hn L I1 hC q1=>?_
 show aq _ _ (assign (.Name x pos') X.env (.ref acc)) _ _ _;refine wpAny_assign_Name (lR (v:=.ref acc) I1 hN F9 hx rfl (λs3 I3 ⟨a,JQ,ha⟩=>?_) hf);have JR:C≠a:=by
  rcases ha with z|z
  ·rw[z];exact L.loc
  ·exact Ne.symm (L.cell x a z)
 exact⟨m,hn.sameBut JQ JR,λh' IJ=>⟨_,H',L.turn I3 hC IJ,q1⟩⟩
end
theorem zJ.there{P:aB}{w:az}{H:Hp}{h:Heap}{a:Addr}{o:HO}(x:zJ P w H h a o):∃u,h.get? a=some u:=by
 cases o with
 |lst xs=>obtain⟨_,_,_,_,e⟩:=x;exact⟨_,e⟩
 |tup xs=>obtain⟨_,_,_,o,e,_⟩:=x;exact⟨_,e⟩
 |dK kvs=>obtain⟨_,_,_,_,o,_,_,e,_⟩:=x;exact⟨_,e⟩
 |dT kvs=>obtain⟨_,_,_,_,o,_,_,e,_⟩:=x;exact⟨_,e⟩
 |set S n=>obtain⟨o,_,_,_,e,_⟩:=x;exact⟨_,e⟩
 |ins C dx fs=>obtain⟨_,_,_,e,_⟩:=x;exact⟨_,e⟩
 |own y=>obtain⟨_,e⟩:=x;exact⟨_,e⟩
 |xd fs=>obtain⟨_,⟨_,_,_,e,_⟩,_⟩:=x;exact⟨_,e⟩
 |rng lo hi=>obtain⟨_,_,_,e⟩:=x;exact⟨_,e⟩
 |frz ob u=>obtain⟨e,_⟩:=x;exact⟨_,e⟩
 |tbl ps=>exact⟨_,(show h.get? a=some _ from x)⟩
 |met f y=>exact⟨_,(show h.get? a=some _ from x)⟩
 |ext φ=>obtain⟨_,e,_⟩:=x;exact e
theorem HOk.free_of{P:aB}{w:az}{H:Hp}{h:Heap}{a:Addr}(x:HOk P w H h)(e:h.get? a=none):H a=none:=by
 cases q:H a with
 |none=>rfl
 |some o=>obtain⟨u,z⟩:=(x a o q).there;rw[e]at z;cases z
structure Apart(X:Cx)(pins:List (Addr×Obj))(H:Hp)(b:Addr):Prop where
 new:X.s₀.heap.get? b=none
 free:H b=none
 pin:∀p∈X.pn++pins,p.1≠b
structure fi(X:Cx)(pins:List (Addr×Obj))(H:Hp)(h:Heap)(x:Addr)(cls:ae):Prop where
 me:Apart X pins H x
 tr:∃oe vs T oT ts a0,h.get? x=some oe/\oe.cls=cls/\vs[0]? = some a0/\oe.data=.fields vs/\vs[1]? = some (.ref T)/\T≠x/\h.get? T=some oT/\oT.data=.fields ts/\ts[3]? = some .none/\Apart X pins H T
structure Fly(h₀ h:Heap)(H:Hp)(x:Addr)(cls:ae):Prop where
 new:h₀.get? x=none
 free:H x=none
 tr:∃oe vs T oT ts a0,h.get? x=some oe/\oe.cls=cls/\vs[0]? = some a0/\oe.data=.fields vs/\vs[1]? = some (.ref T)/\T≠x/\h.get? T=some oT/\oT.data=.fields ts/\ts[3]? = some .none/\h₀.get? T=none/\H T=none
def CX1(P:aB)(w:az):CXT:=λouter H s E e s'=>
 ∃x cls H',e=.ref x/\s'.os=s.os/\AllBare s'.gens/\Un (frs outer) [] H H' s.heap s'.heap/\HOk P w H' s'.heap/\Fly s.heap s'.heap H' x cls/\E cls none H'
section
variable{X:Cx}{pins:List (Addr×Obj)}{σ:St}{H:Hp}{s:af}{x T:Addr}{cls:ae}
theorem Inv.stepN{h':Heap}{t':Nat}{ch:List Addr}(I:Inv X pins σ H s)(hex:X.ex=[])(FK:∀b∈ch,Apart X pins H b/\b≠X.env.locals/\(∀x c,X.env.cells.lookup x=some c->c≠b)/\b∉X.fs)
  (keep:∀b o,b∉frs X.stack->b≠X.env.locals->b∉X.fs->b∉ch->s.heap.get? b=some o->h'.get? b=some o)
  (slot:∀b o,(b∈frs X.stack\/b=X.env.locals\/b∈X.fs)->s.heap.get? b=some o->∃sl,h'.get? b=some {o with slots:=sl}) (there:∀b o,b∉ch->s.heap.get? b=some o->∃o',h'.get? b=some o') :
  Inv X pins σ H {s with heap:=h',toks:=t'}:=by
 have sub:∀b,b∈frs X.stack->b=X.env.locals\/b∈X.fs:=λb hb=>aM.mp (I.stkSub b hb)
 have FY:∀b o,b≠X.env.locals->b∉X.fs->b∉ch->s.heap.get? b=some o->h'.get? b=some o:=λb o h1 h2 h3 e=>keep b o (λz=>(sub b z).elim h1 h2) h1 h2 h3 e
 have IG:∀b o,X.s₀.heap.get? b=some o->b≠X.env.locals:=λb o e=>bq (bA (aP e) I.ok.above)
 have G':∀b o,X.s₀.heap.get? b=some o->b∉ch:=λb o e hb=>by
  have:=(FK b hb).1.new;rw[e]at this;cases this
 have cellK:∀x c,X.env.cells.lookup x=some c->∀v,s.heap.IsCell c v->h'.IsCell c v:=λx c e v ⟨o,ho,hd⟩=>by
  have FA:c∉ch:=λz=>(FK c z).2.2.1 x c e rfl
  by_cases hc:c∈X.fs
  ·obtain⟨sl,q⟩:=slot c o (.inr (.inr hc)) ho;exact⟨_,q,hd⟩
  ·exact⟨o,FY c o (I.cne x c e) hc FA ho,hd⟩
 have F_:∀b,b∉X.ex:=λb=>by rw[hex];simp
 refine⟨I.ok,I.os,I.bare,⟨λb o e n hb hx=>?_,λb o e n hb hx=>?_,I.base.free,λb o e hx=>?_,I.base.tups,I.base.frzs,I.base.tbls⟩,?_,λx c e=>?_,I.free,I.freeC,λp hp=>?_,λb u e=>?_,I.len⟩
 ·exact FY b o (IG b o e) hb (G' b o e) (I.base.keep b o e n hb hx)
 ·obtain⟨sl,e1⟩:=I.base.slot b o e n hb hx;obtain⟨Jy,e2⟩:=slot b _ (.inr (.inr hb)) e1;exact⟨Jy,e2⟩
 ·obtain⟨o',e1⟩:=I.base.there b o e hx;exact there b o' (G' b o e) e1
 ·obtain⟨m,hn,hl⟩:=I.loc;obtain⟨oL,es,ep,Fj,Lo,r⟩:=id hn;obtain⟨sl,eL⟩:=slot _ _ (.inr (.inl rfl)) Fj;refine⟨m,⟨_,es,ep,eL,Lo,r⟩,λi x v e1 e2 e3=>?_⟩;obtain⟨u,ru,l⟩:=hl i x v e1 e2 e3;refine⟨u,ru,?_⟩;rcases l with l|⟨k,c,e,z⟩
  ·exact .inl l
  ·exact .inr ⟨k,c,e,cellK x c e _ z⟩
 ·obtain⟨v,z⟩:=I.cell x c e;exact⟨v,cellK x c e v z⟩
 ·obtain⟨e,n,ne,nf,d⟩:=I.pin p hp;exact⟨FY p.1 p.2 ne nf (λz=>(FK p.1 z).1.pin p hp rfl) e,n,ne,nf,d⟩
 ·have Lp:∀b,(∃u,H b=some u)->b≠X.env.locals/\b∉X.fs/\b∉ch:=λb ⟨u,e⟩=>by
   refine⟨λz=>?_,λz=>?_,λz=>?_⟩
   ·rw[z,I.free]at e;cases e
   ·obtain⟨_,o,ho,_⟩:=I.ok.funs.mem z;have:=I.base.free b o ho (I.ok.frf b z) (F_ b);rw[e]at this;cases this
   ·have:=(FK b z).1.free;rw[e]at this;cases this
  refine(I.hok b u e).stay (λc v hc q=>?_) (λ_ q=>q) λ_ _ q=>q
  have HA:∃u,H c=some u:=by
   rcases hc with z|z
   ·exact⟨u,by rw[z];exact e⟩
   ·exact⟨_,z⟩
  obtain⟨n1,n2,n3⟩:=Lp c HA;exact FY c v n1 n2 n3 q
theorem Inv.rec_ne(I:Inv X pins σ H s){b:Addr}{o:Obj}{vs:Array ae}(e:s.heap.get? b=some o)(d:o.data=.fields vs):b≠X.env.locals/\(∀x c,X.env.cells.lookup x=some c->c≠b)/\b∉X.fs/\b∉frs X.stack:=by
 have h1:b≠X.env.locals:=λz=>by
  obtain⟨m,⟨o',es,ep,ho,hd,_⟩,_⟩:=I.loc;rw[<-z,e]at ho;cases ho;rw[d]at hd;cases hd
 have h3:b∉X.fs:=λz=>by
  obtain⟨_,o',ho,hn⟩:=I.funs.mem z;rw[e]at ho;cases ho;exact hn vs d
 refine⟨h1,λx c ec z=>?_,h3,λz=>(aM.mp (I.stkSub b z)).elim h1 h3⟩;obtain⟨v,o',ho,hd⟩:=I.cell x c ec;rw[z,e]at ho;cases ho;rw[d]at hd;cases hd
theorem fi.flying(I:Inv X pins σ H s)(F:fi X pins H s.heap x cls):∃T oT ts a0,Heap.FlyingW (PySem.W.hideAll s.heap (x::T::frs X.stack)) X.stack x cls a0 s.heap/\s.heap.get? T=some oT/\oT.data=.fields ts/\Apart X pins H T:=by
 obtain⟨oe,vs,T,oT,ts,a0,e1,e2,e3,e4,e5,e6,e7,e8,e9,JS⟩:=F.tr;refine⟨T,oT,ts,a0,⟨λb o q=>PySem.W.of_hideAll _ q,PySem.W.hideAll_none _ aL,?_,oe,vs,T,oT,ts,e1,⟨e2,e3⟩,e4,e5,PySem.W.hideAll_none _ (aO _ aL),e6,e7,e8,e9⟩,e7,e8,JS⟩;exact PySem.W.funFrames_hide I.stack λenv he a ha=>aO _ (aO _ (List.mem_filterMap.mpr ⟨env,he,ha⟩))
theorem fi.back(I:Inv X pins σ H s)(hex:X.ex=[])(me:Apart X pins H x){ox:Obj}{vs:Array ae}(hx:s.heap.get? x=some ox)(Lq:ox.data=.fields vs){oT:Obj}{ts:Array ae}(hT:s.heap.get? T=some oT)(JT:oT.data=.fields ts)(aT:Apart X pins H T)
  {l:List Env}{a0:ae}{h':Heap} (W:Heap.FlyingW (PySem.W.hideAll s.heap (x::T::frs X.stack)) l x cls a0 h') (u:s.heap.UpToSlots h') :
  Inv X pins σ H {s with heap:=h'}/\fi X pins H h' x cls:=by
 obtain⟨w1,w2,w3,JU,IK,T',oT',IL,f1,⟨f2,f3⟩,f4,f5,f6,f7,f8,f9,HF⟩:=W;obtain⟨Lr,Ls,Lu,Nh⟩:=I.rec_ne hx Lq;obtain⟨Lv,Lw,Lx,Ni⟩:=I.rec_ne hT JT;have KC:∀b o,(b∈frs X.stack\/b=X.env.locals\/b∈X.fs)->s.heap.get? b=some o->∀ws,o.data≠.fields ws:=λb o hb e ws d=>by
  obtain⟨n1,n2,n3,n4⟩:=I.rec_ne e d;rcases hb with z|z|z
  ·exact n4 z
  ·exact n1 z
  ·exact n3 z
 have FA:∀b,b∉[x,T]->b∉frs X.stack->b∉(x::T::frs X.stack):=λb h1 h2 h3=>by
  rcases aM.mp h3 with z|h3
  ·exact h1 (by simp[z])
  ·rcases aM.mp h3 with z|h3
   ·exact h1 (by simp[z])
   ·exact h2 h3
 refine⟨?_,me,JU,IK,T',oT',IL,a0,f1,f2,f3,f4,f5,f7,f8,f9,HF,?_⟩
 ·refine I.stepN (t':=s.toks) (ch:=[x,T]) hex (λb hb=>?_) (λb o h1 h2 h3 h4 e=>w1 b o (PySem.W.hideAll_get _ e (FA b h4 h1))) (λb o hb e=>u b o e (KC b o hb e)) λb o h4 e=>?_
  ·rcases aM.mp hb with z|hb
   ·subst z;exact⟨me,Lr,Ls,Lu⟩
   ·have z:b=T:=by simpa using hb
    subst z;exact⟨aT,Lv,Lw,Lx⟩
  ·by_cases hb:b∈frs X.stack
   ·obtain⟨sl,q⟩:=u b o e (KC b o (.inl hb) e);exact⟨_,q⟩
   ·exact⟨o,w1 b o (PySem.W.hideAll_get _ e (FA b h4 hb))⟩
 ·by_cases KD:T'=T
  ·rw[KD];exact aT
  ·by_cases KH:T'∈frs X.stack
   ·obtain⟨_,o,ho,hn⟩:=I.stack.mem KH;obtain⟨sl,q⟩:=u T' o ho hn;rw[q]at f8;have z:({o with slots:=sl}:Obj)=oT':=bM f8;subst z;exact absurd f9 (hn IL)
   ·have Fv:s.heap.get? T'=none:=by
     cases q:s.heap.get? T' with
     |none=>rfl
     |some o=>
      have:(PySem.W.hideAll s.heap (x::T::frs X.stack)).get? T'=some o:=PySem.W.hideAll_get _ q (FA T' (by simp[f7,KD]) KH);rw[f6]at this;cases this
    refine⟨?_,I.hok.free_of Fv,λp hp z=>?_⟩
    ·cases q:X.s₀.heap.get? T' with
     |none=>rfl
     |some o=>
      obtain⟨o',e'⟩:=I.base.there T' o q (by rw[hex];simp);rw[Fv]at e';cases e'
    ·have:=(I.pin p hp).1;rw[z,Fv]at this;cases this
theorem Eh{P:aB}{w:az}(hP:X.prog=P)(hw:X.w=w)(I:Inv X pins σ H s)(hex:X.ex=[]){E:XK}{e:ae}{s':af}(h:CX1 P w X.stack H s E e s') :
  ∃x cls H',e=.ref x/\Inv X pins σ H' s'/\fi X pins H' s'.heap x cls/\E cls none H':=by
 subst hP hw;obtain⟨x,cls,H',rfl,os,bare,un,hok,F,q⟩:=h;have ap:∀b,s.heap.get? b=none->H' b=none->Apart X pins H' b:=λb h1 h2=>by
  refine⟨?_,h2,λp hp z=>?_⟩
  ·cases q:X.s₀.heap.get? b with
   |none=>rfl
   |some o=>
    obtain⟨o',e'⟩:=I.base.there b o q (by rw[hex];simp);rw[h1]at e';cases e'
  ·have:=(I.pin p hp).1;rw[z,h1]at this;cases this
 obtain⟨oe,vs,T,oT,ts,a0,e1,e2,e3,e4,e5,e6,e7,e8,e9,JS,Ly⟩:=F.tr;exact⟨x,cls,H',rfl,I.call' (ch:=[]) os un hok bare (λb z=>absurd z (by simp)),⟨ap x F.new F.free,oe,vs,T,oT,ts,a0,e1,e2,e3,e4,e5,e6,e7,e8,e9,ap T JS Ly⟩,q⟩
theorem fi.leaves(I:Inv X pins σ H s)(hex:X.ex=[]){env:Env}{outer:List Env}(FV:X.stack=X.env::X.outer)(Hl:X.env.frame=some X.env.locals)(F:fi X pins H s.heap x cls){E:XK}(q:E cls none H)
  {EE:ae->af->Prop}:aq (ar X.prog X.w) X.A (leaving X.env (.ref x)) (λ_ s''=>CX1 X.prog X.w X.outer X.H₀ X.s₀ E (.ref x) s'') EE s:=by
 obtain⟨oe,vs,_,_,_,_,e1,_,_,e4,_⟩:=id F.tr;obtain⟨T,oT,ts,a0,W,hT,JT,aT⟩:=fi.flying I F;have Ia:=I.ok.frames;rw[FV]at Ia W;refine wpAny_leaves_onW Ia Hl W λh' W' u=>?_
 rw[<-FV]at W';obtain⟨I',F'⟩:=fi.back I hex F.me e1 e4 hT JT aT W' u;obtain⟨JU,IK,T',oT',IL,Lz,f1,f2,f3,f4,f5,f6,f7,f8,f9,HF⟩:=F'.tr;have hb:=I'.base;rw[hex]at hb;exact⟨x,cls,H,rfl,I'.os,I'.bare,hb,I'.hok,⟨F'.me.new,F'.me.free,JU,IK,T',oT',IL,Lz,f1,f2,f3,f4,f5,f6,f7,f8,f9,HF.new,HF.free⟩,q⟩
end
section
variable{P:aB}{w:az}{K:aA}{mg:Str->Option ae}{base:Heap}{N:List Str}{qual:Str}{scope:aR}{f:Addr}{cd:ae}{A:aD}{outer:List Env}{s₀:af}{H₀:Hp}{E:XK}
theorem AK:Passes (CX1 P w) (fD (CX1 P w) P w K mg base N qual scope f cd A outer s₀ H₀ E) E:=by
 intro pins σ H s e s' I h;obtain⟨x,cls,H',rfl,I',F,q⟩:=Eh rfl rfl I rfl h;exact fi.leaves (env:=(fD (CX1 P w) P w K mg base N qual scope f cd A outer s₀ H₀ E).env) (outer:=outer) I' rfl rfl rfl F q
theorem oJ{X:Cx}(hP:X.prog=P)(hw:X.w=w):Passes (CX1 P w) X E0:=by
 intro pins σ H s e s' I h;obtain⟨x,cls,H',rfl,_,_,_,_,_,q⟩:=h;exact q.elim
def Throws(X:Cx)(E:XK):Prop:=∀(pins:List (Addr×Obj)) (σ:St) (H:Hp) (s:af) (h':Heap) (e:Addr) (cls:ae) (args:List ae),Inv X pins σ H s->Heap.MadeExcOf s.heap h' e cls args->E cls none H->X.xe (.ref e) {s with heap:=h'}
end
abbrev g7:List Value:=[.type "ValueError",.type "Exception",.type "BaseException",.type "object"]
def pq(K:aA)(C:Addr):Prop:=PySem.W.excIn K C g7 "ValueError.__new__" = true
section
variable{X:Cx}{C:Addr}{x:Str}{E:XK}{t:TA}{e:Expr}{es:List Expr}{np cpos pos:Pos}
end
structure je(k:Nat)(A:aD):Prop where
 dp:A.depth+3 * k+5<recursionLimit
 un:A.units+16 * k+200<cLine
theorem cC.u{k:Nat}{A:aD}(r:cC k A):je k A:=⟨r.dp,r.un⟩
structure lX(P:aB)(w:az)(K:aA)(mg:Str->Option ae)(base:Heap)(CX:CXT)(k:Nat)(f:Addr)(fd:FuncData)(ps:List Str)(sp:Sp):Prop where
 len:∀vs H Q E,sp vs H Q E->vs.length=ps.length
 run:∀(A:aD) (outer:List Env) (s:af) (H:Hp) (args:Args) (us:List ae) (vs:List V) (Q:VK) (E:XK),je k A->jg P w K mg base A outer s H->BindsTo s fd args (ps.zip us)->Vals vs us->sp vs H Q E ->
  codeAny (ar P w) A (.call (.ref f) args) (CR CX outer P w H s Q E) s
section
variable{CX:CXT}{P:aB}{w:az}{K:aA}{mg:Str->Option ae}{base:Heap}{k:Nat}{f:Addr}{fd:FuncData}{ps:List Str}{sp:Sp}
end
section
variable{X:Cx}{CX:CXT}{k:Nat}{f:Addr}{fd:FuncData}{ps:List Str}{sp:Sp}{FN:List V}{ds:List ae}{E:XK}{x:Str}{p pos:Pos}{e:Expr}{es:List Expr}{t:TA}
theorem Ep{pins:List (Addr×Obj)}{σ:St}{H:Hp}{s:af}{Q:VK}{us:List ae}{vs:List V}(F:lX X.prog X.w X.K X.mg X.base CX k f fd ps sp)(hr:je k X.A)(hb:Binds X.K fd ps ds)(hd:Vals FN ds)(hx:Passes CX X E)
  (I:Inv X pins σ H s) (r:Vals vs us) (h:sp (vs++FN) H Q E):aq (ar X.prog X.w) X.A (call (.ref f) us) (EP X pins σ Q) X.xe s:=by
 have r2:Vals (vs++FN) (us++ds):=r.append hd;have hl:(us++ds).length=ps.length:=by rw[<-r2.length];exact F.len _ _ _ _ h
 refine wpAny_call (codeAny_mono (F.run X.A X.stack s H ⟨us,[]⟩ (us++ds) (vs++FN) Q E hr I.env0 (hb s us I.kIn hl) r2 h) λr s' hq=>?_);cases r with
 |error e=>exact hx pins σ H s e s' I hq
 |ok fl=>
  cases fl with
  |ret u=>exact I.after hq
  |next=>exact bH hq
  |brk=>exact bH hq
  |cont=>exact bH hq
theorem Ak(F:lX X.prog X.w X.K X.mg X.base CX k f fd ps sp)(hr:je k X.A)(hg:Gl X x)(hm:X.mg x=some (.ref f))(hk:cR X.K (.ref f)=true)(hb:Binds X.K fd ps ds)(hd:Vals FN ds)(hx:Passes CX X E)
  (ha:PA X (e::es) t) (Hb:(x==("__debug__" : Str))=false) (he:a_ (e::es) X.env=(false,eval e X.env)::a_ es X.env) (G3:(backTo pos (a_ es X.env)).any (·.1)=false) :
  PE X (.Call (.Name x p) (e::es) [] pos) (mN sp FN E t):=by
 intro pins s σ H Q I h;refine wpAny_Call_Name_kw (lK I hg hm ?_ Hb);refine PySem.W.callWith_K (h₀:=X.base) I.ok.mod.kin hk (thn (ha pos pins s σ H _ I h) λus s1 ⟨vs,H1,I1,r,q⟩=>⟨I1.kIn,?_⟩) he G3;exact Ep F hr hb hd hx I1 r q
end
noncomputable def Ah(x:Addr)(cls:ae):HO:=.ext λh=>∃o vs,h.get? x=some o/\o.cls=cls/\o.data=.fields vs
section
variable{X:Cx}{pins:List (Addr×Obj)}{σ:St}{H:Hp}{s:af}
end
end L2
namespace L2
open PySem PySem.Spec PyProof.Rows PySem.W PySem.Calls Builtin Builtin.ObjectAttr Builtin.Getset_descriptor
structure l8(K:Frag)(C:Addr):Prop where
 ga:findIn K (.ref C) "__getattribute__" = some (some (.builtin "BaseException.__getattribute__"))
 gt:findIn K (.ref C) "__getattr__" = some none
 gc:findIn K (.ref C) "__class__" = some (some (.builtin "object.__class__"))
 mb:mroIn K C (.type "BaseException")=some true
 mo:mroIn K C (.type "object")=some true
 cl:∃c dd cd sl,K.lookup C=some ⟨c,dd,.cls cd,sl⟩
section
variable{prog:aB}{w:az}{A:aD}{E:ae->af->Prop}{h:Heap}{g:Array GenState}{d:Drawn}{t:Nat}{os:OsState}{x C:Addr}{K:Frag}
end
end L2
namespace L2
open PySem PySem.Spec PyProof.Rows
structure ES(prog:aB)(w:az)(xs:Array ae)(i l:Addr)(P:Nat->Heap->Prop):Prop where
 fr:∀k h h',P k h->(∀o,h.get? i=some o->h'.get? i=some o)->(∀o,h.get? l=some o->h'.get? l=some o)->P k h'
 nx:∀{A:aD} (k:Nat) (x:ae) (s:af) (Q:ae->af->Prop) (E:ae->af->Prop),P k s.heap->xs[k]? = some x->(∀h',P (k+1) h'->Heap.SameBut i s.heap h'->Q x {s with heap:=h'})->aq (ar prog w) A (Builtin.SmallTypes.nextOf (.ref i)) Q E s
 en:∀{A:aD} (k:Nat) (s:af) (Q:ae->af->Prop) (E:ae->af->Prop),A.handled=none->P k s.heap->xs[k]? = none ->
  (∀h' e,Heap.ExtBut i s.heap h'->(∃o,h'.get? e=some o/\o.cls=.type "StopIteration")->E (.ref e) {s with heap:=h'})->aq (ar prog w) A (Builtin.SmallTypes.nextOf (.ref i)) Q E s
 at_:∀k h,P k h->∃o,h.get? i=some o/\∃vs,o.data=.fields vs
section
variable{prog:aB}{w:az}{A:aD}{E:ae->af->Prop}{s:af}
end
section
variable{prog:aB}{w:az}{A:aD}{E:ae->af->Prop}{s:af}{z TI TO i1 i2 l1 l2:Addr}{k:Nat}{xs ys:Array ae}{P1 P2:Nat->Heap->Prop}
structure EW(z TI TO i1 i2 l1 l2:Addr):Prop where
 d:ZipApart z TI TO i1 i2 l1 l2
end
section
variable{X:Cx}{pins:List (Addr×Obj)}{σ:St}{H:Hp}{s:af}{h':Heap}{tk:Nat}
theorem Inv.turnNew{ch:List Addr}{p:Addr}{vs:List V}{its:List ae}(I:Inv X pins σ H s)(hf:∀b∈ch,cF X pins H b)(k:∀b o,b∉ch->s.heap.get? b=some o->h'.get? b=some o)
  (hp:s.heap.objs.size<=p) (ht:IsTup h' p its.toArray) (r:Vals vs its) (hz:vs.length<=aK):Inv X pins σ (upd H p (.tup vs)) {s with heap:=h',toks:=tk}:=by
 have Ib:H p=none:=I.hok.fresh hp;have FA:∀b u,H b=some u->b∉ch:=λb u e z=>by have:=(hf b z).1;rw[e]at this;cases this
 have np:∀b u,H b=some u->b≠p:=λb u e z=>by rw[z,Ib]at e;cases e
 refine I.step (g':=s.gens) (d':=s.drawn) (ch:=ch) (λb hb=>?_) (λb o _ _ hc e _=>k b o hc e) (λb o _ _ hc e _=>⟨o.slots,k b o hc e⟩) (λb o hc e n=>?_) (λb o hc e=>⟨o,k b o hc e⟩)
  (λb xs e=>by rw[ql (np b _ e)];exact e) (λb o u e=>by rw[ql (np b _ e)];exact e) (λb ps e=>⟨#[],by rw[ql (np b _ e),e];simp⟩) (λm hm=>?_) (λb u e=>?_) I.bare
 ·obtain⟨f0,f1,f2,f3,f4,f5⟩:=hf b hb;exact⟨f3,f1,f4,f5⟩
 ·rw[ql (bq (bA (aP e) hp))];exact n
 ·obtain⟨o,es,ep,ho,r⟩:=hm;exact⟨o,es,ep,k _ o (λz=>(hf _ z).2.1 rfl) ho,r⟩
 ·by_cases hb:b=p
  ·subst hb;rw[zw]at e;cases e;exact⟨hz,its,r,ht⟩
  ·rw[ql hb]at e;refine(I.hok b u e).stay (λc v hc q=>k c v ?_ q) (λc q=>by rw[ql (np c _ q)];exact q) λc xs q=>by rw[ql (np c _ q)];exact q
   rcases hc with z|z
   ·rw[z];exact FA b u e
   ·exact FA c _ z
theorem Inv.turnAll{ch:List Addr}(I:Inv X pins σ H s)(hf:∀b∈ch,cF X pins H b)(k:∀b o,b∉ch->s.heap.get? b=some o->h'.get? b=some o):Inv X pins σ H {s with heap:=h',toks:=tk}:=by
 have FA:∀b u,H b=some u->b∉ch:=λb u e z=>by have:=(hf b z).1;rw[e]at this;cases this
 refine I.step (g':=s.gens) (d':=s.drawn) (ch:=ch) (λb hb=>?_) (λb o _ _ hc e _=>k b o hc e) (λb o _ _ hc e _=>⟨o.slots,k b o hc e⟩) (λb o hc e n=>n) (λb o hc e=>⟨o,k b o hc e⟩)
  (λb xs e=>e) (λb o u e=>e) (λb ps e=>⟨#[],by rw[e];simp⟩) (λm hm=>?_) (λb u e=>?_) I.bare
 ·obtain⟨f0,f1,f2,f3,f4,f5⟩:=hf b hb;exact⟨f3,f1,f4,f5⟩
 ·obtain⟨o,es,ep,ho,r⟩:=hm;exact⟨o,es,ep,k _ o (λz=>(hf _ z).2.1 rfl) ho,r⟩
 ·refine(I.hok b u e).stay (λc v hc q=>k c v ?_ q) (λc q=>q) λc xs q=>q
  rcases hc with z|z
  ·rw[z];exact FA b u e
  ·exact FA c _ z
end
section
variable{prog:aB}{w:az}{A:aD}{E:ae->af->Prop}{s:af}
end
theorem Co{K:aA}{T:String}:cq K (.type T) (.type T)=some true:=by unfold cq;rw[if_pos (by simp)]
theorem tU{K:aA}{a T:String}{b:Bool}(E8:(ae.type a==ae.type T)=false)(hm:PySem.W.kitMeta T=true)(hf:(fastBuiltinMro a).map (·.contains (.type T))=some b):cq K (.type a) (.type T)=some b:=by
 unfold cq PySem.W.kitCls PySem.W.subIn;rw[if_neg (by rw[E8];exact bX)];dsimp only;rw[if_pos hm];exact hf
noncomputable def h9(a T:String):Bool:=a==T||(a == "bool" && T == "int")
theorem D4{K:aA}{a T:String}(ha:a∈["NoneType","bool","int","str","list","tuple","dict"])(hT:T∈["int","bool","str","list","tuple"]):cq K (.type a) (.type T)=some (h9 a T):=by
 simp only[aM,dH,or_false]at ha hT;rcases ha with rfl|rfl|rfl|rfl|rfl|rfl|rfl<;>rcases hT with rfl|rfl|rfl|rfl|rfl<;>first|exact Co|exact tU (by decide +kernel) (by decide +kernel) (by decide +kernel)
noncomputable def ltP(p q:Int×Int):Bool:=if p.1=q.1 then decide (p.2<q.2)else decide (p.1<q.1)
section
variable{prog:aB}{w:az}{A:aD}{E:ae->af->Prop}{s:af}
end
theorem EL{h:Heap}{a:Addr}{m m':Str->Option ae}(x:h.Ns a m)(y:h.Ns a m'):m=m':=by
 obtain⟨o,es,ep,e1,e2,_,e4⟩:=x;obtain⟨o',HM,ep',f1,f2,_,f4⟩:=y;rw[e1]at f1;cases f1;rw[e2]at f2;cases f2;funext n;rw[<-e4,<-f4]
theorem Inv.newList{X:Cx}{pins:List (Addr×Obj)}{σ:St}{H:Hp}{s s':af}{D:Addr}{out:List V}{its:List ae}{c:Nat}(I:Inv X pins σ H s)(LA:s'.os=s.os)(hg:s'.gens=s.gens)
  (k:∀b o,b≠X.env.locals->s.heap.get? b=some o->s'.heap.get? b=some o) (ns:∀m,s.heap.Ns X.env.locals m->s'.heap.Ns X.env.locals m) (hD:s.heap.get? D=none) (Nj:D≠X.env.locals)
  (hl:s'.heap.get? D=some {cls:=.type "list",data:=.seq its.toArray c}) (r:Vals out its) (hz:out.length<=aK):Inv X pins σ (upd H D (.lst out)) s':=by
 obtain⟨h',g',d',t',o'⟩:=s';have eo:o'=s.os:=LA;have eg:g'=s.gens:=hg;subst eo eg;have Ib:H D=none:=I.hok.free_of hD;have np:∀b u,H b=some u->b≠D:=λb u e z=>by rw[z,Ib]at e;cases e
 obtain⟨m0,n0,_⟩:=id I.loc;obtain⟨oL,es,ep,Fj,_⟩:=id n0;obtain⟨LB,HM,ep',JV,_⟩:=ns _ n0;refine I.step (g':=s.gens) (d':=d') (ch:=[]) (λb hb=>absurd hb (by simp)) (λb o hL _ _ e _=>k b o hL e) (λb o hL _ _ e _=>⟨o.slots,k b o hL e⟩) (λb o _ e n=>?_) (λb o _ e=>?_)
  (λb xs e=>by rw[ql (np b _ e)];exact e) (λb o u e=>by rw[ql (np b _ e)];exact e) (λb ps e=>⟨#[],by rw[ql (np b _ e),e];simp⟩) ns (λb u e=>?_) I.bare
 ·rw[ql (λz=>by rw[z,hD]at e;cases e)];exact n
 ·by_cases hL:b=X.env.locals
  ·exact⟨LB,by rw[hL];exact JV⟩
  ·exact⟨o,k b o hL e⟩
 ·by_cases hb:b=D
  ·subst hb;rw[zw]at e;cases e;exact⟨hz,its,c,r,hl⟩
  ·rw[ql hb]at e;have nl:∀c,(∃u,H c=some u)->c≠X.env.locals:=λc ⟨u,e⟩ z=>by rw[z,I.free]at e;cases e
   refine(I.hok b u e).stay (λc v hc q=>k c v (nl c ?_) q) (λc q=>by rw[ql (np c _ q)];exact q) λc xs q=>by rw[ql (np c _ q)];exact q
   rcases hc with z|z
   ·exact⟨u,by rw[z];exact e⟩
   ·exact⟨_,z⟩
section
variable{prog:aB}{w:az}{A:aD}{E:ae->af->Prop}{s:af}
theorem pS{a:Addr}{vs:List ae}{P:Fin->af->Prop}(Fj:s.heap.get? a=some (aI "list" vs.toArray 0))(h2:vs.length<2)(h:P (.done (.ret .none)) {s with heap:=sortedHeap s.heap a vs vs.toArray}) :
  aq (ar prog w) A (Builtin.«list.sort» ⟨[.ref a],[]⟩) P E s:=by
 rw[list_sort_plain];refine ah (listItems_at  Fj rfl ?_);refine ah (listUpdate_at  Fj rfl ?_ (by rw[a7,bx];lia) (bz _));obtain⟨e1,G4⟩:∃e1,(s.heap.update a (br λ_=>#[])).get? a=some (aI "list" #[] e1):=⟨_,get?_update_seq Fj (λ_=>#[])⟩
 refine ah (seqEpoch_at G4 rfl ?_);refine ah (wpAny_newTuple ?_ (by show vs.length<=_;rw[bx];lia));refine ah (wpAny_newList ?_ (bz _));refine bO ?_;have EZ:a<s.heap.objs.size:=aP Fj;have G5:(((s.heap.update a (br λ_=>#[])).push (aI "tuple" vs.toArray 0)).push (aI "list" #[] 0)).get? a=some (aI "list" #[] e1):=by
  rw[Heap.get?_push_ne _ _ _ (by rw[size_push',Heap.size_update];exact bq (cN EZ)),Heap.get?_push_ne _ _ _ (by rw[Heap.size_update];exact bq EZ)];exact G4
 show aq (ar prog w) _ _ _ _ {s with heap:=((s.heap.update a (br λ_=>#[])).push (aI "tuple" vs.toArray 0)).push (aI "list" #[] 0)};dsimp only;have GR:vs.toArray.size<2:=by rw[a7];exact h2
 rw[if_pos GR,if_pos GR];refine ah (aC ?_);rw[StateT.run_pure];refine ah (aC ?_);dsimp only;refine ah (seqEpoch_at G5 rfl ?_);have Ic:(ag (aH.mk' general' (vs.toArray.zip vs.toArray) #[] 7 none)).map (·.2)=vs.toArray:=by
  show (vs.toArray.zip vs.toArray).map (·.2)=vs.toArray;apply Array.toList_inj.mp;simp[List.map_snd_zip]
 refine ah (listUpdate_at G5 rfl ?_ (bz _) (by rw[Ic,a7,bx];lia));simp only[bne_self_eq_false,bp,if_false];refine aC ?_;rw[Ic];exact h
theorem vA{l:Addr}{vs:List ae}{Q:ae->af->Prop}(hl:s.heap.IsList l vs.toArray)(h2:vs.length<2)(h:Q (.ref (s.heap.objs.size+1)) {s with heap:=sortedAll s.heap vs vs.toArray}):aq (ar prog w) A (call (.builtin "sorted") [.ref l]) Q E s:=by
 refine Calls.call_function_entry kind_sorted plain_sorted entry_sorted (args_sorted1 _) ?_;unfold Builtin.«sorted»;refine ah (m:=checkCount "sorted" 1 1 _) (aC ?_);refine ah (collect_list hl ?_ (by rw[bx];lia));refine ah (wpAny_newList ?_ (by rw[bx];lia));have hsz:((s.heap.push (aI "list" #[] 0)).update s.heap.objs.size (br (· ++ vs.toArray))).objs.size=s.heap.objs.size+1:=by rw[Heap.size_update,size_push']
 have Fj:(((s.heap.push (aI "list" #[] 0)).update s.heap.objs.size (br (· ++ vs.toArray))).push (aI "list" vs.toArray 0)).get? (s.heap.objs.size+1)=some (aI "list" vs.toArray 0):=by rw[<-hsz];exact Heap.get?_push_size _ rfl
 show aq _ _ _ _ _ {s with heap:=((s.heap.push (aI "list" #[] 0)).update s.heap.objs.size (br (· ++ vs.toArray))).push (aI "list" vs.toArray 0)};rw[hsz];refine ah (bO (cQ slot_list_sort ⟨_,Fj,rfl⟩ entry_list_sort ?body (args_list_sort _)))
 case body=>
  exact pS Fj h2 ⟨_,rfl,aC ⟨_,rfl,h⟩⟩
end
section
variable{X:Cx}{pins:List (Addr×Obj)}{σ:St}{H:Hp}{s:af}
theorem xM{A:aD}{bs:List Bool}{us:List ae}(r:Vals (bs.map V.bl) us):us=bs.map ae.bool:=by
 induction bs generalizing us with
 |nil=>cases r;rfl
 |cons b bs ih=>cases r with
  |cons h t=>rw[ih t,show _=bV b from h];rfl
end
section
variable{X:Cx}
def n6(r r' Gw:R2)(ta tb tc td:TE):TE:=λσ H Q=>ta σ H λx H1=>tb σ H1 λy H2=>r x y H2 λz H3=>∃k,z=.bl k /\
 (if k=true then tc σ H3 λw' H4=>r' y w' H4 λz H5=>∃k,z=.bl k/\(if k=true then td σ H5 λIe H6=>Gw w' Ie H6 Q else Q (.bl false) H5)else Q (.bl false) H3)
theorem DT{a b c d:Expr}{ta tb tc td:TE}{pos:Pos}{op Fb Fc:CmpOp}{r r' Gw:R2}(ho:OpR X (a6 op) r)(Fu:OpR X (a6 Fb) r')(Hm:OpR X (a6 Fc) Gw)(ha:PE X a ta)(hb:PE X b tb)(hc:PE X c tc)(hd:PE X d td)
  (hm:lastMarks [op,Fb,Fc] [b,c,d]=false):PE X (.Compare a [op,Fb,Fc] [b,c,d] pos) (n6 r r' Gw ta tb tc td):=by
 intro pins s σ H Q I h;refine Compare_chain (thn (ha pins s σ H _ I h) λv s1 ⟨x,H1,I1,r1,q1⟩=>chain_link (thn (hb pins s1 σ H1 _ I1 q1) λu s2 ⟨y,H2,I2,r2,q2⟩=>
  thn (ho pins s2 σ H2 x y v u _ I2 r1 r2 q2) λd s3 ⟨z,H3,I3,r3,k,e,q3⟩=>?_)) hm
 subst e;cases r3;refine bJ ?_;cases k with
 |false=>exact ite_ff ⟨.bl false,H3,I3,rfl,q3⟩
 |true=>
  refine ite_tt (chain_link (thn (hc pins s3 σ H3 _ I3 q3) λw' s4 ⟨z',H4,I4,r4,q4⟩=>thn (Fu pins s4 σ H4 y z' u w' _ I4 r2 r4 q4) λd' s5 ⟨z2,H5,I5,r5,k2,e2,q5⟩=>?_));subst e2;cases r5;refine bJ ?_;cases k2 with
  |false=>exact ite_ff ⟨.bl false,H5,I5,rfl,q5⟩
  |true=>exact ite_tt (chain_last (thn (hd pins s5 σ H5 _ I5 q5) λIe s6 ⟨z3,H6,I6,r6,q6⟩=>Hm pins s6 σ H6 z' z3 w' Ie Q I6 r4 r6 q6))
def Cy(K:aA):R2:=λx y H Q=>∃a b xs ys,x=.ref a/\y=.ref b/\SqT K H a xs/\SqT K H b ys/\xs.length+ys.length<=aK /\
 (xs=[]->Q (.ref b) H)/\(xs≠[]->ys=[]->Q (.ref a) H)/\(xs≠[]->ys≠[]->∀p,H p=none->Q (.ref p) (upd H p (.tup (xs++ys))))
theorem uu:OpR X (bI .Add) (Cy X.K):=by
 intro pins s σ H x y v u Q I rx ry h;obtain⟨a,b,xs,ys,rfl,rfl,ha,hb,hz,q0,q1,q2⟩:=h;by_cases hx:xs=[]
 ·subst hx;cases rx;cases ry;obtain⟨its,r1,p1,_⟩:=I.tuple ha;obtain⟨FD,r2,p2,_⟩:=I.tuple hb;cases r1;obtain⟨⟨cls,dd,data,sl⟩,ho,hc,n,hd⟩:=id p1;obtain⟨⟨Hc,F6,data2,GJ⟩,FO,Fy,n2,hd2⟩:=id p2;simp only at hc hd Fy hd2;subst hc hd Fy hd2;exact concat_meets ⟨_,ho,rfl⟩ ⟨_,FO,rfl⟩ noFill_tuple_add seq_tuple_add PySem.F.slot_tuple_add PySem.F.entry_tuple_add (PySem.F.args_tuple_add_2 _ _)
   (tuple_addW0 a b _ FD.toArray n n2 dd F6 sl GJ (by simp)) ⟨ho,FO,⟨.ref b,H,I,rfl,q0 rfl⟩⟩
 ·exact Bp pins s σ H (.ref a) (.ref b) v u Q I rx ry ⟨a,b,xs,ys,rfl,rfl,ha,hb,hx,hz,q1 hx,q2 hx⟩
theorem mM{vs:List ae}{ns:List Int}(h:bg vs ns):Vals (ns.map V.int) vs:=by
 induction h with
 |nil=>exact .nil
 |cons n t _ ih=>exact .cons ⟨t,rfl⟩ ih
def yA(K:aA):List V->Hp->VK->Prop:=λvs H Q=>∃(l:Addr) (ns:List Int),vs=[.ref l]/\SqL K H l (ns.map V.int)/\ns.length<64/\∀(D:Addr) (ms:List Int),H D=none->ms.Perm ns->ms.Pairwise (·<=·)->Q (.ref D) (upd H D (.lst (ms.map V.int)))
theorem uW:zf X (.builtin "sorted") (yA X.K):=by
 intro pins s σ H xs us Q I r h;obtain⟨l,ns,rfl,hl,Ig,q⟩:=h;obtain⟨u,rfl,ru⟩:=r.one;cases ru;obtain⟨its,rv,pl,hz⟩:=I.list hl;obtain⟨m,F⟩:=I.fr;refine PySem.W.kso_sorted F (D9 (g:=X.base) (h:=s.heap) (L:=X.env.locals)) pl.isList (intsAre_of rv) Ig λD IK Fl c h' F' N' EZ hi he hp ho _=>?_
 have keep:∀b o,b≠X.env.locals->s.heap.get? b=some o->h'.get? b=some o:=λb o hb e=>by
  cases qb:X.base.get? b with
  |some ob=>have:=I.bk b ob qb;rw[e]at this;cases this;exact F'.keep b _ qb
  |none=>exact(N' (b,o) (aO _ (rS hb qb e))).1
 have IM:=N' (D,_) aL;have G6:s.heap.get? D=none:=by
  cases qd:s.heap.get? D with
  |none=>rfl
  |some o=>exact absurd (EZ (D,o) (rS IM.2.1 IM.2.2 qd)) (bN _)
 refine⟨.ref D,_,I.newList (s':={s with heap:=h'}) (c:=c) rfl rfl keep (λm' hm'=>?_) G6 IM.2.1 IM.1 (mM hi) (by rw[aV,he,bx];lia),rfl,q D Fl (I.hok.free_of G6) hp ho⟩;rw[EL hm' F.ns];exact F'.ns
end
noncomputable def Ite(K:aA)(l:Addr):It:=
 ⟨λi H=>∃xs x,SqL K H l xs/\xs[i]? = some x,
  λi H v H'=>∃p x,H p=none/\v=.ref p/\H'=upd H p (.tup [.int i,x])/\∀xs,SqL K H l xs->xs[i]? = some x,
  λi H=>∃xs,SqL K H l xs/\xs.length<=i⟩
theorem vi{P:aB}{w:az}{K:aA}{es:List Expr}{ek:Nat}{FP:Pos}{e it l:Addr}(n1:e≠it)(n2:l≠e)(n3:l≠it) :
  Turn P w K (.Tuple es ek FP) (Ite K l) [e,it] e (λi h=>(∃old,IsEnum h e it ((i:Nat):Int) old)/\h.IsListIter it l i) where
 mem:=by simp
 obj:=λi h st b hb=>by
  obtain⟨⟨old,hz⟩,o1,e1,_,d1⟩:=st;have Ff:b=e\/b=it:=by simpa using hb
  rcases Ff with q|q
  ·subst q;exact⟨_,hz,λv q=>by cases q⟩
  ·subst q;exact⟨o1,e1,λv q=>by rw[d1]at q;cases q⟩
 keep:=λi h h' st k=>by
  obtain⟨⟨old,hz⟩,h1⟩:=st;exact⟨⟨old,k e (by simp) _ hz⟩,h1.at λo q=>k it (by simp) o q⟩
 item:=by
  intro X hP hw hK hc i pins s σ H E I hf st hg;subst hP hw hK;obtain⟨⟨old,hz⟩,h1⟩:=st;obtain⟨xs,x,q1,hx⟩:=hg;obtain⟨its,r1,p1,z1⟩:=I.list q1;obtain⟨u1,LC,LF⟩:=r1.get hx;refine wpAny_pyNext_enum_item hz h1 p1.isList (x:=u1) (by simpa using LC) n1 λh' a1 a2 a3 a4 hk=>?_
  have JM:∀b o,b∉[e,it]->s.heap.get? b=some o->h'.get? b=some o:=λb o hb q=>hk b o (λz=>hb (by simp[z])) (λz=>hb (by simp[z])) q
  have I1:Inv X pins σ (upd H s.heap.objs.size (.tup [.int i,x])) {s with heap:=h',toks:=s.toks+1}:=I.turnNew (tk:=s.toks+1) (its:=[.int i s.toks,u1]) hf JM (aF _) ⟨_,a3,rfl,_,rfl⟩ (.cons ⟨_,rfl⟩ (.cons LF .nil)) (by show 2<=aK;decide);have Ib:H s.heap.objs.size=none:=I.hok.fresh (aF _);have LG:∀b∈[e,it],b≠s.heap.objs.size:=λb hb q=>by
   have Ff:b=e\/b=it:=by simpa using hb
   obtain⟨o1,e1,_,d1⟩:=h1;have:b<s.heap.objs.size:=by
    rcases Ff with q|q
    ·subst q;exact aP hz
    ·subst q;exact aP e1
   rw[q]at this;exact bN _ this
  have Fv:∀b∈[e,it],(upd H s.heap.objs.size (.tup [.int i,x])) b=none:=λb hb=>by rw[ql (LG b hb)];exact(hf b hb).1
  refine⟨_,rfl,?_⟩;refine wpAny_letOwnedTupleGo_enum (s:={s with heap:=h',toks:=s.toks+1}) a1 λGR FZ Fh=>?_
  obtain⟨f0,f1,f2,f3,f4,f5⟩:=hf e (by simp);refine⟨.ref s.heap.objs.size,_,I1.turned (t':=s.toks+1) (it:=e) (λb o hb q=>(Fh.2 b hb).trans q) (Fv e (by simp)) f1 f3 f4 f5,rfl,⟨_,x,Ib,rfl,rfl,λzs hq=>by rw[I.list_inj hq q1];exact hx⟩,⟨⟨u1,?_⟩,a2.at λo q=>(Fh.2 it (Ne.symm n1)).trans q⟩,Fv⟩
  ·have:((i+1:Nat):Int)=(i:Int)+1:=by push_cast;rfl
   rw[this];exact FZ
 done:=by
  intro X hP hw hK hc i pins s σ H E I hf st hg;subst hP hw hK;obtain⟨⟨old,hz⟩,h1⟩:=st;obtain⟨xs,q1,hx⟩:=hg;obtain⟨its,r1,p1,z1⟩:=I.list q1;have hl:=r1.length;exact wpAny_pyNext_enum_end (I.ok.hd hc) hz h1 p1.isList (by simp;lia) λh' eb=>⟨rfl,I.turnAll (tk:=s.toks) hf λb o hb q=>eb b o (λz=>hb (by simp[z])) q⟩
 self:=λ_ _ _ _ _ st h=>by
  obtain⟨⟨old,hz⟩,_⟩:=st;exact wpAny_pyIter_enum hz h
def AQ(K:aA)(ta:TA):TI:=λσ H R=>ta σ H λvs H1=>∃(l:Addr),vs=[.ref l]/\(∃xs,SqL K H1 l xs)/\R (Ite K l) H1
theorem Af{X:Cx}{es:List Expr}{ek:Nat}{FP p pos:Pos}{a:Expr}{ta:TA}(hg:Gl X "enumerate")(hm:X.mg "enumerate" = none)(hv:bU "enumerate" = some (.type "enumerate"))(ha:PA X [a] ta)
  (hs:a_ [a] X.env=[(false,eval a X.env)]):PI X (.Tuple es ek FP) (.Call (.Name "enumerate" p) [a] [] pos) (AQ X.K ta):=by
 intro pins s σ H R I h;refine Call_ (gX (hn:=by decide) (hd:=by decide) I hg hm hv (PyProof.Rows.callWith_type1 (thn (ha pos pins s σ H _ I h) λus s1 ⟨vs,H1,I1,r1,q1⟩=>?_) (by rw[hs];rfl) (by rfl)));obtain⟨l,e,⟨xs,q2⟩,q⟩:=q1;subst e;cases r1 with
 |cons r rr=>
  cases rr;cases r;obtain⟨LH,v1,p1,_⟩:=I1.list q2;have KI:l<s1.heap.objs.size:=by obtain⟨_,e,_⟩:=p1.isList;exact aP e
  refine call_enumerate_list p1.isList λh' hE hI hsz k=>?_
  have I2:Inv X pins σ H1 {s1 with heap:=h'}:=I1.kept (t':=s1.toks) k;refine wpAny_pyIter_enum hE ?_;refine⟨_,_,_,_,H1,rfl,I2,vi (P:=X.prog) (w:=X.w) (K:=X.K) (e:=s1.heap.objs.size+1) (it:=s1.heap.objs.size) (l:=l) (Nat.succ_ne_self _) (bq (cN KI)) (bq KI),⟨⟨_,hE⟩,hI⟩,λb hb=>?_,q⟩;have Ff:b=s1.heap.objs.size+1\/b=s1.heap.objs.size:=by simpa using hb
  have:s1.heap.objs.size<=b:=by
   rcases Ff with q|q
   ·rw[q];exact Nat.le_succ _
   ·rw[q];exact aF _
  exact I1.fpOk this (I1.hok.fresh this)
end L2
namespace L2
open PySem PySem.Spec PyProof.Rows PySem.SeqAt
mutual
inductive eP(K:aA)(H:Hp):V->PyData->Prop
 |non:eP K H .non .none
 |bl (b:Bool):eP K H (.bl b) (.bool b)
 |int (i:Int):eP K H (.int i) (.int i)
 |str (x:Str):eP K H (.str x) (.str x)
 |lst {a:Addr}{xs:List V}{ds:List PyData}:SqL K H a xs->iz K H xs ds->eP K H (.ref a) (.list ds)
 |tup {a:Addr}{xs:List V}{ds:List PyData}:SqT K H a xs->iz K H xs ds->eP K H (.ref a) (.tuple ds)
inductive iz(K:aA)(H:Hp):List V->List PyData->Prop
 |nil:iz K H [] []
 |cons {x:V}{xs:List V}{d:PyData}{ds:List PyData}:eP K H x d->iz K H xs ds->iz K H (x::xs) (d::ds)
end
section
variable{X:Cx}{pins:List (Addr×Obj)}{σ:St}{H:Hp}{s:af}
theorem Inv.reads(I:Inv X pins σ H s){x:V}{d:PyData}(h:eP X.K H x d):∀{u:ae},RelV x u->∃as,Reads s.heap u d as:=
 h.rec (motive_1:=λx d _=>∀{u:ae},RelV x u->∃as,Reads s.heap u d as) (motive_2:=λxs ds _=>∀{us:List ae},Vals xs us->∃as,ReadsAll s.heap us ds as) (λr=>by cases r;exact⟨_,.none⟩) (λb _ r=>by cases r;exact⟨_,.bool b⟩) (λi _ r=>by obtain⟨t,rfl⟩:=r;exact⟨_,.int i t⟩) (λx _ r=>by obtain⟨t,rfl⟩:=r;exact⟨_,.str x t⟩)
  (λh _ g _ r=>by
   cases r;obtain⟨its,rv,pl,_⟩:=I.list h;obtain⟨as,ra⟩:=g rv;obtain⟨o,ho,hc,n,hd⟩:=pl.isList;exact⟨_,Reads.list ho hc hd (by simpa using ra)⟩)
  (λh _ g _ r=>by
   cases r;obtain⟨its,rv,pl,_⟩:=I.tuple h;obtain⟨as,ra⟩:=g rv;obtain⟨o,ho,hc,n,hd⟩:=pl;exact⟨_,Reads.tuple ho hc hd (by simpa using ra)⟩)
  (λr=>by cases r;exact⟨_,.nil⟩) (λ_ _ a b _ r=>by
   cases r with
   |cons r1 r2=>
    obtain⟨as,ra⟩:=a r1;obtain⟨bs,rb⟩:=b r2;exact⟨_,.cons ra rb⟩)
end
section
variable{X:Cx}
end
end L2
namespace L2
open PySem PySem.Spec PyProof.Rows
section
variable{lt:Nat->Nat->Bool}
def Asc(lt:Nat->Nat->Bool)(p:Array Nat)(m:Nat):Prop:=∀i j,i<j->j<m->lt (p.getD j 0) (p.getD i 0)=false
end
section
variable{lt:Nat->Nat->Bool}
structure Part(lt:Nat->Nat->Bool)(p:Array Nat)(r:Nat×Array Nat):Prop where
 perm:r.2.Perm p
 size:r.2.size=p.size
 lo:1<=r.1
 hi:r.1<=p.size
 asc:Asc lt r.2 r.1
end
section
variable{X:Cx}
end
end L2
namespace HT
open PySem PySem.Spec PyProof.Rows L2
section
variable{prog:aB}{w:az}{A:aD}{E:ae->af->Prop}{s:af}
end
end HT
namespace L2
open PySem PySem.Spec PyProof.Rows
section
variable{X:Cx}{tg:Expr}
end
section
variable{κ:Type} [DecidableEq κ]
noncomputable def gC(kvs:List (κ×V))(k:κ):Option V:=(kvs.find? λkv=>decide (kv.1=k)).map (·.2)
theorem jP{p:κ×V}{r:List (κ×V)}{k:κ}(e:p.1=k):gC (p::r) k=some p.2:=by simp[gC,List.find?_cons,e]
theorem jG{p:κ×V}{r:List (κ×V)}{k:κ}(e:¬ p.1=k):gC (p::r) k=gC r k:=by simp[gC,List.find?_cons,e]
theorem CN(k j:κ)(y:V):∀kvs:List (κ×V),gC (kvs.map λkv=>if kv.1=k then (kv.1,y)else kv) j=(gC kvs j).map λx=>if j=k then y else x
 | []=>rfl
 |p::r=>by
  have ih:=CN k j y r;rw[aJ];by_cases h:p.1=k
  ·rw[if_pos h];by_cases e:p.1=j
   ·rw[jP (p:=(p.1,y)) e,jP e,Option.map_some,if_pos (e.symm.trans h)]
   ·rw[jG (p:=(p.1,y)) e,jG e,ih]
  ·rw[if_neg h];by_cases e:p.1=j
   ·rw[jP (p:=p) e,jP e,Option.map_some,if_neg (λz=>h (e.trans z))]
   ·rw[jG (p:=p) e,jG e,ih]
theorem dD.isSome_eq{o:Option V}{u:Option ae}(r:dD o u):o.isSome=u.isSome:=by
 cases o with
 |none=>cases u with
  |none=>rfl
  |some _=>exact(show False from r).elim
 |some _=>cases u with
  |none=>exact(show False from r).elim
  |some _=>rfl
theorem dD.getD{o:Option V}{u:Option ae}{d:V}{d':ae}(r:dD o u)(rd:RelV d d'):RelV (o.getD d) (u.getD d'):=by
 cases o with
 |none=>cases u with
  |none=>exact rd
  |some _=>exact(show False from r).elim
 |some _=>cases u with
  |none=>exact(show False from r).elim
  |some _=>exact r
end
section
variable{P:aB}{w:az}{H:Hp}{h:Heap}{a:Addr}
end
section
variable{X:Cx}{pins:List (Addr×Obj)}{σ:St}{H:Hp}{s:af}{a:Addr}{y v:V}{u r:ae}{o:Option V}{A:aD}{E:ae->af->Prop}
theorem Inv.big(I:Inv X pins σ H s):sysModules<s.heap.objs.size:=by
 have h:aE<s.heap.objs.size:=(I.mod.glob.keeps I.bk).lt;exact Nat.lt_trans (by decide) h
theorem kj{h':Heap}{t':Nat}{ob:HO}(I:Inv X pins σ H s)(mu:Mut (H a))(hs:Heap.SameBut a s.heap h')(he:∃q,h'.get? a=some q)(new:zJ X.prog X.w (upd H a ob) h' a ob) :
  Inv X pins σ (upd H a ob) {s with heap:=h',toks:=t'}:=
 I.write (x:=a) (e:=a) mu (.inl rfl) (λb q hb z=>(hs.2 b hb).trans z) he new
end
section
variable{X:Cx}{pins:List (Addr×Obj)}{σ:St}{H:Hp}{s:af}{a:Addr}{kvs:List (Key×V)}{k:Key}{u:ae}{A:aD}{E:ae->af->Prop}
end
section
variable{X:Cx}{o i e value:Expr}{pos pos' tpos:Pos}{td ty tv:TE}
end
section
variable{X:Cx}{pos:Pos}
end
structure M1(X:Cx)(o:Expr)(m:Str)(apos:Pos)(e:Expr)(cpos:Pos):Prop where
 base:attributeBase o m X.env (eval o X.env)=eval o X.env
 few:((backTo cpos (a_ [e] X.env)).all (λx=>!x.1)&&(backToKw cpos (keywordEach [] X.env)).all (λx=>x.1.isSome)
  && decide (([e]:List Expr).length+([]:List Keyword).length+(if ([]:List Keyword).isEmpty then 0 else 1)<30))=true
 line:(apos.endLine==cpos.line)=true
 trees:backTo cpos (a_ [e] X.env)=[(false,eval e X.env)]
structure M2(X:Cx)(o:Expr)(m:Str)(apos:Pos)(e f:Expr)(cpos:Pos):Prop where
 base:attributeBase o m X.env (eval o X.env)=eval o X.env
 few:((backTo cpos (a_ [e,f] X.env)).all (λx=>!x.1)&&(backToKw cpos (keywordEach [] X.env)).all (λx=>x.1.isSome)
  && decide (([e,f]:List Expr).length+([]:List Keyword).length+(if ([]:List Keyword).isEmpty then 0 else 1)<30))=true
 line:(apos.endLine==cpos.line)=true
 trees:backTo cpos (a_ [e,f] X.env)=[(false,eval e X.env),(false,eval f X.env)]
section
variable{X:Cx}{pins:List (Addr×Obj)}{σ:St}{H:Hp}{s:af}{a:Addr}{y d:V}{u r:ae}{o:Option V}{A:aD}{E:ae->af->Prop}
end
section
variable{X:Cx}{o e f:Expr}{apos cpos:Pos}{td ty tx:TE}
end
section
variable{X:Cx}{pins:List (Addr×Obj)}{σ:St}{H:Hp}{s:af}{a:Addr}{kvs:List (Key×V)}{A:aD}{E:ae->af->Prop}
end
section
variable{X:Cx}{pins:List (Addr×Obj)}{σ:St}{H:Hp}{s:af}{a:Addr}{y:V}{u:ae}{A:aD}{E:ae->af->Prop}
end
section
variable{X:Cx}
end
end L2
namespace TS
open PySem PyProof.Rows
noncomputable def oY:Bool->ao->Array ao->Nat->Nat->Nat->StateT aH Sem (Option Nat):=sortPriv% PySem.Builtin.gallop
noncomputable def n8:Array ao->Array ao->StateT aH Sem (Array ao):=sortPriv% PySem.Builtin.mergeLo
noncomputable def si:Array ao->Array ao->StateT aH Sem (Array ao):=sortPriv% PySem.Builtin.mergeHi
theorem pr5{A1 A2 A3 A4 A5:Type}{F:A1×A2×A3×A4×A5->Prop}(h:∀x1 x2 x3 x4 x5,F (x1,x2,x3,x4,x5)):∀c,F c:=λ⟨x1,x2,x3,x4,x5⟩=>h x1 x2 x3 x4 x5
theorem pr6{A1 A2 A3 A4 A5 A6:Type}{F:A1×A2×A3×A4×A5×A6->Prop}(h:∀x1 x2 x3 x4 x5 x6,F (x1,x2,x3,x4,x5,x6)):∀c,F c:=λ⟨x1,x2,x3,x4,x5,x6⟩=>h x1 x2 x3 x4 x5 x6
theorem pr7{A1 A2 A3 A4 A5 A6 A7:Type}{F:A1×A2×A3×A4×A5×A6×A7->Prop}(h:∀x1 x2 x3 x4 x5 x6 x7,F (x1,x2,x3,x4,x5,x6,x7)):∀c,F c:=λ⟨x1,x2,x3,x4,x5,x6,x7⟩=>h x1 x2 x3 x4 x5 x6 x7
theorem exE{α:Type}{P:α->Prop}{C:Prop}(h:∀a,P a->C)(x:∃a,P a):C:=h _ x.choose_spec
theorem wpI{M:Model}{A:aD}{E:ae->af->Prop}{s:af}{α σ:Type}{c:Prop}{i:Decidable c}{x y:StateT σ Sem α}{Q:α->σ->Prop}{st:σ}(h:c->wpS M A E s x Q st)(k:¬ c->wpS M A E s y Q st):wpS M A E s (if c then x else y) Q st:=by
 split
 ·exact h ‹_›
 ·exact k ‹_›
theorem stE{M:Model}{A:aD}{E:ae->af->Prop}{s:af}{α σ:Type}{m:StateT σ Sem α}{Q:α->σ->Prop}{st st':σ}(h:st'=st)(k:wpS M A E s m Q st):wpS M A E s m Q st':=h▸k
structure Cmp(prog:aB)(w:az)(A:aD)(s:af)(κ:SortKind)(D:ao->Prop)(LT:ao->ao->Bool):Prop where
 lt:∀x y,D x->D y->∀Q:Bool->af->Prop,Q (LT x y) s->aq (ar prog w) A (keyLt' κ x.1 y.1) Q (λ_ _=>False) s
 asym:∀x y,LT x y=true->LT y x=false
 neg:∀x y z,LT y x=false->LT z y=false->LT z x=false
section
variable{prog:aB}{w:az}{A:aD}{E:ae->af->Prop}{s:af}{κ:SortKind}{D:ao->Prop}{LT:ao->ao->Bool}
theorem qO{arr:Array ao}{i:Nat}{x:ao}{Q:ao->aH->Prop}{st:aH}(hx:arr[i]? = some x)(h:Q x st):wpS (ar prog w) A E s (elem' arr i) Q st:=by
 rw[elem'_eq,hx];exact av h
theorem jl(C:Cmp prog w A s κ D LT){x y:ao}(hx:D x)(hy:D y){Q:Option Bool->aH->Prop}{st:aH}(hk:kindOf st=κ)(h:Q (some (LT x y)) st):wpS (ar prog w) A E s (lt' x y) Q st:=by
 rw[lt'_eq];refine au (wpS_get ?_);rw[hk];refine au (wpS_lift (wpAny_attempt (bD (C.lt x y hx hy (λb s'=>s'=s/\b=LT x y) ⟨rfl,rfl⟩) (λb s' hb=>?_) λ_ _ z=>z.elim)));obtain⟨rfl,rfl⟩:=hb;exact⟨rfl,av h⟩
noncomputable def bey(LT:ao->ao->Bool)(left:Bool)(key:ao)(x:ao):Bool:=if left then LT x key else !LT key x
theorem h8(C:Cmp prog w A s κ D LT){left:Bool}{key:ao}{arr:Array ao}{base n hint:Nat}{Q:Option Nat->aH->Prop}{st:aH}(hk:kindOf st=κ)(FL:D key)(it:Nat->ao)(ha:∀i,i<n->arr[base+i]? = some (it i)/\D (it i))(hh:hint<n)
  (mono:∀i j,i<=j->j<n->bey LT left key (it j)=true->bey LT left key (it i)=true)
  (h:∀k,k<=n->(∀i,i<k->bey LT left key (it i)=true)->(∀i,k<=i->i<n->bey LT left key (it i)=false)->Q (some k) st):wpS (ar prog w) A E s (oY left key arr base n hint) Q st:=by
 have ask:∀(i:Nat) (R:Option Bool->aH->Prop),i<n->R (some (bey LT left key (it i))) st->wpS (ar prog w) A E s (do
   let x <-elem' arr (base+i)
   if left=true then lt' x key else do
    let r <-lt' key x
    pure (r.map (!·))) R st:=λi R hi hR=>by
  obtain⟨h1,h2⟩:=ha i hi;refine au (qO h1 ?_);cases left with
  |true=>rw[if_pos rfl];exact jl C h2 FL hk hR
  |false=>rw[if_neg (by decide)];exact au (jl C FL h2 hk (av hR))
 have FE:∀i j,i<=j->j<n->bey LT left key (it i)=false->bey LT left key (it j)=false:=λi j E1 hj hf=>by
  cases q:bey LT left key (it j)with
  |false=>rfl
  |true=>rw[mono i j E1 hj q]at hf;cases hf
 -- the last loop
 have fin:∀(lo hi:Nat) (f:Nat->Option (Option Nat)×Nat×Nat->StateT aH Sem (ForInStep (Option (Option Nat)×Nat×Nat))) (g:Option (Option Nat)×Nat×Nat->StateT aH Sem (Option Nat)),lo<=hi->hi<=n ->
   (∀i,i<lo->bey LT left key (it i)=true)->(∀i,hi<=i->i<n->bey LT left key (it i)=false) ->
   (∀i lo hi R,lo >= hi->R (.done (none,lo,hi)) st->wpS (ar prog w) A E s (f i (none,lo,hi)) R st) ->
   (∀i lo hi R,¬ lo >= hi->hi<=n->R (if bey LT left key (it (lo+(hi-lo)/2))=true then .yield (none,lo+(hi-lo)/2+1,hi)else .yield (none,lo,lo+(hi-lo)/2)) st->wpS (ar prog w) A E s (f i (none,lo,hi)) R st) ->
   (∀lo hi,Q (some hi) st->wpS (ar prog w) A E s (g (none,lo,hi)) Q st) ->
   wpS (ar prog w) A E s (forIn [:n] (none,lo,hi) f>>=g) Q st:=by
  intro lo hi f g h1 h2 Fg LI hf1 hf2 hg;refine au (wpS_forRange (λi c st'=>st'=st/\c.1=none/\c.2.1<=c.2.2/\c.2.2<=n/\c.2.2-c.2.1<=n-i/\(∀i,i<c.2.1->bey LT left key (it i)=true)/\(∀i,c.2.2<=i->i<n->bey LT left key (it i)=false)) ?_ ?_ ⟨rfl,rfl,h1,h2,by show hi-lo<=n-0;lia,Fg,LI⟩)
  ·rintro i ⟨c0,lo,hi⟩ st' _ GL ⟨rfl,rfl,g1,g2,g3,g4,g5⟩;dsimp only at g1 g2 g3 g4 g5 ⊢;by_cases E_:lo >= hi
   ·have:lo=hi:=by lia
    subst this;exact hf1 _ _ _ _ E_ (hg _ _ (h lo g2 g4 g5))
   ·refine hf2 _ _ _ _ E_ g2 ?_;cases q:bey LT left key (it (lo+(hi-lo)/2))with
    |true=>
     rw[if_pos rfl];refine⟨rfl,rfl,?_,g2,?_,λj hj=>?_,g5⟩
     ·show lo+(hi-lo)/2+1<=hi;lia
     ·show hi-(lo+(hi-lo)/2+1)<=n-(i+1);lia
     ·exact mono j _ (by have:j<lo+(hi-lo)/2+1:=hj;lia) (by lia) q
    |false=>
     rw[if_neg (by decide)];refine⟨rfl,rfl,?_,?_,?_,g4,λj hj hjn=>?_⟩
     ·show lo<=lo+(hi-lo)/2;lia
     ·show lo+(hi-lo)/2<=n;lia
     ·show lo+(hi-lo)/2-lo<=n-(i+1);lia
     ·exact FE _ j hj hjn q
  ·rintro⟨c0,lo,hi⟩ st' ⟨rfl,rfl,g1,g2,g3,g4,g5⟩;dsimp only at g1 g2 g3 g4 g5;have:lo=hi:=by lia
   subst this;exact hg _ _ (h lo g2 g4 g5)
 unfold oY;refine au (ask hint _ hh ?_);cases q:bey LT left key (it hint)with
 |true=>
  dsimp only;rw[if_pos rfl];refine au (wpS_forRange (λi c st'=>st'=st/\c.1=none/\c.2.1<c.2.2/\i+1<=c.2.2/\hint+c.2.1<n/\bey LT left key (it (hint+c.2.1))=true) ?_ ?_ ⟨rfl,rfl,by show 0<1;lia,by show 0+1<=1;lia,by show hint+0<n;lia,by show bey LT left key (it (hint+0))=true;exact q⟩)
  ·rintro i ⟨c0,la,Fp⟩ st' _ GL ⟨rfl,rfl,g1,g2,g3,g4⟩;dsimp only at g1 g2 g3 g4 ⊢;by_cases E_:Fp >= n-hint
   ·rw[if_pos E_];refine av ?_;refine fin (hint+la+1) (hint+min Fp (n-hint)) _ _ (by lia) (by lia) (λj hj=>mono j _ (by lia) g3 g4) (λj hj hjn=>by lia) ?_ ?_ ?_
    ·intro i lo hi R E_ hR;dsimp only;rw[if_pos E_];exact av hR
    ·intro i lo hi R E_ hn hR;dsimp only;rw[if_neg E_];refine au (ask _ _ (by lia) ?_);cases q9:bey LT left key (it (lo+(hi-lo)/2))with
     |true=>rw[q9]at hR;exact av hR
     |false=>rw[q9]at hR;exact av hR
    ·intro lo hi hQ;exact av hQ
   ·rw[if_neg E_];refine au (ask _ _ (by lia) ?_);cases q2:bey LT left key (it (hint+Fp))with
    |false=>
     refine av ?_;refine fin (hint+la+1) (hint+min Fp (n-hint)) _ _ (by lia) (by lia) (λj hj=>mono j _ (by lia) g3 g4) (λj hj hjn=>FE (hint+Fp) j (by lia) hjn q2) ?_ ?_ ?_
     ·intro i lo hi R E_ hR;dsimp only;rw[if_pos E_];exact av hR
     ·intro i lo hi R E_ hn hR;dsimp only;rw[if_neg E_];refine au (ask _ _ (by lia) ?_);cases q9:bey LT left key (it (lo+(hi-lo)/2))with
      |true=>rw[q9]at hR;exact av hR
      |false=>rw[q9]at hR;exact av hR
     ·intro lo hi hQ;exact av hQ
    |true=>
     refine av ⟨rfl,rfl,?_,?_,?_,q2⟩
     ·show Fp<2 * Fp+1;lia
     ·show i+1+1<=2 * Fp+1;lia
     ·show hint+Fp<n;lia
  ·rintro⟨c0,la,Fp⟩ st' ⟨rfl,rfl,g1,g2,g3,g4⟩;dsimp only at g1 g2 g3 g4;refine fin (hint+la+1) (hint+min Fp (n-hint)) _ _ (by lia) (by lia) (λj hj=>mono j _ (by lia) g3 g4) (λj hj hjn=>by lia) ?_ ?_ ?_
   ·intro i lo hi R E_ hR;dsimp only;rw[if_pos E_];exact av hR
   ·intro i lo hi R E_ hn hR;dsimp only;rw[if_neg E_];refine au (ask _ _ (by lia) ?_);cases q9:bey LT left key (it (lo+(hi-lo)/2))with
    |true=>rw[q9]at hR;exact av hR
    |false=>rw[q9]at hR;exact av hR
   ·intro lo hi hQ;exact av hQ
 |false=>
  dsimp only;rw[if_neg (by decide)];refine au (wpS_forRange (λi c st'=>st'=st/\c.1=none/\c.2.1<c.2.2/\i+1<=c.2.2/\c.2.1<=hint/\bey LT left key (it (hint-c.2.1))=false) ?_ ?_ ⟨rfl,rfl,by show 0<1;lia,by show 0+1<=1;lia,by show 0<=hint;lia,by show bey LT left key (it (hint-0))=false;exact q⟩)
  ·rintro i ⟨c0,la,Fp⟩ st' _ GL ⟨rfl,rfl,g1,g2,g3,g4⟩;dsimp only at g1 g2 g3 g4 ⊢;by_cases E_:Fp >= hint+1
   ·rw[if_pos E_];refine av ?_;refine fin (hint+1-min Fp (hint+1)) (hint-la) _ _ (by lia) (by lia) (λj hj=>by lia) (λj hj hjn=>FE (hint-la) j (by lia) hjn g4) ?_ ?_ ?_
    ·intro i lo hi R E_ hR;dsimp only;rw[if_pos E_];exact av hR
    ·intro i lo hi R E_ hn hR;dsimp only;rw[if_neg E_];refine au (ask _ _ (by lia) ?_);cases q9:bey LT left key (it (lo+(hi-lo)/2))with
     |true=>rw[q9]at hR;exact av hR
     |false=>rw[q9]at hR;exact av hR
    ·intro lo hi hQ;exact av hQ
   ·rw[if_neg E_];refine au (ask _ _ (by lia) ?_);cases q2:bey LT left key (it (hint-Fp))with
    |true=>
     refine av ?_;refine fin (hint+1-min Fp (hint+1)) (hint-la) _ _ (by lia) (by lia) (λj hj=>mono j (hint-Fp) (by lia) (by lia) q2) (λj hj hjn=>FE (hint-la) j (by lia) hjn g4) ?_ ?_ ?_
     ·intro i lo hi R E_ hR;dsimp only;rw[if_pos E_];exact av hR
     ·intro i lo hi R E_ hn hR;dsimp only;rw[if_neg E_];refine au (ask _ _ (by lia) ?_);cases q9:bey LT left key (it (lo+(hi-lo)/2))with
      |true=>rw[q9]at hR;exact av hR
      |false=>rw[q9]at hR;exact av hR
     ·intro lo hi hQ;exact av hQ
    |false=>
     refine av ⟨rfl,rfl,?_,?_,?_,q2⟩
     ·show Fp<2 * Fp+1;lia
     ·show i+1+1<=2 * Fp+1;lia
     ·show Fp<=hint;lia
  ·rintro⟨c0,la,Fp⟩ st' ⟨rfl,rfl,g1,g2,g3,g4⟩;dsimp only at g1 g2 g3 g4;refine fin (hint+1-min Fp (hint+1)) (hint-la) _ _ (by lia) (by lia) (λj hj=>by lia) (λj hj hjn=>FE (hint-la) j (by lia) hjn g4) ?_ ?_ ?_
   ·intro i lo hi R E_ hR;dsimp only;rw[if_pos E_];exact av hR
   ·intro i lo hi R E_ hn hR;dsimp only;rw[if_neg E_];refine au (ask _ _ (by lia) ?_);cases q9:bey LT left key (it (lo+(hi-lo)/2))with
    |true=>rw[q9]at hR;exact av hR
    |false=>rw[q9]at hR;exact av hR
   ·intro lo hi hQ;exact av hQ
end
structure Wo(LT:ao->ao->Bool):Prop where
 asym:∀x y,LT x y=true->LT y x=false
 neg:∀x y z,LT y x=false->LT z y=false->LT z x=false
section
variable{LT:ao->ao->Bool}
theorem Wo.irr(W:Wo LT)(x:ao):LT x x=false:=by
 cases h:LT x x with
 |false=>rfl
 |true=>have:=W.asym x x h;rw[h]at this;cases this
theorem Wo.le_lt(W:Wo LT){x y z:ao}(h1:LT y x=false)(h2:LT y z=true):LT x z=true:=by
 cases h:LT x z with
 |true=>rfl
 |false=>have:=W.neg z x y h h1;rw[h2]at this;cases this
theorem Wo.lt_le(W:Wo LT){x y z:ao}(h1:LT x y=true)(h2:LT z y=false):LT x z=true:=by
 cases h:LT x z with
 |true=>rfl
 |false=>have:=W.neg y z x h2 h;rw[h1]at this;cases this
def Srt(LT:ao->ao->Bool)(l:List ao):Prop:=l.Pairwise λx y=>LT y x=false
abbrev df:Keyed:=(ae.none,ae.none)
noncomputable def at'(a:Array ao)(i:Nat):Keyed:=a.getD i df
theorem qm{a:Array ao}{i:Nat}(h:i<a.size):a[i]? = some (at' a i):=by
 unfold at' Array.getD;rw[dif_pos h];exact Array.getElem?_eq_getElem h
theorem j5{a:Array ao}{i:Nat}(h:i<a.size):at' a i∈a.toList:=by
 have:=qm h;rw[<-Array.getElem?_toList]at this;exact List.mem_of_getElem? this
theorem dg(W:Wo LT){a:Array ao}(h:Srt LT a.toList){i j:Nat}(E1:i<=j)(hj:j<a.size):LT (at' a j) (at' a i)=false:=by
 by_cases e:i=j
 ·subst e;exact W.irr _
 ·have hi:i<a.toList.length:=by rw[bb];lia
  have G7:j<a.toList.length:=by rw[bb];lia
  have:=List.pairwise_iff_getElem.mp h i j hi G7 (by lia);have e1:=qm (a:=a) (i:=i) (by lia);have e2:=qm (a:=a) (i:=j) hj;rw[<-Array.getElem?_toList,List.getElem?_eq_getElem hi]at e1;rw[<-Array.getElem?_toList,List.getElem?_eq_getElem G7]at e2;injection e1 with e1
  injection e2 with e2
  rw[<-e1,<-e2];exact this
theorem qt{a:Array ao}{i j:Nat}{x:ao}(h:x∈(a.extract i j).toList):∃k,i<=k/\k<j/\k<a.size/\x=at' a k:=by
 obtain⟨m,hm⟩:=List.mem_iff_getElem?.mp h;rw[Array.getElem?_toList,Array.getElem?_extract]at hm;split at hm
 ·rename_i EZ
  have hk:i+m<a.size:=(Array.getElem?_eq_some_iff.mp hm).1;rw[qm hk]at hm;injection hm with hm
  exact⟨i+m,by lia,by lia,hk,hm.symm⟩
 ·cases hm
theorem zM(a:Array ao)(i j:Nat):(a.extract i j).toList=(a.toList.drop i).take (j-i):=by
 simp[Array.toList_extract]
theorem dR{a:Array ao}(h:Srt LT a.toList)(i j:Nat):Srt LT (a.extract i j).toList:=by
 rw[zM];exact(h.sublist (List.drop_sublist _ _)).sublist (List.take_sublist _ _)
structure MI(LT:ao->ao->Bool)(a b out:Array ao)(ia ib:Nat):Prop where
 pm:out.toList.Perm (a.toList.take ia++b.toList.take ib)
 sr:Srt LT out.toList
 la:∀x∈out.toList,∀j,ia<=j->j<a.size->LT (at' a j) x=false
 lb:∀x∈out.toList,∀j,ib<=j->j<b.size->LT (at' b j) x=false
variable{a b out:Array ao}{ia ib:Nat}
theorem nr{l:List ao}{i k:Nat}:l.take (i+k)=l.take i++(l.drop i).take k:=List.take_add
theorem MI.takeA(W:Wo LT)(h:MI LT a b out ia ib)(Sa:Srt LT a.toList)(k:Nat)(hb:∀i,ia<=i->i<ia+k->i<a.size->∀j,ib<=j->j<b.size->LT (at' b j) (at' a i)=false):MI LT a b (out++a.extract ia (ia+k)) (ia+k) ib:=by
 refine⟨?_,?_,λx hx j h1 h2=>?_,λx hx j h1 h2=>?_⟩
 ·rw[bf,zM,nr,show ia+k-ia=k by lia];refine(h.pm.append_right _).trans ?_;rw[bw,bw];exact(List.perm_append_comm).append_left _
 ·rw[bf];refine List.pairwise_append.mpr ⟨h.sr,dR Sa _ _,λx hx y hy=>?_⟩;obtain⟨i,g1,g2,g3,rfl⟩:=qt hy;exact h.la x hx i g1 g3
 ·rw[bf]at hx;rcases List.mem_append.mp hx with hx|hx
  ·exact h.la x hx j (by lia) h2
  ·obtain⟨i,g1,g2,g3,rfl⟩:=qt hx;exact dg W Sa (by lia) h2
 ·rw[bf]at hx;rcases List.mem_append.mp hx with hx|hx
  ·exact h.lb x hx j h1 h2
  ·obtain⟨i,g1,g2,g3,rfl⟩:=qt hx;exact hb i g1 g2 g3 j h1 h2
theorem MI.takeB(W:Wo LT)(h:MI LT a b out ia ib)(Sb:Srt LT b.toList)(k:Nat)(hb:∀i,ib<=i->i<ib+k->i<b.size->∀j,ia<=j->j<a.size->LT (at' a j) (at' b i)=false):MI LT a b (out++b.extract ib (ib+k)) ia (ib+k):=by
 refine⟨?_,?_,λx hx j h1 h2=>?_,λx hx j h1 h2=>?_⟩
 ·rw[bf,zM,nr,show ib+k-ib=k by lia,<-bw];exact h.pm.append_right _
 ·rw[bf];refine List.pairwise_append.mpr ⟨h.sr,dR Sb _ _,λx hx y hy=>?_⟩;obtain⟨i,g1,g2,g3,rfl⟩:=qt hy;exact h.lb x hx i g1 g3
 ·rw[bf]at hx;rcases List.mem_append.mp hx with hx|hx
  ·exact h.la x hx j h1 h2
  ·obtain⟨i,g1,g2,g3,rfl⟩:=qt hx;exact hb i g1 g2 g3 j h1 h2
 ·rw[bf]at hx;rcases List.mem_append.mp hx with hx|hx
  ·exact h.lb x hx j (by lia) h2
  ·obtain⟨i,g1,g2,g3,rfl⟩:=qt hx;exact dg W Sb (by lia) h2
theorem kL{a out:Array ao}{i:Nat}(h:i<a.size):out.push (at' a i)=out++a.extract i (i+1):=by
 apply Array.toList_inj.mp;rw[Array.toList_push,bf,zM,show i+1-i=1 by lia]
 congr 1
 have hl:i<a.toList.length:=by rw[bb];exact h
 rw[eO hl];have e1:=qm (a:=a) (i:=i) h;rw[<-Array.getElem?_toList,List.getElem?_eq_getElem hl]at e1;injection e1 with e1
 rw[e1];rfl
theorem MI.pushA(W:Wo LT)(h:MI LT a b out ia ib)(Sa:Srt LT a.toList)(Sb:Srt LT b.toList)(hi:ia<a.size)(hb:ib<b.size->LT (at' b ib) (at' a ia)=false):MI LT a b (out.push (at' a ia)) (ia+1) ib:=by
 rw[kL hi];refine h.takeA W Sa 1 λi h1 h2 _ j g1 g2=>?_
 have:i=ia:=by lia
 subst this;exact W.neg _ _ _ (hb (by lia)) (dg W Sb g1 g2)
theorem MI.pushB(W:Wo LT)(h:MI LT a b out ia ib)(Sa:Srt LT a.toList)(Sb:Srt LT b.toList)(hi:ib<b.size)(hb:ia<a.size->LT (at' b ib) (at' a ia)=true):MI LT a b (out.push (at' b ib)) ia (ib+1):=by
 rw[kL hi];refine h.takeB W Sb 1 λi h1 h2 _ j g1 g2=>?_
 have:i=ib:=by lia
 subst this;exact W.neg _ _ _ (W.asym _ _ (hb (by lia))) (dg W Sa g1 g2)
def Mg(LT:ao->ao->Bool)(a b r:Array ao):Prop:=r.toList.Perm (a.toList++b.toList)/\Srt LT r.toList
theorem MI.done(W:Wo LT)(h:MI LT a b out ia ib)(Sa:Srt LT a.toList)(Sb:Srt LT b.toList)(he:ib=b.size\/ia=a.size):Mg LT a b (out++a.extract ia++b.extract ib):=by
 have ea:(a.extract ia).toList=a.toList.drop ia:=by
  rw[zM];exact List.take_of_length_le (by simp)
 have eb:(b.extract ib).toList=b.toList.drop ib:=by
  rw[zM];exact List.take_of_length_le (by simp)
 refine⟨?_,?_⟩
 ·rw[bf,bf,ea,eb];refine((h.pm.append_right _).append_right _).trans ?_;have e1:=bZ ia a.toList;have e2:=bZ ib b.toList;rcases he with he|he
  ·have z1:b.toList.drop ib=[]:=List.drop_eq_nil_of_le (by rw[bb];lia);have z2:b.toList.take ib=b.toList:=List.take_of_length_le (by rw[bb];lia);rw[z1,z2,cb,bw];refine(List.perm_append_comm.append_left _).trans ?_;rw[<-bw,e1]
  ·have z1:a.toList.drop ia=[]:=List.drop_eq_nil_of_le (by rw[bb];lia);have z2:a.toList.take ia=a.toList:=List.take_of_length_le (by rw[bb];lia);rw[z1,z2,cb,bw,e2]
 ·rw[bf,bf];refine List.pairwise_append.mpr ⟨List.pairwise_append.mpr ⟨h.sr,dR Sa _ _,λx hx y hy=>?_⟩,dR Sb _ _,λx hx y hy=>?_⟩
  ·obtain⟨i,g1,g2,g3,rfl⟩:=qt hy;exact h.la x hx i g1 g3
  ·obtain⟨i,g1,g2,g3,rfl⟩:=qt hy;rcases List.mem_append.mp hx with hx|hx
   ·exact h.lb x hx i g1 g3
   ·obtain⟨j,k1,k2,k3,rfl⟩:=qt hx;lia
theorem MI.last(W:Wo LT)(h:MI LT a b out ia ib)(Sa:Srt LT a.toList)(Sb:Srt LT b.toList)(hl:ia+1=a.size)(hb:∀j,j<b.size->LT (at' b j) (at' a ia)=true):Mg LT a b (out++b.extract ib++a.extract ia):=by
 have ea:(a.extract ia).toList=a.toList.drop ia:=by
  rw[zM];exact List.take_of_length_le (by simp)
 have eb:(b.extract ib).toList=b.toList.drop ib:=by
  rw[zM];exact List.take_of_length_le (by simp)
 refine⟨?_,?_⟩
 ·rw[bf,bf,ea,eb];refine((h.pm.append_right _).append_right _).trans ?_;have e1:=bZ ia a.toList;have e2:=bZ ib b.toList;rw[bw (a.toList.take ia),e2];refine(List.perm_append_comm.append_right _).trans ?_;rw[bw,e1];exact List.perm_append_comm
 ·rw[bf,bf];refine List.pairwise_append.mpr ⟨List.pairwise_append.mpr ⟨h.sr,dR Sb _ _,λx hx y hy=>?_⟩,dR Sa _ _,λx hx y hy=>?_⟩
  ·obtain⟨i,g1,g2,g3,rfl⟩:=qt hy;exact h.lb x hx i g1 g3
  ·obtain⟨i,g1,g2,g3,rfl⟩:=qt hy;rcases List.mem_append.mp hx with hx|hx
   ·exact h.la x hx i g1 g3
   ·obtain⟨j,k1,k2,k3,rfl⟩:=qt hx;have:i=ia:=by lia
    subst this;exact W.asym _ _ (hb j k3)
end
abbrev setG(st:aH)(g:Nat):SortSt:=aH.mk' (kindOf st) (ag st) (aZ st) g (failedOf st)
section
variable{prog:aB}{w:az}{A:aD}{E:ae->af->Prop}{s:af}{κ:SortKind}{D:ao->Prop}{LT:ao->ao->Bool}
theorem Cmp.wo(C:Cmp prog w A s κ D LT):Wo LT:=⟨C.asym,C.neg⟩
theorem kD(W:Wo LT){a:Array ao}(S:Srt LT a.toList){left:Bool}{key:ao}{base n:Nat}(hn:base+n<=a.size):∀i j,i<=j->j<n->bey LT left key (at' a (base+j))=true->bey LT left key (at' a (base+i))=true:=by
 intro i j E1 hj h;have o:=dg W S (show base+i<=base+j by lia) (by lia);cases left with
 |true=>
  have h:LT (at' a (base+j)) key=true:=h;show LT (at' a (base+i)) key=true;exact W.le_lt o h
 |false=>
  have h:(!LT key (at' a (base+j)))=true:=h;show (!LT key (at' a (base+i)))=true;have h':LT key (at' a (base+j))=false:=by simpa using h
  rw[W.neg _ _ _ o h'];rfl
theorem share1{α γ:Type}{M:Model}{c:α->Prop} [∀u,Decidable (c u)]{X F:α->StateT aH Sem γ}{Q:γ->aH->Prop}{st:aH}(hG:(∀u,wpS M A E s (F u) Q st)->∀u,wpS M A E s (if c u then X u else F u) Q st)(H:∀u,wpS M A E s (F u) Q st):∀u,wpS M A E s (if c u then X u else F u) Q st:=hG H
theorem jW{α β γ:Type}{M:Model}{c:Prop} [Decidable c]{X F:α->β->StateT aH Sem γ}{x:α}{y:β}{Q:γ->aH->Prop}{st:aH}(C:α->β->Prop)(hG:(∀u v,C u v->wpS M A E s (F u v) Q st)->∀u,x=u->∀v,y=v->wpS M A E s (if c then X u v else F u v) Q st)(H:∀u v,C u v->wpS M A E s (F u v) Q st):∀u,x=u->∀v,y=v->wpS M A E s (if c then X u v else F u v) Q st:=hG H
theorem mi0{a b:Array ao}:MI LT a b #[] 0 0:=⟨by simp,by simp[Srt],by simp,by simp⟩
theorem Bh(C:Cmp prog w A s κ D LT){a b:Array ao}{st:aH}{Q:Array ao->aH->Prop}(hk:kindOf st=κ)(Da:∀i,i<a.size->D (at' a i))(Db:∀i,i<b.size->D (at' b i))(Sa:Srt LT a.toList)(Sb:Srt LT b.toList)
  (ha:0<a.size) (hb:0<b.size) (h0:LT (at' b 0) (at' a 0)=true) (hl:∀j,j<b.size->LT (at' b j) (at' a (a.size-1))=true) (h:∀r g,Mg LT a b r->Q r (setG st g)):wpS (ar prog w) A E s (n8 a b) Q st:=by
 have W:=C.wo;have F0:∀{ia:Nat},ia+1=a.size->∀j,j<b.size->LT (at' b j) (at' a ia)=true:=λ{ia} e j hj=>by
  have:ia=a.size-1:=by lia
  rw[this];exact hl j hj
 unfold n8;refine au (wpS_lift (wpAny_rule ⟨rfl,?_⟩));refine au (qO (qm hb) ?_);have M1:MI LT a b #[at' b 0] 0 1:=(mi0 (LT:=LT)).pushB W Sa Sb hb λ_=>h0
 dsimp only;refine wpI (λe1=>?_) λe1=>?_
 ·exact av (h _ (gallopOf st) (M1.done W Sa Sb (.inl (by simpa using e1))))
 refine wpI (λe2=>?_) λe2=>?_
 ·exact av (h _ (gallopOf st) (M1.last W Sa Sb (by simpa using e2) (F0 (by simpa using e2))))
 have Hq:1≠b.size:=by simpa using e1
 have Ih:1≠a.size:=by simpa using e2
 refine au (wpS_get ?_);refine au (wpS_mono (Q:=λc st'=>∃r g,c.1=some r/\Mg LT a b r/\st'=setG st g) ?_ ?_)
 ·refine wpS_forRange (λi c st'=>∃g,st'=setG st g/\c.1=none/\MI LT a b c.2.1 c.2.2.1 c.2.2.2.1/\c.2.2.1+1<a.size/\c.2.2.2.1<b.size/\i<=c.2.2.1+c.2.2.2.1) ?_ ?_ ⟨gallopOf st,rfl,rfl,M1,by show 0+1<a.size;lia,by show 1<b.size;lia,bz _⟩
  ·refine λi=>pr5 λc0 out ia ib mg st' _ hi x=>exE (λg y=>stE y.1 ?_) x
   clear x;have M:=y.2.2.1;have h1:=y.2.2.2.1;have h2:=y.2.2.2.2.1;have h3:=y.2.2.2.2.2;clear y;dsimp only at M h1 h2 h3 ⊢;refine au (wpS_mono (Q:=λc st'=>st'=setG st g/\((∃r,c.1=some r/\Mg LT a b r)\/(c.1=none/\MI LT a b c.2.1 c.2.2.1 c.2.2.2.1/\c.2.2.1+1<a.size/\c.2.2.2.1<b.size/\ia+ib+1<=c.2.2.1+c.2.2.2.1))) ?_ ?_)
   ·refine wpS_forRange (λj c st'=>st'=setG st g/\c.1=none/\MI LT a b c.2.1 c.2.2.1 c.2.2.2.1/\c.2.2.1+1<a.size/\c.2.2.2.1<b.size/\ia+ib+j<=c.2.2.1+c.2.2.2.1) ?_ ?_ ⟨rfl,rfl,M,h1,h2,aF _⟩
    ·refine λj=>pr6 λc0 out Fe Ft ac bc st' _ hj y=>stE y.1 ?_
     have M:=y.2.2.1;have h1:=y.2.2.2.1;have h2:=y.2.2.2.2.1;have h3:=y.2.2.2.2.2;clear y;dsimp only at M h1 h2 h3 ⊢;refine au (qO (qm h2) ?_);refine au (qO (qm (show Fe<a.size by lia)) ?_);refine au (jl C (Db _ h2) (Da _ (by lia)) hk ?_);dsimp only;refine wpI (λq=>?_) λq=>?_
     ·refine au (qO (qm h2) ?_);have M2:=M.pushB W Sa Sb h2 λ_=>q
      refine wpI (λe3=>?_) λe3=>?_
      ·exact av ⟨rfl,.inl ⟨_,rfl,M2.done W Sa Sb (.inl (by simpa using e3))⟩⟩
      have Ii:Ft+1≠b.size:=by simpa using e3
      refine wpI (λe4=>?_) λe4=>?_
      ·exact av ⟨rfl,.inr ⟨rfl,M2,h1,by show Ft+1<b.size;lia,by show ia+ib+1<=Fe+(Ft+1);lia⟩⟩
      ·exact av ⟨rfl,rfl,M2,h1,by show Ft+1<b.size;lia,by show ia+ib+(j+1)<=Fe+(Ft+1);lia⟩
     ·have q:=eq_false_of_ne_true q;refine au (qO (qm (show Fe<a.size by lia)) ?_);have M2:=M.pushA W Sa Sb (by lia) λ_=>q
      refine wpI (λe3=>?_) λe3=>?_
      ·exact av ⟨rfl,.inl ⟨_,rfl,M2.last W Sa Sb (by simpa using e3) (F0 (by simpa using e3))⟩⟩
      have Ii:Fe+1+1≠a.size:=by simpa using e3
      refine wpI (λe4=>?_) λe4=>?_
      ·exact av ⟨rfl,.inr ⟨rfl,M2,by show Fe+1+1<a.size;lia,h2,by show ia+ib+1<=Fe+1+Ft;lia⟩⟩
      ·exact av ⟨rfl,rfl,M2,by show Fe+1+1<a.size;lia,h2,by show ia+ib+(j+1)<=Fe+1+Ft;lia⟩
    ·rintro⟨c0,out,Fe,Ft,ac,bc⟩ st' ⟨rfl,rfl,M,h1,h2,h3⟩;dsimp only at M h1 h2 h3;exact absurd h3 (by lia)
   ·refine pr6 λc0 out Fe Ft ac bc st' y=>stE y.1 ?_
    have hc:=y.2;clear y;dsimp only at hc ⊢;rcases hc with ⟨r,rfl,hm⟩|⟨rfl,M,h1,h2,h3⟩
    ·exact av ⟨r,g,rfl,hm,rfl⟩
    dsimp only;refine au (wpS_lift (wpAny_rule ⟨rfl,?_⟩));refine au (wpS_mono (Q:=λc st'=>∃g,st'=setG st g/\((∃r,c.1=some r/\Mg LT a b r)\/(c.1=none/\MI LT a b c.2.1 c.2.2.1 c.2.2.2.1/\c.2.2.1+1<a.size/\c.2.2.2.1<b.size/\ia+ib+1<=c.2.2.1+c.2.2.2.1))) ?_ ?_)
    ·refine wpS_forRange (λj c st'=>∃g,st'=setG st g/\c.1=none/\MI LT a b c.2.1 c.2.2.1 c.2.2.2.1/\c.2.2.1+1<a.size/\c.2.2.2.1<b.size/\ia+ib+1+j<=c.2.2.1+c.2.2.2.1) ?_ ?_ ⟨g,rfl,rfl,M,h1,h2,h3⟩
     ·clear M h1 h2 h3;refine λj=>pr7 λc0 out Fe Ft FF ac bc st' _ hj x=>exE (λg y=>stE y.1 ?_) x
      clear x;have M:=y.2.2.1;have h1:=y.2.2.2.1;have h2:=y.2.2.2.2.1;have h3:=y.2.2.2.2.2;clear y;dsimp only at M h1 h2 h3 ⊢;revert FF;refine share1 (λH FF=>?_) ?_
      ·show wpS _ _ _ _ _ _ _;by_cases e0:¬ FF>1
       ·rw[if_neg e0];exact H FF
       ·rw[if_pos (Decidable.not_not.mp e0)];exact H (FF-1)
      intro LJ;refine au (wpS_modify ?_);refine au (qO (qm h2) ?_);refine au (h8 C hk (Db _ h2) (λi=>at' a (Fe+i)) (λi hi=>⟨qm (by lia),Da _ (by lia)⟩) (by lia) (kD W Sa (by lia)) λk l1 l2 l3=>?_);dsimp only;have t2:∀i,Fe<=i->i<Fe+k->LT (at' b Ft) (at' a i)=false:=λi g1 g2=>by
       have:=l2 (i-Fe) (by lia);rw[show Fe+(i-Fe)=i by lia]at this;have this:(!LT (at' b Ft) (at' a i))=true:=this
       simpa using this
      have t3:Fe+k<a.size->LT (at' b Ft) (at' a (Fe+k))=true:=λz=>by
       have:=l3 k (aF _) (by lia);have this:(!LT (at' b Ft) (at' a (Fe+k)))=false:=this
       simpa using this
      generalize hu:out=u;generalize hv:Fe=v;revert u v;refine jW (λFQ ia'=>MI LT a b FQ ia' Ft/\ia'+1<a.size/\Fe<=ia'/\LT (at' b Ft) (at' a ia')=true) (λH u hu v hv=>?_) ?_
      ·subst hu;subst hv;by_cases e4:¬ k>0
       ·rw[if_neg e4];refine H out Fe ⟨M,h1,aF _,?_⟩;have:=t3 (by lia);rw[show k=0 by lia]at this;exact this
       ·rw[if_pos (Decidable.not_not.mp e4)];have M2:=M.takeA W Sa k λi g1 g2 _ j' g3 g4=>W.neg _ _ _ (t2 i g1 g2) (dg W Sb g3 g4)
        refine wpI (λe3=>?_) λe3=>?_
        ·exact av ⟨_,rfl,.inl ⟨_,rfl,M2.last W Sa Sb (by simpa using e3) (F0 (by simpa using e3))⟩⟩
        have Ii:Fe+k+1≠a.size:=by simpa using e3
        refine wpI (λe9=>?_) λe9=>?_
        ·exact av ⟨_,rfl,.inl ⟨_,rfl,M2.done W Sa Sb (.inr (by simpa using e9))⟩⟩
        have LK:Fe+k≠a.size:=by simpa using e9
        exact H _ _ ⟨M2,by lia,by lia,t3 (by lia)⟩
      rintro Hr ia3 ⟨M2,Nk,E_,q2⟩
      try dsimp only
      refine au (qO (qm h2) ?_);have M3:=M2.pushB W Sa Sb h2 λ_=>q2
      refine wpI (λe5=>?_) λe5=>?_
      ·exact av ⟨_,rfl,.inl ⟨_,rfl,M3.done W Sa Sb (.inl (by simpa using e5))⟩⟩
      have KJ:Ft+1≠b.size:=by simpa using e5
      refine au (qO (qm (show ia3<a.size by lia)) ?_);generalize Hr.push (at' b Ft)=out5 at M3 ⊢;have hY:∃n,Ft+1=n:=⟨_,rfl⟩
      obtain⟨Gj,hY⟩:=hY;rw[hY]at M3 KJ ⊢;refine au (h8 C hk (Da _ (by lia)) (λi=>at' b (Gj+i)) (λi hi=>⟨qm (by lia),Db _ (by lia)⟩) (by lia) (kD W Sb (by lia)) λk' l1 l2 l3=>?_);dsimp only;have t2:∀i,Gj<=i->i<Gj+k'->LT (at' b i) (at' a ia3)=true:=λi g1 g2=>by
       have:=l2 (i-Gj) (by lia);rw[show Gj+(i-Gj)=i by lia]at this;exact this
      have t3:Gj+k'<b.size->LT (at' b (Gj+k')) (at' a ia3)=false:=λz=>l3 k' (aF _) (by lia)
      generalize hu:out5=u;generalize hv:Gj=v;revert u v;refine jW (λFQ ib'=>MI LT a b FQ ia3 ib'/\ib'<b.size/\Gj<=ib'/\LT (at' b ib') (at' a ia3)=false) (λH u hu v hv=>?_) ?_
      ·subst hu;subst hv;by_cases e6:¬ k'>0
       ·rw[if_neg e6];refine H out5 Gj ⟨M3,by lia,aF _,?_⟩;have:=t3 (by lia);rw[show k'=0 by lia]at this;exact this
       ·rw[if_pos (Decidable.not_not.mp e6)];have M4:=M3.takeB W Sb k' λi g1 g2 _ j' g3 g4=>W.neg _ _ _ (W.asym _ _ (t2 i g1 g2)) (dg W Sa g3 g4)
        refine wpI (λe8=>?_) λe8=>?_
        ·exact av ⟨_,rfl,.inl ⟨_,rfl,M4.done W Sa Sb (.inl (by simpa using e8))⟩⟩
        have LL:Gj+k'≠b.size:=by simpa using e8
        exact H _ _ ⟨M4,by lia,by lia,t3 (by lia)⟩
      rintro JW ib4 ⟨M4,Nl,KL,q5⟩
      try dsimp only
      refine au (qO (qm (show ia3<a.size by lia)) ?_);have M5:=M4.pushA W Sa Sb (show ia3<a.size by lia) λ_=>q5
      refine wpI (λe7=>?_) λe7=>?_
      ·exact av ⟨_,rfl,.inl ⟨_,rfl,M5.last W Sa Sb (by simpa using e7) (F0 (by simpa using e7))⟩⟩
      have LO:ia3+1+1≠a.size:=by simpa using e7
      split
      ·exact av ⟨_,rfl,.inr ⟨rfl,M5,by show ia3+1+1<a.size;lia,by show ib4<b.size;lia,by show ia+ib+1<=ia3+1+ib4;lia⟩⟩
      ·exact av ⟨_,rfl,rfl,M5,by show ia3+1+1<a.size;lia,by show ib4<b.size;lia,by show ia+ib+1+(j+1)<=ia3+1+ib4;lia⟩
     ·clear M h1 h2 h3;rintro⟨c0,out,Fe,Ft,FF,ac,bc⟩ st' ⟨g,rfl,rfl,M,h1,h2,h3⟩;dsimp only at M h1 h2 h3;exact absurd h3 (by lia)
    ·refine pr7 λc0 out Fe Ft FF ac bc st' x=>exE (λg y=>stE y.1 ?_) x
     clear x;have hc:=y.2;clear y;dsimp only at hc ⊢;rcases hc with ⟨r,rfl,hm⟩|⟨rfl,M,h1,h2,h3⟩
     ·exact av ⟨r,g,rfl,hm,rfl⟩
     dsimp only;refine au (wpS_modify ?_);exact av ⟨FF+1,rfl,rfl,M,h1,h2,by show i+1<=Fe+Ft;lia⟩
  ·rintro⟨c0,out,ia,ib,mg⟩ st' ⟨g,rfl,rfl,M,h1,h2,h3⟩;dsimp only at M h1 h2 h3;exact absurd h3 (by lia)
 ·rintro⟨c0,out,ia,ib,mg⟩ st' ⟨r,g,hr,hm,rfl⟩;dsimp only at hr ⊢;subst hr;exact av (h r g hm)
end
section
variable{LT:ao->ao->Bool}
structure MH(LT:ao->ao->Bool)(a b out:Array ao)(na nb:Nat):Prop where
 pm:out.toList.Perm (a.toList.drop na++b.toList.drop nb)
 sr:Srt LT out.toList.reverse
 la:∀x∈out.toList,∀j,j<na->LT x (at' a j)=false
 lb:∀x∈out.toList,∀j,j<nb->LT x (at' b j)=false
variable{a b out:Array ao}{na nb:Nat}
theorem nv{l:List ao}{m n:Nat}(h:m<=n):l.drop m=(l.drop m).take (n-m)++l.drop n:=by
 have:=(bZ (n-m) (l.drop m)).symm;rw[List.drop_drop,show m+(n-m)=n by lia]at this;exact this
theorem MH.takeA(W:Wo LT)(h:MH LT a b out na nb)(Sa:Srt LT a.toList)(KN:na<=a.size)(m:Nat)(hm:m<=na)(hb:∀i,m<=i->i<na->∀j,j<nb->LT (at' a i) (at' b j)=false):MH LT a b (out++(a.extract m na).reverse) m nb:=by
 have mem:∀{x},x∈(out++(a.extract m na).reverse).toList->x∈out.toList\/x∈(a.extract m na).toList:=λ{x} hx=>by
  rw[bf,Array.toList_reverse]at hx;rcases List.mem_append.mp hx with hx|hx
  ·exact .inl hx
  ·exact .inr (List.mem_reverse.mp hx)
 refine⟨?_,?_,λx hx j h1=>?_,λx hx j h1=>?_⟩
 ·rw[bf,Array.toList_reverse,zM];have e:=nv (l:=a.toList) hm;generalize (a.toList.drop m).take (na-m)=T at e ⊢;rw[e];refine(h.pm.append (List.reverse_perm _)).trans ?_;refine List.perm_append_comm.trans ?_;rw[bw]
 ·rw[bf,Array.toList_reverse,List.reverse_append,List.reverse_reverse];refine List.pairwise_append.mpr ⟨dR Sa _ _,h.sr,λx hx y hy=>?_⟩;obtain⟨i,g1,g2,g3,rfl⟩:=qt hx;exact h.la y (List.mem_reverse.mp hy) i g2
 ·rcases mem hx with hx|hx
  ·exact h.la x hx j (by lia)
  ·obtain⟨i,g1,g2,g3,rfl⟩:=qt hx;exact dg W Sa (by lia) g3
 ·rcases mem hx with hx|hx
  ·exact h.lb x hx j h1
  ·obtain⟨i,g1,g2,g3,rfl⟩:=qt hx;exact hb i g1 g2 j h1
theorem MH.takeB(W:Wo LT)(h:MH LT a b out na nb)(Sb:Srt LT b.toList)(KO:nb<=b.size)(m:Nat)(hm:m<=nb)(hb:∀i,m<=i->i<nb->∀j,j<na->LT (at' b i) (at' a j)=false):MH LT a b (out++(b.extract m nb).reverse) na m:=by
 have mem:∀{x},x∈(out++(b.extract m nb).reverse).toList->x∈out.toList\/x∈(b.extract m nb).toList:=λ{x} hx=>by
  rw[bf,Array.toList_reverse]at hx;rcases List.mem_append.mp hx with hx|hx
  ·exact .inl hx
  ·exact .inr (List.mem_reverse.mp hx)
 refine⟨?_,?_,λx hx j h1=>?_,λx hx j h1=>?_⟩
 ·rw[bf,Array.toList_reverse,zM];have e:=nv (l:=b.toList) hm;generalize (b.toList.drop m).take (nb-m)=T at e ⊢;rw[e];refine(h.pm.append (List.reverse_perm _)).trans ?_;rw[bw];exact List.perm_append_comm.append_left _
 ·rw[bf,Array.toList_reverse,List.reverse_append,List.reverse_reverse];refine List.pairwise_append.mpr ⟨dR Sb _ _,h.sr,λx hx y hy=>?_⟩;obtain⟨i,g1,g2,g3,rfl⟩:=qt hx;exact h.lb y (List.mem_reverse.mp hy) i g2
 ·rcases mem hx with hx|hx
  ·exact h.la x hx j h1
  ·obtain⟨i,g1,g2,g3,rfl⟩:=qt hx;exact hb i g1 g2 j h1
 ·rcases mem hx with hx|hx
  ·exact h.lb x hx j (by lia)
  ·obtain⟨i,g1,g2,g3,rfl⟩:=qt hx;exact dg W Sb (by lia) g3
theorem rz{a out:Array ao}{i:Nat}(h:i<a.size):out.push (at' a i)=out++(a.extract i (i+1)).reverse:=by
 have:=kL (out:=(#[]:Array ao)) h;have e:a.extract i (i+1) = #[at' a i]:=by
  have h2:(#[]:Array ao)++a.extract i (i+1)=a.extract i (i+1):=by simp
  rw[h2]at this;rw[<-this];rfl
 rw[e];simp
theorem MH.pushA(W:Wo LT)(h:MH LT a b out (na+1) nb)(Sa:Srt LT a.toList)(Sb:Srt LT b.toList)(hi:na<a.size)(KO:nb<=b.size)(hb:0<nb->LT (at' b (nb-1)) (at' a na)=true):MH LT a b (out.push (at' a na)) na nb:=by
 rw[rz hi];refine h.takeA W Sa (by lia) na (by lia) λi h1 h2 j g1=>?_
 have:i=na:=by lia
 subst this;exact W.neg _ _ _ (dg W Sb (show j<=nb-1 by lia) (by lia)) (W.asym _ _ (hb (by lia)))
theorem MH.pushB(W:Wo LT)(h:MH LT a b out na (nb+1))(Sa:Srt LT a.toList)(Sb:Srt LT b.toList)(hi:nb<b.size)(KN:na<=a.size)(hb:0<na->LT (at' b nb) (at' a (na-1))=false):MH LT a b (out.push (at' b nb)) na nb:=by
 rw[rz hi];refine h.takeB W Sb (by lia) nb (by lia) λi h1 h2 j g1=>?_
 have:i=nb:=by lia
 subst this;exact W.neg _ _ _ (dg W Sa (show j<=na-1 by lia) (by lia)) (hb (by lia))
theorem jR(a:Array ao)(n:Nat):(a.extract 0 n).toList=a.toList.take n:=by
 rw[zM,List.drop_zero];rfl
theorem MH.done(W:Wo LT)(h:MH LT a b out na nb)(Sa:Srt LT a.toList)(Sb:Srt LT b.toList)(he:na=0\/nb=0):Mg LT a b (a.extract 0 na++b.extract 0 nb++out.reverse):=by
 refine⟨?_,?_⟩
 ·rw[bf,bf,Array.toList_reverse,jR,jR];refine((List.reverse_perm _).trans h.pm).append_left _ |>.trans ?_;have e1:=bZ na a.toList;have e2:=bZ nb b.toList;rcases he with he|he
  ·subst he;rw[List.take_zero,List.drop_zero,List.nil_append];refine List.perm_append_comm.trans ?_;rw[bw];refine(List.perm_append_comm.append_left _).trans ?_;rw[e2]
  ·subst he;rw[List.take_zero,List.drop_zero,cb,<-bw,e1]
 ·rw[bf,bf,Array.toList_reverse];refine List.pairwise_append.mpr ⟨List.pairwise_append.mpr ⟨dR Sa _ _,dR Sb _ _,λx hx y hy=>?_⟩,h.sr,λx hx y hy=>?_⟩
  ·obtain⟨i,g1,g2,g3,rfl⟩:=qt hx;obtain⟨j,k1,k2,k3,rfl⟩:=qt hy;lia
  ·have hy:=List.mem_reverse.mp hy;rcases List.mem_append.mp hx with hx|hx
   ·obtain⟨i,g1,g2,g3,rfl⟩:=qt hx;exact h.la y hy i g2
   ·obtain⟨i,g1,g2,g3,rfl⟩:=qt hx;exact h.lb y hy i g2
theorem MH.first(W:Wo LT)(h:MH LT a b out na nb)(Sa:Srt LT a.toList)(Sb:Srt LT b.toList)(hl:nb=1)(hb:∀j,j<a.size->LT (at' b 0) (at' a j)=true):Mg LT a b (b.extract 0 nb++a.extract 0 na++out.reverse):=by
 subst hl;refine⟨?_,?_⟩
 ·rw[bf,bf,Array.toList_reverse,jR,jR];refine((List.reverse_perm _).trans h.pm).append_left _ |>.trans ?_;have e1:=bZ na a.toList;have e2:=bZ 1 b.toList;rw[bw,<-bw (a.toList.take na),e1];refine List.perm_append_comm.trans ?_;rw[bw];refine(List.perm_append_comm.append_left _).trans ?_;rw[e2]
 ·rw[bf,bf,Array.toList_reverse];refine List.pairwise_append.mpr ⟨List.pairwise_append.mpr ⟨dR Sb _ _,dR Sa _ _,λx hx y hy=>?_⟩,h.sr,λx hx y hy=>?_⟩
  ·obtain⟨i,g1,g2,g3,rfl⟩:=qt hx;obtain⟨j,k1,k2,k3,rfl⟩:=qt hy;have:i=0:=by lia
   subst this;exact W.asym _ _ (hb j k3)
  ·have hy:=List.mem_reverse.mp hy;rcases List.mem_append.mp hx with hx|hx
   ·obtain⟨i,g1,g2,g3,rfl⟩:=qt hx;exact h.lb y hy i g2
   ·obtain⟨i,g1,g2,g3,rfl⟩:=qt hx;exact h.la y hy i g2
theorem mh0{a b:Array ao}:MH LT a b #[] a.size b.size:=⟨by
 rw[List.drop_eq_nil_of_le (by simp),List.drop_eq_nil_of_le (by simp)];simp,by simp[Srt],by simp,by simp⟩
end
section
variable{prog:aB}{w:az}{A:aD}{E:ae->af->Prop}{s:af}{κ:SortKind}{D:ao->Prop}{LT:ao->ao->Bool}
theorem mV(W:Wo LT){a:Array ao}(S:Srt LT a.toList){left:Bool}{key:ao}{n:Nat}(hn:n<=a.size):∀i j,i<=j->j<n->bey LT left key (at' a j)=true->bey LT left key (at' a i)=true:=by
 intro i j h1 h2 h3;have:=kD W S (left:=left) (key:=key) (base:=0) (n:=n) (by lia) i j h1 h2;rw[Nat.zero_add,Nat.zero_add]at this;exact this h3
theorem Dz(C:Cmp prog w A s κ D LT){a b:Array ao}{st:aH}{Q:Array ao->aH->Prop}(hk:kindOf st=κ)(Da:∀i,i<a.size->D (at' a i))(Db:∀i,i<b.size->D (at' b i))(Sa:Srt LT a.toList)(Sb:Srt LT b.toList)
  (ha:0<a.size) (hb:0<b.size) (h0:LT (at' b 0) (at' a 0)=true) (hl:∀j,j<b.size->LT (at' b j) (at' a (a.size-1))=true) (h:∀r g,Mg LT a b r->Q r (setG st g)):wpS (ar prog w) A E s (si a b) Q st:=by
 have W:=C.wo;have fst:∀j,j<a.size->LT (at' b 0) (at' a j)=true:=λj hj=>W.lt_le h0 (dg W Sa (bz j) hj)
 unfold si;refine au (wpS_lift (wpAny_rule ⟨rfl,?_⟩));refine au (qO (qm (show a.size-1<a.size by lia)) ?_);have M1:MH LT a b #[at' a (a.size-1)] (a.size-1) b.size:=by
  have M0:MH LT a b #[] (a.size-1+1) b.size:=by rw[show a.size-1+1=a.size by lia];exact mh0
  exact M0.pushA W Sa Sb (by lia) (aF _) λ_=>hl _ (by lia)
 dsimp only;refine wpI (λe1=>?_) λe1=>?_
 ·exact av (h _ (gallopOf st) (M1.done W Sa Sb (.inl (by simpa using e1))))
 refine wpI (λe2=>?_) λe2=>?_
 ·exact av (h _ (gallopOf st) (M1.first W Sa Sb (by simpa using e2) fst))
 have Hq:a.size-1≠0:=by simpa using e1
 have Ih:b.size≠1:=by simpa using e2
 refine au (wpS_get ?_);refine au (wpS_mono (Q:=λc st'=>∃r g,c.1=some r/\Mg LT a b r/\st'=setG st g) ?_ ?_)
 ·refine wpS_forRange (λi c st'=>∃g,st'=setG st g/\c.1=none/\MH LT a b c.2.2.2.1 c.2.1 c.2.2.1/\(1<=c.2.1/\c.2.1<a.size)/\(2<=c.2.2.1/\c.2.2.1<=b.size)/\c.2.1+c.2.2.1+i<=a.size+b.size) ?_ ?_ ⟨gallopOf st,rfl,rfl,M1,by show 1<=a.size-1/\a.size-1<a.size;lia,by show 2<=b.size/\b.size<=b.size;lia,by show a.size-1+b.size+0<=_;lia⟩
  ·refine λi=>pr5 λc0 na nb out mg st' _ hi x=>exE (λg y=>stE y.1 ?_) x
   clear x;have M:=y.2.2.1;have h1:=y.2.2.2.1;have h2:=y.2.2.2.2.1;have h3:=y.2.2.2.2.2;clear y;dsimp only at M h1 h2 h3 ⊢;refine au (wpS_mono (Q:=λc st'=>st'=setG st g/\((∃r,c.1=some r/\Mg LT a b r)\/(c.1=none/\MH LT a b c.2.2.2.1 c.2.1 c.2.2.1/\(1<=c.2.1/\c.2.1<a.size)/\(2<=c.2.2.1/\c.2.2.1<=b.size)/\c.2.1+c.2.2.1+1<=na+nb))) ?_ ?_)
   ·refine wpS_forRange (λj c st'=>st'=setG st g/\c.1=none/\MH LT a b c.2.2.2.1 c.2.1 c.2.2.1/\(1<=c.2.1/\c.2.1<a.size)/\(2<=c.2.2.1/\c.2.2.1<=b.size)/\c.2.1+c.2.2.1+j<=na+nb) ?_ ?_ ⟨rfl,rfl,M,h1,h2,aF _⟩
    ·clear M;refine λj=>pr6 λc0 F3 Gx out ac bc st' _ hj y=>stE y.1 ?_
     have M:=y.2.2.1;have g1:=y.2.2.2.1;have g2:=y.2.2.2.2.1;have g3:=y.2.2.2.2.2;clear y;dsimp only at M g1 g2 g3 ⊢;refine au (qO (qm (show Gx-1<b.size by lia)) ?_);refine au (qO (qm (show F3-1<a.size by lia)) ?_);refine au (jl C (Db _ (by lia)) (Da _ (by lia)) hk ?_);obtain⟨Ga,rfl⟩:∃n,F3=n+1:=⟨F3-1,by lia⟩
     obtain⟨Fi,rfl⟩:∃n,Gx=n+1:=⟨Gx-1,by lia⟩
     simp only[Nat.add_sub_cancel];refine wpI (λq=>?_) λq=>?_
     ·refine au (qO (qm (show Ga<a.size by lia)) ?_);have M2:=M.pushA W Sa Sb (by lia) (by lia) λ_=>q
      refine wpI (λe3=>?_) λe3=>?_
      ·exact av ⟨rfl,.inl ⟨_,rfl,M2.done W Sa Sb (.inl (by simpa using e3))⟩⟩
      have Ii:Ga≠0:=by simpa using e3
      refine wpI (λe4=>?_) λe4=>?_
      ·exact av ⟨rfl,.inr ⟨rfl,M2,by show 1<=Ga/\Ga<a.size;lia,g2,by show Ga+(Fi+1)+1<=na+nb;lia⟩⟩
      ·exact av ⟨rfl,rfl,M2,by show 1<=Ga/\Ga<a.size;lia,g2,by show Ga+(Fi+1)+(j+1)<=na+nb;lia⟩
     ·have q:=eq_false_of_ne_true q;refine au (qO (qm (show Fi<b.size by lia)) ?_);have M2:=M.pushB W Sa Sb (by lia) (by lia) λ_=>q
      refine wpI (λe3=>?_) λe3=>?_
      ·exact av ⟨rfl,.inl ⟨_,rfl,M2.first W Sa Sb (by simpa using e3) fst⟩⟩
      have Ii:Fi≠1:=by simpa using e3
      refine wpI (λe4=>?_) λe4=>?_
      ·exact av ⟨rfl,.inr ⟨rfl,M2,g1,by show 2<=Fi/\Fi<=b.size;lia,by show Ga+1+Fi+1<=na+nb;lia⟩⟩
      ·exact av ⟨rfl,rfl,M2,g1,by show 2<=Fi/\Fi<=b.size;lia,by show Ga+1+Fi+(j+1)<=na+nb;lia⟩
    ·clear M;rintro⟨c0,F3,Gx,out,ac,bc⟩ st' ⟨rfl,rfl,M,g1,g2,g3⟩;dsimp only at M g1 g2 g3;exact absurd g3 (by lia)
   ·refine pr6 λc0 F3 Gx out ac bc st' y=>stE y.1 ?_
    have hc:=y.2;clear y;dsimp only at hc ⊢;rcases hc with ⟨r,rfl,hm⟩|⟨rfl,M,g1,g2,g3⟩
    ·exact av ⟨r,g,rfl,hm,rfl⟩
    dsimp only;refine au (wpS_lift (wpAny_rule ⟨rfl,?_⟩));refine au (wpS_mono (Q:=λc st'=>∃g,st'=setG st g/\((∃r,c.1=some r/\Mg LT a b r)\/(c.1=none/\MH LT a b c.2.2.2.1 c.2.1 c.2.2.1/\(1<=c.2.1/\c.2.1<a.size)/\(2<=c.2.2.1/\c.2.2.1<=b.size)/\c.2.1+c.2.2.1+1<=na+nb))) ?_ ?_)
    ·refine wpS_forRange (λj c st'=>∃g,st'=setG st g/\c.1=none/\MH LT a b c.2.2.2.1 c.2.1 c.2.2.1/\(1<=c.2.1/\c.2.1<a.size)/\(2<=c.2.2.1/\c.2.2.1<=b.size)/\c.2.1+c.2.2.1+1+j<=na+nb) ?_ ?_ ⟨g,rfl,rfl,M,g1,g2,g3⟩
     ·clear M g1 g2 g3;refine λj=>pr7 λc0 F3 Gx out FF ac bc st' _ hj x=>exE (λg y=>stE y.1 ?_) x
      clear x;have M:=y.2.2.1;have g1:=y.2.2.2.1;have g2:=y.2.2.2.2.1;have g3:=y.2.2.2.2.2;clear y;dsimp only at M g1 g2 g3 ⊢;obtain⟨Fi,rfl⟩:∃n,Gx=n+1:=⟨Gx-1,by lia⟩
      revert FF;refine share1 (λH FF=>?_) ?_
      ·by_cases e0:¬ FF>1
       ·rw[if_neg e0];exact H FF
       ·rw[if_pos (Decidable.not_not.mp e0)];exact H (FF-1)
      intro LJ;refine au (wpS_modify ?_);refine au (qO (qm (show Fi+1-1<b.size by lia)) ?_);refine au (h8 C hk (Db _ (by lia)) (λi=>at' a i) (λi hi=>⟨by rw[Nat.zero_add];exact qm (by lia),Da _ (by lia)⟩) (by lia) (mV W Sa (by lia)) λk l1 l2 l3=>?_);simp only[Nat.add_sub_cancel]at l2 l3;dsimp only;have t2:∀i,i<k->LT (at' b Fi) (at' a i)=false:=λi g1=>by
       have this:(!LT (at' b Fi) (at' a i))=true:=l2 i g1
       simpa using this
      have t3:∀i,k<=i->i<F3->LT (at' b Fi) (at' a i)=true:=λi z1 z2=>by
       have this:(!LT (at' b Fi) (at' a i))=false:=l3 i z1 z2
       simpa using this
      generalize Nm:F3-k=ac2;generalize hu:out=u;generalize hv:F3=v;revert u v;refine jW (λFQ IP=>MH LT a b FQ IP (Fi+1)/\1<=IP/\IP<=F3/\LT (at' b Fi) (at' a (IP-1))=false) (λH u hu v hv=>?_) ?_
      ·subst hu;subst hv;by_cases e4:¬ ac2>0
       ·rw[if_neg e4];exact H out F3 ⟨M,by lia,aF _,t2 _ (by lia)⟩
       ·rw[if_pos (Decidable.not_not.mp e4)];have M2:=M.takeA W Sa (by lia) k (by lia) λi g1 g2 j' g3=>W.neg _ _ _ (dg W Sb (show j'<=Fi by lia) (by lia)) (W.asym _ _ (t3 i g1 g2))
        refine wpI (λe3=>?_) λe3=>?_
        ·exact av ⟨_,rfl,.inl ⟨_,rfl,M2.done W Sa Sb (.inl (by simpa using e3))⟩⟩
        have Ii:k≠0:=by simpa using e3
        exact H _ _ ⟨M2,by lia,by lia,t2 _ (by lia)⟩
      rintro Hr Ga ⟨M2,Nn,Ky,q2⟩;obtain⟨Gb,rfl⟩:∃n,Ga=n+1:=⟨Ga-1,by lia⟩
      try dsimp only
      simp only[Nat.add_sub_cancel];refine au (qO (qm (show Fi<b.size by lia)) ?_);have M3:=M2.pushB W Sa Sb (by lia) (by lia) λ_=>q2
      refine wpI (λe5=>?_) λe5=>?_
      ·exact av ⟨_,rfl,.inl ⟨_,rfl,M3.first W Sa Sb (by simpa using e5) fst⟩⟩
      have KJ:Fi≠1:=by simpa using e5
      refine au (qO (qm (show Gb<a.size by lia)) ?_);generalize Hr.push (at' b Fi)=out5 at M3 ⊢;refine au (h8 C hk (Da _ (by lia)) (λi=>at' b i) (λi hi=>⟨by rw[Nat.zero_add];exact qm (by lia),Db _ (by lia)⟩) (by lia) (mV W Sb (by lia)) λk' KP IQ l3'=>?_);dsimp only;generalize Np:Fi-k'=bc2;generalize hu:out5=u;generalize hv:Fi=v;revert u v;refine jW (λFQ IS=>MH LT a b FQ (Gb+1) IS/\2<=IS/\IS<=Fi/\LT (at' b (IS-1)) (at' a Gb)=true) (λH u hu v hv=>?_) ?_
      ·subst hu;subst hv;by_cases e6:¬ bc2>0
       ·rw[if_neg e6];exact H out5 Fi ⟨M3,by lia,aF _,IQ (Fi-1) (by lia)⟩
       ·rw[if_pos (Decidable.not_not.mp e6)];have M4:=M3.takeB W Sb (by lia) k' (by lia) λi g1 g2 j' g3=>by
         have z:LT (at' b i) (at' a Gb)=false:=l3' i g1 g2;exact W.neg _ _ _ (dg W Sa (show j'<=Gb by lia) (by lia)) z
        refine wpI (λe8=>?_) λe8=>?_
        ·exact av ⟨_,rfl,.inl ⟨_,rfl,M4.first W Sa Sb (by simpa using e8) fst⟩⟩
        have LL:k'≠1:=by simpa using e8
        refine wpI (λe9=>?_) λe9=>?_
        ·exact av ⟨_,rfl,.inl ⟨_,rfl,M4.done W Sa Sb (.inr (by simpa using e9))⟩⟩
        have LK:k'≠0:=by simpa using e9
        exact H _ _ ⟨M4,by lia,by lia,IQ (k'-1) (by lia)⟩
      rintro JW nb4 ⟨M4,Nq,Nr,q5⟩
      try dsimp only
      refine au (qO (qm (show Gb<a.size by lia)) ?_);have M5:=M4.pushA W Sa Sb (by lia) (by lia) λ_=>q5
      refine wpI (λe7=>?_) λe7=>?_
      ·exact av ⟨_,rfl,.inl ⟨_,rfl,M5.done W Sa Sb (.inl (by simpa using e7))⟩⟩
      have LO:Gb≠0:=by simpa using e7
      split
      ·exact av ⟨_,rfl,.inr ⟨rfl,M5,by show 1<=Gb/\Gb<a.size;lia,by show 2<=nb4/\nb4<=b.size;lia,by show Gb+nb4+1<=na+nb;lia⟩⟩
      ·exact av ⟨_,rfl,rfl,M5,by show 1<=Gb/\Gb<a.size;lia,by show 2<=nb4/\nb4<=b.size;lia,by show Gb+nb4+1+(j+1)<=na+nb;lia⟩
     ·clear M g1 g2 g3;rintro⟨c0,F3,Gx,out,FF,ac,bc⟩ st' ⟨g,rfl,rfl,M,g1,g2,g3⟩;dsimp only at M g1 g2 g3;exact absurd g3 (by lia)
    ·refine pr7 λc0 F3 Gx out FF ac bc st' x=>exE (λg y=>stE y.1 ?_) x
     clear x;have hc:=y.2;clear y;dsimp only at hc ⊢;rcases hc with ⟨r,rfl,hm⟩|⟨rfl,M,g1,g2,g3⟩
     ·exact av ⟨r,g,rfl,hm,rfl⟩
     dsimp only;refine au (wpS_modify ?_);exact av ⟨FF+1,rfl,rfl,M,g1,g2,by show F3+Gx+(i+1)<=a.size+b.size;lia⟩
  ·rintro⟨c0,na,nb,out,mg⟩ st' ⟨g,rfl,rfl,M,h1,h2,h3⟩;dsimp only at M h1 h2 h3;exact absurd h3 (by lia)
 ·rintro⟨c0,na,nb,out,mg⟩ st' ⟨r,g,hr,hm,rfl⟩;dsimp only at hr ⊢;subst hr;exact av (h r g hm)
end
structure Rk(D:ao->Prop)(LT:ao->ao->Bool)(R:ao->Int):Prop where
 rk:∀x y,D x->D y->LT x y=decide (R x<R y)
structure SB(κ:SortKind)(p:Array (Nat×Nat×Nat))(a₁:Array ao)(lo:Nat)(st:aH):Prop where
 kd:kindOf st=κ
 fl:failedOf st=none
 pn:aZ st=p
 pm:(ag st).Perm a₁
 lw:∀i,i<lo->at' (ag st) i=at' a₁ i
noncomputable def Kr(R:ao->Int)(xs:Array ao)(i:Nat):Int:=R (at' xs i)
def Seg(R:ao->Int)(xs:Array ao)(lo n:Nat):Prop:=∀i j,i<=j->j<n->Kr R xs (lo+i)<=Kr R xs (lo+j)
def Dsc(R:ao->Int)(xs:Array ao)(lo n:Nat):Prop:=∀i j,i<=j->j<n->Kr R xs (lo+j)<=Kr R xs (lo+i)
theorem ij{xs ys:Array ao}{i j:Nat}(h:xs[i]? = ys[j]?):at' xs i=at' ys j:=by
 unfold at';rw[Array.getD_eq_getD_getElem?,Array.getD_eq_getD_getElem?,h]
theorem sM{xs:Array ao}{src d:Nat}(hs:src<xs.size)(hd:d<=src)(k:Nat) :
  at' (bubble xs src d) k=if k=src-d then at' xs src else if src-d<k/\k<=src then at' xs (k-1)else at' xs k:=by
 have e:=getElem?_bubble hs d hd k;by_cases h1:k=src-d
 ·rw[if_pos h1]at e ⊢;exact ij e
 ·rw[if_neg h1]at e ⊢;by_cases h2:src-d<k/\k<=src
  ·rw[if_pos h2]at e ⊢;exact ij e
  ·rw[if_neg h2]at e ⊢;exact ij e
theorem r9{xs:Array ao}{i j:Nat}(hj:j<=xs.size)(k:Nat) :
  at' (aU xs i j ((j-i)/2)) k=if i<=k/\k<j then at' xs (i+j-1-k)else at' xs k:=by
 have e:=getElem?_mirror_all (i:=i) hj k;by_cases h1:i<=k/\k<j
 ·rw[if_pos h1]at e ⊢;exact ij e
 ·rw[if_neg h1]at e ⊢;exact ij e
section
variable{prog:aB}{w:az}{A:aD}{E:ae->af->Prop}{s:af}{κ:SortKind}{D:ao->Prop}{LT:ao->ao->Bool}{R:ao->Int}{p:Array (Nat×Nat×Nat)}{a₁:Array ao}{lo:Nat}
theorem pZ{xs:Array ao}{src d:Nat}(hs:src<xs.size)(hd:d<=src)(k:Nat) :
  Kr R (bubble xs src d) k=if k=src-d then Kr R xs src else if src-d<k/\k<=src then Kr R xs (k-1)else Kr R xs k:=by
 unfold Kr;rw[sM hs hd];repeat' split
 all_goals rfl
theorem mP{xs:Array ao}{i j:Nat}(hj:j<=xs.size)(k:Nat) :
  Kr R (aU xs i j ((j-i)/2)) k=if i<=k/\k<j then Kr R xs (i+j-1-k)else Kr R xs k:=by
 unfold Kr;rw[r9 hj];split
 all_goals rfl
theorem jM{xs:Array ao}{i j:Nat}(hj:j<=xs.size)(heq:∀k,i<=k->k<j->Kr R xs k=Kr R xs (j-1))(k:Nat) :
  Kr R (aU xs i j ((j-i)/2)) k=Kr R xs k:=by
 rw[mP hj];split
 ·rw[heq _ (by lia) (by lia),heq k (by lia) (by lia)]
 ·rfl
theorem SB.size{st:aH}(h:SB κ p a₁ lo st):(ag st).size=a₁.size:=h.pm.size_eq
theorem SB.dom{st:aH}(h:SB κ p a₁ lo st)(Da:∀x∈a₁.toList,D x){i:Nat}(hi:i<a₁.size):D (at' (ag st) i):=
 Da _ ((Array.perm_iff_toList_perm.mp h.pm).mem_iff.mp (j5 (by rw[h.size];exact hi)))
theorem SB.setArr{st:aH}(h:SB κ p a₁ lo st){xs:Array ao}(hp:xs.Perm (ag st))(hl:∀i,i<lo->at' xs i=at' (ag st) i):SB κ p a₁ lo (setArr st xs):=
 ⟨h.kd,h.fl,h.pn,hp.trans h.pm,λi hi=>(hl i hi).trans (h.lw i hi)⟩
theorem SB.mir{st:aH}(h:SB κ p a₁ lo st){i j:Nat}(hi:lo<=i)(hj:j<=a₁.size):SB κ p a₁ lo (PyProof.Rows.setArr st (aU (ag st) i j ((j-i)/2))):=
 h.setArr (mirror_perm _ _ _ _) λk hk=>by
  rw[r9 (by rw[h.size];exact hj),if_neg (by lia)]
theorem eK{st:aH}{i j:Nat}{Q:Option Bool->aH->Prop}(C:Cmp prog w A s κ D LT)(K:Rk D LT R)(Da:∀x∈a₁.toList,D x)(hB:SB κ p a₁ lo st)(hi:i<a₁.size)(hj:j<a₁.size)
  (h:Q (some (decide (Kr R (ag st) i<Kr R (ag st) j))) st):wpS (ar prog w) A E s (ltAt' i j) Q st:=by
 rw[ltAt'_eq];refine au (wpS_get ?_);refine au (qO (qm (by rw[hB.size];exact hi)) ?_);refine au (qO (qm (by rw[hB.size];exact hj)) ?_);refine jl C (hB.dom Da hi) (hB.dom Da hj) hB.kd ?_;rw[K.rk _ _ (hB.dom Da hi) (hB.dom Da hj)];exact h
structure Hf(R:ao->Int)(xs:Array ao)(lo k x l r:Nat):Prop where
 lr:l<=r
 rk:r<=k
 fu:r-l+x<=k
 low:∀i,lo<=i->i<lo+l->Kr R xs i<=Kr R xs (lo+k)
 upp:∀i,lo+r<=i->i<lo+k->Kr R xs (lo+k)<Kr R xs i
theorem Seg.at{xs:Array ao}{n:Nat}(S:Seg R xs lo n){i j:Nat}(a:lo<=i)(b:i<=j)(c:j<lo+n):Kr R xs i<=Kr R xs j:=by
 have z:=S (i-lo) (j-lo) (by lia) (by lia)
 rwa[Nat.add_sub_cancel' a,Nat.add_sub_cancel' (a8 a b)]at z
theorem Hf.go{xs:Array ao}{k x l r:Nat}(h:Hf R xs lo k x l r)(S:Seg R xs lo k)(hl:l<r) :
  (Kr R xs (lo+k)<Kr R xs (lo+(l+r)/2)->Hf R xs lo k (x+1) l ((l+r)/2))/\(¬ Kr R xs (lo+k)<Kr R xs (lo+(l+r)/2)->Hf R xs lo k (x+1) ((l+r)/2+1) r):=by
 have:=h.rk;have:=h.fu;refine⟨λz=>⟨by lia,by lia,by lia,h.low,λi a b=>Int.lt_of_lt_of_le z (S.at (by lia) a (by lia))⟩,λz=>⟨by lia,h.rk,by lia,λi a b=>?_,h.upp⟩⟩;have:=S.at (i:=i) (j:=lo+(l+r)/2) a (by lia) (by lia);lia
theorem Hf.put{xs:Array ao}{k x l:Nat}(h:Hf R xs lo k x l l)(hk:lo+k<xs.size)(S:Seg R xs lo k) :
  Seg R (bubble xs (lo+k) (lo+k-(lo+l))) lo (k+1)/\∀i,i<lo->at' (bubble xs (lo+k) (lo+k-(lo+l))) i=at' xs i:=by
 have:=h.rk;have e:lo+k-(lo+k-(lo+l))=lo+l:=by lia
 refine⟨λi j E1 hj=>?_,λi hi=>by rw[sM hk (by lia),if_neg (by lia),if_neg (by lia)]⟩;rw[pZ hk (by lia),pZ hk (by lia),e];by_cases ai:lo+i=lo+l<;>by_cases aj:lo+j=lo+l<;>by_cases bi:lo+l<lo+i/\lo+i<=lo+k<;>by_cases bj:lo+l<lo+j/\lo+j<=lo+k<;>simp only[ai,aj,bi,bj,if_true,if_false,and_self]<;>first
  | (exfalso;lia)
  |lia
  |exact h.low _ (by lia) (by lia)
  |exact Int.le_of_lt (h.upp _ (by lia) (by lia))
  |exact S.at (by lia) (by lia) (by lia)
theorem vJ(C:Cmp prog w A s κ D LT)(K:Rk D LT R)(Da:∀x∈a₁.toList,D x){st:aH}{n ok:Nat}{Q:Bool->aH->Prop}(hn:lo+n<=a₁.size)(hok:ok<=n)(hB:SB κ p a₁ lo st)(hs:Seg R (ag st) lo ok)
  (h:∀st',SB κ p a₁ lo st'->Seg R (ag st') lo n->Q true st'):wpS (ar prog w) A E s (binarySort' lo n ok) Q st:=by
 rw[binarySort'_eq];have JX:Seg R (ag st) lo (min (max ok 1) n):=λi j a b=>by
  by_cases z:ok=0
  ·rw[show i=j by lia];exact Int.le_refl _
  ·exact hs i j a (by lia)
 refine au (wpS_mono (wpS_forRange (λk c t=>c=(none,())/\SB κ p a₁ lo t/\Seg R (ag t) lo (min k n)) (Q:=λc t=>c=(none,())/\SB κ p a₁ lo t/\Seg R (ag t) lo n) ?_ ?_ ⟨rfl,hB,JX⟩) λc t ⟨e,b,z⟩=>by rw[e];exact av (h t b z))
 ·rintro k c t k1 k2 ⟨rfl,B,S⟩;rw[Nat.min_eq_left (Nat.le_of_lt k2)]at S;have kz:lo+k<a₁.size:=by lia
  have LP:lo+k<(ag t).size:=by rw[B.size];exact kz
  refine au (wpS_mono (wpS_forRange (λx c u=>u=t/\∃l r,c=(none,l,r)/\Hf R (ag t) lo k x l r) (Q:=λc u=>u=t/\∃x l,c=(none,l,l)/\Hf R (ag t) lo k x l l) ?_ ?_ ⟨rfl,0,k,rfl,bz _,aF _,by lia,λi a b=>by lia,λi a b=>by lia⟩) ?_)
  ·rintro x c u _ x2 ⟨rfl,l,r,rfl,f⟩;dsimp only;have:=f.lr;by_cases z:l >= r
   ·rw[if_pos z];obtain rfl:l=r:=by lia
    exact av ⟨rfl,x,l,rfl,f⟩
   rw[if_neg z];have:=f.rk;refine au (eK C K Da B kz (by lia) ?_);obtain⟨g1,g2⟩:=f.go S (by lia);cases q:decide (Kr R (ag u) (lo+k)<Kr R (ag u) (lo+(l+r)/2))with
   |true=>exact av ⟨rfl,_,_,rfl,g1 (of_decide_eq_true q)⟩
   |false=>exact av ⟨rfl,_,_,rfl,g2 (of_decide_eq_false q)⟩
  ·rintro c u ⟨rfl,l,r,rfl,f⟩;have:=f.lr;have:=f.fu;obtain rfl:l=r:=by lia
   exact⟨rfl,_,l,rfl,f⟩
  ·rintro c u ⟨rfl,x,l,rfl,f⟩;obtain⟨g1,g2⟩:=f.put LP S;dsimp only;rw[moveDown'_eq];refine au (wpS_modify (av ⟨rfl,B.setArr (bubble_perm _ _ _) g2,?_⟩));rw[Nat.min_eq_left k2];exact g1
 ·rintro c t ⟨e,b,z⟩;rw[show min (max (max ok 1) n) n=n by lia]at z;exact⟨e,b,z⟩
end
section
variable{prog:aB}{w:az}{A:aD}{E:ae->af->Prop}{s:af}{κ:SortKind}{D:ao->Prop}{LT:ao->ao->Bool}{R:ao->Int}{p:Array (Nat×Nat×Nat)}{a₁:Array ao}{lo:Nat}{xs:Array ao}
theorem Seg.one:Seg R xs lo 1:=λi j a b=>by rw[show i=j by lia];exact Int.le_refl _
theorem Seg.more{n:Nat}(S:Seg R xs lo n)(z:1<=n->Kr R xs (lo+n-1)<=Kr R xs (lo+n)):Seg R xs lo (n+1):=λi j a b=>by
 by_cases c:j=n
 ·subst c;by_cases d:i=j
  ·rw[d];exact Int.le_refl _
  ·have y:=S i (j-1) (by lia) (by lia);rw[show lo+(j-1)=lo+j-1 by lia]at y;exact Int.le_trans y (z (by lia))
 ·exact S i j a (by lia)
theorem Dsc.one:Dsc R xs lo 1:=λi j a b=>by rw[show i=j by lia];exact Int.le_refl _
theorem Dsc.more{n:Nat}(S:Dsc R xs lo n)(z:1<=n->Kr R xs (lo+n)<=Kr R xs (lo+n-1)):Dsc R xs lo (n+1):=λi j a b=>by
 by_cases c:j=n
 ·subst c;by_cases d:i=j
  ·rw[d];exact Int.le_refl _
  ·have y:=S i (j-1) (by lia) (by lia);rw[show lo+(j-1)=lo+j-1 by lia]at y;exact Int.le_trans (z (by lia)) y
 ·exact S i j a (by lia)
theorem Dsc.alike{ys:Array ao}{n:Nat}(S:Dsc R xs lo n)(e:∀k,Kr R ys k=Kr R xs k):Dsc R ys lo n:=λi j a b=>by rw[e,e];exact S i j a b
theorem iS{st:aH}{a nrem:Nat}{β:Type}{mk:Nat->β}{Q:β->aH->Prop}(hn:lo+nrem<=a₁.size)(ha:1<=a)(KQ:a<=nrem)(S0:Seg R (ag st) lo a)
  {body:Nat->β->StateT aH Sem (ForInStep β)}
  (hb:∀x n (Q':ForInStep β->aH->Prop),lo+n<a₁.size->1<=n->(Kr R (ag st) (lo+n)<Kr R (ag st) (lo+n-1)->Q' (.done (mk n)) st)->(¬ Kr R (ag st) (lo+n)<Kr R (ag st) (lo+n-1)->Q' (.yield (mk (n+1))) st)->wpS (ar prog w) A E s (body x (mk n)) Q' st)
  (h:∀n,a<=n->n<=nrem->Seg R (ag st) lo n->(n≠nrem->Kr R (ag st) (lo+n)<Kr R (ag st) (lo+n-1))->Q (mk n) st) :
  wpS (ar prog w) A E s (forIn [a:nrem] (mk a) body) Q st:=
 wpS_forRange (λx c t=>t=st/\c=mk x/\Seg R (ag st) lo x) (λx c t x1 x2 ⟨e1,e2,S⟩=>by
   subst e1 e2;exact hb x x _ (by lia) (by lia) (λz=>h x x1 (by lia) S λ_=>z) λz=>⟨rfl,rfl,S.more λ_=>by lia⟩)
  (λc t ⟨e1,e2,S⟩=>by
   subst e1 e2;rw[Nat.max_eq_right KQ]at S ⊢;exact h nrem KQ (aF _) S λz=>absurd rfl z) ⟨rfl,rfl,S0⟩
theorem Dsc.turn{n:Nat}(S:Dsc R xs lo n)(hz:lo+n<=xs.size):Seg R (aU xs lo (lo+n) ((lo+n-lo)/2)) lo n:=λi j a b=>by
 have y:=S (n-1-j) (n-1-i) (by lia) (by lia);rw[show lo+(n-1-j)=lo+(lo+n)-1-(lo+j)by lia,show lo+(n-1-i)=lo+(lo+n)-1-(lo+i)by lia]at y
 rwa[mP hz,mP hz,if_pos ⟨by lia,by lia⟩,if_pos ⟨by lia,by lia⟩]
def Flat(R:ao->Int)(xs:Array ao)(lo m EY:Nat):Prop:=∀i,lo+m-(EY+1)<=i->i<lo+m->Kr R xs i=Kr R xs (lo+m-1)
theorem Flat.zero{m:Nat}:Flat R xs lo m 0:=λi a b=>by rw[show i=lo+m-1 by lia]
theorem Flat.more{m EY:Nat}(f:Flat R xs lo m EY)(z:Kr R xs (lo+m)=Kr R xs (lo+m-1)):Flat R xs lo (m+1) (EY+1):=λi a b=>by
 rw[show lo+(m+1)-1=lo+m by lia];by_cases c:i=lo+m
 ·rw[c]
 ·rw[z];exact f i (by lia) (by lia)
theorem nt{st:aH}{n nrem:Nat}{β:Type}{mk:Nat->Nat->β}{Q:β->aH->Prop}(hn:lo+nrem<=a₁.size)(h1:1<=n)(KR:n<=nrem)(B0:SB κ p a₁ lo st)(S0:Dsc R (ag st) lo n)
  {body:Nat->β->StateT aH Sem (ForInStep β)}
  (hb:∀x n EY t (Q':ForInStep β->aH->Prop),SB κ p a₁ lo t->lo+n<a₁.size->1<=n ->
   (Kr R (ag t) (lo+n)<Kr R (ag t) (lo+n-1)->EY>0->Q' (.yield (mk (n+1) 0)) (setArr t (aU (ag t) (lo+n-(EY+1)) (lo+n) ((lo+n-(lo+n-(EY+1)))/2)))) ->
   (Kr R (ag t) (lo+n)<Kr R (ag t) (lo+n-1)->¬ EY>0->Q' (.yield (mk (n+1) 0)) t) ->
   (Kr R (ag t) (lo+n-1)<Kr R (ag t) (lo+n)->Q' (.done (mk n EY)) t) ->
   (Kr R (ag t) (lo+n)=Kr R (ag t) (lo+n-1)->Q' (.yield (mk (n+1) (EY+1))) t) ->
   wpS (ar prog w) A E s (body x (mk n EY)) Q' t)
  (h:∀m EY t,SB κ p a₁ lo t->n<=m->m<=nrem->Dsc R (ag t) lo m->EY+1<=m->Flat R (ag t) lo m EY->Q (mk m EY) t) :
  wpS (ar prog w) A E s (forIn [n:nrem] (mk n 0) body) Q st:=
 wpS_forRange (λx c t=>∃EY,c=mk x EY/\SB κ p a₁ lo t/\Dsc R (ag t) lo x/\EY+1<=x/\Flat R (ag t) lo x EY) (λx c t x1 x2 ⟨EY,e,B,S,q,f⟩=>by
   subst e;have hz:lo+x<=(ag t).size:=by rw[B.size];lia
   refine hb x x EY t _ B (by lia) (by lia) (λz _=>?_) (λz _=>?_) (λ_=>h x EY t B x1 (by lia) S q f) λz=>⟨EY+1,rfl,B,S.more λ_=>Int.le_of_eq z,by lia,f.more z⟩
   ·exact⟨0,rfl,B.mir (by lia) (by lia),(S.more λ_=>Int.le_of_lt z).alike (jM hz f),by lia,Flat.zero⟩
   ·exact⟨0,rfl,B,S.more λ_=>Int.le_of_lt z,by lia,Flat.zero⟩)
  (λc t ⟨EY,e,B,S,q,f⟩=>by
   subst e;rw[Nat.max_eq_right KR]at S q f ⊢;exact h nrem EY t B KR (aF _) S q f) ⟨0,rfl,B0,S0,by lia,Flat.zero⟩
theorem BU(C:Cmp prog w A s κ D LT)(K:Rk D LT R)(Da:∀x∈a₁.toList,D x){st:aH}{nrem:Nat}{Q:Option Nat->aH->Prop}(hn:lo+nrem<=a₁.size)(h1:1<=nrem)(hB:SB κ p a₁ lo st)
  (h:∀m st',SB κ p a₁ lo st'->1<=m->m<=nrem->Seg R (ag st') lo m->Q (some m) st') :
  wpS (ar prog w) A E s (countRun' lo nrem) Q st:=by
 rw[countRun'_eq];refine au (iS (R:=R) (mk:=λn=>(none,n)) hn (aF 1) h1 Seg.one ?_ ?_)
 ·intro x n Q' hl n1 q1 q2;dsimp only;refine au (eK C K Da (hB) hl (by lia) ?_);cases z:decide (Kr R (ag st) (lo+n)<Kr R (ag st) (lo+n-1))with
  |true=>exact av (q1 (of_decide_eq_true z))
  |false=>exact av (q2 (of_decide_eq_false z))
 intro n n1 n2 S z;dsimp only;by_cases e:(n==nrem)=true
 ·rw[if_pos e];exact av (h n st hB n1 n2 S)
 rw[if_neg e];have e':n≠nrem:=by simpa using e
 have lt:=z e';have hz:lo+n<=(ag st).size:=by rw[hB.size];lia
 by_cases g:n>1
 ·rw[if_pos g];refine au (eK C K Da hB (by lia) (by lia) ?_);cases y:decide (Kr R (ag st) lo<Kr R (ag st) (lo+n-1))with
  |true=>exact av (h n st hB n1 n2 S)
  |false=>
   have y':=of_decide_eq_false y;have f:∀k,lo<=k->k<lo+n->Kr R (ag st) k=Kr R (ag st) (lo+n-1):=λk a b=>by
    have b1:=S.at (i:=lo) (j:=k) (aF _) a b;have b2:=S.at (i:=k) (j:=lo+n-1) a (by lia) (by lia);lia
   dsimp only;rw[if_neg bX];refine au (wpS_reverse ?_);have dB:SB κ p a₁ lo (setArr st (aU (ag st) lo (lo+n) ((lo+n-lo)/2))):=hB.mir (aF _) (by lia);have dS:Dsc R (ag (setArr st (aU (ag st) lo (lo+n) ((lo+n-lo)/2)))) lo (n+1):=Dsc.alike (xs:=ag st) (Dsc.more (λi j a b=>by rw[f (lo+i) (by lia) (by lia),f (lo+j) (by lia) (by lia)];exact Int.le_refl _) λ_=>Int.le_of_lt lt) (jM hz f);refine au (wpS_lift (wpAny_rule ⟨rfl,?_⟩));refine au (nt (mk:=λn q=>(none,n,q)) hn (by lia) (by lia) (dB) dS ?_ ?_)
   ·intro x n EY t Q' tB hl n1 q1 q2 q3 q4;dsimp only;refine au (eK C K Da tB hl (by lia) ?_);cases z:decide (Kr R (ag t) (lo+n)<Kr R (ag t) (lo+n-1))with
    |true=>
     by_cases y:EY>0
     ·dsimp only;rw[if_pos rfl,if_pos y];exact au (wpS_reverse (av (q1 (of_decide_eq_true z) y)))
     ·dsimp only;rw[if_pos rfl,if_neg y];exact av (q2 (of_decide_eq_true z) y)
    |false=>
     have z':=of_decide_eq_false z;refine au (eK C K Da tB (by lia) hl ?_);cases y:decide (Kr R (ag t) (lo+n-1)<Kr R (ag t) (lo+n))with
     |true=>exact av (q3 (of_decide_eq_true y))
     |false=>
      have y':=of_decide_eq_false y;exact av (q4 (by lia))
   ·intro m EY t tB m1 m2 tS nm f;have hz:lo+m<=(ag t).size:=by rw[tB.size];lia
    dsimp only;by_cases y:EY>0
    ·rw[if_pos y];refine au (wpS_reverse ?_);have MB:SB κ p a₁ lo (setArr t (aU (ag t) (lo+m-(EY+1)) (lo+m) ((lo+m-(lo+m-(EY+1)))/2))):=tB.mir (by lia) (by lia);have MS:Dsc R (ag (setArr t (aU (ag t) (lo+m-(EY+1)) (lo+m) ((lo+m-(lo+m-(EY+1)))/2)))) lo m:=tS.alike (jM hz f);refine au (wpS_reverse ?_);have TB:SB κ p a₁ lo (setArr (setArr t (aU (ag t) (lo+m-(EY+1)) (lo+m) ((lo+m-(lo+m-(EY+1)))/2))) (aU (ag (setArr t (aU (ag t) (lo+m-(EY+1)) (lo+m) ((lo+m-(lo+m-(EY+1)))/2)))) lo (lo+m) ((lo+m-lo)/2))):=(MB).mir (aF _) (by lia);refine au (iS (R:=R) (mk:=λn=>(none,n)) hn (by lia) m2 (Dsc.turn (MS) (by show lo+m<=(ag (setArr t (aU (ag t) (lo+m-(EY+1)) (lo+m) ((lo+m-(lo+m-(EY+1)))/2)))).size;rw[(MB).size];lia)) ?_ ?_)
     ·intro x n Q' hl n1 q1 q2;dsimp only;refine au (eK C K Da (TB) hl (by lia) ?_);cases z:decide (Kr R (ag (setArr (setArr t (aU (ag t) (lo+m-(EY+1)) (lo+m) ((lo+m-(lo+m-(EY+1)))/2))) (aU (ag (setArr t (aU (ag t) (lo+m-(EY+1)) (lo+m) ((lo+m-(lo+m-(EY+1)))/2)))) lo (lo+m) ((lo+m-lo)/2)))) (lo+n)<Kr R (ag (setArr (setArr t (aU (ag t) (lo+m-(EY+1)) (lo+m) ((lo+m-(lo+m-(EY+1)))/2))) (aU (ag (setArr t (aU (ag t) (lo+m-(EY+1)) (lo+m) ((lo+m-(lo+m-(EY+1)))/2)))) lo (lo+m) ((lo+m-lo)/2)))) (lo+n-1))with
      |true=>exact av (q1 (of_decide_eq_true z))
      |false=>exact av (q2 (of_decide_eq_false z))
     ·intro j j1 j2 j3 _;exact av (h j _ TB (by lia) j2 j3)
    ·rw[if_neg y];refine au (wpS_reverse ?_);have TB:SB κ p a₁ lo (setArr t (aU (ag t) lo (lo+m) ((lo+m-lo)/2))):=(tB).mir (aF _) (by lia);refine au (iS (R:=R) (mk:=λn=>(none,n)) hn (by lia) m2 (Dsc.turn (tS) (by show lo+m<=(ag t).size;rw[(tB).size];lia)) ?_ ?_)
     ·intro x n Q' hl n1 q1 q2;dsimp only;refine au (eK C K Da (TB) hl (by lia) ?_);cases z:decide (Kr R (ag (setArr t (aU (ag t) lo (lo+m) ((lo+m-lo)/2)))) (lo+n)<Kr R (ag (setArr t (aU (ag t) lo (lo+m) ((lo+m-lo)/2)))) (lo+n-1))with
      |true=>exact av (q1 (of_decide_eq_true z))
      |false=>exact av (q2 (of_decide_eq_false z))
     ·intro j j1 j2 j3 _;exact av (h j _ TB (by lia) j2 j3)
 ·rw[if_neg g];obtain rfl:n=1:=by lia
  have dS:Dsc R (ag st) lo (1+1):=Dsc.one.more λ_=>Int.le_of_lt lt
  refine au (wpS_lift (wpAny_rule ⟨rfl,?_⟩));refine au (nt (mk:=λn q=>(none,n,q)) hn (by lia) (by lia) (hB) dS ?_ ?_)
  ·intro x n EY t Q' tB hl n1 q1 q2 q3 q4;dsimp only;refine au (eK C K Da tB hl (by lia) ?_);cases z:decide (Kr R (ag t) (lo+n)<Kr R (ag t) (lo+n-1))with
   |true=>
    by_cases y:EY>0
    ·dsimp only;rw[if_pos rfl,if_pos y];exact au (wpS_reverse (av (q1 (of_decide_eq_true z) y)))
    ·dsimp only;rw[if_pos rfl,if_neg y];exact av (q2 (of_decide_eq_true z) y)
   |false=>
    have z':=of_decide_eq_false z;refine au (eK C K Da tB (by lia) hl ?_);cases y:decide (Kr R (ag t) (lo+n-1)<Kr R (ag t) (lo+n))with
    |true=>exact av (q3 (of_decide_eq_true y))
    |false=>
     have y':=of_decide_eq_false y;exact av (q4 (by lia))
  ·intro m EY t tB m1 m2 tS nm f;have hz:lo+m<=(ag t).size:=by rw[tB.size];lia
   dsimp only;by_cases y:EY>0
   ·rw[if_pos y];refine au (wpS_reverse ?_);have MB:SB κ p a₁ lo (setArr t (aU (ag t) (lo+m-(EY+1)) (lo+m) ((lo+m-(lo+m-(EY+1)))/2))):=tB.mir (by lia) (by lia);have MS:Dsc R (ag (setArr t (aU (ag t) (lo+m-(EY+1)) (lo+m) ((lo+m-(lo+m-(EY+1)))/2)))) lo m:=tS.alike (jM hz f);refine au (wpS_reverse ?_);have TB:SB κ p a₁ lo (setArr (setArr t (aU (ag t) (lo+m-(EY+1)) (lo+m) ((lo+m-(lo+m-(EY+1)))/2))) (aU (ag (setArr t (aU (ag t) (lo+m-(EY+1)) (lo+m) ((lo+m-(lo+m-(EY+1)))/2)))) lo (lo+m) ((lo+m-lo)/2))):=(MB).mir (aF _) (by lia);refine au (iS (R:=R) (mk:=λn=>(none,n)) hn (by lia) m2 (Dsc.turn (MS) (by show lo+m<=(ag (setArr t (aU (ag t) (lo+m-(EY+1)) (lo+m) ((lo+m-(lo+m-(EY+1)))/2)))).size;rw[(MB).size];lia)) ?_ ?_)
    ·intro x n Q' hl n1 q1 q2;dsimp only;refine au (eK C K Da (TB) hl (by lia) ?_);cases z:decide (Kr R (ag (setArr (setArr t (aU (ag t) (lo+m-(EY+1)) (lo+m) ((lo+m-(lo+m-(EY+1)))/2))) (aU (ag (setArr t (aU (ag t) (lo+m-(EY+1)) (lo+m) ((lo+m-(lo+m-(EY+1)))/2)))) lo (lo+m) ((lo+m-lo)/2)))) (lo+n)<Kr R (ag (setArr (setArr t (aU (ag t) (lo+m-(EY+1)) (lo+m) ((lo+m-(lo+m-(EY+1)))/2))) (aU (ag (setArr t (aU (ag t) (lo+m-(EY+1)) (lo+m) ((lo+m-(lo+m-(EY+1)))/2)))) lo (lo+m) ((lo+m-lo)/2)))) (lo+n-1))with
     |true=>exact av (q1 (of_decide_eq_true z))
     |false=>exact av (q2 (of_decide_eq_false z))
    ·intro j j1 j2 j3 _;exact av (h j _ TB (by lia) j2 j3)
   ·rw[if_neg y];refine au (wpS_reverse ?_);have TB:SB κ p a₁ lo (setArr t (aU (ag t) lo (lo+m) ((lo+m-lo)/2))):=(tB).mir (aF _) (by lia);refine au (iS (R:=R) (mk:=λn=>(none,n)) hn (by lia) m2 (Dsc.turn (tS) (by show lo+m<=(ag t).size;rw[(tB).size];lia)) ?_ ?_)
    ·intro x n Q' hl n1 q1 q2;dsimp only;refine au (eK C K Da (TB) hl (by lia) ?_);cases z:decide (Kr R (ag (setArr t (aU (ag t) lo (lo+m) ((lo+m-lo)/2)))) (lo+n)<Kr R (ag (setArr t (aU (ag t) lo (lo+m) ((lo+m-lo)/2)))) (lo+n-1))with
     |true=>exact av (q1 (of_decide_eq_true z))
     |false=>exact av (q2 (of_decide_eq_false z))
    ·intro j j1 j2 j3 _;exact av (h j _ TB (by lia) j2 j3)
end
theorem jT(a:Array ao)(i:Nat):at' a i=(a.toList[i]?).getD df:=by
 unfold at';rw[Array.getD_eq_getD_getElem?,Array.getElem?_toList]
theorem oH{a:Array ao}{i j m:Nat}(hj:j<=a.size)(hm:i+m<j):at' (a.extract i j) m=at' a (i+m):=by
 refine ij ?_;rw[Array.getElem?_extract,if_pos (by lia)]
noncomputable def putAll(s:Nat)(l:List ao)(n:Nat)(a:Array ao):Array Keyed:=(l.zipIdx n).foldl (λa (p:ao×Nat)=>a.setIfInBounds (s+p.2) p.1) a
theorem ku(s:Nat):∀(l:List ao) (n:Nat) (a:Array ao),s+n+l.length<=a.size->(putAll s l n a).toList=a.toList.take (s+n)++l++a.toList.drop (s+n+l.length)
 | [],n,a,_=>by
  show a.toList=_;simp
 |x::l,n,a,h=>by
  show (putAll s l (n+1) (a.setIfInBounds (s+n) x)).toList=_;rw[b_]at h;rw[ku s l (n+1) _ (by rw[Array.size_setIfInBounds];lia)];have hl:s+n<a.toList.length:=by rw[bb];lia
  rw[Array.toList_setIfInBounds,show s+(n+1)=s+n+1 by lia,List.take_set,List.drop_set,if_pos (by lia),b_,
   show s+n+1+l.length=s+n+(l.length+1)by lia]
  congr 1
  rw[show (x::l)=[x]++l from rfl,<-bw]
  congr 1
  rw[List.take_succ_eq_append_getElem hl,List.set_append_right _ _ (by rw[dn];lia),dn,Nat.min_eq_left (by lia),Nat.sub_self]
  rfl
theorem l5{s:Nat}{r a:Array ao}(h:s+r.size<=a.size)(t:Nat):at' (putAll s r.toList 0 a) t=if s<=t/\t<s+r.size then at' r (t-s)else at' a t:=by
 rw[jT,ku s _ _ _ (by rw[bb];lia),Nat.add_zero,bb];have h1:(a.toList.take s).length=s:=by rw[dn,bb];lia
 by_cases e1:t<s
 ·rw[if_neg (by lia),bw,List.getElem?_append_left (by lia),List.getElem?_take,if_pos e1,jT]
 ·rw[bw,List.getElem?_append_right (by lia),h1];by_cases e2:t<s+r.size
  ·rw[if_pos (by lia),List.getElem?_append_left (by rw[bb];lia),jT]
  ·rw[if_neg (by lia),List.getElem?_append_right (by rw[bb];lia),List.getElem?_drop,bb,jT]
   congr 2;lia
theorem rW{s e:Nat}{r x y a:Array ao}{m:Nat}(h1:s<=m)(h2:m<=e)(h3:e<=a.size)(hx:x=a.extract s m)(hy:y=a.extract m e)(hr:r.toList.Perm (x.toList++y.toList)):r.size=e-s/\(putAll s r.toList 0 a).Perm a:=by
 have hl:r.size=e-s:=by
  have:=hr.length_eq;rw[di,bb,bb,bb,hx,hy,Array.size_extract,Array.size_extract]at this;lia
 refine⟨hl,Array.perm_iff_toList_perm.mpr ?_⟩;rw[ku s _ _ _ (by rw[bb];lia),Nat.add_zero,bb,hl];have HG:x.toList++y.toList=(a.toList.drop s).take (e-s):=by
  rw[hx,hy,zM,zM,show e-s=(m-s)+(e-m)by lia,List.take_add,List.drop_drop,show s+(m-s)=m by lia]
 have e0:a.toList=a.toList.take s++(a.toList.drop s).take (e-s)++a.toList.drop (s+(e-s)):=by
  rw[bw,<-List.drop_drop,bZ,bZ]
 conv=>rhs;rw[e0]
 rw[HG]at hr;exact(hr.append_left _).append_right _
section
variable{prog:aB}{w:az}{A:aD}{E:ae->af->Prop}{s:af}{κ:SortKind}{D:ao->Prop}{LT:ao->ao->Bool}{R:ao->Int}
theorem Cs{a r x y:Array ao}{sa s' sb e' en:Nat}(h1:sa<=s')(h2:s'<sb)(h3:sb<=e')(h4:e'<=en)(h5:en<=a.size)
  (SX:∀i j,sa<=i->i<=j->j<sb->Kr R a i<=Kr R a j) (SY:∀i j,sb<=i->i<=j->j<en->Kr R a i<=Kr R a j)
  (F1:∀i,sa<=i->i<s'->Kr R a i<=Kr R a sb) (Nt:sb<en) (F2:∀i,e'<=i->i<en->Kr R a (sb-1)<=Kr R a i)
  (hx:x=a.extract s' sb) (hy:y=a.extract sb e') (hr:r.toList.Perm (x.toList++y.toList)) (hs:∀i j,i<=j->j<r.size->Kr R r i<=Kr R r j) :
  ∀i j,sa<=i->i<=j->j<en->Kr R (putAll s' r.toList 0 a) i<=Kr R (putAll s' r.toList 0 a) j:=by
 have hp:=rW (by lia) h3 (by lia) hx hy hr;have mid:∀v,v<r.size->∃z,s'<=z/\z<e'/\at' r v=at' a z:=λv hv=>by
  have:=hr.mem_iff.mp (j5 hv);rw[List.mem_append,hx,hy]at this;rcases this with q|q
  ·obtain⟨z,z1,z2,z3,z4⟩:=qt q;exact⟨z,z1,by lia,z4⟩
  ·obtain⟨z,z1,z2,z3,z4⟩:=qt q;exact⟨z,by lia,z2,z4⟩
 intro i j hi E1 hj;unfold Kr;rw[l5 (by lia),l5 (by lia)];by_cases ci:s'<=i/\i<s'+r.size
 ·rw[if_pos ci];by_cases cj:s'<=j/\j<s'+r.size
  ·rw[if_pos cj];exact hs _ _ (by lia) (by lia)
  ·rw[if_neg cj];obtain⟨z,z1,z2,z3⟩:=mid (i-s') (by lia);rw[z3];by_cases hz:z<sb
   ·exact Int.le_trans (SX z (sb-1) (by lia) (by lia) (by lia)) (F2 j (by lia) hj)
   ·exact SY z j (by lia) (by lia) hj
 ·rw[if_neg ci];by_cases cj:s'<=j/\j<s'+r.size
  ·rw[if_pos cj];obtain⟨z,z1,z2,z3⟩:=mid (j-s') (by lia);rw[z3];by_cases hz:z<sb
   ·exact SX i z hi (by lia) hz
   ·exact Int.le_trans (F1 i hi (by lia)) (SY sb z (by lia) (by lia) (by lia))
  ·rw[if_neg cj];by_cases c1:i<s'
   ·by_cases c2:j<s'
    ·exact SX i j hi E1 (by lia)
    ·exact Int.le_trans (F1 i hi c1) (SY sb j (by lia) (by lia) hj)
   ·exact SY i j (by lia) E1 hj
end
theorem xa{σ:Type}{M:Model}{A:aD}{E:ae->af->Prop}{s:af}{x:σ}{Q:PUnit->σ->Prop}{st:σ}(h:Q ⟨⟩ x):wpS M A E s (set x:StateT σ Sem PUnit) Q st:=by
 unfold wpS;exact aC ⟨rfl,h⟩
section
variable{prog:aB}{w:az}{A:aD}{E:ae->af->Prop}{s:af}{κ:SortKind}{D:ao->Prop}{LT:ao->ao->Bool}{R:ao->Int}
noncomputable def gP(p:Array (Nat×Nat×Nat))(i sa na nb pw:Nat):Array (Nat×Nat×Nat):=(p.setIfInBounds i (sa,na+nb,pw)).eraseIdxIfInBounds (i+1)
theorem BZ(C:Cmp prog w A s κ D LT)(K:Rk D LT R){st:aH}{i sa na pw sb nb KS:Nat}{Q:Bool->aH->Prop}(hk:kindOf st=κ)(hf:failedOf st=none)(Da:∀x∈(ag st).toList,D x)
  (h1:(aZ st)[i]? = some (sa,na,pw)) (h2:(aZ st)[i+1]? = some (sb,nb,KS)) (IJ:sb=sa+na) (KN:1<=na) (KO:1<=nb) (LR:sb+nb<=(ag st).size)
  (SX:Seg R (ag st) sa na) (SY:Seg R (ag st) sb nb)
  (h:∀st',kindOf st'=κ->failedOf st'=none->aZ st'=gP (aZ st) i sa na nb pw->(ag st').Perm (ag st)->(∀j,(j<sa\/sb+nb<=j)->at' (ag st') j=at' (ag st) j)->Seg R (ag st') sa (na+nb)->Q true st') :
  wpS (ar prog w) A E s (mergeAt' i) Q st:=by
 have dm:∀j,j<(ag st).size->D (at' (ag st) j):=λj hj=>Da _ (j5 hj)
 have rk:∀x y,x<(ag st).size->y<(ag st).size->LT (at' (ag st) x) (at' (ag st) y)=decide (Kr R (ag st) x<Kr R (ag st) y):=λx y hx hy=>K.rk _ _ (dm x hx) (dm y hy)
 have SX':∀i j,sa<=i->i<=j->j<sb->Kr R (ag st) i<=Kr R (ag st) j:=λi j a b c=>by
  have:=SX (i-sa) (j-sa) (by lia) (by lia)
  rwa[show sa+(i-sa)=i by lia,show sa+(j-sa)=j by lia]at this
 have SY':∀i j,sb<=i->i<=j->j<sb+nb->Kr R (ag st) i<=Kr R (ag st) j:=λi j a b c=>by
  have:=SY (i-sb) (j-sb) (by lia) (by lia)
  rwa[show sb+(i-sb)=i by lia,show sb+(j-sb)=j by lia]at this
 have W:=C.wo;unfold mergeAt';refine au (wpS_get ?_);rw[h1,h2];dsimp only;refine au (xa ?_);refine au (qO (qm (show sb<(ag st).size by lia)) ?_);refine au (h8 C (by exact hk) (dm sb (by lia)) (λj=>at' (ag st) (sa+j)) (λj hj=>⟨qm (show sa+j<(ag st).size by lia),dm _ (by lia)⟩) (by lia) ?_ ?_)
 ·intro i j E1 hj hb;unfold bey at hb ⊢;simp only[bp,if_false]at hb ⊢;rw[rk _ _ (by lia) (by lia)]at hb ⊢;have:=SX' (sa+i) (sa+j) (by lia) (by lia) (by lia);simp only[bR,decide_eq_false_iff_not]at hb ⊢;lia
 intro k FX hk2 hk3;dsimp only;have F1:∀j,sa<=j->j<sa+k->Kr R (ag st) j<=Kr R (ag st) sb:=λj a b=>by
  have:=hk2 (j-sa) (by lia);unfold bey at this;simp only[bp,if_false]at this;rw[show sa+(j-sa)=j by lia,rk _ _ (by lia) (by lia)]at this;simp only[bR,decide_eq_false_iff_not]at this;lia
 have F1':∀j,sa+k<=j->j<sb->Kr R (ag st) sb<Kr R (ag st) j:=λj a b=>by
  have:=hk3 (j-sa) (by lia) (by lia);unfold bey at this;simp only[bp,if_false]at this;rw[show sa+(j-sa)=j by lia,rk _ _ (by lia) (by lia)]at this;simp only[Bool.not_eq_false',decide_eq_true_eq]at this;lia
 by_cases e1:(na-k==0)=true
 ·rw[if_pos e1];have Hq:na-k=0:=by simpa using e1
  refine av (h _ hk hf rfl (Array.Perm.refl _) (λ_ _=>rfl) ?_);intro x y HG hy;show Kr R (ag st) (sa+x)<=Kr R (ag st) (sa+y);by_cases c:y<na
  ·exact SX x y HG c
  ·by_cases c2:x<na
   ·exact Int.le_trans (F1 _ (by lia) (by lia)) (SY' sb _ (by lia) (by lia) (by lia))
   ·exact SY' _ _ (by lia) (by lia) (by lia)
 rw[if_neg e1];have Hq:na-k≠0:=by simpa using e1
 rw[show sa+k+(na-k)-1=sb-1 by lia];refine au (qO (qm (show sb-1<(ag st).size by lia)) ?_);refine au (h8 C (by exact hk) (dm (sb-1) (by lia)) (λj=>at' (ag st) (sb+j)) (λj hj=>⟨qm (show sb+j<(ag st).size by lia),dm _ (by lia)⟩) (by lia) ?_ ?_)
 ·intro i j E1 hj hb;unfold bey at hb ⊢;simp only[if_true]at hb ⊢;rw[rk _ _ (by lia) (by lia)]at hb ⊢;have:=SY' (sb+i) (sb+j) (by lia) (by lia) (by lia);simp only[decide_eq_true_eq]at hb ⊢;lia
 intro m hm1 hm2 hm3;dsimp only;have F2:∀j,sb<=j->j<sb+m->Kr R (ag st) j<Kr R (ag st) (sb-1):=λj a b=>by
  have:=hm2 (j-sb) (by lia);unfold bey at this;simp only[if_true]at this;rw[show sb+(j-sb)=j by lia,rk _ _ (by lia) (by lia)]at this
  simpa using this
 have F2':∀j,sb+m<=j->j<sb+nb->Kr R (ag st) (sb-1)<=Kr R (ag st) j:=λj a b=>by
  have:=hm3 (j-sb) (by lia) (by lia);unfold bey at this;simp only[if_true]at this;rw[show sb+(j-sb)=j by lia,rk _ _ (by lia) (by lia)]at this;simp only[decide_eq_false_iff_not]at this;lia
 by_cases e2:(m==0)=true
 ·exfalso;have Ih:m=0:=by simpa using e2
  have a1:=F1' (sb-1) (by lia) (by lia);have a2:=F2' sb (by lia) (by lia);lia
 rw[if_neg e2];have Ih:m≠0:=by simpa using e2
 have sx:((ag st).extract (sa+k) sb).size=na-k:=by rw[Array.size_extract];lia
 have sy:((ag st).extract sb (sb+m)).size=m:=by rw[Array.size_extract];lia
 have ax:∀j,j<na-k->at' ((ag st).extract (sa+k) sb) j=at' (ag st) (sa+k+j):=λj hj=>oH (by lia) (by lia)
 have ay:∀j,j<m->at' ((ag st).extract sb (sb+m)) j=at' (ag st) (sb+j):=λj hj=>oH (by lia) (by lia)
 have srt:∀(z:Array ao) (o:Nat),(∀j,j<z.size->o+j<(ag st).size/\at' z j=at' (ag st) (o+j))->(∀i j,i<=j->j<z.size->Kr R (ag st) (o+i)<=Kr R (ag st) (o+j))->Srt LT z.toList:=λz o hz hs=>by
  unfold Srt;rw[List.pairwise_iff_getElem];intro i j hi hj E1;rw[bb]at hi hj;have b1:=qm hi;have b2:=qm hj;rw[Array.getElem?_eq_getElem hi]at b1;rw[Array.getElem?_eq_getElem hj]at b2;injection b1 with b1
  injection b2 with b2
  rw[Array.getElem_toList,Array.getElem_toList,b1,b2,(hz i hi).2,(hz j hj).2,rk _ _ (hz j hj).1 (hz i hi).1];have:=hs i j (by lia) hj;simp only[decide_eq_false_iff_not];lia
 have Sx:Srt LT ((ag st).extract (sa+k) sb).toList:=srt _ (sa+k) (λj hj=>⟨by lia,ax j (by lia)⟩) (λi j E1 hj=>SX' _ _ (by lia) (by lia) (by lia));have Sy:Srt LT ((ag st).extract sb (sb+m)).toList:=srt _ sb (λj hj=>⟨by lia,ay j (by lia)⟩) (λi j E1 hj=>SY' _ _ (by lia) (by lia) (by lia));have h0:LT (at' ((ag st).extract sb (sb+m)) 0) (at' ((ag st).extract (sa+k) sb) 0)=true:=by
  rw[ax 0 (by lia),ay 0 (by lia),rk _ _ (by lia) (by lia)];exact decide_eq_true (F1' _ (by lia) (by lia))
 have hl:∀j,j<((ag st).extract sb (sb+m)).size->LT (at' ((ag st).extract sb (sb+m)) j) (at' ((ag st).extract (sa+k) sb) (((ag st).extract (sa+k) sb).size-1))=true:=λj hj=>by
  rw[ax _ (by lia),ay j (by lia),sx,rk _ _ (by lia) (by lia),show sa+k+(na-k-1)=sb-1 by lia];exact decide_eq_true (F2 _ (by lia) (by lia))
 have Dx:∀j,j<((ag st).extract (sa+k) sb).size->D (at' ((ag st).extract (sa+k) sb) j):=λj hj=>by
  rw[ax j (by lia)];exact dm _ (by lia)
 have Dy:∀j,j<((ag st).extract sb (sb+m)).size->D (at' ((ag st).extract sb (sb+m)) j):=λj hj=>by
  rw[ay j (by lia)];exact dm _ (by lia)
 have fin:∀r g,Mg LT ((ag st).extract (sa+k) sb) ((ag st).extract sb (sb+m)) r->wpS (ar prog w) A E s (do
   modify λs=>setArr s (putAll (sa+k) r.toList 0 (ag s))
   return (failedOf (<-get)).isNone) Q (setG (setPending st (gP (aZ st) i sa na nb pw)) g):=λr g M=>by
  refine au (wpS_modify ?_);refine au (wpS_get ?_);refine av ?_;have hp:=rW (by lia) (by lia) (by lia) rfl rfl M.1;have e3:(failedOf (setArr (setG (setPending st (gP (aZ st) i sa na nb pw)) g) (putAll (sa+k) r.toList 0 (ag st)))).isNone=true:=by
   show (failedOf st).isNone=true;rw[hf];rfl
  show Q (failedOf (setArr (setG (setPending st (gP (aZ st) i sa na nb pw)) g) (putAll (sa+k) r.toList 0 (ag st)))).isNone _;rw[e3];refine h _ hk hf rfl hp.2 (λj hj=>?_) ?_
  ·show at' (putAll (sa+k) r.toList 0 (ag st)) j=_;rw[l5 (by lia),if_neg (by lia)]
  ·have dr:∀j,j<r.size->D (at' r j):=λj hj=>by
    have:=M.1.mem_iff.mp (j5 hj);rw[List.mem_append]at this;rcases this with q|q
    ·obtain⟨z,z1,z2,z3,z4⟩:=qt q;rw[z4];exact dm z z3
    ·obtain⟨z,z1,z2,z3,z4⟩:=qt q;rw[z4];exact dm z z3
   have:=Cs (R:=R) (a:=ag st) (sa:=sa) (s':=sa+k) (sb:=sb) (e':=sb+m) (en:=sb+nb) (by lia) (by lia) (by lia) (by lia) LR SX' SY' F1 (by lia) F2' rfl rfl M.1 (λx y HG hy=>by
    have:=dg W M.2 HG hy;rw[K.rk _ _ (dr _ hy) (dr _ (by lia))]at this;simp only[decide_eq_false_iff_not]at this;unfold Kr;lia)
   intro x y HG hy;exact this _ _ (by lia) (by lia) (by lia)
 by_cases e4:na-k<=m
 ·rw[if_pos e4];exact au (Bh C (by exact hk) Dx Dy Sx Sy (show 0<((ag st).extract (sa+k) sb).size by lia) (show 0<((ag st).extract sb (sb+m)).size by lia) h0 hl fin)
 ·rw[if_neg e4];exact au (Dz C (by exact hk) Dx Dy Sx Sy (show 0<((ag st).extract (sa+k) sb).size by lia) (show 0<((ag st).extract sb (sb+m)).size by lia) h0 hl fin)
end
noncomputable def pr(x:Nat×Nat×Nat):Nat×Nat:=(x.1,x.2.1)
def Runs(R:ao->Int)(a:Array ao):Nat->List (Nat×Nat)->Nat->Prop
 |b,[],e=>b=e
 |b,x::l,e=>x.1=b/\1<=x.2/\Seg R a b x.2/\Runs R a (b+x.2) l e
section
variable{R:ao->Int}{a a':Array ao}
theorem Runs.le:∀{l:List (Nat×Nat)}{b e:Nat},Runs R a b l e->b+l.length<=e
 | [],b,e,h=>by simp only[List.length_nil];exact Nat.le_of_eq h
 |x::l,b,e,h=>by
  have:=h.2.2.2.le;have:=h.2.1;simp only[b_];lia
theorem Seg.congr{b n:Nat}(h:Seg R a b n)(hc:∀j,b<=j->j<b+n->at' a' j=at' a j):Seg R a' b n:=λi j E1 hj=>by
 unfold Kr;rw[hc _ (by lia) (by lia),hc _ (by lia) (by lia)];exact h i j E1 hj
theorem Runs.congr:∀{l:List (Nat×Nat)}{b e:Nat},Runs R a b l e->(∀j,b<=j->j<e->at' a' j=at' a j)->Runs R a' b l e
 | [],b,e,h,_=>h
 |x::l,b,e,h,hc=>by
  have:=h.2.2.2.le;exact⟨h.1,h.2.1,h.2.2.1.congr λj h1 h2=>hc j h1 (by lia),h.2.2.2.congr λj h1 h2=>hc j (by lia) h2⟩
theorem Runs.append:∀{l l':List (Nat×Nat)}{b e:Nat},Runs R a b (l++l') e↔∃m,Runs R a b l m/\Runs R a m l' e
 | [],l',b,e=>⟨λh=>⟨b,rfl,h⟩,λ⟨m,h1,h2⟩=>by cases h1;exact h2⟩
 |x::l,l',b,e=>by
  constructor
  ·rintro⟨h1,h2,h3,h4⟩;obtain⟨m,h5,h6⟩:=Runs.append.mp h4;exact⟨m,⟨h1,h2,h3,h5⟩,h6⟩
  ·rintro⟨m,⟨h1,h2,h3,h4⟩,h5⟩;exact⟨h1,h2,h3,Runs.append.mpr ⟨m,h4,h5⟩⟩
theorem wu{α:Type}{l:List α}{i:Nat}{x y:α}(h1:l[i]? = some x)(h2:l[i+1]? = some y):∃u v,l=u++x::y::v/\u.length=i:=by
 obtain⟨hl,e2⟩:=List.getElem?_eq_some_iff.mp h2;obtain⟨LS,e1⟩:=List.getElem?_eq_some_iff.mp h1;refine⟨l.take i,l.drop (i+2),?_,by rw[dn];lia⟩
 conv=>lhs;rw[<-bZ i l]
 rw[eO LS,eO hl,e1,e2]
theorem ER{p:Array (Nat×Nat×Nat)}{u v:List (Nat×Nat×Nat)}{x y:Nat×Nat×Nat}{sa na nb pw:Nat}(h:p.toList=u++x::y::v):(gP p u.length sa na nb pw).toList=u++(sa,na+nb,pw)::v:=by
 unfold gP;have hs:p.size=u.length+v.length+2:=by rw[<-bb,h];simp;lia
 rw[Array.eraseIdxIfInBounds_eq,dif_pos (by rw[Array.size_setIfInBounds];lia),Array.toList_eraseIdx,Array.toList_setIfInBounds,h];rw[List.set_append_right _ _ (aF _),Nat.sub_self];rw[List.eraseIdx_append_of_length_le (by lia)];rw[show u.length+1-u.length=1 by lia]
 rfl
end
structure SR(κ:SortKind)(R:ao->Int)(a₁:Array ao)(lo:Nat)(st:aH):Prop where
 kd:kindOf st=κ
 fl:failedOf st=none
 pm:(ag st).Perm a₁
 rn:Runs R (ag st) 0 ((aZ st).toList.map pr) lo
 le:lo<=a₁.size
section
variable{prog:aB}{w:az}{A:aD}{E:ae->af->Prop}{s:af}{κ:SortKind}{D:ao->Prop}{LT:ao->ao->Bool}{R:ao->Int}{a₁:Array ao}{lo:Nat}
theorem SR.sz{st:aH}(h:SR κ R a₁ lo st):(ag st).size=a₁.size:=h.pm.size_eq
theorem SR.dom{st:aH}(h:SR κ R a₁ lo st)(Da:∀x∈a₁.toList,D x):∀x∈(ag st).toList,D x:=λx hx=>Da x ((Array.perm_iff_toList_perm.mp h.pm).mem_iff.mp hx)
theorem SR.merge(C:Cmp prog w A s κ D LT)(K:Rk D LT R)(Da:∀x∈a₁.toList,D x){st:aH}{i:Nat}{Q:Bool->aH->Prop}(H:SR κ R a₁ lo st)(hi:i+1<(aZ st).size)
  (h:∀st',SR κ R a₁ lo st'->(∀j,lo<=j->at' (ag st') j=at' (ag st) j)->(aZ st').size+1=(aZ st).size->Q true st') :
  wpS (ar prog w) A E s (mergeAt' i) Q st:=by
 obtain⟨⟨sa,na,pw⟩,hx⟩:∃x,(aZ st)[i]? = some x:=⟨_,Array.getElem?_eq_getElem (by lia)⟩
 obtain⟨⟨sb,nb,KS⟩,hy⟩:∃x,(aZ st)[i+1]? = some x:=⟨_,Array.getElem?_eq_getElem hi⟩
 obtain⟨u,v,hl,hu⟩:=wu (l:=(aZ st).toList) (by rw[Array.getElem?_toList];exact hx) (by rw[Array.getElem?_toList];exact hy);have rn:=H.rn;rw[hl,List.map_append]at rn;obtain⟨m,r1,r2⟩:=Runs.append.mp rn;obtain⟨q1,q2,q3,q4,q5,q6,q7⟩:=r2;have q1:sa=m:=q1;have q2:1<=na:=q2;have q3:Seg R (ag st) m na:=q3;have q4:sb=m+na:=q4;have q5:1<=nb:=q5;have q6:Seg R (ag st) (m+na) nb:=q6;have q7:Runs R (ag st) (m+na+nb) (v.map pr) lo:=q7;have hle:=q7.le;have LU:=r1.le;have Fg:=H.le;have hz:=H.sz;subst q1;refine BZ C K H.kd H.fl (H.dom Da) hx hy q4 q2 q5 (by lia) q3 (by rw[q4];exact q6) λst' k1 k2 k3 k4 k5 k6=>?_
 have hp:(aZ st').toList=u++(sa,na+nb,pw)::v:=by rw[k3,<-hu];exact ER hl
 refine h st' ⟨k1,k2,k4.trans H.pm,?_,H.le⟩ (λj hj=>k5 j (.inr (by lia))) ?_
 ·rw[hp,List.map_append];refine Runs.append.mpr ⟨sa,r1.congr λj _ hj=>k5 j (.inl hj),rfl,show 1<=na+nb by lia,k6,?_⟩;show Runs R (ag st') (sa+(na+nb)) (v.map pr) lo;rw[<-Nat.add_assoc];exact q7.congr λj hj _=>k5 j (.inr (by lia))
 ·rw[<-bb,hp,<-bb,hl];simp;lia
end
section
variable{prog:aB}{w:az}{A:aD}{E:ae->af->Prop}{s:af}{κ:SortKind}{D:ao->Prop}{LT:ao->ao->Bool}{R:ao->Int}{a₁:Array ao}{lo:Nat}
theorem sT{p:Array (Nat×Nat×Nat)}{i pw:Nat}:(p.modify i λx=>(x.1,x.2.1,pw)).toList.map pr=p.toList.map pr:=by
 apply List.ext_getElem?;intro k;rw[List.getElem?_map,List.getElem?_map,Array.getElem?_toList,Array.getElem?_toList,Array.getElem?_modify];split
 ·rename_i e
  subst e;cases p[i]? <;> rfl
 ·rfl
theorem SR.pend{st:aH}{p:Array (Nat×Nat×Nat)}(H:SR κ R a₁ lo st)(hp:p.toList.map pr=(aZ st).toList.map pr):SR κ R a₁ lo (setPending st p):=
 ⟨H.kd,H.fl,H.pm,by show Runs R (ag st) 0 (p.toList.map pr) lo;rw[hp];exact H.rn,H.le⟩
theorem SR.push{st:aH}{n:Nat}(H:SR κ R a₁ lo st)(h1:1<=n)(h2:lo+n<=a₁.size)(hs:Seg R (ag st) lo n):SR κ R a₁ (lo+n) (setPending st ((aZ st).push (lo,n,0))):=
 ⟨H.kd,H.fl,H.pm,by
  show Runs R (ag st) 0 (((aZ st).push (lo,n,0)).toList.map pr) (lo+n);rw[Array.toList_push,List.map_append];exact Runs.append.mpr ⟨lo,H.rn,rfl,h1,hs,rfl⟩,h2⟩
theorem SR.base{st:aH}(H:SR κ R a₁ lo st):SB κ (aZ st) (ag st) lo st:=⟨H.kd,H.fl,rfl,Array.Perm.refl _,λ_ _=>rfl⟩
theorem SR.back{st st':aH}(H:SR κ R a₁ lo st)(B:SB κ (aZ st) (ag st) lo st'):SR κ R a₁ lo st':=
 ⟨B.kd,B.fl,B.pm.trans H.pm,by rw[B.pn];exact H.rn.congr λj _ hj=>B.lw j hj,H.le⟩
theorem ny(C:Cmp prog w A s κ D LT)(K:Rk D LT R)(Da:∀x∈a₁.toList,D x){st:aH}{Q:Unit->aH->Prop}(hk:kindOf st=κ)(hf:failedOf st=none)(hp:aZ st = #[])(ha:ag st=a₁)(h2:2<=a₁.size)
  (h:∀st',(ag st').Perm a₁->failedOf st'=none->Seg R (ag st') 0 a₁.size->Q () st'):wpS (ar prog w) A E s sortRuns' Q st:=by
 have H0:SR κ R a₁ 0 st:=⟨hk,hf,by rw[ha],by rw[hp];rfl,by lia⟩
 rw[sortRuns'_eq];refine au (wpS_get ?_);dsimp only;rw[ha];generalize minRun' a₁.size a₁.size 0=mr;refine au (wpS_mono (wpS_forRange
  (I:=λx c st'=>∃lo,c=(none,lo)/\SR κ R a₁ lo st'/\x<=lo)
  (Q:=λc st'=>c=(none,a₁.size)/\SR κ R a₁ a₁.size st') ?step ?fin ⟨0,rfl,H0,aF _⟩) ?post)
 case fin=>
  rintro c st' ⟨lo,rfl,H,hx⟩;have:=H.le;have:lo=a₁.size:=by lia
  subst this;exact⟨rfl,H⟩
 case step=>
  rintro x c st' _ hx ⟨lo,rfl,H,Nu⟩;dsimp only;have hle:=H.le;by_cases e:lo >= a₁.size
  ·rw[if_pos e];have:lo=a₁.size:=by lia
   subst this;exact av ⟨rfl,H⟩
  rw[if_neg e];have hz:=H.sz;refine au (BU C K (H.dom Da) (by lia) (by lia) H.base λm FC B2 m1 m2 S2=>?_);dsimp only;by_cases e3:m<mr
  ·rw[if_pos e3];refine au (wpS_lift (wpAny_rule ⟨rfl,?_⟩));by_cases e4:m<=min (a₁.size-lo) mr
   ·refine au (vJ C K (H.dom Da) (by lia) e4 B2 S2 λFs B3 S3=>?_);simp only[Bool.not_true,bp,if_false];have Hn:=H.back B3;refine au (wpS_get ?_);cases hb:(aZ Fs).back? with
    |none=>
     dsimp only;exact au (wpS_modify (av ⟨_,rfl,Hn.push (by lia) (by lia) S3,by lia⟩))
    |some q=>
     obtain⟨s1,k1,w1⟩:=q;dsimp only;generalize power' _ _ _ _=pw;refine au (wpS_mono (wpS_forRange (I:=λ_ c st'=>c=(none,())/\SR κ R a₁ lo st'/\∀j,lo<=j->at' (ag st') j=at' (ag Fs) j)
      (Q:=λc st'=>c=(none,())/\SR κ R a₁ lo st'/\∀j,lo<=j->at' (ag st') j=at' (ag Fs) j) ?_ (λ_ _ h=>h) ⟨rfl,Hn,λ_ _=>rfl⟩) ?_)
     ·rintro y c st8 _ _ ⟨rfl,H8,c8⟩;refine au (wpS_get ?_);by_cases e1:(aZ st8).size>1
      ·rw[if_pos e1];obtain⟨⟨u1,u2,Gy⟩,hy⟩:∃x,(aZ st8)[(aZ st8).size-2]? = some x:=⟨_,Array.getElem?_eq_getElem (by lia)⟩
       rw[hy];dsimp only;by_cases e2:Gy<=pw
       ·rw[if_pos e2];exact av ⟨rfl,H8,c8⟩
       ·rw[if_neg e2];refine au (H8.merge C K Da (by lia) λLV H9 c9 _=>?_);exact av ⟨rfl,H9,λj hj=>(c9 j hj).trans (c8 j hj)⟩
      ·rw[if_neg e1];exact av ⟨rfl,H8,c8⟩
     ·rintro c st8 ⟨rfl,H8,c8⟩;dsimp only;refine au (wpS_modify ?_);exact au (wpS_modify (av ⟨_,rfl,(H8.pend sT).push (by lia) (by lia) (S3.congr λj hj _=>c8 j hj),by lia⟩))
   ·exfalso;lia
  ·rw[if_neg e3];have Hn:=H.back B2;refine au (wpS_get ?_);cases hb:(aZ FC).back? with
   |none=>
    dsimp only;exact au (wpS_modify (av ⟨_,rfl,Hn.push (m1) (by lia) S2,by lia⟩))
   |some q=>
    obtain⟨s1,k1,w1⟩:=q;dsimp only;generalize power' _ _ _ _=pw;refine au (wpS_mono (wpS_forRange (I:=λ_ c st'=>c=(none,())/\SR κ R a₁ lo st'/\∀j,lo<=j->at' (ag st') j=at' (ag FC) j)
     (Q:=λc st'=>c=(none,())/\SR κ R a₁ lo st'/\∀j,lo<=j->at' (ag st') j=at' (ag FC) j) ?_ (λ_ _ h=>h) ⟨rfl,Hn,λ_ _=>rfl⟩) ?_)
    ·rintro y c st8 _ _ ⟨rfl,H8,c8⟩;refine au (wpS_get ?_);by_cases e1:(aZ st8).size>1
     ·rw[if_pos e1];obtain⟨⟨u1,u2,Gy⟩,hy⟩:∃x,(aZ st8)[(aZ st8).size-2]? = some x:=⟨_,Array.getElem?_eq_getElem (by lia)⟩
      rw[hy];dsimp only;by_cases e2:Gy<=pw
      ·rw[if_pos e2];exact av ⟨rfl,H8,c8⟩
      ·rw[if_neg e2];refine au (H8.merge C K Da (by lia) λLV H9 c9 _=>?_);exact av ⟨rfl,H9,λj hj=>(c9 j hj).trans (c8 j hj)⟩
     ·rw[if_neg e1];exact av ⟨rfl,H8,c8⟩
    ·rintro c st8 ⟨rfl,H8,c8⟩;dsimp only;refine au (wpS_modify ?_);exact au (wpS_modify (av ⟨_,rfl,(H8.pend sT).push (m1) (by lia) (S2.congr λj hj _=>c8 j hj),by lia⟩))
 case post=>
  rintro c st' ⟨rfl,H⟩;dsimp only;have hl:=H.rn.le;rw[aV,bb]at hl;refine au (wpS_mono (wpS_forRange (I:=λx c st''=>c=(none,())/\SR κ R a₁ a₁.size st''/\((aZ st'').size<=1\/(aZ st'').size+x<=a₁.size))
   (Q:=λc st''=>c=(none,())/\SR κ R a₁ a₁.size st''/\(aZ st'').size<=1) ?_ ?_ ⟨rfl,H,.inr (by lia)⟩) ?_)
  ·rintro x c Fs _ hx ⟨rfl,H3,c3⟩;refine au (wpS_get ?_);by_cases e1:(aZ Fs).size<=1
   ·rw[if_pos e1];exact av ⟨rfl,H3,e1⟩
   rw[if_neg e1];refine au (H3.merge C K Da ?_ λNv H4 c4 z4=>?_)
   ·(repeat' split)<;>lia
   ·exact av ⟨rfl,H4,by lia⟩
  ·rintro c Fs ⟨rfl,H3,c3⟩;exact⟨rfl,H3,by lia⟩
  ·rintro c Fs ⟨rfl,H3,c3⟩;refine av (h Fs H3.pm H3.fl ?_);have rn:=H3.rn;generalize hq:(aZ Fs).toList.map pr=q at rn;have GN:q.length<=1:=by rw[<-hq,aV,bb];exact c3
   match q,rn,GN with
   | [],rn,_=>exact absurd rn (by show ¬ (0=a₁.size);lia)
   | [x],rn,_=>
    obtain⟨_,_,r3,r4⟩:=rn;have r4:0+x.2=a₁.size:=r4;rw[<-r4,Nat.zero_add];exact r3
end
theorem pf{α:Type}{p q:α->Bool}{a:α}:∀{l:List α},(∀x∈l,p x=true->q x=true)->a∈l->p a=false->q a=true->l.countP p<l.countP q
 | [],_,h,_,_=>nomatch h
 |x::l,hi,h,h1,h2=>by
  rw[List.countP_cons,List.countP_cons];have le:=List.countP_mono_left (l:=l) (p:=p) (q:=q) λy hy=>hi y (aO _ hy)
  rcases aM.mp h with e|h
  ·subst e;rw[h1,h2];simp only[bp,if_false,if_true];lia
  ·have:=pf (λy hy=>hi y (aO _ hy)) h h1 h2;have:=hi x aL;cases e:p x with
   |true=>rw[this e];simp only[if_true];lia
   |false=>simp only[bp,if_false];split<;>lia
noncomputable def jX(LT:ao->ao->Bool)(l:List ao)(x:ao):Int:=(l.countP λz=>LT z x:Nat)
theorem Wo.rank{LT:ao->ao->Bool}(W:Wo LT)(l:List ao):Rk (·∈l) LT (jX LT l):=⟨λx y hx hy=>by
 unfold jX;cases e:LT x y with
 |true=>
  have:=pf (p:=λz=>LT z x) (q:=λz=>LT z y) (a:=x) (λz _ q=>W.lt_le (x:=z) (y:=x) (z:=y) q (W.asym x y e)) hx (W.irr x) e;exact(decide_eq_true (by lia)).symm
 |false=>
  have:=List.countP_mono_left (l:=l) (p:=λz=>LT z y) (q:=λz=>LT z x) λz _ q=>W.lt_le (x:=z) (y:=y) (z:=x) q e
  exact(decide_eq_false (by lia)).symm⟩
noncomputable def ltL:List Int->List Int->Bool
 | [],[]=>false
 | [],_::_=>true
 |_::_,[]=>false
 |a::x,b::y=>if a=b then ltL x y else decide (a<b)
theorem jr:∀{x y:List Int},ltL x y=true->ltL y x=false
 | [],[],h=>nomatch h
 | [],_::_,_=>rfl
 |_::_,[],h=>nomatch h
 |a::x,b::y,h=>by
  unfold ltL at h ⊢;by_cases e:a=b
  ·rw[if_pos e]at h;rw[if_pos e.symm];exact jr h
  ·rw[if_neg e]at h;have:=of_decide_eq_true h;rw[if_neg (λz=>e z.symm)];exact decide_eq_false (by lia)
theorem jj:∀{x y z:List Int},ltL y x=false->ltL z y=false->ltL z x=false
 | [],_,[],_,_=>rfl
 |_::_,[],[],h,_=>nomatch h
 |_::_,_::_,[],_,h=>nomatch h
 | [],_,_::_,_,_=>rfl
 |_::_,[],_::_,h,_=>nomatch h
 |a::x,b::y,c::z,h1,h2=>by
  unfold ltL at h1 h2 ⊢;by_cases e1:b=a
  ·rw[if_pos e1]at h1;by_cases e2:c=b
   ·rw[if_pos e2]at h2;rw[if_pos (e2.trans e1)];exact jj h1 h2
   ·rw[if_neg e2]at h2;have:=of_decide_eq_false h2;rw[if_neg (λq=>e2 (q.trans e1.symm))];exact decide_eq_false (by lia)
  ·rw[if_neg e1]at h1;have q1:=of_decide_eq_false h1;by_cases e2:c=b
   ·rw[if_neg (λq=>e1 (e2.symm.trans q))];exact decide_eq_false (by lia)
   ·rw[if_neg e2]at h2;have q2:=of_decide_eq_false h2;rw[if_neg (by lia)];exact decide_eq_false (by lia)
theorem t4(f:ao->List Int):Wo λx y=>ltL (f x) (f y):=⟨λ_ _ h=>jr h,λ_ _ _ h1 h2=>jj h1 h2⟩
theorem sY:∀{x y:List Int},ltL x y=false->ltL y x=false->x=y
 | [],[],_,_=>rfl
 | [],_::_,h,_=>nomatch h
 |_::_,[],_,h=>nomatch h
 |a::x,b::y,h1,h2=>by
  unfold ltL at h1 h2;by_cases e:a=b
  ·rw[if_pos e]at h1;rw[if_pos e.symm]at h2;rw[e,sY h1 h2]
  ·rw[if_neg e]at h1;rw[if_neg (λz=>e z.symm)]at h2;have:=of_decide_eq_false h1;have:=of_decide_eq_false h2;lia
theorem sO:∀x y:List Int,ltL x y=HT.lexLt x y
 | [],[]=>(HT.oO).symm
 | [],_::_=>(HT.sJ ..).symm
 |_::_,[]=>(HT.sG ..).symm
 |a::x,b::y=>by
  rw[HT.pR,<-sO x y]
  rfl
section
variable{prog:aB}{w:az}{A:aD}{E:ae->af->Prop}{s:af}
theorem AJ{l b:Addr}{items E2:Array ae}{ns ms:List Int}{Q:Bool->af->Prop}(hl:IsTup s.heap l items)(hb:IsTup s.heap b E2)(hi:bg items.toList ns)(hj:bg E2.toList ms)
  (hu:A.units<cLine) (h:Q (ltL ns ms) s):aq (ar prog w) A (oneLt' true (.ref l) (.ref b)) Q E s:=by
 obtain⟨⟨c1,d1,a1,s1⟩,ho,hc,n,hd⟩:=id hl;obtain⟨⟨c2,d2,a2,s2⟩,FO,Fy,n2,hd2⟩:=id hb;simp only at hc hd Fy hd2;subst hc hd Fy hd2;rw[sO]at h;rw[oneLt'_eq];simp only[if_true];refine ah (wpAny_cRoomFor hu ?_);refine ah (wpAny_callSpecialIfBound?_slot ⟨_,ho,rfl⟩ PySem.F.slot_tuple_lt (call_meets PySem.F.slot_tuple_lt ⟨_,ho,rfl⟩ PySem.F.entry_tuple_lt (PySem.F.args_tuple_lt_2 _ _) (HT.tm l b items E2 n n2 d1 d2 s1 s2 ns ms hi hj) ⟨ho,FO,?_⟩));exact bJ h
end
end TS
namespace TS
open PySem PySem.W PyProof.Rows
def TupAt(h:Heap)(v:ae)(ns:List Int):Prop:=∃a o items n,v=.ref a/\h.get? a=some o/\o.cls=.type "tuple"/\o.data=.seq items n/\bg items.toList ns
inductive b8(h:Heap):List ae->List (List Int)->Prop
 |nil:b8 h [] []
 |cons {v:ae}{vs:List ae}{k:List Int}{ks:List (List Int)}:TupAt h v k->b8 h vs ks->b8 h (v::vs) (k::ks)
theorem b8.mem{h:Heap}{vs:List ae}{ks:List (List Int)}(t:b8 h vs ks):∀v∈vs,∃k,TupAt h v k:=by
 induction t with
 |nil=>intro v hv;cases hv
 |cons a t ih=>
  intro v hv;rcases aM.mp hv with e|hv
  ·subst e;exact⟨_,a⟩
  ·exact ih v hv
section
variable{M:Model}{A:aD}{E:ae->af->Prop}{s:af}
theorem sN{h:Heap}{v:ae}{k:List Int}(t:TupAt h v k):Looks M h (typeOf v) (.type "tuple"):=by
 obtain⟨a,o,items,n,rfl,ho,hc,_⟩:=t;have:Looks M h (typeOf (.ref a)) o.cls:=(Looks.ld ho).andThen .now
 rwa[hc]at this
theorem Du{vs:List ae}{ks:List (List Int)}(t:b8 s.heap vs ks):∀{Q:List (Option ae)->af->Prop},(∀os:List (Option ae),os.map Option.isSome=ks.map (λk=>!k.isEmpty)->Q os s)->aq M A (vs.mapM firstOfTuple') Q E s:=by
 induction t with
 |nil=>intro Q h;rw[List.mapM_nil];exact aC (h [] rfl)
 | @cons v vs k ks a t ih=>
  intro Q h;rw[List.mapM_cons];refine ah ?_;rw[kas_first_eq];refine ah ((sN a).here ?_);rw[if_neg (by first|decide|simp)];obtain⟨b,o,items,n,rfl,ho,hc,hd,hi⟩:=a;refine ah (listItems_at ho hd (aC (ah (ih λos e=>aC (h _ ?_)))));rw[aJ,e,aJ]
  congr 1
  obtain⟨l⟩:=items;cases hi with
  |nil=>rfl
  |cons _ _ _=>rfl
theorem C5{vs:List ae}{ks:List (List Int)}{Q:SortKind->af->Prop}(t:b8 s.heap vs ([]::ks))(h:Q oneType' s):aq M A (keyKind' vs.toArray) Q E s:=by
 rw[keyKind'_eq,List.mapM_toArray,map_eq_pure_bind];refine ah (ah (Du t λos e=>aC ?_));obtain⟨o,HC,rfl,eo⟩:∃o HC,os=o::HC/\o.isSome=false:=by
  cases os with
  |nil=>cases e
  |cons o HC=>rw[aJ,aJ]at e;exact⟨o,HC,rfl,(List.cons.inj e).1⟩
 obtain rfl:o=none:=by cases o with
  |none=>rfl
  |some _=>cases eo
 rw[if_neg (by simp),if_neg (by simp),oneTypeOnly'_eq,List.mapM_toArray,map_eq_pure_bind];refine ah (ah (ah (kas_mapM (r:=ae.type "tuple") _ (λv hv Q' hq=>by obtain⟨k,a⟩:=t.mem v hv;exact(sN a).here hq) (aC ?_))));have e0:(List.map (λ_=>ae.type "tuple") vs).toArray[0]? = some (ae.type "tuple"):=by
  cases t with
  |cons a t=>simp
 have e1:((List.map (λ_=>ae.type "tuple") vs).toArray.all λx=>x==ae.type "tuple")=true:=by
  simp only[List.all_toArray,List.all_map,bS];intro _ _
  rfl
 rw[e0];simp only[e1,if_true];exact aC (aC h)
end
section
variable{M:Model}{A:aD}{E:ae->af->Prop}{s:af}
theorem b8.firsts{h:Heap}{vs:List ae}{ks:List (List Int)}(t:b8 h vs ks)(E8:∀k∈ks,k≠[]):∃fs,KatTups h vs fs/\fs.length=vs.length/\∀v∈fs,∃i t,v=ae.int i t:=by
 induction t with
 |nil=>exact⟨[],trivial,rfl,λ_ h=>nomatch h⟩
 | @cons v vs k ks a t ih=>
  obtain⟨fs,k1,k2,k3⟩:=ih λk hk=>E8 k (aO _ hk)
  obtain⟨b,o,items,n,rfl,ho,hc,hd,hi⟩:=a;obtain⟨l⟩:=items;cases hi with
  |nil=>exact absurd rfl (E8 [] aL)
  |cons i t _=>exact⟨.int i t::fs,KatTups.cons ho hc hd rfl k1,by simp[k2],λw hw=>(aM.mp hw).elim (λz=>⟨i,t,z⟩) (k3 w)⟩
theorem kind_all{vs:List ae}{ks:List (List Int)}{Q:SortKind->af->Prop}(t:b8 s.heap vs ks)(h1:0<vs.length)(E8:∀k∈ks,k≠[])(h:Q (tuples' true) s):aq M A (keyKind' vs.toArray) Q E s:=by
 obtain⟨fs,k1,k2,k3⟩:=t.firsts E8;refine kat_kind (T:=.type "int") (fs:=fs) k1 (by lia) (λv hv=>?_) (by decide) ?_
 ·obtain⟨i,t,rfl⟩:=k3 v hv;exact Looks.of_pure rfl
 ·have hb:((ae.type "int") != ae.type "tuple")=true:=by decide
  rw[hb];exact h
theorem r_{prog:aB}{w:az}{Q:Bool->af->Prop}{fin:Bool}:∀{xs ys:List ae}{ns ms:List Int} (i:Nat),bg xs ns->bg ys ms->fin=decide (xs.length<ys.length)->Q (ltL ns ms) s->KatLex prog w A true fin Q (xs.zip ys) i s
 |_,_,_,_,i,.nil,.nil,hf,h=>kat_nil (by rw[hf];exact h)
 |_,_,_,_,i,.nil,.cons _ _ _,hf,h=>kat_nil (by rw[hf];exact h)
 |_,_,_,_,i,.cons _ _ _,.nil,hf,h=>kat_nil (by rw[hf];exact h)
 |_,_,_,_,i,.cons (vs:=xs) (ns:=ns) a t hx,.cons (vs:=ys) (ns:=ms) b u hy,hf,h=>by
  rw[List.zip_cons_cons];refine kat_cons (SeqAt.EqAt.int_int _ _ _ _ prog w _ _ ?_);unfold ltL at h;by_cases hc:a=b
  ·rw[if_pos hc]at h;rw[show (a==b)=true by simp[hc]];exact kat_yes (r_ (i+1) hx hy (by rw[hf];simp) h)
  ·rw[if_neg hc]at h;rw[show (a==b)=false by simp[hc]];refine kat_no ?_;cases i with
   |zero=>exact oneLt_int h
   |succ i=>exact kat_one _ _ (lt_int h)
end
noncomputable def cX(h:Heap)(x:ao):List Int:=open Classical in if z:∃k,TupAt h x.1 k then z.choose else []
theorem TupAt.keep{h h':Heap}(k:∀b o,h.get? b=some o->h'.get? b=some o){v:ae}{ns:List Int}(t:TupAt h v ns):TupAt h' v ns:=by
 obtain⟨a,o,its,n,e1,e2,e3⟩:=t;exact⟨a,o,its,n,e1,k _ _ e2,e3⟩
theorem b8.keep{h h':Heap}(k:∀b o,h.get? b=some o->h'.get? b=some o){vs:List ae}{ks:List (List Int)}(t:b8 h vs ks):b8 h' vs ks:=by
 induction t with
 |nil=>exact .nil
 |cons a _ ih=>exact .cons (a.keep k) ih
theorem iQ{h:Heap}{x:ao}(z:∃k,TupAt h x.1 k):TupAt h x.1 (cX h x):=by
 unfold cX;rw[dif_pos z];exact z.choose_spec
theorem xn{prog:aB}{w:az}{A:aD}{s:af}{h0:Heap}{l:List ao}(hk:∀b o,h0.get? b=some o->s.heap.get? b=some o)(hl:∀x∈l,∃k,TupAt h0 x.1 k)(hu:A.units<cLine):Cmp prog w A s oneType' (·∈l) (λx y=>ltL (cX h0 x) (cX h0 y)):=
 ⟨λx y hx hy Q h=>by
  obtain⟨a,o,its,n,e1,e2,e3,e4,e5⟩:=(iQ (hl x hx)).keep hk;obtain⟨a',o',its',n',f1,f2,f3,f4,f5⟩:=(iQ (hl y hy)).keep hk;rw[keyLt'_oneType,e1,f1];exact AJ ⟨o,e2,e3,n,e4⟩ ⟨o',f2,f3,n',f4⟩ e5 f5 hu h,
  λ_ _ h=>jr h,λ_ _ _ h1 h2=>jj h1 h2⟩
theorem wV{prog:aB}{w:az}{A:aD}{s:af}{h0:Heap}{l:List ao}(hk:∀b o,h0.get? b=some o->s.heap.get? b=some o)(hl:∀x∈l,∃k,TupAt h0 x.1 k):Cmp prog w A s (tuples' true) (·∈l) (λx y=>ltL (cX h0 x) (cX h0 y)):=
 ⟨λx y hx hy Q h=>by
  obtain⟨a,o,its,n,e1,e2,e3,e4,e5⟩:=(iQ (hl x hx)).keep hk;obtain⟨a',o',its',n',f1,f2,f3,f4,f5⟩:=(iQ (hl y hy)).keep hk;rw[e1,f1];refine kat_lt e2 e4 f2 f4 (r_ 0 e5 f5 ?_ h);rw[bb,bb],
  λ_ _ h=>jr h,λ_ _ _ h1 h2=>jj h1 h2⟩
theorem sI{h:Heap}:∀(l:List ao),(∀x∈l,x.1=x.2/\∃k,TupAt h x.1 k)->b8 h (l.map (·.2)) (l.map (cX h))
 | [],_=>.nil
 |x::l,z=>.cons (by have:=z x aL;show TupAt h x.2 _;rw[<-this.1];exact iQ this.2) (sI l λy hy=>z y (aO _ hy))
theorem oC{LT:ao->ao->Bool}{R:ao->Int}{a:Array ao}(S:Seg R a 0 a.size)(K:∀x∈a.toList,∀y∈a.toList,LT x y=decide (R x<R y)):a.toList.Pairwise λx y=>LT y x=false:=by
 rw[List.pairwise_iff_getElem];intro i j hi hj E1;rw[K _ (List.getElem_mem hj) _ (List.getElem_mem hi)];rw[bb]at hi hj;have:=S i j (by lia) hj;unfold Kr at this;have e1:=qm hi;have e2:=qm hj;rw[Array.getElem?_eq_getElem hi]at e1;rw[Array.getElem?_eq_getElem hj]at e2;injection e1 with e1
 injection e2 with e2
 rw[Nat.zero_add,Nat.zero_add,<-e1,<-e2]at this;rw[Array.getElem_toList,Array.getElem_toList];exact decide_eq_false (by lia)
section
variable{prog:aB}{w:az}{A:aD}{E:ae->af->Prop}{s:af}
theorem AW{h0:Heap}{a:Addr}{vs:List ae}{ks:List (List Int)}{P:Fin->af->Prop}(Fj:s.heap.get? a=some (aI "list" vs.toArray 0))(keep:∀b o,h0.get? b=some o->s.heap.get? b=some o)(JY:∀b o,h0.get? b=some o->b≠a)(h2:2<=vs.length)(hz:vs.length<=aK)(t:b8 h0 vs ks)(Ij:ks.head? = some []\/∀k∈ks,k≠[])(hu:A.units<cLine)
  (h:∀(out:List ae) (GV:List (List Int)),out.Perm vs->b8 h0 out GV->GV.Pairwise (λa b=>ltL b a=false)->P (.done (.ret .none)) {s with heap:=sortedHeap s.heap a vs out.toArray}) :
  aq (ar prog w) A (Builtin.«list.sort» ⟨[.ref a],[]⟩) P E s:=by
 rw[list_sort_plain];refine ah (listItems_at  Fj rfl ?_);refine ah (listUpdate_at  Fj rfl ?_ (by rw[a7];exact hz) (bz _));obtain⟨e1,G4⟩:∃e1,(s.heap.update a (br λ_=>#[])).get? a=some (aI "list" #[] e1):=⟨_,get?_update_seq Fj (λ_=>#[])⟩
 refine ah (seqEpoch_at G4 rfl ?_);refine ah (wpAny_newTuple ?_ (by show vs.length<=_;exact hz));refine ah (wpAny_newList ?_ (bz _));refine bO ?_;have EZ:a<s.heap.objs.size:=aP Fj;have k6:∀b o,h0.get? b=some o->(((s.heap.update a (br λ_=>#[])).push (aI "tuple" vs.toArray 0)).push (aI "list" #[] 0)).get? b=some o:=λb o q=>
  Heap.get?_push_of_some _ (Heap.get?_push_of_some _ (by rw[Heap.get?_update_ne _ _ _ _ (JY b o q)];exact keep b o q))
 have G5:(((s.heap.update a (br λ_=>#[])).push (aI "tuple" vs.toArray 0)).push (aI "list" #[] 0)).get? a=some (aI "list" #[] e1):=Heap.get?_push_of_some _ (Heap.get?_push_of_some _ G4);show aq (ar prog w) _ _ _ _ {s with heap:=((s.heap.update a (br λ_=>#[])).push (aI "tuple" vs.toArray 0)).push (aI "list" #[] 0)};dsimp only;have GR:¬ vs.toArray.size<2:=by rw[a7];lia
 rw[if_neg GR,if_neg GR];have pz:(vs.toArray.zip vs.toArray)=pairsOf vs:=rfl;have hx:∀x∈(pairsOf vs).toList,x.1=x.2/\∃k,TupAt h0 x.1 k:=λx hx=>by
  rw[pairsOf_toList]at hx;obtain⟨b1,b2⟩:=mem_zip_self hx;exact⟨b1,t.mem _ b2⟩
 obtain⟨κ,kk,C⟩:∃κ,(∀Q:SortKind->af->Prop,Q κ {s with heap:=((s.heap.update a (br λ_=>#[])).push (aI "tuple" vs.toArray 0)).push (aI "list" #[] 0)}->aq (ar prog w) A (keyKind' vs.toArray) Q E {s with heap:=((s.heap.update a (br λ_=>#[])).push (aI "tuple" vs.toArray 0)).push (aI "list" #[] 0)})/\Cmp prog w A {s with heap:=((s.heap.update a (br λ_=>#[])).push (aI "tuple" vs.toArray 0)).push (aI "list" #[] 0)} κ (·∈(pairsOf vs).toList) (λx y=>ltL (cX h0 x) (cX h0 y)):=by
  rcases Ij with hh|hh
  ·refine⟨oneType',λQ q=>?_,xn k6 (λx z=>(hx x z).2) hu⟩;cases ks with
   |nil=>cases hh
   |cons k ks=>
    cases hh;exact C5 (t.keep k6) q
  ·exact⟨tuples' true,λQ q=>kind_all (t.keep k6) (by lia) hh q,wV k6 λx z=>(hx x z).2⟩
 refine ah (kk _ ?_);have K:=(t4 (cX h0)).rank (pairsOf vs).toList;refine ah (bD (ny (Q:=λ_ st'=>(ag st').Perm (pairsOf vs)/\failedOf st'=none/\Seg (jX (λx y=>ltL (cX h0 x) (cX h0 y)) (pairsOf vs).toList) (ag st') 0 (pairsOf vs).size) C K (λ_ z=>z) rfl rfl rfl rfl (by rw[pairsOf_size];exact h2) λst' z1 z2 z3=>⟨z1,z2,z3⟩) ?_ λ_ _ e=>e);rintro⟨⟨⟩,st'⟩ s' ⟨rfl,pm,fl,sg⟩;dsimp only;have pl:=Array.perm_iff_toList_perm.mp pm;have om:((ag st').map (·.2))=((ag st').toList.map (·.2)).toArray:=by
  generalize ag st'=z;apply Array.toList_inj.mp;rw[Array.toList_map]
 have op:((ag st').toList.map (·.2)).Perm vs:=by
  have:=pl.map (·.2)
  rwa[pairsOf_toList,List.map_snd_zip (aF _)]at this
 have ht:=sI (ag st').toList λx z=>hx x (pl.mem_iff.mp z)
 have hs:=oC (LT:=λx y=>ltL (cX h0 x) (cX h0 y)) (R:=jX (λx y=>ltL (cX h0 x) (cX h0 y)) (pairsOf vs).toList) (a:=ag st') (by rw[pm.size_eq];exact sg) λx z1 y z2=>K.rk x y (pl.mem_iff.mp z1) (pl.mem_iff.mp z2)
 have fin:=h _ _ op ht (by rw[List.pairwise_map];exact hs);refine ah (seqEpoch_at G5 rfl ?_);refine ah (listUpdate_at G5 rfl ?_ (bz _) (by rw[om,a7,op.length_eq];lia));rw[fl];simp only[bne_self_eq_false,bp,if_false];refine aC ?_;rw[om];exact fin
theorem DY{l:Addr}{vs:List ae}{ks:List (List Int)}{Q:ae->af->Prop}(hl:s.heap.IsList l vs.toArray)(h2:2<=vs.length)(hz:vs.length<=aK)(t:b8 s.heap vs ks)(Ij:ks.head? = some []\/∀k∈ks,k≠[])(hu:A.in1.in1.units<cLine)
  (h:∀(out:List ae) (GV:List (List Int)),out.Perm vs->b8 s.heap out GV->GV.Pairwise (λa b=>ltL b a=false)->Q (.ref (s.heap.objs.size+1)) {s with heap:=sortedAll s.heap vs out.toArray}) :
  aq (ar prog w) A (call (.builtin "sorted") [.ref l]) Q E s:=by
 refine Calls.call_function_entry kind_sorted plain_sorted entry_sorted (args_sorted1 _) ?_;unfold Builtin.«sorted»;refine ah (m:=checkCount "sorted" 1 1 _) (aC ?_);refine ah (collect_list hl ?_ hz);refine ah (wpAny_newList ?_ hz);have hsz:((s.heap.push (aI "list" #[] 0)).update s.heap.objs.size (br (· ++ vs.toArray))).objs.size=s.heap.objs.size+1:=by rw[Heap.size_update,size_push']
 have Fj:(((s.heap.push (aI "list" #[] 0)).update s.heap.objs.size (br (· ++ vs.toArray))).push (aI "list" vs.toArray 0)).get? (s.heap.objs.size+1)=some (aI "list" vs.toArray 0):=by rw[<-hsz];exact Heap.get?_push_size _ rfl
 have keep:∀b o,s.heap.get? b=some o->(((s.heap.push (aI "list" #[] 0)).update s.heap.objs.size (br (· ++ vs.toArray))).push (aI "list" vs.toArray 0)).get? b=some o:=λb o q=>by
  have EZ:b<s.heap.objs.size:=aP q;rw[Heap.get?_push_ne _ _ _ (by rw[hsz];exact bq (cN EZ)),Heap.get?_update_ne _ _ _ _ (bq EZ),Heap.get?_push_ne _ _ _ (bq EZ)];exact q
 show aq _ _ _ _ _ {s with heap:=((s.heap.push (aI "list" #[] 0)).update s.heap.objs.size (br (· ++ vs.toArray))).push (aI "list" vs.toArray 0)};rw[hsz];refine ah (bO (cQ slot_list_sort ⟨_,Fj,rfl⟩ entry_list_sort ?body (args_list_sort _)))
 case body=>
  have JY:∀b o,s.heap.get? b=some o->b≠s.heap.objs.size+1:=λb o q=>bq (cN (aP q))
  refine AW (h0:=s.heap) Fj keep JY h2 hz t Ij hu λout GV a1 a2 a3=>⟨_,rfl,aC ⟨_,rfl,h out GV a1 a2 a3⟩⟩
end
noncomputable def c_(x:ao):Int:=match x.1 with
 | .int n _=>n
 |_=>0
noncomputable def fz:ae->Int
 | .int n _=>n
 |_=>0
theorem rE:∀{acc:List ae},(∀v∈acc,∃n t,v=.int n t)->bg acc (acc.map fz)
 | [],_=>.nil
 |v::acc,h=>by
  obtain⟨n,t,rfl⟩:=h v aL;exact .cons n t (rE λu hu=>h u (aO _ hu))
theorem lT{vs:List ae}{ns:List Int}(h:bg vs ns):(∀v∈vs,∃n t,v=.int n t)/\ns=vs.map fz:=by
 induction h with
 |nil=>exact⟨λv h=>(by cases h),rfl⟩
 |cons n t _ ih=>
  refine⟨λv hv=>?_,by rw[aJ,<-ih.2];rfl⟩;rcases aM.mp hv with rfl|hv
  ·exact⟨n,t,rfl⟩
  ·exact ih.1 v hv
section
variable{prog:aB}{w:az}{A:aD}{E:ae->af->Prop}{s:af}
theorem yH{l:List ao}(hl:∀x∈l,∃n t,x.1=.int n t):Cmp prog w A s oneType' (·∈l) (λx y=>decide (c_ x<c_ y)):=
 ⟨λx y hx hy Q q=>by
  obtain⟨n,t,e⟩:=hl x hx;obtain⟨m,u,e'⟩:=hl y hy;have q:Q (decide (c_ x<c_ y)) s:=q;rw[c_,c_,e,e']at q;rw[e,e',keyLt'_oneType];exact oneLt_int q,
 λx y h=>by simp at h ⊢;lia,λx y z h1 h2=>by simp at h1 h2 ⊢;lia⟩
theorem EO{a:Addr}{vs:List ae}{ns:List Int}{P:Fin->af->Prop}(Fj:s.heap.get? a=some (aI "list" vs.toArray 0))(hI:bg vs ns)(hz:vs.length<=aK)
  (h:∀(out:Array ae) (Fl:List Int),bg out.toList Fl->Fl.Perm ns->Fl.Pairwise (·<=·)->P (.done (.ret .none)) {s with heap:=sortedHeap s.heap a vs out}) :
  aq (ar prog w) A (Builtin.«list.sort» ⟨[.ref a],[]⟩) P E s:=by
 by_cases h2:vs.length<2
 ·refine L2.pS Fj h2 (h vs.toArray ns hI .rfl ?_);have hl:ns.length<2:=by rw[(lT hI).2,aV];exact h2
  match ns,hl with
  | [],_=>exact .nil
  | [_],_=>exact List.pairwise_singleton _ _
 rw[list_sort_plain];refine ah (listItems_at  Fj rfl ?_);refine ah (listUpdate_at  Fj rfl ?_ (by rw[a7];exact hz) (bz _));obtain⟨e1,G4⟩:∃e1,(s.heap.update a (br λ_=>#[])).get? a=some (aI "list" #[] e1):=⟨_,get?_update_seq Fj (λ_=>#[])⟩
 refine ah (seqEpoch_at G4 rfl ?_);refine ah (wpAny_newTuple ?_ (by show vs.length<=_;exact hz));refine ah (wpAny_newList ?_ (bz _));refine bO ?_;have G5:(((s.heap.update a (br λ_=>#[])).push (aI "tuple" vs.toArray 0)).push (aI "list" #[] 0)).get? a=some (aI "list" #[] e1):=Heap.get?_push_of_some _ (Heap.get?_push_of_some _ G4);show aq (ar prog w) _ _ _ _ {s with heap:=((s.heap.update a (br λ_=>#[])).push (aI "tuple" vs.toArray 0)).push (aI "list" #[] 0)};dsimp only;have GR:¬ vs.toArray.size<2:=by rw[a7];exact h2
 rw[if_neg GR,if_neg GR];have hv:=(lT hI).1;have hx:∀x∈(pairsOf vs).toList,x.1=x.2/\∃n t,x.1=.int n t:=λx hx=>by
  rw[pairsOf_toList]at hx;obtain⟨b1,b2⟩:=mem_zip_self hx;exact⟨b1,hv _ b2⟩
 have kk:keyKind' vs.toArray=pure oneType':=by
  match vs,h2,hI with
  | [],h2,_=>exact absurd (by simp) h2
  | [_],h2,_=>exact absurd (by simp) h2
  |v₁::v₂::rest,_,hI=>exact keyKind_ints hI
 rw[kk];refine ah (aC ?_);have K:Rk (·∈(pairsOf vs).toList) (λx y=>decide (c_ x<c_ y)) c_:=⟨λ_ _ _ _=>rfl⟩
 refine ah (bD (ny (Q:=λ_ st'=>(ag st').Perm (pairsOf vs)/\failedOf st'=none/\Seg c_ (ag st') 0 (pairsOf vs).size) (yH λx z=>(hx x z).2) K (λ_ z=>z) rfl rfl rfl rfl (by rw[pairsOf_size];lia) λst' z1 z2 z3=>⟨z1,z2,z3⟩) ?_ λ_ _ e=>e);rintro⟨⟨⟩,st'⟩ s' ⟨rfl,pm,fl,sg⟩;dsimp only;have pl:=Array.perm_iff_toList_perm.mp pm;have om:((ag st').map (·.2))=((ag st').toList.map (·.2)).toArray:=by
  generalize ag st'=z;apply Array.toList_inj.mp;rw[Array.toList_map]
 have op:((ag st').toList.map (·.2)).Perm vs:=by
  have:=pl.map (·.2)
  rwa[pairsOf_toList,List.map_snd_zip (aF _)]at this
 have hs:=oC (LT:=λx y=>decide (c_ x<c_ y)) (R:=c_) (a:=ag st') (by rw[pm.size_eq];exact sg) λx z1 y z2=>rfl
 have fin:=h ((ag st').map (·.2)) (((ag st').toList.map (·.2)).map fz) (by rw[om];exact rE λv Ik=>hv v (op.mem_iff.mp Ik)) (by rw[(lT hI).2];exact op.map _) (by
  rw[bh,List.pairwise_map];refine(List.Pairwise.and_mem.mp hs).imp λ{x y} ⟨m1,m2,q⟩=>?_
  have q:=of_decide_eq_false q;have e1:=(hx x (pl.mem_iff.mp m1)).1;have e2:=(hx y (pl.mem_iff.mp m2)).1;show fz x.2<=fz y.2;rw[<-e1,<-e2];have d:∀z:ao,fz z.1=c_ z:=λz=>by rw[fz.eq_def,c_]
  rw[d,d];lia)
 refine ah (seqEpoch_at G5 rfl ?_);refine ah (listUpdate_at G5 rfl ?_ (bz _) (by rw[om,a7,op.length_eq];lia));rw[fl];simp only[bne_self_eq_false,bp,if_false];exact aC fin
end
end TS
namespace HT
open PySem PySem.Spec PyProof.Rows L2
section
variable{prog:aB}{w:az}{A:aD}{E:ae->af->Prop}{s:af}
theorem Dc{l:Addr}{its:Array ae}{Q:List ae->af->Prop}(ht:IsTup s.heap l its)(hz:its.size<=aK)
  (h:Q its.toList {s with heap:=(s.heap.push (aI "list" #[] 0)).update s.heap.objs.size (br (· ++ its))}) :
  aq (ar prog w) A (collect (.ref l)) Q E s:=by
 obtain⟨o,ho,hc,n,hd⟩:=id ht;unfold collect;apply ah;apply wpAny_runValue;apply codeAny_builtin entry_proto_collect';show aq _ _ (do again (.builtin "list.__iadd__" ⟨[<-newList [],.ref l],[]⟩)) _ _ s;apply ah;refine wpAny_newList (hsz:=bz _) ?_;refine aC ⟨Code.quiet_builtin _ (by decide +kernel),?_⟩;apply codeAny_builtin entry_list_iadd';show aq _ _ (Builtin.List.listExtendWith (.ref s.heap.objs.size) (.ref l) (.ref s.heap.objs.size)) _ _ ({s with heap:=s.heap.push (aI "list" #[] 0)}:af);have hS:(s.heap.push (aI "list" #[] 0)).get? s.heap.objs.size=some (aI "list" #[] 0):=Heap.get?_push_size _ rfl;have hT:=Heap.get?_push_of_some (aI "list" #[] 0) ho;unfold Builtin.List.listExtendWith;apply ah;refine wpAny_typeOf (T:="tuple") ⟨o,hT,hc⟩ ?_;rw[if_pos (by simp)];apply ah;refine listItems_at hT hd ?_;apply ah;refine listItems_at hS rfl ?_;rw[if_neg (by simp)];apply ah;refine listUpdate_at hS rfl ?_ (bz _) (by show (#[]++its).size<=aK+1;rw[Array.size_append];show 0+its.size<=_;lia);apply aC;show aq (ar prog w) A (load s.heap.objs.size>>=λo=>match o.data with
  | .seq xs _=>pure xs.toList
  |_=>unsupported "internal:collect") Q E _
 apply ah;refine wpAny_load (get?_update_seq hS _) ?_;show aq _ _ (pure ((#[]:Array ae)++its).toList) Q E _;rw[show ((#[]:Array ae)++its).toList=its.toList by simp];exact aC h
theorem Ae{l:Addr}{vs:List ae}{ns:List Int}{Q:ae->af->Prop}(ht:IsTup s.heap l vs.toArray)(hI:bg vs ns)(Ig:vs.length<64)
  (h:∀(out:Array ae) (Fl:List Int),bg out.toList Fl->Fl.Perm ns->Fl.Pairwise (·<=·)->Q (.ref (s.heap.objs.size+1)) {s with heap:=sortedAll s.heap vs out}) :
  aq (ar prog w) A (call (.builtin "sorted") [.ref l]) Q E s:=by
 refine Calls.call_function_entry kind_sorted plain_sorted entry_sorted (args_sorted1 _) ?_;unfold Builtin.«sorted»;apply ah (m:=checkCount "sorted" 1 1 _);apply aC;apply ah;refine Dc ht (by rw[a7,bx];lia) ?_;apply ah;refine wpAny_newList (hsz:=by rw[bx];show vs.length<=_;lia) ?_;have hz:((s.heap.push (aI "list" #[] 0)).update s.heap.objs.size (br (· ++ vs.toArray))).objs.size=s.heap.objs.size+1:=by rw[Heap.size_update,size_push']
 have hL:(((s.heap.push (aI "list" #[] 0)).update s.heap.objs.size (br (· ++ vs.toArray))).push (aI "list" vs.toArray 0)).get? (s.heap.objs.size+1)=some (aI "list" vs.toArray 0):=hz▸Heap.get?_push_size _ rfl;show aq _ _ _ _ _ ({s with heap:=((s.heap.push (aI "list" #[] 0)).update s.heap.objs.size (br (· ++ vs.toArray))).push (aI "list" vs.toArray 0)}:af);rw[hz];apply ah;apply bO;refine cQ slot_list_sort ⟨_,hL,rfl⟩ entry_list_sort (list_sort_tree hL hI Ig λout Fl a1 a2 a3=>⟨_,rfl,?_⟩) (args_list_sort _);exact aC ⟨_,rfl,h out Fl a1 a2 a3⟩
end
end HT
namespace L2
open PySem PySem.Spec PyProof.Rows
variable{X:Cx}
def Ej(K:aA):List V->Hp->VK->Prop:=λvs H Q=>∃(l:Addr) (ns:List Int),vs=[.ref l]/\SqT K H l (ns.map V.int)/\ns.length<64/\∀(D:Addr) (ms:List Int),H D=none->ms.Perm ns->ms.Pairwise (·<=·)->Q (.ref D) (upd H D (.lst (ms.map V.int)))
theorem BK:zf X (.builtin "sorted") (Ej X.K):=by
 intro pins s σ H xs us Q I r ⟨l,ns,e,hl,Ig,q⟩;subst e;obtain⟨u,rfl,ru⟩:=r.one;cases ru;obtain⟨its,rv,ht,hz⟩:=I.tuple hl;have hI:=intsAre_of rv;have hle:=bg.length hI;refine HT.Ae ht hI (by rw[hle];exact Ig) λout Fl a1 a2 a3=>?_
 obtain⟨c,hc⟩:=sortedAll_at s.heap its out;have keep:∀b o,s.heap.get? b=some o->(sortedAll s.heap its out).get? b=some o:=λb o e=>sortedAll_old e
 have hn:H (s.heap.objs.size+1)=none:=I.hok.fresh (Nat.le_succ _);have LW:Fl.length=ns.length:=a2.length_eq;exact⟨.ref (s.heap.objs.size+1),_,I.laid (t':=s.toks) (o:=.lst (Fl.map V.int)) keep (Nat.le_succ _) ⟨by rw[aV,bx];lia,out.toList,c,mM a1,by rw[Array.toArray_toList];exact hc⟩,rfl,q _ Fl hn a2 a3⟩
noncomputable def atK(kvs:List (Int×Int))(i:Int):Option Int:=(kvs.find? λp=>decide (p.1=i)).map (·.2)
noncomputable def b9(kvs:List (Int×Int))(i v:Int):List (Int×Int):=if (kvs.any λp=>decide (p.1=i))=true then kvs.map (λp=>if p.1=i then (p.1,v)else p)else kvs++[(i,v)]
section
variable{X:Cx}
theorem Bm{prog:aB}{w:az}{A:aD}{E:ae->af->Prop}{s:af}{T:String}{r d:Addr}{n:Nat}{P:Nat->ae->Prop}{OK:Heap->Prop}{R:List ae->af->Prop}(K:PySem.W.KdlSrc prog w T r d n P OK)(hh:A.handled=none)(hok:OK s.heap)(hn:n<=aK)
  (h:∀(h':Heap) (tk:Nat) (acc:Array ae),s.heap.objs.size<h'.objs.size->(∀b o,s.heap.get? b=some o->h'.get? b=some o)->ItemsOf P acc n->R acc.toList {s with heap:=h',toks:=tk}) :
  aq (ar prog w) A (collect (.ref r)) R E s:=by
 have EZ:=K.there _ hok;unfold collect;refine ah (wpAny_runValue (codeAny_builtin F.entry_proto_collect ?_));rw[aD.under_plainId F.plain_proto_collect _];show aq _ A.in1 (newList []>>=λl=>again (.builtin "list.__iadd__" ⟨[l,.ref r],[]⟩)) _ _ s;refine ah (wpAny_newObj_type ?_);refine aC ⟨plainId_quiet F.plain_list_iadd _,codeAny_builtin F.entry_list_iadd ?_⟩;rw[aD.under_plainId F.plain_list_iadd _];have hS:(s.heap.push {cls:=.type "list",data:=.seq ([]:List ae).toArray}).get? s.heap.objs.size=some {cls:=.type "list",data:=.seq #[]}:=Heap.get?_push_size _ rfl;show aq _ A.in1 (Builtin.List.listExtendWith (.ref s.heap.objs.size) (.ref r) (.ref s.heap.objs.size)) _ _ _;refine bD (PySem.W.kdl_extend (A:=A) (R:=λq s'=>∃h' tk acc c,q=.ok (.ret (.ref s.heap.objs.size))/\s'={s with heap:=h',toks:=tk}/\(∀b o,s.heap.get? b=some o->h'.get? b=some o)/\h'.get? s.heap.objs.size=some {cls:=.type "list",data:=.seq acc c}/\ItemsOf P acc n)
  K hh (K.keep _ _ hok λb _ o e=>Heap.get?_push_of_some _ e) _ (Nat.ne_of_gt EZ.1) (Nat.ne_of_gt EZ.2) (.ref s.heap.objs.size) 0 hS
  (λh' tk acc c k1 k2 k3=>⟨h',tk,acc,c,rfl,rfl,λb o e=>k1 b o (bq (aP e)) (Heap.get?_push_of_some _ e),k2,k3⟩) hn) (λf s' x=>?_) λe s' x=>?_
 ·have fin:∀{q:Result}{s':af},(∃h' tk acc c,q=.ok (.ret (.ref s.heap.objs.size))/\s'={s with heap:=h',toks:=tk}/\(∀b o,s.heap.get? b=some o->h'.get? b=some o)/\h'.get? s.heap.objs.size=some {cls:=.type "list",data:=.seq acc c}/\ItemsOf P acc n)->∃u,q=.ok (.ret u)/\aq (ar prog w) A (match (u:ae)with|aY a=>load a>>=λo=>(match o.data with | .seq xs _=>pure xs.toList|_=>unsupported "internal:collect")|_=>unsupported "internal:collect") R E s':=by
   rintro q s' ⟨h',tk,acc,c,rfl,rfl,k1,k2,k3⟩;exact⟨_,rfl,ah (wpAny_load k2 (aC (h h' tk acc (aP k2) k1 k3)))⟩
  cases f with
  |done f=>
   obtain⟨u,e,z⟩:=fin x;cases e;exact z
  |again c=>
   refine⟨x.1,codeAny_mono x.2 λq s2 y=>?_⟩;obtain⟨u,rfl,z⟩:=fin y;exact z
 ·obtain⟨_,_,_,_,z,_⟩:=x;cases z
theorem oj{prog:aB}{w:az}{A:aD}{E:ae->af->Prop}{s:af}{e b:Expr}{o i:ae}{T id:String}{Q:ae->af->Prop}(hT:s.TypeIs o T)(hl:typeLookup (.type T) "__getitem__" = pure (some (.builtin id)))
  (h:aq (ar prog w) A (getItem o i) Q E s) (hs:subscripted b false o i=operate [o,i] (getItem o i)):aq (ar prog w) A (subscriptTail e b o i) Q E s:=by
 unfold subscriptTail;refine ah ?_;rw[getitemInPython_of_ne hT.not_modules];refine ah (wpAny_specialOf hT hl ?_);have fin:aq (ar prog w) A (subscripted b false o i) (λr s'=>aq (ar prog w) A (letTemporaryGo e o r>>=λ_=>pure r) Q E s') E s:=by
  rw[hs];exact wpAny_operating (bD h (λr s' z=>ah (wpAny_letTemporaryGo (aC z))) λ_ _ x=>x)
 first
  |exact aC (ah fin)
  |exact ah (aC (ah fin))
  |exact ah fin
theorem fN.or{r r':V->V->V->Hp->(Hp->Prop)->Prop}(h:fN X r)(h':fN X r'):fN X (λx y v H Q=>r x y v H Q\/r' x y v H Q):=by
 intro pins s σ H o i v ov iv u Q I ro ri rv q;rcases q with q|q
 ·exact h pins s σ H o i v ov iv u Q I ro ri rv q
 ·exact h' pins s σ H o i v ov iv u Q I ro ri rv q
end
end L2
namespace WD
open PySem PySem.Spec PyProof.Rows
def Raw(h:Heap)(d:Addr)(es:Array DictEntry)(ep:Nat):Prop:=∃o,h.get? d=some o/\o.ExactDict/\o.data=.dict es ep
noncomputable def itO(d:Addr)(i n ep:Nat):Obj:={cls:=.type "dict_keyiterator",data:=.fields #[.ref d,.int i 0,.int n 0,.int ep 0]}
section
variable{prog:aB}{w:az}{A:aD}{E:ae->af->Prop}{s:af}{d I:Addr}{es:Array DictEntry}{ep:Nat}
theorem Raw.typeIs(r:Raw s.heap d es ep):s.TypeIs (.ref d) "dict":=by
 obtain⟨o,h1,h2,h3⟩:=r;exact⟨o,h1,h2.1⟩
theorem nX{Q:ae->af->Prop}(hd:(d==sysModules)=false)(r:Raw s.heap d es ep)
  (h:Q (.ref s.heap.objs.size) {s with heap:=s.heap.push (itO d 0 es.size ep)}):aq (ar prog w) A (pyIter (.ref d)) Q E s:=by
 have hT:=r.typeIs;obtain⟨o,h1,h2,h3⟩:=r;refine wpAny_pyIter_slot hT PySem.F.slot_dict_iter (cQ PySem.F.slot_dict_iter hT PySem.F.entry_dict_iter ?_ (PySem.F.args_dict_iter_1 _));unfold Builtin.«dict.__iter__» Builtin.Dict.dictSlotNone;refine ah (ah (wpAny_notOrdered_dict hT ?_));unfold slotArgs;simp only[List.isEmpty_nil,Bool.not_true,bp,↓reduceIte,List.length_nil,bne_self_eq_false];refine ah (aC (aC ?_));unfold Builtin.Dict.addrOf Builtin.Dict.showsAll;refine ah (aC ?_);rw[hd];simp only[bp,↓reduceIte];refine ah (aC ?_);refine ah (wpAny_dictEntries h1 h3 ?_);refine ah (wpAny_dictEpoch h1 h3 ?_);unfold newFields;refine ah (wpAny_newObj_type (aC ⟨_,rfl,"dict_keyiterator",_,⟨_,Heap.get?_push_size _ rfl,rfl⟩,PySem.F.slot_dict_keyiterator_next.lookup,?_⟩));exact h
def StD(I d:Addr)(es:Array DictEntry)(ep i:Nat)(h:Heap):Prop:=h.get? I=some (itO d i es.size ep)/\Raw h d es ep
theorem next_item(E8:d≠I){i:Nat}{e:DictEntry}(st:StD I d es ep i s.heap)(he:es[i]? = some e){Q:Option ae->af->Prop}
  (hQ:∀h',StD I d es ep (i+1) h'->Heap.SameBut I s.heap h'->Q (some e.key) {s with heap:=h'}):aq (ar prog w) A (pyNext (.ref I)) Q E s:=by
 obtain⟨hI,r⟩:=st;have hT:s.TypeIs (.ref I) "dict_keyiterator":=⟨_,hI,rfl⟩
 obtain⟨o,h1,h2,h3⟩:=r;unfold pyNext;refine ah (wpAny_attempt (wpAny_callSpecial?_slot (name:=a9 "__next__") hT PySem.F.slot_dict_keyiterator_next (cQ PySem.F.slot_dict_keyiterator_next hT PySem.F.entry_dict_keyiterator_next ?_ (PySem.F.args_dict_keyiterator_next_1 _))));show aq _ _ (((typeNameOfWhole (.ref I)>>=_)>>=_)>>=_) _ _ s;refine ah (ah (ah (wpAny_typeNameOfWhole_keyiter hT (aC ?_))));show aq _ _ (fieldsOf (.ref I)>>=_) _ _ s;refine ah (wpAny_fieldsOf hI rfl ?_);show aq _ _ (dictEntries d>>=_) _ _ s;refine ah (wpAny_dictEntries h1 h3 ?_);rw[show (((es.size:Nat):Int) != ((es.size:Nat):Int))=false by simp];simp only[bp,if_false];show aq _ _ (dictEpoch d>>=_) _ _ s;refine ah (wpAny_dictEpoch h1 h3 ?_);rw[show (((ep:Nat):Int) != ((ep:Nat):Int))=false by simp];simp only[bp,if_false];refine aC ?_;have hi:(if ((i:Nat):Int)<0 then none else es[((i:Nat):Int).toNat]?)=some e:=by rw[if_neg (by lia),Int.toNat_natCast];exact he
 dsimp only;rw[hi];dsimp only;show aq _ _ ((typeNameOfWhole (.ref I)>>=_)>>=_) _ _ s;refine ah (ah (wpAny_typeNameOfWhole_keyiter hT (aC ?_)));refine ah (wpAny_isOneOf_keyiter hT ?_);show aq _ _ (setField (.ref I) 1 (rawInt ((i:Int)+1))>>=_) _ _ s;refine ah (wpAny_setField hI rfl (by simp) ?_);have KU:(s.heap.update I (Obj.mapFields (·.setIfInBounds 1 (rawInt ((i:Int)+1))))).get? I=some (itO d (i+1) es.size ep):=by
  rw[Heap.get?_update_self _ hI (Obj.isFreed_of_fields (Obj.data_mapFields (by rfl) _))];rfl
 have LX:({s with heap:=s.heap.update I (Obj.mapFields (·.setIfInBounds 1 (rawInt ((i:Int)+1))))}:af).TypeIs (.ref I) "dict_keyiterator":=⟨_,KU,rfl⟩
 refine ah (bO ?_);show aq _ _ (Builtin.Dict_items.isOneOf (.ref I) _>>=_) _ _ _;refine ah (wpAny_isOneOf_keyiter LX ?_);refine aC (aC ⟨e.key,rfl,aC (hQ _ ⟨KU,o,?_,h2,h3⟩ (Heap.SameBut.update ..))⟩);rw[Heap.get?_update_other _ _ (Ne.symm E8)];exact h1
theorem next_end(hh:A.handled=none){i:Nat}(LY:es.size<=i)(st:StD I d es ep i s.heap){Q:Option ae->af->Prop}
  (hQ:∀h',Heap.ExtBut I s.heap h'->Q none {s with heap:=h'}):aq (ar prog w) A (pyNext (.ref I)) Q E s:=by
 obtain⟨hI,r⟩:=st;have hT:s.TypeIs (.ref I) "dict_keyiterator":=⟨_,hI,rfl⟩
 obtain⟨o,h1,h2,h3⟩:=r;unfold pyNext;refine ah (wpAny_attempt (wpAny_callSpecial?_slot (name:=a9 "__next__") hT PySem.F.slot_dict_keyiterator_next (cQ PySem.F.slot_dict_keyiterator_next hT PySem.F.entry_dict_keyiterator_next ?_ (PySem.F.args_dict_keyiterator_next_1 _))));show aq _ _ (((typeNameOfWhole (.ref I)>>=_)>>=_)>>=_) _ _ s;refine ah (ah (ah (wpAny_typeNameOfWhole_keyiter hT (aC ?_))));show aq _ _ (fieldsOf (.ref I)>>=_) _ _ s;refine ah (wpAny_fieldsOf hI rfl ?_);show aq _ _ (dictEntries d>>=_) _ _ s;refine ah (wpAny_dictEntries h1 h3 ?_);rw[show (((es.size:Nat):Int) != ((es.size:Nat):Int))=false by simp];simp only[bp,if_false];show aq _ _ (dictEpoch d>>=_) _ _ s;refine ah (wpAny_dictEpoch h1 h3 ?_);rw[show (((ep:Nat):Int) != ((ep:Nat):Int))=false by simp];simp only[bp,if_false];refine aC ?_;have hi:(if ((i:Nat):Int)<0 then none else es[((i:Nat):Int).toNat]?)=none:=by rw[if_neg (by lia),Int.toNat_natCast];simpa using LY
 dsimp only;rw[hi];dsimp only;show aq _ _ ((typeNameOfWhole (.ref I)>>=_)>>=_) _ _ s;refine ah (ah (wpAny_typeNameOfWhole_keyiter hT (aC ?_)));show aq _ _ (setField (.ref I) 0 .none>>=_) _ _ s;refine ah (wpAny_setField hI rfl (by simp) ?_);show aq _ _ (newExc (.type "StopIteration") []>>=_) _ _ _;refine ah ?_;simp only[newExc,newTuple];refine ah (wpAny_newObj_type ?_ (by size_fits));refine ah (m:=firstArgMember _ _) (wpAny_of_eq (a:=ae.none) (by first|rfl|(simp only[firstArgMember];rfl)) ?_);refine wpAny_newObj_type ?_ (by size_fits);simp only[raiseNew];refine ah (wpAny_handled ?_)
 first|rw[show A.in1.handled=none from hh]|rw[hh]
 refine ah (aC (wpAny_throw ?_));refine ah (wpAny_isInstance (T:="StopIteration") (b:=true) ⟨_,Heap.get?_push_size _ rfl,rfl⟩ isSubtype_stop ?_);exact aC (hQ _ (((Heap.SameBut.update ..).extBut.push _).push _))
end
end WD
namespace WD
open PySem PySem.Spec PyProof.Rows L2
abbrev N4:=(Int×Tok)×(Int×Tok)
noncomputable def nk(x:N4):Int×Int:=(x.1.1,x.2.1)
noncomputable def dG(x:N4):DictEntry:=⟨hashInt x.1.1,.int x.1.1 x.1.2,.int x.2.1 x.2.2⟩
noncomputable def pv(xs:List N4):List (Int×ae):=xs.map λx=>(x.1.1,.int x.2.1 x.2.2)
noncomputable def cf(a:Addr)(xs:List N4)(ep:Nat):HO:=.ext λh=>Raw h a (xs.map dG).toArray ep/\xs.length<=aK/\(a==sysModules)=false/\(xs.map λx=>x.1.1).Nodup
def IsK(H:Hp)(a:Addr)(kvs:List (Int×Int)):Prop:=∃xs ep,H a=some (cf a xs ep)/\xs.map nk=kvs
theorem jy(xs:List N4)(k:Int):dD ((atK (xs.map nk) k).map V.int) (valueAt (pv xs) k):=by
 induction xs with
 |nil=>exact True.intro
 |cons x r ih=>
  unfold atK valueAt pv at *;rw[aJ,aJ,List.find?_cons,List.find?_cons];by_cases e:x.1.1=k
  ·have e1:decide ((nk x).1=k)=true:=decide_eq_true e;have e2:decide (((x.1.1,ae.int x.2.1 x.2.2):Int×ae).1=k)=true:=decide_eq_true e;rw[e1,e2];exact⟨_,rfl⟩
  ·have e1:decide ((nk x).1=k)=false:=decide_eq_false e;have e2:decide (((x.1.1,ae.int x.2.1 x.2.2):Int×ae).1=k)=false:=decide_eq_false e;rw[e1,e2];exact ih
theorem pe{P:aB}{w:az}:∀xs:List N4,Pairs (intKind P w) (xs.map dG) (pv xs)
 | []=>.nil
 |x::r=>.cons (by show ae.isInt x.1.1 (.int x.1.1 x.1.2)=true;simp[ae.isInt]) rfl (pe r)
theorem nB{P:aB}{w:az}:∀{es:List DictEntry}{kvs:List (Int×ae)},Pairs (intKind P w) es kvs->(∀e∈es,∃k,(intKind P w).is k e.key=true/\e.hash=(intKind P w).hash k)->(∀p∈kvs,∃z t,p.2=.int z t)->∃xs:List N4,es=xs.map dG/\kvs=pv xs
 |_,_,.nil,_,_=>⟨[],rfl,rfl⟩
 |e::es,kv::kvs,.cons h1 h2 r,hk,hv=>by
  obtain⟨xs,e1,e2⟩:=nB r (λx hx=>hk x (aO _ hx)) λx hx=>hv x (aO _ hx)
  obtain⟨k,k1,k2⟩:=hk e aL;obtain⟨z,t,e3⟩:=hv kv aL;obtain rfl:k=kv.1:=(intKind P w).inj _ _ _ k1 h1;obtain⟨hs,ky,vl⟩:=e;obtain⟨k0,v0⟩:=kv;dsimp only at *;obtain⟨tk,rfl⟩:∃t,ky=ae.int k0 t:=ae.isInt_shape (k:=k0) (v:=ky) h1;subst e3 h2 k2;exact⟨((k0,tk),(z,t))::xs,by rw[e1];rfl,by rw[e2];rfl⟩
theorem CQ{xs ys:List N4}{k z:Int}{t:Tok}(e:stored (pv xs) k (.int z t)=pv ys):ys.map nk=b9 (xs.map nk) k z:=by
 have f1:∀l:List N4,(pv l).map (λp=>(p.1,TS.fz p.2))=l.map nk:=λl=>by
  rw[pv,bh];rfl
 rw[<-f1 ys,<-e,<-f1 xs];generalize pv xs=l;unfold stored b9;rw[List.any_map];have:(l.any λkv=>decide (kv.1=k))=l.any ((λp:Int×Int=>decide (p.1=k))∘λp=>(p.1,TS.fz p.2)):=rfl;rw[<-this];split
 ·rw[bh,bh];refine List.map_congr_left λp _=>?_
  simp only[Function.comp];split<;>rfl
 ·rw[List.map_append];rfl
section
variable{X:Cx}{pins:List (Addr×Obj)}{σ:L2.St}{H:Hp}{s:af}{a:Addr}{xs:List N4}{ep:Nat}{k z:Int}{u r:ae}{A:aD}{E:ae->af->Prop}
theorem dY(I:Inv X pins σ H s)(e:H a=some (cf a xs ep)):Raw s.heap a (xs.map dG).toArray ep/\xs.length<=aK/\(a==sysModules)=false/\(xs.map λx=>x.1.1).Nodup:=(I.hok a _ e).1
theorem gf(I:Inv X pins σ H s)(e:H a=some (cf a xs ep)):s.heap.DictOf (intKind X.prog X.w) a (pv xs):=by
 obtain⟨⟨o,h1,h2,h3⟩,hl,hd,hn⟩:=dY I e;refine⟨o,_,ep,h1,h2,h3,λx hx=>?_,by rw[List.toList_toArray];exact pe xs,by rw[pv,bh];exact hn⟩;obtain⟨y,_,rfl⟩:=aN.mp (List.mem_toArray.mp hx);exact⟨y.1.1,by show ae.isInt y.1.1 (.int y.1.1 y.1.2)=true;simp[ae.isInt],rfl⟩
theorem so{P:aB}{w:az}{H':Hp}{h':Heap}(z:xs.length<=aK)(hd:(a==sysModules)=false)(hn:(xs.map λx=>x.1.1).Nodup)(r:Raw h' a (xs.map dG).toArray ep):zJ P w H' h' a (cf a xs ep):=
 ⟨⟨r,z,hd,hn⟩,let ⟨o,e,_⟩:=r;⟨o,e⟩,λh1 h2 ⟨⟨o,q1,q2⟩,q3⟩ kk=>⟨⟨o,kk o q1,q2⟩,q3⟩⟩
theorem wY{P:aB}{w:az}{h':Heap}{kvs:List (Int×ae)}(d:h'.DictOf (intKind P w) a kvs)(hv:∀p∈kvs,∃z t,p.2=.int z t):∃(ys:List N4) (ep':Nat),Raw h' a (ys.map dG).toArray ep'/\kvs=pv ys/\(ys.map λx=>x.1.1).Nodup/\∃q,h'.get? a=some q:=by
 obtain⟨o,es,ep',h1,h2,h3,h4,h5,h6⟩:=d;obtain⟨ys,e1,e2⟩:=nB h5 (λe he=>h4 e (Array.mem_toList_iff.mp he)) hv;refine⟨ys,ep',⟨o,h1,h2,?_⟩,e2,?_,o,h1⟩
 ·rw[h3];congr 1;rw[<-Array.toList_inj,e1,List.toList_toArray]
 ·rw[e2,pv,bh]at h6;exact h6
theorem yL{xs:List N4}:∀p∈pv xs,∃z t,p.2=ae.int z t:=λp hp=>by
 obtain⟨x,_,rfl⟩:=aN.mp hp;exact⟨_,_,rfl⟩
theorem Ek{l:List (Int×ae)}{k z:Int}{t:Tok}(h:∀p∈l,∃z t,p.2=ae.int z t):∀p∈stored l k (.int z t),∃z t,p.2=ae.int z t:=λp hp=>by
 unfold stored at hp;split at hp
 ·obtain⟨q,hq,rfl⟩:=aN.mp hp;split
  ·exact⟨_,_,rfl⟩
  ·exact h q hq
 ·rcases List.mem_append.mp hp with hp|hp
  ·exact h p hp
  ·simp at hp;subst hp;exact⟨_,_,rfl⟩
theorem Bd(I:Inv X pins σ H s):Inv X pins σ (upd H s.heap.objs.size (cf s.heap.objs.size [] 0)) {s with heap:=s.heap.push {cls:=.type "dict",dict:=none,data:=.dict #[]}}:=
 I.laid (a:=s.heap.objs.size) (o:=cf s.heap.objs.size [] 0) (h':=s.heap.push {cls:=.type "dict",data:=.dict #[]}) (t':=s.toks) (λ_ _ q=>Heap.get?_push_of_some _ q) (aF _)
  (so (by simp) (by simpa using Nat.ne_of_gt I.big) (by simp) ⟨_,Heap.get?_push_size _ rfl,⟨rfl,rfl,rfl⟩,rfl⟩)
def Ca:TE:=λ_ H Q=>∀p,H p=none->Q (.ref p) (upd H p (cf p [] 0))
theorem xC{pos:Pos}:PE X (.Dict [] [] pos) Ca:=λpins s σ H Q I h=>
 wpAny_Dict_empty ⟨.ref s.heap.objs.size,_,Bd I,rfl,h _ (I.hok.fresh (aF _))⟩
theorem DA(I:Inv X pins σ H s)(e:H a=some (cf a xs ep))(hz:xs.length<aK){t:Tok}{h':Heap}(dd:h'.DictOf (intKind X.prog X.w) a (stored (pv xs) k (.int z t)))(hs:Heap.SameBut a s.heap h'){t':Nat}:∃ys ep',ys.map nk=b9 (xs.map nk) k z/\Inv X pins σ (upd H a (cf a ys ep')) {s with heap:=h',toks:=t'}:=by
 obtain⟨ys,ep',raw,e2,nd,q⟩:=wY dd (Ek yL);have hl:ys.length<=xs.length+1:=by
  have e3:(pv ys).length=ys.length:=aV ..;have e4:(pv xs).length=xs.length:=aV ..;rw[<-e3,<-e2,<-e4];unfold stored;split<;>simp
 exact⟨ys,ep',CQ e2,kj I (by rw[e];exact True.intro) hs q (so (by lia) (dY I e).2.2.1 nd raw)⟩
def xS:V->V->V->Hp->(Hp->Prop)->Prop:=λo i v H Q=>∃a xs ep k z,o=.ref a/\i=.int k/\v=.int z/\H a=some (cf a xs ep)/\xs.length<aK/\∀ys ep',ys.map nk=b9 (xs.map nk) k z->Q (upd H a (cf a ys ep'))
theorem vD:fN X xS:=by
 intro pins s σ H o i v ov iv u Q I ro ri rv ⟨a,xs,ep,k,z,e1,e2,e3,ha,hz,q⟩;subst e1 e2 e3;obtain rfl:ov=aY a:=ro;obtain⟨ti,rfl⟩:=ri;obtain⟨t,rfl⟩:=rv;have FZ:(pv xs).length<=sizeLine:=by rw[pv,aV];lia
 refine wpAny_setItem_pairs (knd:=intKind X.prog X.w) (k:=k) (hsz:=FZ) (by show ae.isInt k (.int k ti)=true;simp[ae.isInt]) (gf I ha) λh' dd' hs=>?_
 obtain⟨ys,ep',e,I'⟩:=DA (t':=s.toks+1) I ha hz dd' hs;exact⟨_,I',q ys ep' e⟩
theorem xH(hu:X.A.units+64<cLine):OpR X (a6 .In) (λx y H Q=>∃a kvs i,y=.ref a/\x=.int i/\IsK H a kvs/\Q (.bl (kvs.any λp=>decide (p.1=i))) H):=by
 intro pins s σ H x y v u Q I rx ry ⟨a,kvs,i,e1,e2,⟨xs,ep,ha,hk⟩,q⟩;subst e1 e2 hk;obtain rfl:u=aY a:=ry;obtain⟨t,rfl⟩:=rx;refine wpAny_in_of (knd:=intKind X.prog X.w) (k:=i) (by show ae.isInt i (.int i t)=true;simp[ae.isInt]) (dY I ha).2.2.1 (gf I ha).mapOf ⟨.bl _,H,I.tok _,?_,q⟩;rw[<-(jy xs i).isSome_eq,Option.isSome_map,atK,Option.isSome_map];show bV _=bV _
 congr 1
 rw[Bool.eq_iff_iff,List.find?_isSome,bK]
theorem Cv(hu:X.A.units+64<cLine):OpR X (a6 .NotIn) (λx y H Q=>∃a kvs i,y=.ref a/\x=.int i/\IsK H a kvs/\Q (.bl (!kvs.any λp=>decide (p.1=i))) H):=by
 intro pins s σ H x y v u Q I rx ry ⟨a,kvs,i,e1,e2,⟨xs,ep,ha,hk⟩,q⟩;subst e1 e2 hk;obtain rfl:u=aY a:=ry;obtain⟨t,rfl⟩:=rx;refine wpAny_notIn_of (knd:=intKind X.prog X.w) (k:=i) (by show ae.isInt i (.int i t)=true;simp[ae.isInt]) (dY I ha).2.2.1 (gf I ha).mapOf ⟨.bl _,H,I.tok _,?_,q⟩;rw[<-(jy xs i).isSome_eq,Option.isSome_map,atK,Option.isSome_map];show bV _=bV _
 congr 2
 rw[Bool.eq_iff_iff,List.find?_isSome,bK]
def Dn:R2:=λx y H Q=>∃a kvs i v,x=.ref a/\y=.int i/\IsK H a kvs/\atK kvs i=some v/\Q (.int v) H
theorem AV:IxR X Dn:=by
 intro value slice pins s σ H x y v u Q I rx ry ⟨a,kvs,i,z,e1,e2,⟨xs,ep,ha,hk⟩,he,q⟩ hs;subst e1 e2 hk;obtain rfl:v=aY a:=rx;obtain⟨t,rfl⟩:=ry;have rel:=jy xs i;rw[he]at rel;obtain⟨w',hw,F7⟩:=dD.some_of (v:=V.int z) (o:=valueAt (pv xs) i) rel;exact oj (gf I ha).typeIs PySem.F.slot_dict_getitem.lookup (wpAny_getItem_of (knd:=intKind X.prog X.w) (k:=i) (by show ae.isInt i (.int i t)=true;simp[ae.isInt]) (gf I ha).mapOf hw ⟨_,H,I.tok _,F7,q⟩) hs
theorem IsK.mono{H H':Hp}{a:Addr}{kvs:List (Int×Int)}(h:IsK H a kvs)(e:∀b o,H b=some o->H' b=some o):IsK H' a kvs:=let ⟨xs,ep,q,z⟩:=h;⟨xs,ep,e _ _ q,z⟩
theorem CO{kvs:List (Int×Int)}{i:Int}{Q:ae->af->Prop}(I:Inv X pins σ H s)(g:IsK H a kvs)(ry:RelV (V.int i) u)(h:∀w' s',Inv X pins σ H s'->RelV (((atK kvs i).map V.int).getD .non) w'->Q w' s') :
  aq (ar X.prog X.w) A (call (.builtin "dict.get") [.ref a,u]) Q E s:=by
 obtain⟨xs,ep,ha,rfl⟩:=g;obtain⟨t,rfl⟩:=ry;exact call_meetsIn PySem.F.slot_dict_get (gf I ha).typeIs PySem.F.entry_dict_get (PySem.F.args_dict_get_2 _ _) (meets_dict_get (intKind X.prog X.w) (k:=i) a (by show ae.isInt i (.int i t)=true;simp[ae.isInt]) (dY I ha).2.2.1) ⟨_,(gf I ha).mapOf,h _ _ (I.tok _) ((jy xs i).getD rfl)⟩
noncomputable def Itn(a:Addr)(xs:List N4)(ep:Nat):It:=
 ⟨λi H=>H a=some (cf a xs ep)/\i<xs.length,λi H x H'=>H'=H/\∃e,xs[i]? = some e/\x=.int e.1.1,λi H=>H a=some (cf a xs ep)/\xs.length<=i⟩
theorem Ez{P:aB}{w:az}{K:aA}{tg:Expr}(a it:Addr)(E8:a≠it)(xs:List N4)(ep:Nat):Turn P w K tg (Itn a xs ep) [it] it (λi h=>h.get? it=some (itO a i xs.length ep)) where
 mem:=by simp
 obj:=λi h st b hb=>by
  have e:b=it:=by simpa using hb
  subst e;exact⟨_,st,λv z=>by cases z⟩
 keep:=λi h h' st k=>k it (by simp) _ st
 item:=by
  intro X hP hw hK hc i pins s σ H E I hf st hg;subst hP hw hK;obtain⟨hg,hi⟩:=hg;obtain⟨f0,f1,f2,f3,f4,f5⟩:=hf it (by simp);have raw:=(dY I hg).1;have e0:(xs.map dG).toArray.size=xs.length:=by simp
  have e1:(xs.map dG).toArray[i]? = some (dG xs[i]):=by simp[hi]
  refine next_item E8 (es:=(xs.map dG).toArray) (ep:=ep) ⟨by rw[e0];exact st,raw⟩ e1 λh' st' sb=>?_
  have I1:Inv X pins σ H {s with heap:=h'}:=I.turned (t':=s.toks) (λb o hb e=>(sb.2 b hb).trans e) f0 f1 f3 f4 f5;have FC:h'.get? it=some (itO a (i+1) xs.length ep):=by have:=st'.1;rw[e0]at this;exact this
  exact⟨_,rfl,iN (s:={s with heap:=h'}) FC rfl rfl (by decide) ⟨.int xs[i].1.1,H,I1,⟨_,rfl⟩,⟨rfl,_,List.getElem?_eq_getElem hi,rfl⟩,FC,λb hb=>(hf b hb).1⟩⟩
 done:=by
  intro X hP hw hK hc i pins s σ H E I hf st hg;subst hP hw hK;obtain⟨hg,hi⟩:=hg;obtain⟨f0,f1,f2,f3,f4,f5⟩:=hf it (by simp);have raw:=(dY I hg).1;have e0:(xs.map dG).toArray.size=xs.length:=by simp
  exact next_end (I.ok.hd hc) (es:=(xs.map dG).toArray) (ep:=ep) (i:=i) (by rw[e0];exact hi) ⟨by rw[e0];exact st,raw⟩ λh' eb=>⟨rfl,I.turned (t':=s.toks) (λb o hb e=>eb b o hb e) f0 f1 f3 f4 f5⟩
 self:=λA i s Q E st h=>by
  have hT:s.TypeIs (.ref it) "dict_keyiterator":=⟨_,st,rfl⟩
  refine wpAny_pyIter_slot hT PySem.F.slot_dict_keyiterator_iter (cQ PySem.F.slot_dict_keyiterator_iter hT PySem.F.entry_dict_keyiterator_iter ?_ (PySem.F.args_dict_keyiterator_iter_1 _));show aq _ _ (ret (.ref it)) _ _ s;exact aC ⟨_,rfl,"dict_keyiterator",_,hT,PySem.F.slot_dict_keyiterator_next.lookup,h⟩
def iDn(tl:TE):TI:=λσ H R=>tl σ H λx H1=>∃a xs ep,x=.ref a/\H1 a=some (cf a xs ep)/\R (Itn a xs ep) H1
theorem Eu{tg l:Expr}{tl:TE}(hl:PE X l tl):PI X tg l (iDn tl):=by
 intro pins s σ H R I h;refine thn (hl pins s σ H _ I h) λv s1 ⟨x,H1,I1,r1,q1⟩=>?_
 obtain⟨a,xs,ep,e,hq,q⟩:=q1;subst e;cases r1;obtain⟨raw,_,hd,_⟩:=dY I1 hq;have e0:(xs.map dG).toArray.size=xs.length:=by simp
 have EZ:a<s1.heap.objs.size:=by obtain⟨o,h1,_⟩:=raw;exact aP h1
 refine nX hd raw ?_;refine⟨s1.heap.objs.size,[s1.heap.objs.size],_,_,H1,rfl,I1.kept (t':=s1.toks) λb o e=>Heap.get?_push_of_some _ e,Ez a _ (bq EZ) xs ep,?_,λb hb=>?_,q⟩
 ·rw[e0];exact Heap.get?_push_size _ rfl
 ·have e:b=s1.heap.objs.size:=by simpa using hb
  subst e;exact I1.fpOk (aF _) (I1.hok.fresh (aF _))
theorem nR{P:aB}{w:az}:∀{xs:List N4}{vs:List ae},vs.length=xs.length->(∀(j:Nat) (v:ae),vs[j]? = some v->∃k x,(pv xs)[j]? = some (k,x)/\(intKind P w).is k v=true)->bg vs (xs.map λx=>x.1.1)
 | [],vs,hl,_=>by cases vs with
  |nil=>exact .nil
  |cons _ _=>cases hl
 |x::xs,vs,hl,h=>by
  cases vs with
  |nil=>cases hl
  |cons v vs=>
   obtain⟨k,y,e1,e2⟩:=h 0 v rfl;cases e1;obtain⟨tk,rfl⟩:∃t,v=ae.int x.1.1 t:=ae.isInt_shape (k:=x.1.1) (v:=v) e2;exact .cons _ _ (nR (by simpa using hl) λj v e=>h (j+1) v e)
def u_:List V->Hp->VK->Prop:=λvs H Q=>∃(l:Addr) (kvs:List (Int×Int)),vs=[.ref l]/\IsK H l kvs/\∀(D:Addr) (ms:List Int),H D=none->ms.Perm (kvs.map (·.1))->ms.Pairwise (·<=·)->Q (.ref D) (upd H D (.lst (ms.map V.int)))
theorem uG(hc:X.calm=true):zf X (.builtin "sorted") u_:=by
 intro pins s σ H vs us Q I r ⟨l,kvs,e,⟨xs,ep,hl,hk⟩,q⟩;subst e hk;obtain⟨u,rfl,ru⟩:=r.one;cases ru;obtain⟨ep',LZ⟩:=(gf I hl).dictAt;obtain⟨_,z,hd,_⟩:=dY I hl;have hn:(pv xs).length<=sizeLine:=by rw[pv,aV];exact z
 refine Calls.call_function_entry kind_sorted plain_sorted entry_sorted (args_sorted1 _) ?_;unfold Builtin.«sorted»;refine ah (m:=checkCount "sorted" 1 1 _) (aC ?_);refine ah (Bm (A:=X.A.in1) (PySem.W.kdl_dict (knd:=intKind X.prog X.w) (kvs:=pv xs) (ep:=ep') hd) (I.ok.hd hc) LZ hn λh' tk acc hsz hk E5=>?_);have JZ:acc.toList.length=(pv xs).length:=by rw[bb];exact E5.1
 have L0:acc.toList.length=xs.length:=by rw[JZ,pv,aV]
 have hI:bg acc.toList (xs.map λx=>x.1.1):=nR (P:=X.prog) (w:=X.w) L0 λj v e=>E5.2 j v (by rw[<-Array.getElem?_toList];exact e)
 refine ah (wpAny_newList ?_ (by rw[JZ];exact hn));have hL:(h'.push (aI "list" acc.toList.toArray 0)).get? h'.objs.size=some (aI "list" acc.toList.toArray 0):=Heap.get?_push_size _ rfl;refine ah (bO ?_);refine cQ slot_list_sort ⟨_,hL,rfl⟩ entry_list_sort (TS.EO hL hI (by rw[JZ];exact hn) λout Fl a1 a2 a3=>⟨_,rfl,?_⟩) (args_list_sort _);obtain⟨c,hc⟩:=sortedHeap_at (out:=out) hL;have e0:(xs.map λx=>x.1.1)=(xs.map nk).map (·.1):=by rw[bh];rfl
 refine aC ⟨_,rfl,.ref h'.objs.size,_,I.laid (t':=tk) (o:=.lst (Fl.map V.int)) (λb o e=>?_) (Nat.le_of_lt hsz) ⟨by rw[aV,a2.length_eq,aV];exact z,out.toList,c,mM a1,by rw[Array.toArray_toList];exact hc⟩,rfl,q _ Fl (I.hok.fresh (Nat.le_of_lt hsz)) (e0▸a2) a3⟩;have e1:=hk b o e;have hb:=aP e1;show (sortedHeap _ _ _ _).get? b=some o;rw[sortedHeap_old (bq hb) (by rw[Heap.size_push];exact cN hb)];exact Heap.get?_push_of_some _ e1
end
abbrev E3:=List Int×Addr×ae
noncomputable def ent(x:E3):DictEntry:=⟨reduceHash (Builtin.Tuple.tupleHashOf (x.1.map hashInt)),.ref x.2.1,x.2.2⟩
noncomputable def zD(a:Addr)(xs:List E3)(ep:Nat):HO:=.ext λh=>Raw h a (xs.map ent).toArray ep/\xs.length<=aK/\(a==sysModules)=false/\(xs.map (·.1)).Nodup
inductive qW(K:aA)(H:Hp):List (List Int)->List V->List E3->Prop
 |nil:qW K H [] [] []
 |cons {k:List Int}{v:V}{b:Addr}{u:ae}{ks:List (List Int)}{vs:List V}{xs:List E3}:SqT K H b (k.map V.int)->RelV v u->qW K H ks vs xs->qW K H (k::ks) (v::vs) ((k,b,u)::xs)
noncomputable def atT{α:Type}:List (List Int)->List α->List Int->Option α
 |k::ks,d::ds,q=>if k=q then some d else atT ks ds q
 |_,_,_=>none
noncomputable def cK{α:Type}:List (List Int)->List α->List Int->α->List α
 |k::ks,d::ds,q,y=>(if k=q then y else d)::cK ks ds q y
 |_,ds,_,_=>ds
noncomputable def zK(ks:List (List Int))(k:List Int):List (List Int):=if ks.any (λx=>decide (x=k))=true then ks else ks++[k]
noncomputable def zT{α:Type}(ks:List (List Int))(ds:List α)(k:List Int)(y:α):List α:=if ks.any (λx=>decide (x=k))=true then cK ks ds k y else ds++[y]
section
variable{K:aA}{H H':Hp}{ks:List (List Int)}{vs:List V}{xs:List E3}
theorem qW.len(r:qW K H ks vs xs):ks.length=vs.length/\xs.length=ks.length:=by
 induction r with
 |nil=>exact⟨rfl,rfl⟩
 |cons _ _ _ ih=>simp[ih.1,ih.2]
theorem qW.keys(r:qW K H ks vs xs):xs.map (·.1)=ks:=by
 induction r with
 |nil=>rfl
 |cons _ _ _ ih=>rw[aJ,ih]
theorem k_{a:Addr}{ys:List V}(e:∀b o,H b=some o->H' b=some o)(h:SqT K H a ys):SqT K H' a ys:=by
 rcases h with (h|⟨o,h⟩)|h
 ·exact .inl (.inl (e _ _ h))
 ·exact .inl (.inr ⟨o,e _ _ h⟩)
 ·exact .inr h
theorem qW.up(e:∀b o,H b=some o->H' b=some o)(r:qW K H ks vs xs):qW K H' ks vs xs:=by
 induction r with
 |nil=>exact .nil
 |cons a b _ ih=>exact .cons (k_ e a) b ih
theorem qW.at(r:qW K H ks vs xs)(k:List Int):dD (atT ks vs k) ((atKey xs k).map (·.2)):=by
 induction r with
 |nil=>exact True.intro
 | @cons k' v b u ks vs xs h1 h2 t ih=>
  by_cases e:k'=k
  ·have e2:atKey ((k',b,u)::xs) k=some (b,u):=by simp[atKey,List.find?_cons,e]
   rw[atT,if_pos e,e2];exact h2
  ·have e2:atKey ((k',b,u)::xs) k=atKey xs k:=by simp[atKey,List.find?_cons,e]
   rw[atT,if_neg e,e2];exact ih
theorem qW.any(r:qW K H ks vs xs)(k:List Int):(atKey xs k).isSome=ks.any (λx=>decide (x=k)):=by
 induction r with
 |nil=>rfl
 | @cons k' v b u ks vs xs h1 h2 t ih=>
  rw[List.any_cons,<-ih];by_cases e:k'=k
  ·have e2:atKey ((k',b,u)::xs) k=some (b,u):=by simp[atKey,List.find?_cons,e]
   rw[e2];simp[e]
  ·have e2:atKey ((k',b,u)::xs) k=atKey xs k:=by simp[atKey,List.find?_cons,e]
   rw[e2];simp[e]
theorem sR{α:Type}:∀{ks:List (List Int)}{ds:List α},ks.length=ds.length->∀k,(atT ks ds k).isSome=ks.any (λx=>decide (x=k))
 | [],_,_,_=>rfl
 |a::ks,[],h,_=>by cases h
 |a::ks,d::ds,h,k=>by
  rw[atT,List.any_cons];by_cases e:a=k
  ·rw[if_pos e];simp[e]
  ·rw[if_neg e,sR (by simpa using h) k];simp[e]
theorem qW.repl(r:qW K H ks vs xs)(k:List Int){y:V}{u:ae}(ry:RelV y u):qW K H ks (cK ks vs k y) (xs.map (putAt k u)):=by
 induction r with
 |nil=>exact .nil
 | @cons k' v b u' ks vs xs h1 h2 t ih=>
  rw[aJ,cK];unfold putAt;by_cases e:k'=k
  ·rw[if_pos e];show qW K H _ _ ((if k'=k then (k',b,u)else (k',b,u'))::_);rw[if_pos e];exact .cons h1 ry ih
  ·rw[if_neg e];show qW K H _ _ ((if k'=k then (k',b,u)else (k',b,u'))::_);rw[if_neg e];exact .cons h1 h2 ih
theorem qW.snoc(r:qW K H ks vs xs){k:List Int}{y:V}{b:Addr}{u:ae}(h:SqT K H b (k.map V.int))(ry:RelV y u):qW K H (ks++[k]) (vs++[y]) (xs++[(k,b,u)]):=by
 induction r with
 |nil=>exact .cons h ry .nil
 |cons h1 h2 _ ih=>exact .cons h1 h2 ih
theorem qW.put(r:qW K H ks vs xs){k:List Int}{y:V}{b:Addr}{u:ae}(h:SqT K H b (k.map V.int))(ry:RelV y u):qW K H (zK ks k) (zT ks vs k y) (storedH xs k b u):=by
 have e:=r.any k;unfold storedH zK zT;rw[e];by_cases q:(ks.any λx=>decide (x=k))=true
 ·rw[if_pos q,if_pos q,if_pos q];exact r.repl k ry
 ·rw[if_neg q,if_neg q,if_neg q];exact r.snoc h ry
end
theorem o8(ks:List (List Int))(k:List Int):(zK ks k).length<=ks.length+1:=by
 unfold zK;split<;>simp
section
variable{X:Cx}{pins:List (Addr×Obj)}{σ:L2.St}{H:Hp}{s:af}{a b:Addr}{y v:V}{u r:ae}{ks:List (List Int)}{vs:List V}{xs:List E3}{ep:Nat}{k:List Int}{A:aD}{E:ae->af->Prop}
theorem items_int:∀{P:aB}{w:az}{ks:List Int}{us:List ae},Vals (ks.map V.int) us->ItemsAre (intKind P w) ks us
 |_,_,[],_,r=>by rw[List.map_nil]at r;cases r;exact .nil
 |_,_,k::ks,_,r=>by
  rw[aJ]at r;cases r with
  |cons h t=>
   obtain⟨tk,e⟩:=h;subst e;exact .cons (by show ae.isInt k (.int k tk)=true;simp[ae.isInt]) (items_int t)
theorem key_is(I:Inv X pins σ H s)(e:SqT X.K H b (k.map V.int)):(tupleKind (intKind X.prog X.w)).is s.heap k b:=by
 obtain⟨its,rv,p,hz⟩:=I.tuple e;obtain⟨o,h1,h2,n,h3⟩:=p;exact⟨o,its.toArray,n,h1,h2,h3,by simpa using items_int rv⟩
theorem gq(I:Inv X pins σ H s)(e:H a=some (zD a xs ep)):Raw s.heap a (xs.map ent).toArray ep/\xs.length<=aK/\(a==sysModules)=false/\(xs.map (·.1)).Nodup:=(I.hok a _ e).1
theorem rO(I:Inv X pins σ H s)(e:H a=some (zD a xs ep))(r:qW X.K H ks vs xs):s.heap.DictOfH (tupleKind (intKind X.prog X.w)) a xs:=by
 obtain⟨⟨o,h1,h2,h3⟩,hl,hd,hn⟩:=gq I e;refine⟨o,_,ep,h1,h2,h3,by simp;exact λ_ _ _ _=>rfl,λx hx=>?_,hn⟩;clear h3 hl hn e
 induction r with
 |nil=>cases hx
 |cons q1 q2 _ ih=>
  rcases aM.mp hx with rfl|hx
  ·exact key_is I q1
  ·exact ih hx
def TD(H:Hp)(a:Addr)(xs:List E3):Prop:=(∃ep,H a=some (zD a xs ep))\/(xs=[]/\∃ep,H a=some (cf a [] ep))
theorem TD.mut(t:TD H a xs):Mut (H a):=by
 rcases t with ⟨ep,e⟩|⟨_,ep,e⟩<;>rw[e]<;>exact True.intro
theorem fJ(I:Inv X pins σ H s)(t:TD H a xs):(∃ep,Raw s.heap a (xs.map ent).toArray ep)/\xs.length<=aK/\(a==sysModules)=false/\(xs.map (·.1)).Nodup:=by
 rcases t with ⟨ep,e⟩|⟨rfl,ep,e⟩
 ·obtain⟨h1,h2⟩:=gq I e;exact⟨⟨ep,h1⟩,h2⟩
 ·obtain⟨h1,_,h3,_⟩:=dY I e;exact⟨⟨ep,h1⟩,by simp,h3,by simp⟩
theorem iB(I:Inv X pins σ H s)(t:TD H a xs)(r:qW X.K H ks vs xs):s.heap.DictOfH (tupleKind (intKind X.prog X.w)) a xs:=by
 obtain⟨⟨ep,o,h1,h2,h3⟩,hl,hd,hn⟩:=fJ I t;refine⟨o,_,ep,h1,h2,h3,by simp;exact λ_ _ _ _=>rfl,λx hx=>?_,hn⟩;clear h3 hl hn t
 induction r with
 |nil=>cases hx
 |cons q1 q2 _ ih=>
  rcases aM.mp hx with rfl|hx
  ·exact key_is I q1
  ·exact ih hx
theorem wQ{Q:ae->af->Prop}(hu:A.units+1<cLine)(I:Inv X pins σ H s)(e:TD H a xs)(rel:qW X.K H ks vs xs)(eb:SqT X.K H b (k.map V.int))(l:atT ks vs k=some v)(h:∀w' s',Inv X pins σ H s'->RelV v w'->Q w' s') :
  aq (ar X.prog X.w) A (getItem (.ref a) (.ref b)) Q E s:=by
 obtain⟨w',hw,F7⟩:=dD.some_of (v:=v) (o:=(atKey xs k).map (·.2)) (by rw[<-l];exact rel.at k);obtain⟨p,hp,L1⟩:=bF.mp hw;refine wpAny_getItem_heap (tupleKind_room_in1 hu) (key_is I eb) (iB I e rel) hp ?_;rw[L1];exact h w' _ (I.tok _) F7
theorem uv{Q:ae->af->Prop}(hu:A.units+1<cLine)(I:Inv X pins σ H s)(e:TD H a xs)(rel:qW X.K H ks vs xs)(eb:SqT X.K H b (k.map V.int))(h:∀s',Inv X pins σ H s'->Q (.bool (ks.any λx=>decide (x=k))) s') :
  aq (ar X.prog X.w) A (a6 .In (.ref b) (.ref a)) Q E s:=by
 refine wpAny_in_heap (tupleKind_room_in1 hu) (key_is I eb) (fJ I e).2.2.1 (iB I e rel) ?_;rw[rel.any k];exact h _ (I.tok _)
theorem Cn{Q:ae->af->Prop}(hu:A.units+1<cLine)(I:Inv X pins σ H s)(e:TD H a xs)(rel:qW X.K H ks vs xs)(eb:SqT X.K H b (k.map V.int))(h:∀s',Inv X pins σ H s'->Q (.bool (!ks.any λx=>decide (x=k))) s') :
  aq (ar X.prog X.w) A (a6 .NotIn (.ref b) (.ref a)) Q E s:=by
 refine wpAny_notIn_heap (tupleKind_room_in1 hu) (key_is I eb) (fJ I e).2.2.1 (iB I e rel) ?_;rw[rel.any k];exact h _ (I.tok _)
theorem ud{Q:ae->af->Prop}(hu:A.units+1<cLine)(I:Inv X pins σ H s)(e:TD H a xs)(rel:qW X.K H ks vs xs)(eb:SqT X.K H b (k.map V.int))(h:∀w' s',Inv X pins σ H s'->RelV ((atT ks vs k).getD .non) w'->Q w' s') :
  aq (ar X.prog X.w) A (call (.builtin "dict.get") [.ref a,.ref b]) Q E s:=by
 refine call_meetsIn PySem.F.slot_dict_get (fJ I e).1.choose_spec.typeIs PySem.F.entry_dict_get (PySem.F.args_dict_get_2 _ _) (meetsH_dict_get (tupleKind (intKind X.prog X.w)) a b (fJ I e).2.2.1) ⟨tupleKind_room_in1 hu,k,xs,key_is I eb,iB I e rel,h _ _ (I.tok _) ?_⟩;exact(rel.at k).getD rfl
theorem kc{P:aB}{w:az}{H':Hp}{h':Heap}(z:xs.length<=aK)(hd:(a==sysModules)=false)(hn:(xs.map (·.1)).Nodup)(r:Raw h' a (xs.map ent).toArray ep):zJ P w H' h' a (zD a xs ep):=
 ⟨⟨r,z,hd,hn⟩,let ⟨o,e,_⟩:=r;⟨o,e⟩,λh1 h2 ⟨⟨o,q1,q2⟩,q3⟩ kk=>⟨⟨o,kk o q1,q2⟩,q3⟩⟩
theorem uj{Q:Unit->af->Prop}(hu:A.units+1<cLine)(I:Inv X pins σ H s)(e:TD H a xs)(rel:qW X.K H ks vs xs)(eb:SqT X.K H b (k.map V.int))(hz:xs.length<aK)
  (h:∀ep' s',Inv X pins σ (upd H a (zD a (storedH xs k b r) ep')) s'->Q () s'):aq (ar X.prog X.w) A (setItem (.ref a) (.ref b) r) Q E s:=by
 have FZ:xs.length<=sizeLine:=by lia
 refine wpAny_setItem_heap (hsz:=FZ) (tupleKind_room_in1 hu) (key_is I eb) (iB I e rel) λh' dd' hs=>?_
 obtain⟨q,es,ep',hq,h2,h3,h4,_,h5⟩:=dd';have hl:(storedH xs k b r).length<=sizeLine:=by
  unfold storedH;split<;>simp<;>lia
 refine h ep' _ (kj I e.mut hs ⟨q,hq⟩ (kc hl (fJ I e).2.2.1 h5 ⟨q,hq,h2,?_⟩));rw[h3]
 congr 1
 rw[<-Array.toList_inj,h4,List.toList_toArray]
 rfl
theorem BD{P:aB}{w:az}{H:Hp}(h:Heap)(hb:sysModules<h.objs.size):zJ P w H (h.push {cls:=.type "dict",data:=.dict #[]}) h.objs.size (zD h.objs.size [] 0):=by
 refine kc (by simp) (by simpa using Nat.ne_of_gt hb) (by simp) ⟨_,Heap.get?_push_size _ rfl,⟨rfl,rfl,rfl⟩,rfl⟩
end
section
variable{K:aA}{H:Hp}{p:Addr}{xs:List E3}{ep:Nat}{o:HO}
noncomputable def zH{α:Type}(ks:List (List Int)):List (List Int×α)->List (List Int)
 | []=>ks
 |x::r=>zH (zK ks x.1) r
noncomputable def zE{α:Type}(ks:List (List Int))(ds:List α):List (List Int×α)->List α
 | []=>ds
 |x::r=>zE (zK ks x.1) (zT ks ds x.1 x.2) r
end
section
variable{X:Cx}{pins:List (Addr×Obj)}{σ:L2.St}{A:aD}{E:ae->af->Prop}
end
noncomputable def Itd(a:Addr)(xs:List E3)(ep:Nat):It:=
 ⟨λi H=>H a=some (zD a xs ep)/\i<xs.length,λi H x H'=>H'=H/\∃e,xs[i]? = some e/\x=.ref e.2.1,λi H=>H a=some (zD a xs ep)/\xs.length<=i⟩
theorem DX{P:aB}{w:az}{K:aA}{tg:Expr}(a it:Addr)(E8:a≠it)(xs:List E3)(ep:Nat):Turn P w K tg (Itd a xs ep) [it] it (λi h=>h.get? it=some (itO a i xs.length ep)) where
 mem:=by simp
 obj:=λi h st b hb=>by
  have e:b=it:=by simpa using hb
  subst e;exact⟨_,st,λv z=>by cases z⟩
 keep:=λi h h' st k=>k it (by simp) _ st
 item:=by
  intro X hP hw hK hc i pins s σ H E I hf st hg;subst hP hw hK;obtain⟨hg,hi⟩:=hg;obtain⟨f0,f1,f2,f3,f4,f5⟩:=hf it (by simp);have raw:=(gq I hg).1;have e0:(xs.map ent).toArray.size=xs.length:=by simp
  have e1:(xs.map ent).toArray[i]? = some (ent xs[i]):=by simp[hi]
  refine next_item E8 (es:=(xs.map ent).toArray) (ep:=ep) ⟨by rw[e0];exact st,raw⟩ e1 λh' st' sb=>?_
  have I1:Inv X pins σ H {s with heap:=h'}:=I.turned (t':=s.toks) (λb o hb e=>(sb.2 b hb).trans e) f0 f1 f3 f4 f5;have FC:h'.get? it=some (itO a (i+1) xs.length ep):=by have:=st'.1;rw[e0]at this;exact this
  exact⟨_,rfl,iN (s:={s with heap:=h'}) FC rfl rfl (by decide) ⟨.ref xs[i].2.1,H,I1,rfl,⟨rfl,_,List.getElem?_eq_getElem hi,rfl⟩,FC,λb hb=>(hf b hb).1⟩⟩
 done:=by
  intro X hP hw hK hc i pins s σ H E I hf st hg;subst hP hw hK;obtain⟨hg,hi⟩:=hg;obtain⟨f0,f1,f2,f3,f4,f5⟩:=hf it (by simp);have raw:=(gq I hg).1;have e0:(xs.map ent).toArray.size=xs.length:=by simp
  exact next_end (I.ok.hd hc) (es:=(xs.map ent).toArray) (ep:=ep) (i:=i) (by rw[e0];exact hi) ⟨by rw[e0];exact st,raw⟩ λh' eb=>⟨rfl,I.turned (t':=s.toks) (λb o hb e=>eb b o hb e) f0 f1 f3 f4 f5⟩
 self:=λA i s Q E st h=>by
  have hT:s.TypeIs (.ref it) "dict_keyiterator":=⟨_,st,rfl⟩
  refine wpAny_pyIter_slot hT PySem.F.slot_dict_keyiterator_iter (cQ PySem.F.slot_dict_keyiterator_iter hT PySem.F.entry_dict_keyiterator_iter ?_ (PySem.F.args_dict_keyiterator_iter_1 _));show aq _ _ (ret (.ref it)) _ _ s;exact aC ⟨_,rfl,"dict_keyiterator",_,hT,PySem.F.slot_dict_keyiterator_next.lookup,h⟩
section
variable{X:Cx}{tg:Expr}
def By(tl:TE):TI:=λσ H R=>tl σ H λx H1=>∃a xs ep,x=.ref a/\H1 a=some (zD a xs ep)/\R (Itd a xs ep) H1
theorem Bz{l:Expr}{tl:TE}(hl:PE X l tl):PI X tg l (By tl):=by
 intro pins s σ H R I h;refine thn (hl pins s σ H _ I h) λv s1 ⟨x,H1,I1,r1,q1⟩=>?_
 obtain⟨a,xs,ep,e,hq,q⟩:=q1;subst e;cases r1;obtain⟨raw,_,hd,_⟩:=gq I1 hq;have e0:(xs.map ent).toArray.size=xs.length:=by simp
 have EZ:a<s1.heap.objs.size:=by obtain⟨o,h1,_⟩:=raw;exact aP h1
 refine nX hd raw ?_;refine⟨s1.heap.objs.size,[s1.heap.objs.size],_,_,H1,rfl,I1.kept (t':=s1.toks) λb o e=>Heap.get?_push_of_some _ e,DX a _ (bq EZ) xs ep,?_,λb hb=>?_,q⟩
 ·rw[e0];exact Heap.get?_push_size _ rfl
 ·have e:b=s1.heap.objs.size:=by simpa using hb
  subst e;exact I1.fpOk (aF _) (I1.hok.fresh (aF _))
end
section
variable{X:Cx}
theorem yz(hu:X.A.units+64<cLine):OpR X (a6 .In) (λx y H Q=>∃a b xs ks vs k,y=.ref a/\x=.ref b/\TD H a xs/\qW X.K H ks vs xs/\SqT X.K H b (List.map V.int k)/\Q (.bl (ks.any λx=>decide (x=k))) H):=by
 intro pins s σ H x y v u Q I rx ry ⟨a,b,xs,ks,vs,k,e1,e2,t,r,eb,q⟩;subst e1 e2;obtain rfl:u=aY a:=ry;obtain rfl:v=aY b:=rx;exact uv (by lia) I t r eb λs' I'=>⟨.bl _,H,I',rfl,q⟩
theorem A9(hu:X.A.units+64<cLine):OpR X (a6 .NotIn) (λx y H Q=>∃a b xs ks vs k,y=.ref a/\x=.ref b/\TD H a xs/\qW X.K H ks vs xs/\SqT X.K H b (List.map V.int k)/\Q (.bl (!ks.any λx=>decide (x=k))) H):=by
 intro pins s σ H x y v u Q I rx ry ⟨a,b,xs,ks,vs,k,e1,e2,t,r,eb,q⟩;subst e1 e2;obtain rfl:u=aY a:=ry;obtain rfl:v=aY b:=rx;exact Cn (by lia) I t r eb λs' I'=>⟨.bl _,H,I',rfl,q⟩
theorem uM(hu:X.A.units+64<cLine):IxR X (λx y H Q=>∃a b xs ks vs k v,x=.ref a/\y=.ref b/\TD H a xs/\qW X.K H ks vs xs/\SqT X.K H b (List.map V.int k)/\atT ks vs k=some v/\Q v H):=by
 intro value slice pins s σ H x y v u Q I rx ry ⟨a,b,xs,ks,vs,k,z,e1,e2,t,r,eb,he,q⟩ hs;subst e1 e2;obtain rfl:v=aY a:=rx;obtain rfl:u=aY b:=ry;exact oj (fJ I t).1.choose_spec.typeIs PySem.F.slot_dict_getitem.lookup (wQ (by lia) I t r eb he λw' s' I' F7=>⟨_,H,I',F7,q⟩) hs
theorem yO(hu:X.A.units+64<cLine):fN X (λo i v H Q=>∃a b xs ks vs k Hs,o=.ref a/\i=.ref b/\TD H a xs/\(∀b o,Hs b=some o->H b=some o)/\qW X.K Hs ks vs xs/\SqT X.K Hs b (List.map V.int k)/\xs.length<aK/\∀Fz ep,qW X.K Hs (zK ks k) (zT ks vs k v) Fz->Q (upd H a (zD a Fz ep))):=by
 intro pins s σ H o i v ov iv u Q I ro ri rv ⟨a,b,xs,ks,vs,k,Hs,e1,e2,t,le,r,eb,hz,q⟩;subst e1 e2;obtain rfl:ov=aY a:=ro;obtain rfl:iv=aY b:=ri;exact uj (by lia) I t (r.up le) (k_ le eb) hz λep' s' I'=>⟨_,I',q _ ep' (r.put eb rv)⟩
end
def ly(H:Hp)(a:Addr):Prop:=(∃kvs,IsK H a kvs)\/∃xs ep,H a=some (zD a xs ep)
theorem oq{X:Cx}{pins:List (Addr×Obj)}{σ:L2.St}{H:Hp}{s:af}{a:Addr}(I:Inv X pins σ H s)(d:ly H a) :
  s.TypeIs (.ref a) "dict"/\(∀b,aY a=.ref b->∃ob,s.heap.get? b=some ob/\ob.dict=none):=by
 rcases d with ⟨_,xs,ep,e,_⟩|⟨xs,ep,e⟩
 ·obtain⟨raw,_⟩:=dY I e;refine⟨raw.typeIs,λb q=>?_⟩;cases q;obtain⟨o,h1,h2,h3⟩:=raw;exact⟨o,h1,h2.2.1⟩
 ·obtain⟨raw,_⟩:=gq I e;refine⟨raw.typeIs,λb q=>?_⟩;cases q;obtain⟨o,h1,h2,h3⟩:=raw;exact⟨o,h1,h2.2.1⟩
def uO(K:aA)(H:Hp)(a:Addr)(y z:V)(Q:VK):Prop:=(∃kvs i,IsK H a kvs/\y=.int i/\Q (((L2.atK kvs i).map V.int).getD z) H)\/∃b xs ks vs k,y=.ref b/\TD H a xs/\qW K H ks vs xs/\SqT K H b (List.map V.int k)/\Q ((atT ks vs k).getD z) H
def xw(K:aA)(td ty:TE):TE:=λσ H Q=>td σ H λx H1=>∃a,x=.ref a/\ly H1 a/\ty σ H1 λy H2=>uO K H2 a y .non Q
section
variable{X:Cx}{o e f:Expr}{apos cpos:Pos}{td ty tx:TE}
theorem yQ(hu:X.A.units+1<cLine)(ho:PE X o td)(he:PE X e ty)(m:M1 X o "get" apos e cpos):PE X (.Call (.Attribute o "get" apos) [e] [] cpos) (xw X.K td ty):=by
 intro pins s σ H Q I h;refine wpAny_Call_method m.base m.few m.line PySem.F.plainAttrs_dict PySem.F.slot_dict_get PySem.F.type_dict_get (thn (ho pins s σ H _ I h) λu s1 ⟨x,H1,I1,rx,a,ex,d,q1⟩=>?_);subst ex;obtain rfl:u=aY a:=rx;obtain⟨t1,t2⟩:=oq I1 d;refine⟨t1,t2,?_⟩;rw[m.trees];refine Calls.callWith_builtin rfl (Calls.evalArgs_plain (Calls.spliced_cons (thn (he pins s1 σ H1 _ I1 q1) λiv s2 ⟨y,H2,I2,ry,g⟩=>Calls.spliced_nil ?_)));rcases g with ⟨kvs,i,g,ey,q2⟩|⟨b,xs,ks,vs,k,ey,t,r,eb,q2⟩
 ·subst ey;exact CO I2 g ry λw' s3 I3 F7=>⟨_,H2,I3,F7,q2⟩
 ·subst ey;obtain rfl:iv=aY b:=ry;exact ud hu I2 t r eb λw' s3 I3 F7=>⟨_,H2,I3,F7,q2⟩
end
end WD
namespace L2
open PySem PySem.Spec PyProof.Rows
noncomputable def hZ(kx vx:Expr)(D:Addr)(env:Env):Sem Unit:=do
 let kv <-eval kx env
 let vv <-holding [kv] (eval vx env)
 standAt {kx.pos with endLine:=vx.pos.endLine,endCol:=vx.pos.endCol}
 holding [kv,vv] (dictSet D kv vv)
section
variable{Y:Cx}{kx vx tgt itx:Expr}{ifs:List Expr}{scope:aR}{pos:Pos}
theorem uU{it:Addr}{acc:Addr}{fp:List Addr}{tn:Nat->Heap->Prop}{J:It}{tg:TG}{tt:TT}{tb:TS}(hc:Y.calm=true)(hx:∀e s,¬ Y.xe e s) 
  (T:Turn Y.prog Y.w Y.K tgt J fp it tn) (pg:PG Y tgt tg) (pt:PTs Y ifs tt) (pb:PB Y (hZ kx vx acc Y.env) tb)
  {pins:List (Addr×Obj)}{s:af}{σ:St}{H:Hp}{D:Ends} (I:Inv Y pins σ H s) (st:tn 0 s.heap) (fr:∀b∈fp,cF Y pins H b)
  (h:∃W:Nat->Nat->St->Hp->Prop,(∃m,W 0 m σ H)/\∀i m σ H,W i m σ H ->
   (J.stop i H/\D.nx σ H)\/(J.go i H/\∃N:St->Hp->Prop,(∀σ' H',N σ' H'->∃m',m'<m/\W (i+1) m' σ' H')/\∀x H',J.yld i H x H'->tg x σ H' λσ2 H2=>gK tt tb gN {D with nx:=N,ct:=N,bk:=D.nx} σ2 H2)) :
  codeAny (ar Y.prog Y.w) Y.A (.compLoop (.DictComp kx vx [⟨tgt,itx,ifs,0⟩] scope pos) 0 (.ref it) (.ref acc) Y.env) (λr s'=>r=.ok .next/\∃σ' H',Inv Y pins σ' H' s'/\D.nx σ' H') s:=by
 obtain⟨W,⟨m0,w0⟩,turn⟩:=h;have Fo:∀{H':Hp},(∀b∈fp,H' b=none)->∀b∈fp,cF Y pins H' b:=λhn b hb=>⟨hn b hb,(fr b hb).2⟩
 refine codeAny_loop rfl (λn s'=>∃i σ' H',Inv Y pins σ' H' s'/\tn i s'.heap/\(∀b∈fp,H' b=none)/\W i n σ' H') ?_ m0 ⟨0,σ,H,I,st,λb hb=>(fr b hb).1,w0⟩;rintro n s3 ⟨i,σ3,H3,I3,Fs,G2,w3⟩;show aq _ Y.A ((compTurn (.DictComp kx vx [⟨tgt,itx,ifs,0⟩] scope pos) 0 (.ref it) (.ref acc) Y.env).onRaise (λx=>do noteFrame x Y.env;theTreesLotGoes x)) _ _ s3;refine wpAny_noted ?_;rw[compTurn_dict];have nox:∀{E:ae->af->Prop} (e:ae) (s:af),Y.xe e s->E e s:=λe s z=>absurd z (hx e s)
 refine ah (wpAny_standAt ?_);rcases turn i n σ3 H3 w3 with ⟨stop,qn⟩|⟨go,N,hN,step⟩
 ·refine ah (thn (T.done Y rfl rfl rfl hc i pins s3 σ3 H3 _ I3 (Fo G2) Fs stop) λr s4 ⟨hr,I4⟩=>?_);subst hr;exact aC ⟨rfl,σ3,H3,I4,qn⟩
 ·refine ah (thn (T.item Y rfl rfl rfl hc i pins s3 σ3 H3 _ I3 (Fo G2) Fs go) λr s4 ⟨u,hr,h4⟩=>?_);subst hr;refine ah (thn h4 λ_ s5 ⟨x,H5,I5,r5,y5,Gn,HN⟩=>?_);have I5':=I5.pinned (Fo HN) (T.obj _ _ Gn);refine ah (bD (pg _ s5 σ3 H5 x u _ I5' r5 (step x H5 y5)) (λ_ s6 ⟨σ6,H6,I6,q6⟩=>?_) nox);have again:∀{s7:af}{σ7:St}{H7:Hp},Inv Y (pins++iA fp s5.heap) σ7 H7 s7->N σ7 H7->∃m,m<n/\∃i σ' H',Inv Y pins σ' H' s7/\tn i s7.heap/\(∀b∈fp,H' b=none)/\W i m σ' H':=λ{s7 σ7 H7} I7 n7=>by
   obtain⟨m',hm,w7⟩:=hN σ7 H7 n7;refine⟨m',hm,i+1,σ7,H7,I7.unpinned,T.keep _ _ _ Gn λb hb o e=>(I7.pin (b,o) (bP _ (bP _ (gQ hb e)))).1,λb hb=>?_,w7⟩;obtain⟨o,e,d⟩:=T.obj _ _ Gn b hb;exact(I7.pin (b,o) (bP _ (bP _ (gQ hb e)))).2.1
  refine ah (bD (pt _ s6 σ6 H6 _ I6 q6) (λb s7 ⟨H7,I7,q7⟩=>?_) nox);cases b with
  |true=>
   rw[if_pos rfl];rw[if_pos rfl]at q7;refine ah (bD (pb _ s7 σ6 H7 _ I7 q7) (λ_ s8 ⟨σ8,H8,I8,q8⟩=>?_) nox);exact aC ⟨rfl,again I8 q8⟩
  |false=>
   rw[if_neg bX];rw[if_neg bX]at q7;exact aC ⟨rfl,again I7 q7⟩
end
def lu(o0:Addr->HO)(cap:List (Option Nat))(wi:TI)(tg:TG)(tt:TT)(tb:Addr->TS):TE:=λσ H Q=>wi σ H λJ H1=>∀acc,H1 acc=none ->
 ∃W:Nat->Nat->St->Hp->Prop,(∃m,W 0 m (caps cap σ) (upd H1 acc (o0 acc)))/\∀i m τ H,W i m τ H ->
  (J.stop i H/\(Ends.mk (λ_ H=>Q (.ref acc) H) (λ_ _=>False) (λ_ _=>False) (λ_ _=>False)).nx τ H)\/(J.go i H/\∃N:St->Hp->Prop,(∀σ' H',N σ' H'->∃m',m'<m/\W (i+1) m' σ' H')/\∀x H',J.yld i H x H' ->
   tg x τ H' λσ2 H2=>gK tt (tb acc) gN {(Ends.mk (λ_ H=>Q (.ref acc) H) (λ_ _=>False) (λ_ _=>False) (λ_ _=>False))with nx:=N,ct:=N,bk:=(Ends.mk (λ_ H=>Q (.ref acc) H) (λ_ _=>False) (λ_ _=>False) (λ_ _=>False)).nx} σ2 H2)
section
variable{X:Cx}{kx vx tgt it:Expr}{ifs:List Expr}{scope:aR}{pos:Pos}{NY:List Str}{cap:List (Option Nat)}{wi:TI}{tg:TG}{tt:TT}{tb:Addr->TS}{o0:Addr->HO}
theorem rV{Q:VK}{pins:List (Addr×Obj)}{σ:St}{H:Hp}{s s2:af}{cl:List (Str×Addr)}{Gi:ae}{E:ae->af->Prop}{use:Option (ae->Sem Unit)}{QQ:ae->af->Prop}
  (ho:∀{pins:List (Addr×Obj)}{σ:St}{H:Hp}{s:af},Inv X pins σ H s->Inv X pins σ (upd H s.heap.objs.size (o0 s.heap.objs.size)) {s with heap:=s.heap.push {cls:=.type "dict",dict:=none,data:=.dict #[]}})
  (hc:X.calm=true) (S:zq X NY cap scope)
  (E6:∀x c,cl.lookup x=some c->X.env.cells.lookup x=some c) (E9:∀x∈scope.names,x.2=.free->∃c,cl.lookup x.1=some c)
  (hb:∀cl C s₀ H₀ fp,PG (qq X NY scope cl C s₀ H₀ fp) tgt tg/\PTs (qq X NY scope cl C s₀ H₀ fp) ifs tt/\∀acc,PB (qq X NY scope cl C s₀ H₀ fp) (hZ kx vx acc (qq X NY scope cl C s₀ H₀ fp).env) (tb acc))
  (h2:PIE X pins σ tgt (λJ H1=>∀acc,H1 acc=none ->
   ∃W:Nat->Nat->St->Hp->Prop,(∃m,W 0 m (caps cap σ) (upd H1 acc (o0 acc)))/\∀i m τ H,W i m τ H ->
    (J.stop i H/\(Ends.mk (λ_ H=>Q (.ref acc) H) (λ_ _=>False) (λ_ _=>False) (λ_ _=>False)).nx τ H)\/(J.go i H/\∃N:St->Hp->Prop,(∀σ' H',N σ' H'->∃m',m'<m/\W (i+1) m' σ' H')/\∀x H',J.yld i H x H' ->
     tg x τ H' λσ2 H2=>gK tt (tb acc) gN {(Ends.mk (λ_ H=>Q (.ref acc) H) (λ_ _=>False) (λ_ _=>False) (λ_ _=>False))with nx:=N,ct:=N,bk:=(Ends.mk (λ_ H=>Q (.ref acc) H) (λ_ _=>False) (λ_ _=>False) (λ_ _=>False)).nx} σ2 H2)) Gi s2)
  (fin:∀(acc C:Addr) (s':af) (m:Str->Option ae) (H':Hp),s'.heap.Ns C m->Loose X pins C->Inv X pins σ H' s'->H' C=none->Q (.ref acc) H'->compPost (ar X.prog X.w) X.A E use QQ (.ref acc) C (.ok .next) s') :
  aq (ar X.prog X.w) X.A (newDict) (λacc s₃=>aq (ar X.prog X.w) X.A (newFunctionEnv scope X.env.globals cl [] X.env.qual none .none (some X.env)) (λGq s₄=>
   codeAny (ar X.prog X.w) X.A (.compStart (.DictComp kx vx [⟨tgt,it,ifs,0⟩] scope pos) 0 Gi acc {Gq with scope:=relabel scope X.env}) (compPost (ar X.prog X.w) X.A E use QQ acc Gq.locals) s₄) E s₃) E s2:=by
 obtain⟨ia,fp,tn,J,H2,e,I2,T,FC,f2,q⟩:=h2;subst e;have Gr:∀b∈fp,b<s2.heap.objs.size:=λb hb=>by
  obtain⟨o,ho,_⟩:=T.obj _ _ FC b hb;exact aP ho
 refine wpAny_newObj_type ?_;have E5:H2 s2.heap.objs.size=none:=I2.hok.fresh (aF _);have I3:Inv X pins σ (upd H2 s2.heap.objs.size (o0 s2.heap.objs.size)) {s2 with heap:=s2.heap.push {cls:=.type "dict",dict:=none,data:=.dict #[]}}:=
  ho I2
 have Hi:(s2.heap.push {cls:=.type "dict",dict:=none,data:=.dict #[]}).objs.size=s2.heap.objs.size+1:=Heap.size_push ..;generalize HZ:({s2 with heap:=s2.heap.push {cls:=.type "dict",dict:=none,data:=.dict #[]}}:af)=s3 at I3 ⊢;have hsz:s3.heap.objs.size=s2.heap.objs.size+1:=by rw[<-HZ];exact Hi
 have Fs:tn 0 s3.heap:=T.keep _ _ _ FC λb hb o e=>by rw[<-HZ];exact Heap.get?_push_of_some _ e
 have f3:∀b∈fp,cF X pins (upd H2 s2.heap.objs.size (o0 s2.heap.objs.size)) b:=λb hb=>⟨by rw[ql (bq (Gr b hb))];exact(f2 b hb).1,(f2 b hb).2⟩
 have Gs:∀b∈fp,b<s3.heap.objs.size:=λb hb=>by rw[hsz];exact cN (Gr b hb)
 refine oF λh₁ hns₁ FX GQ=>?_
 have IY:=nS (tk:=s3.toks) I3 S E6 E9 f3 Gs hns₁ FX GQ;have H_:tn 0 h₁:=T.keep _ _ _ Fs λb hb o e=>FX b o e
 obtain⟨pg,pt,pb⟩:=hb cl s3.heap.objs.size s3 (upd H2 s2.heap.objs.size (o0 s2.heap.objs.size)) fp;have fY:∀b∈fp,cF (qq X NY scope cl s3.heap.objs.size s3 (upd H2 s2.heap.objs.size (o0 s2.heap.objs.size)) fp) [] (upd H2 s2.heap.objs.size (o0 s2.heap.objs.size)) b:=λb hb=>by
  obtain⟨g0,g1,g2,g3,g4,g5⟩:=f3 b hb;refine⟨g0,bq (Gs b hb),λz=>?_,.inl hb,(IY.ok.exf b hb).2,λp hp=>absurd (show p∈([]:List (Addr×Obj))from hp) (by simp)⟩;rcases aM.mp (I3.stkSub b z)with w|w
  ·exact g1 w
  ·exact g2 w
 have L:=uU (kx:=kx) (vx:=vx) (tgt:=tgt) (itx:=it) (ifs:=ifs) (scope:=scope) (pos:=pos) (Y:=qq X NY scope cl s3.heap.objs.size s3 (upd H2 s2.heap.objs.size (o0 s2.heap.objs.size)) fp) (acc:=s2.heap.objs.size) hc (λ_ _ z=>z) T pg pt (pb s2.heap.objs.size) IY H_ fY (q s2.heap.objs.size E5);refine codeAny_mono (codeAny_compStart_dict (kx:=kx) (vx:=vx) (target:=tgt) (iter:=it) (ifs:=ifs) (rest:=[]) (scope:=scope) (pos:=pos) (env:=compEnvC scope (bt (s3.heap.objs.size+1) scope.names []++cl) s3.heap.objs.size X.env) L (T.self _ 0 _ _ _ H_ L)) λr s' ⟨e,τ',H',I',q'⟩=>?_
 subst e;obtain⟨m',Ha,_⟩:=id I'.loc;have Hj:s3.heap.objs.size≠X.env.locals:=Nat.ne_of_gt I3.lt;have Hk:∀x c,X.env.cells.lookup x=some c->c≠s3.heap.objs.size:=λx c e z=>by
  obtain⟨v,qv⟩:=I3.cell x c e;exact absurd qv.lt (by rw[z];exact bN _)
 have J1:Inv X pins σ H' s':=by
  refine I3.call' (ch:=fp) I'.os I'.base I'.hok I'.bare λb hb=>?_
  obtain⟨g0,g1,g2,g3,g4,g5⟩:=f3 b hb;exact⟨g3,g1,g4,g5⟩
 refine fin s2.heap.objs.size s3.heap.objs.size s' m' H' Ha ⟨Hj,Hk,I3.sz,λp hp z=>?_⟩ J1 I'.free q';have:=aP (I3.pin p hp).1;rw[z]at this;exact bN _ this
theorem xx(ho:∀{pins:List (Addr×Obj)}{σ:St}{H:Hp}{s:af},Inv X pins σ H s->Inv X pins σ (upd H s.heap.objs.size (o0 s.heap.objs.size)) {s with heap:=s.heap.push {cls:=.type "dict",dict:=none,data:=.dict #[]}})(hc:X.calm=true)(S:zq X NY cap scope)(hi:PI X tgt it wi)
  (hb:∀cl C s₀ H₀ fp,PG (qq X NY scope cl C s₀ H₀ fp) tgt tg/\PTs (qq X NY scope cl C s₀ H₀ fp) ifs tt/\∀acc,PB (qq X NY scope cl C s₀ H₀ fp) (hZ kx vx acc (qq X NY scope cl C s₀ H₀ fp).env) (tb acc))
  (hs:∀x,foldedSetIterable it X.env x=pure x):PE X (.DictComp kx vx [⟨tgt,it,ifs,0⟩] scope pos) (lu o0 cap wi tg tt tb):=by
 intro pins s σ H Q I h;obtain⟨cl,Gv,E6,E9⟩:=jH (env:=X.env) (scope:=scope) λx hx hf=>I.ok.has x.1 (S.free x hx hf)
 rw[arm_eval_DictComp];refine wpAny_comprehension_free (use:=none) rfl hs Gv S.kind S.names (thn (hi pins s σ H _ I h) λv s1 h1=>thn h1 λGi s2 h2=>?_);exact rV (o0:=o0) ho (s:=s) (H:=H) (use:=none) hc S E6 E9 hb h2 λacc C s' m H' hn L I' hC q=>⟨m,hn,λh' Fh=>⟨.ref acc,H',L.turn I' hC Fh,rfl,q⟩⟩
end
end L2
namespace WD
open PySem PySem.Spec PyProof.Rows L2
def j6(K:aA)(acc:Addr)(tk tv:TE):TS:=λD σ H=>tk σ H λk H1=>tv σ H1 λv H2=>∃b xs ep ks vs key Hs,k=.ref b/\H2 acc=some (zD acc xs ep)/\(∀b o,Hs b=some o->H2 b=some o)/\qW K Hs ks vs xs/\SqT K Hs b (List.map V.int key)/\xs.length<aK /\
 ∀Fz ep',qW K Hs (zK ks key) (zT ks vs key v) Fz->D.nx σ (upd H2 acc (zD acc Fz ep'))
theorem o5{Y:Cx}{kx vx:Expr}{acc:Addr}{tk tv:TE}(hu:Y.A.units<cLine)(hk:PE Y kx tk)(hv:PE Y vx tv):PB Y (hZ kx vx acc Y.env) (j6 Y.K acc tk tv):=by
 intro pins s σ H D I h;unfold hZ;refine ah (thn (hk pins s σ H _ I h) λu s1 ⟨k,H1,I1,r1,q1⟩=>?_);refine ah (bO (thn (hv pins s1 σ H1 _ I1 q1) λu2 s2 ⟨v,H2,I2,r2,b,xs,ep,ks,vs,key,Hs,e1,e,le,r,KW,hz,q⟩=>?_));refine ah (wpAny_standAt (bO ?_));subst e1;obtain rfl:u=aY b:=r1;have FZ:xs.length<=sizeLine:=by lia
 refine wpAny_dictSet_heap (hsz:=FZ) (knd:=tupleKind (intKind Y.prog Y.w)) hu (key_is I2 (k_ le KW)) (rO I2 e (r.up le)) λh' dd' hs=>?_
 obtain⟨o,es,ep',hq,g2,g3,g4,_,g5⟩:=dd';have L3:(storedH xs key b u2).length<=xs.length+1:=by unfold storedH;split<;>simp
 have raw:Raw h' acc ((storedH xs key b u2).map ent).toArray ep':=by
  refine⟨o,hq,g2,?_⟩;rw[g3]
  congr 1
  rw[<-Array.toList_inj,g4,List.toList_toArray]
  rfl
 have I3:Inv Y pins σ (upd H2 acc (zD acc (storedH xs key b u2) ep')) {s2 with heap:=h',toks:=_}:=kj (t':=s2.toks+(tupleKind (intKind Y.prog Y.w)).draws key) I2 (by rw[e];exact True.intro) hs ⟨o,hq⟩ (kc (by lia) (gq I2 e).2.2.1 g5 raw);exact⟨σ,_,I3,q _ ep' (r.put KW r2)⟩
theorem pB{X:Cx}{pins:List (Addr×Obj)}{σ:L2.St}{H:Hp}{s:af}(I:Inv X pins σ H s):Inv X pins σ (upd H s.heap.objs.size (zD s.heap.objs.size [] 0)) {s with heap:=s.heap.push {cls:=.type "dict",dict:=none,data:=.dict #[]}}:=
 I.laid (a:=s.heap.objs.size) (o:=zD s.heap.objs.size [] 0) (h':=s.heap.push {cls:=.type "dict",data:=.dict #[]}) (t':=s.toks) (λ_ _ q=>Heap.get?_push_of_some _ q) (aF _) (BD s.heap I.big)
section
variable{prog:aB}{w:az}{K:Type} [DecidableEq K]{knd:HeapKind prog w K}{A:aD}{E:ae->af->Prop}{s:af}
theorem vp{d a:Addr}{xs:List (K×Addr×ae)}{k:K}{v:ae}{Q:Unit->af->Prop}(hu:knd.room A)(FL:knd.is s.heap k a)(hm:s.heap.DictOfH knd d xs)
  (hQ:∀h',h'.DictOfH knd d (storedH xs k a v)->Heap.SameBut d s.heap h'->Q () {s with heap:=h'}) (hsz:xs.length<=aK) :
  aq (ar prog w) A (dictSetHashed d (.ref a) (knd.hash k) v) Q E s:=by
 obtain⟨o,es,ep,ho,hc,hd,he,Il,hn⟩:=hm;unfold dictSetHashed
 try with_reducible refine bO ?_
 refine ah (wpAny_dictFind_heap hu FL ho hd he Il hn ?_ ?_)
 ·intro Ht;have J0:k∉xs.map (·.1):=not_mem_keys_of_get Ht;refine ah (wpAny_rule (wpAny_updateDictKeys (hz:=by have e:=size_of_entries he;lia) ho hd (hQ _ ⟨_,_,ep+1,Heap.get?_update_self _ ho (Obj.isFreed_of_dict (Obj.data_mapDictKeys hd _)),
   hc.mapDictKeys _,Obj.data_mapDictKeys hd _,?_,?_,?_⟩ (Heap.SameBut.update ..))))
  ·rw[storedH_new (atKey_none_of_get Ht)];simp[he,entryOfKey]
  ·rw[storedH_new (atKey_none_of_get Ht)];intro x hx;rcases List.mem_append.mp hx with hx|hx
   ·exact knd.keeps (Il x hx) ho hd (Heap.SameBut.update ..)
   ·simp only[List.mem_singleton]at hx;subst hx;exact knd.keeps FL ho hd (Heap.SameBut.update ..)
  ·rw[storedH_new (atKey_none_of_get Ht)];rw[List.map_append,List.nodup_append];refine⟨hn,by simp,?_⟩;intro x hx y hy;simp only[aJ,List.map_nil,List.mem_singleton]at hy;subst hy;exact λe=>J0 (e▸hx)
 ·intro j p hj;refine ah (wpAny_rule (ah (wpAny_updateDict ho hd (wpAny_point (hQ _ ⟨_,_,ep,Heap.get?_update_self _ ho (Obj.isFreed_of_dict (Obj.data_mapDict hd _)),
   hc.mapDict _,Obj.data_mapDict hd _,?_,?_,?_⟩ (Heap.SameBut.update ..))))))
  ·rw[storedH_old (atKey_of_get hn hj)];have:=modify_map_putAt (entryOfKey knd) (λe:DictEntry=>{e with val:=v}) k v (λ_ _=>rfl) hn hj;rw[<-he]at this;obtain⟨l⟩:=es
   simpa using this
  ·rw[storedH_old (atKey_of_get hn hj)];intro x hx;obtain⟨y,hy,rfl⟩:=aN.mp hx;unfold putAt;split<;>exact knd.keeps (Il y hy) ho hd (Heap.SameBut.update ..)
  ·rw[storedH_old (atKey_of_get hn hj)];rw[keys_map_putAt];exact hn
noncomputable def zx(xs ys:List (K×Addr×ae)):List (K×Addr×ae):=ys.foldl (λacc y=>storedH acc y.1 y.2.1 y.2.2) xs
theorem BI(xs ys:List (K×Addr×ae))(i:Nat)(y:K×Addr×ae)(h:ys[i]? = some y):zx xs (ys.take (i+1))=storedH (zx xs (ys.take i)) y.1 y.2.1 y.2.2:=by
 simp[zx,List.take_add_one,h,List.foldl_append]
theorem EF(xs:List (K×Addr×ae))(k:K)(a:Addr)(v:ae):(storedH xs k a v).length<=xs.length+1:=by
 unfold storedH;split<;>simp
theorem rA(ys:List (K×Addr×ae)):∀xs:List (K×Addr×ae),(zx xs ys).length<=xs.length+ys.length:=by
 induction ys with
 |nil=>intro xs;simp[zx]
 |cons y r ih=>
  intro xs;have e1:=ih (storedH xs y.1 y.2.1 y.2.2);have e2:=EF xs y.1 y.2.1 y.2.2;simp only[zx,List.foldl_cons,b_]at e1 ⊢;lia
theorem ub(ys:List (K×Addr×ae)):∀acc:List (K×Addr×ae),((acc++ys).map (·.1)).Nodup->zx acc ys=acc++ys:=by
 induction ys with
 |nil=>intro acc _;simp[zx]
 |cons y r ih=>
  intro acc hn;have hf:atKey acc y.1=none:=atKey_none_of_get λj p hj=>by
   rw[List.map_append,aJ,List.nodup_append]at hn;exact hn.2.2 y.1 (aN.mpr ⟨_,List.mem_of_getElem? hj,rfl⟩) y.1 aL rfl
  have:zx acc (y::r)=zx (acc++[y]) r:=by
   simp only[zx,List.foldl_cons,storedH_new hf]
  rw[this,ih _ (by simpa using hn)];simp
theorem Bs{a:Addr}{Q:Bool->af->Prop}(hT:s.TypeIs (.ref a) "tuple")(h:Q false s):aq (ar prog w) A (Builtin.Dict.quietEq (.ref a)) Q E s:=by
 unfold Builtin.Dict.quietEq;refine ah (wpAny_specialOf hT F.slot_tuple_eq.lookup ?_);exact aC h
theorem BF{l:List DictEntry}(hn:(l.map (·.hash)).Nodup){e:DictEntry}:(l.filter (·.hash==e.hash)).length<=1:=by
 induction l with
 |nil=>simp
 |cons a r ih=>
  rw[aJ,List.nodup_cons]at hn;rw[cP];split
  ·rename_i q
   have:r.filter (·.hash==e.hash)=[]:=List.filter_eq_nil_iff.mpr λb hb z=>hn.1 (aN.mpr ⟨b,hb,by rw[eq_of_beq z,eq_of_beq q]⟩)
   rw[this];simp
  ·exact ih hn.2
theorem AG{id:String}{d:Addr}{o:Obj}{es ep}{Q:Array DictEntry->af->Prop}(ho:s.heap.get? d=some o)(hd:o.data=.dict es ep)(hk:∀e∈es.toList,∃b,e.key=.ref b/\s.TypeIs (.ref b) "tuple")(hn:(es.toList.map (·.hash)).Nodup)(h:Q es s) :
  aq (ar prog w) A (Builtin.Dict.entriesForEmpty id d) Q E s:=by
 unfold Builtin.Dict.entriesForEmpty;refine ah (wpAny_dictEntries ho hd ?_);refine ah ?_;rw[<-Array.forIn_toList];refine wpAny_forIn_list _ (λrest r s'=>s'=s/\∀e∈rest,e∈es.toList) _ ?_ ?_ _ _ ⟨rfl,λ_ z=>z⟩
 ·rintro x rest r s' ⟨rfl,hr⟩;obtain⟨b,e1,hT⟩:=hk x (hr x aL);rw[e1];refine ah (Bs hT ?_);simp only[Bool.not_false,if_true];rw[if_neg (by
   rw[<-bb,Array.toList_filter];have:=BF hn (e:=x);lia)]
  exact aC ⟨rfl,λe he=>hr e (aO _ he)⟩
 ·rintro r s' ⟨rfl,_⟩;exact aC h
theorem yw{nm:String}{d o:Addr}{xs ys:List (K×Addr×ae)}{Q:Unit->af->Prop}(IT:d≠o)(J3:(o==sysModules)=false)(hu:knd.room A)
  (hd:s.heap.DictOfH knd d xs) (ho:s.heap.DictOfH knd o ys) (E8:ys≠[]) (Gz:xs=[]->(ys.map λy=>knd.hash y.1).Nodup) (HS:∀y∈ys,s.TypeIs (.ref y.2.1) "tuple")
  (hQ:∀h',h'.DictOfH knd d (zx xs ys)->Heap.SameBut d s.heap h'->Q () {s with heap:=h'})
  (hsz:xs.length+ys.length<=aK) :
  aq (ar prog w) A (Builtin.Dict.mergeDict nm d o) Q E s:=by
 obtain⟨od,L4,L5,IU,F5,Im,Ij,hid,F4⟩:=id hd;obtain⟨oo,FR,Nw,Io,KY,Gd,Gh,KZ,Ht⟩:=id ho;unfold Builtin.Dict.mergeDict;rw[if_neg (by simpa using IT)];unfold Builtin.Dict.showsAll;rw[if_neg (by rw[J3];exact bX)];refine ah (aC ?_);refine ah (wpAny_dictEntries Io Gd ?_);have hlen:FR.size=ys.length:=size_of_entries Gh;have loop:aq (ar prog w) A (do
   let Ip <-dictEpoch o
   let l <-dictEntries o
   forIn [:l.size] PUnit.unit λi (_:PUnit)=>(do
     let l' <-dictEntries o
     match l'[i]? with
      |some e=>do
       holding [e.key,e.val] (dictSetHashed d e.key e.hash e.val)
       let ep' <-dictEpoch o
       if (ep' != Ip)=true then do
         (unsupported (toString nm++toString ":source-changed-during-callback"):Sem PUnit)
         pure (cc PUnit.unit)
        else pure (cc PUnit.unit)
      |_=>do
       (unsupported "internal:dict-merge" : Sem PUnit)
       pure (cc PUnit.unit):Sem (ForInStep PUnit))
   pure ()) Q E s:=by
  refine ah (wpAny_dictEpoch Io Gd ?_);refine ah (wpAny_dictEntries Io Gd ?_);refine ah ?_;rw[Std.Legacy.Range.forIn_eq_forIn_range'];simp only[Std.Legacy.Range.size,Nat.sub_zero,Nat.add_sub_cancel,Nat.div_one];refine wpAny_forIn_list _
   (λrest _ s'=>∃h' i,s'={s with heap:=h'}/\rest=List.range' i (FR.size-i)/\i<=FR.size/\h'.DictOfH knd d (zx xs (ys.take i))/\h'.get? o=some oo/\Heap.SameBut d s.heap h'/\∀y∈ys,knd.is h' y.1 y.2.1)
   _ ?_ ?_ _ _ ⟨s.heap,0,rfl,by simp,bz _,by simpa[zx]using hd,Io,Heap.SameBut.refl _ _,KZ⟩
  ·rintro x rest b s' ⟨h',i,rfl,hr,hi,FJ,Hu,Fh,Hv⟩;have EZ:i<FR.size:=by
    rcases Nat.lt_or_ge i FR.size with h|h
    ·exact h
    ·rw[Nat.sub_eq_zero_of_le h]at hr;simp at hr
   obtain⟨rfl,Gp⟩:x=i/\rest=List.range' (i+1) (FR.size-(i+1)):=by
    have e:FR.size-i=(FR.size-(i+1))+1:=by lia
    rw[e,List.range'_succ]at hr;injection hr with h1 h2
    exact⟨h1,h2⟩
   refine ah (wpAny_dictEntries Hu Gd ?_);obtain⟨y,hy⟩:∃y,ys[x]? = some y:=⟨ys[x]'(by rw[<-hlen];exact EZ),List.getElem?_eq_getElem _⟩
   have hex:FR[x]? = some (entryOfKey knd y):=by rw[entry_at Gh x,hy];rfl
   rw[hex];show aq _ _ (holding [aY y.2.1,y.2.2] (dictSetHashed d (.ref y.2.1) (knd.hash y.1) y.2.2)>>=_) _ _ _;have hm:=List.mem_of_getElem? hy;have L6:(zx xs (ys.take x)).length<=sizeLine:=by
    have e1:=rA (ys.take x) xs;have e2:(ys.take x).length<=ys.length:=by rw[dn];lia
    lia
   refine ah (bO (vp (hsz:=L6) hu (Hv y hm) FJ λIV hd'' Hw=>?_));have G8:IV.get? o=some oo:=(Hw.2 o (Ne.symm IT)).trans Hu;refine ah (wpAny_dictEpoch G8 Gd ?_);rw[if_neg (by simp)];obtain⟨o1,Nx,Ny,k1,_,k2,_⟩:=id FJ;exact aC ⟨IV,x+1,rfl,Gp,EZ,by rw[BI xs ys x y hy];exact hd'',G8,Fh.trans Hw,λz hz=>knd.keeps (Hv z hz) k1 k2 Hw⟩
  ·rintro b s' ⟨h',i,rfl,hr,hi,FJ,Hu,Fh,Hv⟩;have L7:i=FR.size:=by
    rcases Nat.lt_or_ge i FR.size with h|h
    ·have e:FR.size-i=(FR.size-(i+1))+1:=by lia
     rw[e,List.range'_succ]at hr;exact nomatch hr
    ·exact Nat.le_antisymm hi h
   refine aC (hQ h' ?_ Fh);rw[L7,hlen,List.take_length]at FJ;exact FJ
 dsimp only;split
 ·refine ah (wpAny_dictEntries IU Im ?_);split
  ·rename_i J4
   have hx:xs=[]:=by
    have h0:L4 = #[]:=Array.isEmpty_iff.mp J4;have:=size_of_entries Ij;rw[h0]at this;exact List.length_eq_zero_iff.mp (by simpa using this.symm)
   subst hx;refine ah (AG Io Gd (λe he=>?_) (by rw[Gh,bh];exact Gz rfl) ?_)
   ·rw[Gh]at he;obtain⟨y,hy,rfl⟩:=aN.mp he;exact⟨_,rfl,HS y hy⟩
   rw[ub ys [] (by simpa using Ht),List.nil_append]at hQ;split
   ·have L8:FR.size<=aK+1:=by
     simp only[List.length_nil,Nat.zero_add]at hsz;lia
    refine ah (wpAny_updateDictKeysTo IU Im (aC (hQ _ ⟨_,_,L5+1,Heap.get?_update_self _ IU (Obj.isFreed_of_dict (Obj.data_mapDictKeys Im _)),F5.mapDictKeys _,
     Obj.data_mapDictKeys Im _,Gh,λy hy=>knd.keeps (KZ y hy) IU Im (Heap.SameBut.update ..),Ht⟩ (Heap.SameBut.update ..))) L8)
   ·rename_i IW
    have h0:FR = #[]:=Array.isEmpty_iff.mp (by simpa using IW);rw[h0]at hlen;exact absurd (List.length_eq_zero_iff.mp hlen.symm) E8
  ·exact loop
 ·exact loop
theorem xF(d o:Addr)(IT:d≠o)(J3:(o==sysModules)=false) :
  MeetsIn prog w (Builtin.«dict.update» ⟨[.ref d,.ref o],[]⟩) (λA R s=>knd.room A.in1/\∃xs ys,s.heap.DictOfH knd d xs/\s.heap.DictOfH knd o ys/\ys≠[]/\(xs=[]->(ys.map λy=>knd.hash y.1).Nodup)/\(∀y∈ys,s.TypeIs (.ref y.2.1) "tuple")/\xs.length+ys.length<=aK /\
   ∀h',h'.DictOfH knd d (zx xs ys)->Heap.SameBut d s.heap h'->R (.ok (.ret .none)) {s with heap:=h'}):=
 .of_wp λA R s ⟨hu,xs,ys,hd,ho,E8,Gz,HS,hsz,h⟩=>by
  unfold Builtin.«dict.update»;refine ah ?_;unfold Builtin.Dict.selfAndRest;refine ah (wpAny_notOrdered_dict hd.typeIs ?_);show aq _ _ (pure (d,[aY o])) _ _ s;refine aC ?_;show aq _ _ (Builtin.Dict.updateFrom "dict.update" d (.ref o) [] .none) _ _ s;unfold Builtin.Dict.updateFrom;refine ah (wpAny_typeOf ho.typeIs ?_);rw[if_neg (by decide)];refine ah ?_;unfold Builtin.Dict.merge;refine ah ?_
  ·unfold Builtin.Dict.readDirectly;refine ah (wpAny_isInstance ho.typeIs isSubtype_dict_dict ?_);simp only[Bool.not_true,bp,if_false];refine ah (wpAny_specialOf ho.typeIs F.slot_dict_iter.lookup (aC ?_));simp only[beq_self_eq_true,if_true];refine ah (aC ?_);refine yw (hsz:=hsz) IT J3 hu hd ho E8 Gz HS λh' FJ Fh=>?_
   show aq _ _ (Builtin.Dict.addKeywords d []>>=_) _ _ _;exact ah (aC (aC ⟨.none,rfl,h h' FJ Fh⟩))
end
abbrev fv(k:List Int):Int:=reduceHash (Builtin.Tuple.tupleHashOf (k.map hashInt))
theorem qW.merge{K:aA}{H:Hp}{ms:List (List Int)}{us:List V}{ys:List E3}(r2:qW K H ms us ys):∀{ks:List (List Int)}{vs:List V}{xs:List E3},qW K H ks vs xs->qW K H (zH ks (ms.zip us)) (zE ks vs (ms.zip us)) (zx xs ys):=by
 induction r2 with
 |nil=>intro ks vs xs r;exact r
 |cons h1 h2 _ ih=>intro ks vs xs r;exact ih (r.put h1 h2)
def Cu(K:aA)(H:Hp)(a:Addr)(y:V)(Q:VK):Prop:=
 ∃b xs ys ep ks vs ms us Hs,y=.ref b/\a≠b/\TD H a xs/\H b=some (zD b ys ep)/\(∀b o,Hs b=some o->H b=some o)/\qW K Hs ks vs xs/\qW K Hs ms us ys/\ms≠[]/\(ks=[]->(ms.map fv).Nodup)/\ks.length+ms.length<=aK /\
  ∀Fz ep',qW K Hs (zH ks (ms.zip us)) (zE ks vs (ms.zip us)) Fz->Q .non (upd H a (zD a Fz ep'))
def wL(K:aA)(td ty:TE):TE:=λσ H Q=>td σ H λx H1=>∃a,x=.ref a/\ly H1 a/\ty σ H1 λy H2=>Cu K H2 a y Q
section
variable{X:Cx}{o e:Expr}{apos cpos:Pos}{td ty:TE}
theorem xU{P:aB}{w:az}{s:af}{k:List Int}{b:Addr}(h:(tupleKind (intKind P w)).is s.heap k b):s.TypeIs (.ref b) "tuple":=IsTupleKey.typeIs h
theorem Ad(hu:X.A.units+1<cLine)(ho:PE X o td)(he:PE X e ty)(m:M1 X o "update" apos e cpos):PE X (.Call (.Attribute o "update" apos) [e] [] cpos) (wL X.K td ty):=by
 intro pins s σ H Q I h;refine wpAny_Call_method m.base m.few m.line PySem.F.plainAttrs_dict PySem.F.slot_dict_update PySem.F.type_dict_update (thn (ho pins s σ H _ I h) λu s1 ⟨x,H1,I1,rx,a,ex,d,q1⟩=>?_);subst ex;obtain rfl:u=aY a:=rx;obtain⟨t1,t2⟩:=oq I1 d;refine⟨t1,t2,?_⟩;rw[m.trees];refine Calls.callWith_builtin rfl (Calls.evalArgs_plain (Calls.spliced_cons (thn (he pins s1 σ H1 _ I1 q1) λiv s2 ⟨y,H2,I2,ry,g⟩=>Calls.spliced_nil ?_)));obtain⟨b,xs,ys,ep,ks,vs,ms,us,Hs,ey,Iq,t,hb,le,r,r2,E8,Gz,hz,q2⟩:=g;subst ey;obtain rfl:iv=aY b:=ry;have dd:=iB I2 t (r.up le);have F6:=rO I2 hb (r2.up le);have l1:=r.len;have l2:=r2.len;refine call_meetsIn PySem.F.slot_dict_update dd.typeIs PySem.F.entry_dict_update (PySem.F.args_dict_update_2 _ _) (xF (knd:=tupleKind (intKind X.prog X.w)) a b Iq (gq I2 hb).2.2.1)
  ⟨tupleKind_room_in1 hu,xs,ys,dd,F6,λz=>E8 ?_,λz=>?_,λy hy=>?_,by lia,λh' dd' hs=>?_⟩
 ·rw[z]at l2;exact List.length_eq_zero_iff.mp l2.2.symm
 ·have:=Gz (by rw[z]at l1;exact List.length_eq_zero_iff.mp l1.2.symm);rw[<-r2.keys,bh]at this;exact this
 ·obtain⟨_,_,_,_,_,_,_,Il,_⟩:=F6;exact xU (Il y hy)
 ·have hl:(zx xs ys).length<=sizeLine:=a8 (rA ys xs) (by lia);obtain⟨q,es,ep',hq,g2,g3,g4,_,g5⟩:=dd';have raw:Raw h' a ((zx xs ys).map ent).toArray ep':=by
   refine⟨q,hq,g2,?_⟩;rw[g3]
   congr 1
   rw[<-Array.toList_inj,g4,List.toList_toArray]
   rfl
  exact⟨.non,_,kj (t':=s2.toks) I2 t.mut hs ⟨q,hq⟩ (kc hl (fJ I2 t).2.2.1 g5 raw),rfl,q2 _ _ (r2.merge r)⟩
theorem Eb{kx vx tgt it:Expr}{ifs:List Expr}{scope:aR}{pos pos' spos:Pos}{NY:List Str}{cap:List (Option Nat)}{wi:TI}{tg:TG}{tt:TT}{tb:Addr->TS}{o0:Addr->HO}{i:Nat}{x:Str}
  (h0:∀{pins:List (Addr×Obj)}{σ:L2.St}{H:Hp}{s:af},Inv X pins σ H s->Inv X pins σ (upd H s.heap.objs.size (o0 s.heap.objs.size)) {s with heap:=s.heap.push {cls:=.type "dict",dict:=none,data:=.dict #[]}})
  (hN:X.N.Nodup) (F9:X.N[i]? = some x) (hx:Loc X.env.scope x) (hc:X.calm=true) (S:zq X NY cap scope) (hi:PI X tgt it wi)
  (hb:∀cl C s₀ H₀ fp,PG (qq X NY scope cl C s₀ H₀ fp) tgt tg/\PTs (qq X NY scope cl C s₀ H₀ fp) ifs tt/\∀acc,PB (qq X NY scope cl C s₀ H₀ fp) (hZ kx vx acc (qq X NY scope cl C s₀ H₀ fp).env) (tb acc))
  (JP:swapsWith (.DictComp kx vx [⟨tgt,it,ifs,0⟩] scope pos) (some (.Name x pos')) spos.line X.env=pure true)
  (hf:X.fn x=true\/X.env.scope.names.lookup x=some .local)
  (hs:∀x,foldedSetIterable it X.env x=pure x) :
  PS X (.Assign [.Name x pos'] (.DictComp kx vx [⟨tgt,it,ifs,0⟩] scope pos) spos) (jn (lu o0 cap wi tg tt tb) (eZ i)):=by
 intro pins s σ H D I h;obtain⟨cl,Gv,E6,E9⟩:=jH (env:=X.env) (scope:=scope) λx hx hf=>I.ok.has x.1 (S.free x hx hf)
 rw[exec_Assign_Name_used _ _ _ _ JP];refine ah (wpAny_standAt (ah ?_));show aq _ _ (do let _ <-comprehension (.DictComp kx vx [⟨tgt,it,ifs,0⟩] scope pos) scope X.env _ newDict false (eval it X.env) (some (assign (.Name x pos') X.env))) _ _ s;refine ah (bD (wpAny_comprehension_free (use:=some (assign (.Name x pos') X.env)) (Q:=λ_ s'=>SP X pins D .next s') rfl hs Gv S.kind S.names (thn (hi pins s σ H _ I h) λv s1 h1=>thn h1 λGi s2 h2=>?_)) (λ_ s' q=>aC (aC q)) λ_ _ e=>e);refine rV (o0:=o0) h0 (s:=s) (H:=H) (Q:=λx H1=>eZ i x σ H1 D.nx) (use:=some (assign (.Name x pos') X.env)) hc S E6 E9 hb h2 λacc C s' m H' hn L I1 hC q1=>?_
 show aq _ _ (assign (.Name x pos') X.env (.ref acc)) _ _ _;refine wpAny_assign_Name (lR (v:=.ref acc) I1 hN F9 hx rfl (λs3 I3 ⟨a,JQ,ha⟩=>?_) hf);have JR:C≠a:=by
  rcases ha with z|z
  ·rw[z];exact L.loc
  ·exact Ne.symm (L.cell x a z)
 exact⟨m,hn.sameBut JQ JR,λh' IJ=>⟨_,H',L.turn I3 hC IJ,q1⟩⟩
end
end WD
namespace L2
open PySem PySem.Spec PyProof.Rows
noncomputable def fM(kX:Str->Option aW)(NX NY:List Str)(cap:List (Option Nat))(scope:aR):Bool:=
 (scope.kind==.function)&&(scope.names.all λy=>(y.2 != .cell||scope.names.lookup y.1==some .cell)&&(y.2 != .local||scope.names.lookup y.1==some .local)&&(y.2 != .free||kX y.1==some .cell||kX y.1==some .free)) &&
 (cap.length==NY.length)&&(aX cap.length).all λi=>match cap[i]? with
  |some (some j)=>(match NY[i]?,NX[j]? with
   |some x,some y=>x==y&&scope.names.lookup x==some .free&&(kX x==some .cell||kX x==some .free)
   |_,_=>false)
  |_=>true
theorem zq.of{X:Cx}{NY:List Str}{cap:List (Option Nat)}{scope:aR}(h:fM X.env.kindOf X.N NY cap scope=true):zq X NY cap scope:=by
 unfold fM at h;simp only[aQ,bS,beq_iff_eq]at h;obtain⟨⟨⟨h1,h2⟩,h3⟩,h4⟩:=h;refine⟨h1,λy hy e=>?_,λy hy e=>?_,λy hy e=>?_,h3,λi j hc=>?_⟩
 ·have:=(h2 y hy).1.1;rw[e]at this
  simpa using this
 ·have:=(h2 y hy).1.2;rw[e]at this
  simpa using this
 ·have:=(h2 y hy).2;rw[e]at this
  simpa using this
 ·have hi:i<cap.length:=(List.getElem?_eq_some_iff.mp hc).1;have:=h4 i (List.mem_range.mpr hi);rw[hc]at this;dsimp only at this;split at this
  ·rename_i x y e1 e2
   simp only[aQ,beq_iff_eq,bG]at this;obtain⟨⟨e3,e4⟩,e5⟩:=this;subst e3;exact⟨x,e1,e2,e4,e5⟩
  ·cases this
end L2
namespace WB
open PySem PySem.Spec PyProof.Rows L2
section
variable{P:aB}{w:az}{K:aA}{mg:Str->Option ae}{base:Heap}{f g:Addr}{fd gd:FuncData}
theorem _root_.L2.Fun.ok1{x qual:Str}{st:Stmt}{f:Addr}{fd:FuncData}{N ps:List Str}{k:Nat}{sp:Sp}(F:Fun K x qual st f fd)(S:iL N ps (zb st))(len:∀vs H Q E,sp vs H Q E->vs.length=ps.length)
  (Fd:∀(cdv:ae) (A:aD) (outer:List Env) (s:af) (H:Hp) (vs:List V) (Q:VK) (E:XK),cC k (A.deeper (envOfC qual (zb st) s.heap.objs.size f cdv))->sp vs H Q E ->
   ∃t,PSs (fD (CX1 P w) P w K mg base N qual (zb st) f cdv A outer s H E) (eh st) t/\t {nx:=λ_ H'=>Q .non H',rt:=Q} (start N vs) H):gj P w K mg base (CX1 P w) (k+1) f fd ps sp:=by
 obtain⟨oc,od,kV,doc,pm,an,cdv,ct,osl,rfl,lk,F5⟩:=F.ex;exact xk lk F5 S len λA outer s H vs Q E hr GI=>Fd cdv A outer s H vs Q E hr GI
end
def w_(H:Hp)(ps:List Addr)(ks:List (Int×Int)):Prop:=ps.length=ks.length/\∀(i:Nat) p k,ps[i]? = some p->ks[i]? = some k->H p=some (.tup [.int k.1,.int k.2])
structure Built(H0:Hp)(acc:Addr)(ks:List (Int×Int))(H:Hp):Prop where
 ex:∃ps:List Addr,H acc=some (.lst (ps.map V.ref))/\w_ H ps ks
 same:∀b o,b≠acc->H0 b=some o->H b=some o
end WB
namespace EV
open PySem L2
inductive D where
 |non|bl (b:Bool)|int (i:Int)|str (x:Str)|tup (xs:List D)|lst (xs:List D)|fn (x:Str)|exn (c:Str)|dic (kvs:List (Int×Int))|dct (ks:List (List Int)) (ds:List D)
inductive R(α:Type) where
 |ok (a:α)|ex (c:Str)|no
noncomputable def R.bind{α β:Type}:R α->(α->R β)->R β
 | .ok a,f=>f a
 | .ex c,_=>.ex c
 | .no,_=>.no
@[simp] theorem R.bind_ok{α β:Type}(a:α)(f:α->R β):(R.ok a).bind f=f a:=rfl
@[simp] theorem R.bind_ex{α β:Type}(c:Str)(f:α->R β):(R.ex c:R α).bind f=.ex c:=rfl
@[simp] theorem R.bind_no{α β:Type}(f:α->R β):(R.no:R α).bind f=.no:=rfl
inductive O2 where
 |add|sub|mul|fdiv|mod|pow|shl|shr|band|bor|bxor
 deriving DecidableEq
inductive C2 where
 |eq|ne|lt|le|gt|ge|isin|notin|is|isnot
 deriving DecidableEq
inductive B1 where
 |len|tuple|list|sorted|all|any|sum|min|max|abs|int|bool
 deriving DecidableEq
inductive Cl where
 |ty (n:String)|ex (x:Str)
 deriving DecidableEq
inductive Tg where
 |nm (i:Nat)|tp (is:List Nat)
set_option genInjectivity false
mutual
inductive E where
 |var (i:Nat)|own (i:Nat)|con (d:D)|glb (x:Str)
 |op (o:O2) (a b:E)|neg (a:E)|not (a:E)|and (a b:E)|or (a b:E)
 |cmp (c:C2) (a b:E)|cmp2 (c c':C2) (a b d:E)|cmp3 (c c' c'':C2) (a b d e:E)
 |ite (t:T) (a b:E)
 |tup (es:Es)|lst (es:Es)
 |ix (a b:E)|sl (a:E) (lo hi:OE)
 |call (f:Str) (es:Es)
 |bi (b:B1) (es:Es)
 |isi (a:E) (c:Cl)
 |comp (it:It) (cap:List (Option Nat)) (tg:Tg) (t:T) (elt:E)
 |cnt (a b:E)
 |dic
 |sset (ln:Bool) (a:E)
 |dget (a b:E)
 |lstc (f:Str) (es:Es)
 |callf (f:Str) (es:Es)
 |dcm (it:It) (cap:List (Option Nat)) (tg:Tg) (t:T) (k v:E)
inductive OE where
 |none|some (e:E)
inductive Es where
 |nil|cons (e:E) (es:Es)
inductive It where
 |seq (e:E)|rng (a:E)|rng2 (a b:E)|enum (e:E)|zip (a b:E)
inductive T where
 |yes|val (e:E)|cmp (c:C2) (a b:E)|cmp2 (c c':C2) (a b d:E)|and (a b:T)|or (a b:T)|not (a:T)
end
set_option genInjectivity true
noncomputable def SZ:Nat:=1000000
noncomputable def small(j:Int):Bool:=decide (-(2^64)<j)&&decide (j<2^64)
noncomputable def opI:O2->Int->Int->R D
 | .add,i,j=>.ok (.int (i+j))
 | .sub,i,j=>.ok (.int (i-j))
 | .mul,i,j=>if small i||small j then .ok (.int (i * j))else .no
 | .fdiv,i,j=>if 0<j/\j<1000000000000000000000000000000 then .ok (.int (i/j))else .no
 | .mod,i,j=>if 0<j then .ok (.int (i%j))else .no
 | .pow,i,j=>if 0<=j/\j<=1000000/\i.natAbs<2^64 then .ok (.int (i^j.toNat))else .no
 | .shl,i,j=>if 0<=j/\j<=1000000/\i.natAbs<2^64 then .ok (.int (i * 2^j.toNat))else .no
 | .shr,i,j=>if 0<=j then .ok (.int (i/2^j.toNat))else .no
 | .band,i,j=>.ok (.int (Builtin.bitAnd i j))
 | .bor,i,j=>.ok (.int (Builtin.bitOr i j))
 | .bxor,i,j=>.ok (.int (Builtin.bitXor i j))
noncomputable def zl:D->Bool
 | .lst _=>true
 | .dic _=>true
 | .dct _ _=>true
 |_=>false
noncomputable def lM:D->Bool
 | .lst _=>true
 |_=>false
noncomputable def op2(o:O2):D->D->R D
 | .int i,.int j=>opI o i j
 | .tup xs,.tup ys=>if o=.add/\xs.length+ys.length<=SZ then .ok (.tup (xs++ys))else .no
 | .lst xs,.lst ys=>if o=.add/\xs.length+ys.length<=SZ then .ok (.lst (xs++ys))else .no
 |_,_=>.no
mutual
noncomputable def D.plain:D->Bool
 | .non=>true
 | .bl _=>true
 | .int _=>true
 | .str x=>PyData.strOk x
 | .tup xs=>plainAll xs
 | .lst xs=>plainAll xs
 | .fn _=>false
 | .exn _=>false
 | .dic _=>false
 | .dct _ _=>false
noncomputable def plainAll:List D->Bool
 | []=>true
 |x::xs=>x.plain&&plainAll xs
end
mutual
noncomputable def D.deep:D->Nat
 | .tup xs=>dC xs+1
 | .lst xs=>dC xs+1
 |_=>0
noncomputable def dC:List D->Nat
 | []=>0
 |x::xs=>max x.deep (dC xs)
end
mutual
noncomputable def D.eqv:D->D->Bool
 | .non,.non=>true
 | .bl a,.bl b=>a==b
 | .bl a,.int j=>(if a then 1 else 0)==j
 | .int i,.bl b=>i==(if b then 1 else 0)
 | .int i,.int j=>i==j
 | .str x,.str y=>x==y
 | .tup xs,.tup ys=>eqvAll xs ys
 | .lst xs,.lst ys=>eqvAll xs ys
 |_,_=>false
noncomputable def eqvAll:List D->List D->Bool
 | [],[]=>true
 |x::xs,y::ys=>x.eqv y&&eqvAll xs ys
 |_,_=>false
end
noncomputable def D.asks(d:D):Bool:=d.plain&&decide (d.deep<=20)
mutual
noncomputable def D.noL:D->Bool
 | .non=>true
 | .bl _=>true
 | .int _=>true
 | .str _=>true
 | .tup xs=>d_ xs
 |_=>false
noncomputable def d_:List D->Bool
 | []=>true
 |x::xs=>x.noL&&d_ xs
end
noncomputable def ints?:List D->Option (List Int)
 | []=>some []
 | .int i::r=>(ints? r).map (i :: ·)
 |_=>none
noncomputable def bools?:List D->Option (List Bool)
 | []=>some []
 | .bl i::r=>(bools? r).map (i :: ·)
 |_=>none
noncomputable def pairs?:List D->Option (List (Int×Int))
 | []=>some []
 | .tup [.int i,.int j]::r=>(pairs? r).map ((i,j) :: ·)
 |_=>none
noncomputable def seq?:D->Option (List D)
 | .tup xs=>some xs
 | .lst xs=>some xs
 |_=>none
noncomputable def de:List Int->List Int->Bool
 | [],[]=>false
 | [],_::_=>true
 |_::_,[]=>false
 |a::r,b::t=>if a=b then de r t else decide (a<b)
noncomputable def lG(c:C2)(i j:Int):Option Bool:=
 match c with
 | .lt=>some (decide (i<j))
 | .le=>some (decide (i<=j))
 | .gt=>some (decide (j<i))
 | .ge=>some (decide (j<=i))
 | .eq=>some (decide (i=j))
 | .ne=>some (!decide (i=j))
 |_=>none
noncomputable def inD(x:D)(xs:List D):Bool:=xs.any λy=>y.eqv x
noncomputable def fA:D->Bool
 | .non=>true
 |_=>false
noncomputable def isB(n:Bool):D->D->R Bool
 | .bl a,.bl b=>.ok (n != (a==b))
 |_,_=>.no
noncomputable def eQ(a:D)(ks:List (List Int)):R Bool:=match a with
 | .tup xs=>(match ints? xs with|some k=>.ok (ks.any λx=>decide (x=k))|none=>.no)
 |_=>.no
noncomputable def cW(a b:D):R Bool:=match b with
 | .dic kvs=>(match a with
  | .int i=>.ok (kvs.any λp=>decide (p.1=i))
  |a=>if kvs.isEmpty=true then eQ a []else .no)
 | .dct ks _=>eQ a ks
 |_=>.no
noncomputable def qk:C2->D->D->R Bool
 | .is,a,b=>if fA b then .ok (fA a)else isB false a b
 | .isnot,a,b=>if fA b then .ok (!fA a)else isB true a b
 | .isin,a,b=>match seq? b with
  |some xs=>if a.asks&&xs.all D.asks then .ok (inD a xs)else .no
  |none=>cW a b
 | .notin,a,b=>match seq? b with
  |some xs=>if a.asks&&xs.all D.asks then .ok (!inD a xs)else .no
  |none=>(cW a b).bind λr=>.ok (!r)
 | .eq,a,b=>if a.asks&&b.asks then .ok (a.eqv b)else .no
 | .ne,a,b=>if a.asks&&b.asks then .ok (!a.eqv b)else .no
 | .lt,.tup xs,.tup ys=>match ints? xs,ints? ys with
  |some ns,some ms=>.ok (de ns ms)
  |_,_=>.no
 |c,.int i,.int j=>match lG c i j with
  |some b=>.ok b
  |none=>.no
 |_,_,_=>.no
theorem dN{a b:D}:qk .is a b=(if fA b then .ok (fA a)else isB false a b):=rfl
theorem zB{a b:D}:qk .isnot a b=(if fA b then .ok (!fA a)else isB true a b):=rfl
theorem dX{a b:D}:qk .eq a b=(if a.asks&&b.asks then .ok (a.eqv b)else .no):=rfl
theorem dU{a b:D}:qk .ne a b=(if a.asks&&b.asks then .ok (!a.eqv b)else .no):=rfl
theorem zI{a b:D}:qk .isin a b=(match seq? b with
  |some xs=>if a.asks&&xs.all D.asks then .ok (inD a xs)else .no
  |none=>cW a b):=rfl
theorem zC{a b:D}:qk .notin a b=(match seq? b with
  |some xs=>if a.asks&&xs.all D.asks then .ok (!inD a xs)else .no
  |none=>(cW a b).bind λr=>.ok (!r)):=rfl
theorem dW{xs ys:List D}:qk .lt (.tup xs) (.tup ys)=(match ints? xs,ints? ys with
  |some ns,some ms=>.ok (de ns ms)
  |_,_=>.no):=rfl
noncomputable def truth:D->R Bool
 | .non=>.ok false
 | .bl b=>.ok b
 | .int i=>.ok (i != 0)
 | .tup xs=>.ok (!xs.isEmpty)
 | .lst xs=>.ok (!xs.isEmpty)
 |_=>.no
noncomputable def ixD:D->D->R D
 | .tup xs,.int i=>match atI xs i with|some d=>.ok d|none=>.no
 | .lst xs,.int i=>match atI xs i with|some d=>.ok d|none=>.no
 | .dic kvs,.int i=>match atK kvs i with|some v=>.ok (.int v)|none=>.no
 | .dct ks ds,.tup xs=>(match ints? xs with
  |some k=>(match WD.atT ks ds k with|some d=>.ok d|none=>.no)
  |none=>.no)
 |_,_=>.no
noncomputable def cutD(xs:List D)(lo hi:Option Int):List D:=(xs.drop (HT.sIx xs.length 0 lo)).take (HT.sIx xs.length xs.length hi-HT.sIx xs.length 0 lo)
noncomputable def slD:D->Option Int->Option Int->R D
 | .lst xs,lo,hi=>.ok (.lst (cutD xs lo hi))
 |_,_,_=>.no
noncomputable def insI(i:Int):List Int->List Int
 | []=>[i]
 |j::r=>if i<=j then i::j::r else j::insI i r
noncomputable def sortI:List Int->List Int
 | []=>[]
 |i::r=>insI i (sortI r)
noncomputable def fj(p:Int×Int):List (Int×Int)->List (Int×Int)
 | []=>[p]
 |q::r=>if ltP q p then q::fj p r else p::q::r
noncomputable def zR:List (Int×Int)->List (Int×Int)
 | []=>[]
 |p::r=>fj p (zR r)
noncomputable def pairD(p:Int×Int):D:=.tup [.int p.1,.int p.2]
noncomputable def eE(d:D)(k:List D->R D):R D:=match d with | .lst xs=>k xs|_=>.no
noncomputable def ibR(d:D)(f:Int->R D)(q:Bool->R D):R D:=match d with | .int i=>f i | .bl b=>q b|_=>.no
noncomputable def iiR(d e:D)(k:Int->Int->R D):R D:=match d,e with | .int i,.int j=>k i j|_,_=>.no
noncomputable def cy{α β:Type}(o:Option α)(k:α->R β):R β:=match o with|some a=>k a|none=>.no
noncomputable def tups?:List D->Option (List (List Int))
 | []=>some []
 | .tup xs::r=>(ints? xs).bind λn=>(tups? r).map (n :: ·)
 |_=>none
noncomputable def fL(p:List Int):List (List Int)->List (List Int)
 | []=>[p]
 |q::r=>if de q p then q::fL p r else p::q::r
noncomputable def zL:List (List Int)->List (List Int)
 | []=>[]
 |p::r=>fL p (zL r)
noncomputable def gL(l:List Int):D:=.tup (l.map D.int)
noncomputable def dz:List (List Int)->Bool
 |p::q::r=>p.isEmpty||(p::q::r).all λt=>!t.isEmpty
 | [_]=>true
 |_=>false
noncomputable def cB(xs:List D):R D:=cy (tups? xs) λts=>if dz ts then .ok (.lst ((zL ts).map gL))else .no
noncomputable def nE(x:D)(f:D->R D):R D:=match x with
 | .dic kvs=>f (.dic kvs)
 | .dct ks ds=>f (.dct ks ds)
 |_=>.no
noncomputable def iP(ks:List (List Int))(ds:List D)(y z:D):R D:=match y with
 | .tup xs=>(match ints? xs with|some k=>.ok ((WD.atT ks ds k).getD z)|none=>.no)
 |_=>.no
noncomputable def iC(x y z:D):R D:=match x with
 | .dic kvs=>(match y with
  | .int i=>.ok (match atK kvs i with|some v=>.int v|none=>z)
  |y=>if kvs.isEmpty=true then iP [] [] y z else .no)
 | .dct ks ds=>iP ks ds y z
 |_=>.no
noncomputable def gz(x y:D):R D:=iC x y .non
noncomputable def itr?:D->Option (List D)
 | .dct ks _=>some (ks.map λk=>.tup (k.map D.int))
 | .dic kvs=>some (kvs.map λp=>.int p.1)
 |d=>seq? d
noncomputable def b11(b:B1)(d:D):R D:=match b with
 | .len=>cy (seq? d) λxs=>.ok (.int xs.length)
 | .tuple=>cy (seq? d) λxs=>.ok (.tup xs)
 | .list=>.no
 | .all=>eE d λxs=>cy (bools? xs) λbs=>.ok (.bl (bs.all id))
 | .any=>eE d λxs=>cy (bools? xs) λbs=>.ok (.bl (bs.any id))
 | .sorted=>match d with
  | .tup xs=>if xs.length<64 then cy (ints? xs) λns=>.ok (.lst ((sortI ns).map D.int))else .no
  | .dic kvs=>.ok (.lst ((sortI (kvs.map (·.1))).map D.int))
  |d=>eE d λxs=>if xs.length<64 then (match ints? xs with
   |some ns=>.ok (.lst ((sortI ns).map D.int))
   |none=>match pairs? xs with
    |some ps=>.ok (.lst ((zR ps).map pairD))
    |none=>cB xs)else cB xs
 | .abs=>.no
 | .int=>ibR d (λi=>.ok (.int i)) λb=>.ok (.int (if b then 1 else 0))
 | .bool=>.no
 | .min=>.no
 | .max=>.no
 | .sum=>.no
noncomputable def b12(b:B1)(d e:D):R D:=match b with
 | .min=>iiR d e λi j=>.ok (.int (if j<i then j else i))
 | .max=>iiR d e λi j=>.ok (.int (if j>i then j else i))
 |_=>.no
noncomputable def ng(ln:Bool)(d:D):R D:=.no
noncomputable def b1(b:B1):List D->R D
 | [d]=>b11 b d
 | [d,e]=>b12 b d e
 |_=>.no
noncomputable def tyD:D->Option String
 | .non=>some "NoneType"
 | .bl _=>some "bool"
 | .int _=>some "int"
 | .str _=>some "str"
 | .tup _=>some "tuple"
 | .lst _=>some "list"
 | .dic _=>some "dict"
 | .dct _ _=>some "dict"
 |_=>none
noncomputable def zA(lo:Int)(n:Nat):List D:=(aX n).map λ(i:Nat)=>.int (lo+(i:Int))
noncomputable def eJ:Nat->List D->List D
 |_,[]=>[]
 |k,x::r=>.tup [.int k,x]::eJ (k+1) r
noncomputable def qy(j:Int):Bool:=decide (-1000000<=j)&&decide (j<=1000000)
abbrev Env:=List (Option D)
structure W where
 call:Str->List D->R D
 glb:Str->Option D
 sub:Str->Cl->Option Bool
 cat:Str->Str->Bool
noncomputable def cZ(w:W)(x:D)(c:Cl):R D:=match tyD x,c with
 |some t,.ty n=>if n = "ValueError" then .no else .ok (.bl (h9 t n))
 |_,_=>.no
noncomputable def zo(τ:Env)(i:Nat):R D:=match τ[i]? with
 |some (some d)=>.ok d
 |_=>.no
noncomputable def setAll:List Nat->List D->Env->R Env
 | [],[],τ=>.ok τ
 |i::is,d::ds,τ=>setAll is ds (τ.set i (some d))
 |_,_,_=>.no
noncomputable def store:Tg->D->Env->R Env
 | .nm i,d,τ=>.ok (τ.set i (some d))
 | .tp is,.tup ds,τ=>if ds.length=is.length then setAll is ds τ else .no
 |_,_,_=>.no
noncomputable def dh(cap:List (Option Nat))(τ:Env):Env:=cap.map λo=>o.bind λj=>(τ[j]?).join
noncomputable def noEx{α:Type}:R α->R α
 | .ok a=>.ok a
 |_=>.no
noncomputable def cL(body:D->Env->R (Env×List D)):List D->Env->List D->R (List D)
 | [],_,acc=>.ok acc
 |x::r,τ,acc=>(body x τ).bind λp=>cL body r p.1 (acc++p.2)
noncomputable def dt(body:D->Env->R (Env×List (List Int×D))):List D->Env->List (List Int)->List D->R (List (List Int)×List D)
 | [],_,ks,vs=>.ok (ks,vs)
 |x::r,τ,ks,vs=>(body x τ).bind λp=>dt body r p.1 (WD.zH ks p.2) (WD.zE ks vs p.2)
noncomputable def fm{β:Type}(k:D)(f:List Int->R β):R β:=match k with
 | .tup xs=>cy (ints? xs) f
 |_=>.no
noncomputable def g_(d:D):R D:=match d with
 | .lst xs=>if d_ xs then .ok (.lst xs)else .no
 |d=>if d.noL then .ok d else .no
mutual
noncomputable def evE(w:W):E->Env->R D
 | .var i,τ=>zo τ i
 | .own i,τ=>zo τ i
 | .con d,_=>.ok d
 | .glb x,_=>match w.glb x with|some d=>.ok d|none=>.no
 | .op o a b,τ=>(evE w a τ).bind λx=>(evE w b τ).bind λy=>op2 o x y
 | .neg a,τ=>(evE w a τ).bind λx=>match x with | .int i=>.ok (.int (-i))|_=>.no
 | .not a,τ=>(evE w a τ).bind λx=>match x with | .bl b=>.ok (.bl (!b))|_=>.no
 | .and a b,τ=>(evE w a τ).bind λx=>match x with | .bl true=>evE w b τ | .bl false=>.ok (.bl false)|_=>.no
 | .or a b,τ=>(evE w a τ).bind λx=>match x with | .bl true=>.ok (.bl true) | .bl false=>evE w b τ|_=>.no
 | .cmp c a b,τ=>(evE w a τ).bind λx=>(evE w b τ).bind λy=>(qk c x y).bind λr=>.ok (.bl r)
 | .cmp2 c c' a b d,τ=>(evE w a τ).bind λx=>(evE w b τ).bind λy=>(qk c x y).bind λr=>if r then (evE w d τ).bind λz=>(qk c' y z).bind λr'=>.ok (.bl r')else .ok (.bl false)
 | .cmp3 c c' c'' a b d e,τ=>(evE w a τ).bind λx=>(evE w b τ).bind λy=>(qk c x y).bind λr=>if r then (evE w d τ).bind λz=>(qk c' y z).bind λr'=>if r' then (evE w e τ).bind λu=>(qk c'' z u).bind λGw=>.ok (.bl Gw)else .ok (.bl false)else .ok (.bl false)
 | .ite t a b,τ=>(evT w t τ).bind λr=>if r then evE w a τ else evE w b τ
 | .tup es,τ=>(qA w es τ).bind λds=>.ok (.tup ds)
 | .lst es,τ=>(qA w es τ).bind λds=>.ok (.lst ds)
 | .ix a b,τ=>(evE w a τ).bind λx=>(evE w b τ).bind λy=>ixD x y
 | .sl a lo hi,τ=>(evE w a τ).bind λx=>(evO w lo τ).bind λl=>(evO w hi τ).bind λh=>slD x l h
 | .call f es,τ=>(qA w es τ).bind λds=>w.call f ds
 | .bi b es,τ=>(qA w es τ).bind λds=>b1 b ds
 | .isi a c,τ=>(evE w a τ).bind λx=>cZ w x c
 | .comp it cap tg t elt,τ=>(evI w it τ).bind λds=>if SZ<ds.length then .no else (cL (λx σ=>noEx ((store tg x σ).bind λσ'=>(evT w t σ').bind λr=>if r then (evE w elt σ').bind λd=>.ok (σ',[d])else .ok (σ',[]))) ds (dh cap τ) []).bind λout=>.ok (.lst out)
 | .cnt a b,_=>.no
 | .dic,_=>.ok (.dic [])
 | .sset ln a,τ=>(evE w a τ).bind (ng ln)
 | .dget a b,τ=>(evE w a τ).bind λx=>nE x λx=>(evE w b τ).bind λy=>gz x y
 | .lstc f es,τ=>(qA w es τ).bind λds=>(w.call f ds).bind λd=>if zl d then .ok d else .no
 | .callf f es,τ=>(qA w es τ).bind λds=>(w.call f ds).bind g_
 | .dcm it cap tg t k v,τ=>(evI w it τ).bind λds=>if SZ<ds.length then .no else (dt (λx σ=>noEx ((store tg x σ).bind λσ'=>(evT w t σ').bind λr=>if r then (evE w k σ').bind λy=>(evE w v σ').bind λd=>fm y λq=>.ok (σ',[(q,d)])else .ok (σ',[]))) ds (dh cap τ) [] []).bind λout=>.ok (.dct out.1 out.2)
noncomputable def evO(w:W):OE->Env->R (Option Int)
 | .none,_=>.ok none
 | .some e,τ=>(evE w e τ).bind λx=>match x with | .int i=>.ok (some i)|_=>.no
noncomputable def qA(w:W):Es->Env->R (List D)
 | .nil,_=>.ok []
 | .cons e es,τ=>(evE w e τ).bind λd=>(qA w es τ).bind λds=>.ok (d::ds)
noncomputable def evI(w:W):It->Env->R (List D)
 | .seq e,τ=>(evE w e τ).bind λx=>match itr? x with|some xs=>.ok xs|none=>.no
 | .rng a,τ=>(evE w a τ).bind λx=>match x with | .int j=>if qy j then .ok (zA 0 j.toNat)else .no|_=>.no
 | .rng2 a b,τ=>(evE w a τ).bind λx=>(evE w b τ).bind λy=>match x,y with | .int i,.int j=>if qy i&&qy j then .ok (zA i (j-i).toNat)else .no|_,_=>.no
 | .enum e,τ=>(evE w e τ).bind λx=>match x with | .lst xs=>.ok (eJ 0 xs)|_=>.no
 | .zip a b,_=>.no
noncomputable def evT(w:W):T->Env->R Bool
 | .yes,_=>.ok true
 | .val e,τ=>(evE w e τ).bind λx=>truth x
 | .cmp c a b,τ=>(evE w a τ).bind λx=>(evE w b τ).bind λy=>qk c x y
 | .cmp2 c c' a b d,τ=>(evE w a τ).bind λx=>(evE w b τ).bind λy=>(qk c x y).bind λr=>if r then (evE w d τ).bind λz=>qk c' y z else .ok false
 | .and a b,τ=>(evT w a τ).bind λr=>if r then evT w b τ else .ok false
 | .or a b,τ=>(evT w a τ).bind λr=>if r then .ok true else evT w b τ
 | .not a,τ=>(evT w a τ).bind λr=>.ok (!r)
end
theorem qz:∀{w i τ},@Eq (R D) (evE w (.var i) τ) (zo τ i):=rfl
theorem qX:∀{w i τ},@Eq (R D) (evE w (.own i) τ) (zo τ i):=rfl
theorem ze:∀{w d τ},@Eq (R D) (evE w (.con d) τ) (.ok d):=rfl
theorem zj:∀{w x τ},@Eq (R D) (evE w (.glb x) τ) (match w.glb x with|some d=>.ok d|none=>.no):=rfl
theorem qV:∀{w o a b τ},@Eq (R D) (evE w (.op o a b) τ) ((evE w a τ).bind λx=>(evE w b τ).bind λy=>op2 o x y):=rfl
theorem zp:∀{w a τ},@Eq (R D) (evE w (.neg a) τ) ((evE w a τ).bind λx=>match x with | .int i=>.ok (.int (-i))|_=>.no):=rfl
theorem zk:∀{w a τ},@Eq (R D) (evE w (.not a) τ) ((evE w a τ).bind λx=>match x with | .bl b=>.ok (.bl (!b))|_=>.no):=rfl
theorem qF:∀{w a b τ},@Eq (R D) (evE w (.and a b) τ) ((evE w a τ).bind λx=>match x with | .bl true=>evE w b τ | .bl false=>.ok (.bl false)|_=>.no):=rfl
theorem qH:∀{w a b τ},@Eq (R D) (evE w (.or a b) τ) ((evE w a τ).bind λx=>match x with | .bl true=>.ok (.bl true) | .bl false=>evE w b τ|_=>.no):=rfl
theorem qI:∀{w c a b τ},@Eq (R D) (evE w (.cmp c a b) τ) ((evE w a τ).bind λx=>(evE w b τ).bind λy=>(qk c x y).bind λr=>.ok (.bl r)):=rfl
theorem qC:∀{w c c' a b d τ},@Eq (R D) (evE w (.cmp2 c c' a b d) τ) ((evE w a τ).bind λx=>(evE w b τ).bind λy=>(qk c x y).bind λr=>if r then (evE w d τ).bind λz=>(qk c' y z).bind λr'=>.ok (.bl r')else .ok (.bl false)):=rfl
theorem qE:∀{w c c' c'' a b d e τ},@Eq (R D) (evE w (.cmp3 c c' c'' a b d e) τ) ((evE w a τ).bind λx=>(evE w b τ).bind λy=>(qk c x y).bind λr=>if r then (evE w d τ).bind λz=>(qk c' y z).bind λr'=>if r' then (evE w e τ).bind λu=>(qk c'' z u).bind λGw=>.ok (.bl Gw)else .ok (.bl false)else .ok (.bl false)):=rfl
theorem qS:∀{w t a b τ},@Eq (R D) (evE w (.ite t a b) τ) ((evT w t τ).bind λr=>if r then evE w a τ else evE w b τ):=rfl
theorem qJ:∀{w es τ},@Eq (R D) (evE w (.tup es) τ) ((qA w es τ).bind λds=>.ok (.tup ds)):=rfl
theorem qD:∀{w es τ},@Eq (R D) (evE w (.lst es) τ) ((qA w es τ).bind λds=>.ok (.lst ds)):=rfl
theorem qw:∀{w a b τ},@Eq (R D) (evE w (.ix a b) τ) ((evE w a τ).bind λx=>(evE w b τ).bind λy=>ixD x y):=rfl
theorem qG:∀{w a lo hi τ},@Eq (R D) (evE w (.sl a lo hi) τ) ((evE w a τ).bind λx=>(evO w lo τ).bind λl=>(evO w hi τ).bind λh=>slD x l h):=rfl
theorem qB:∀{w f es τ},@Eq (R D) (evE w (.call f es) τ) ((qA w es τ).bind λds=>w.call f ds):=rfl
theorem qu:∀{w b es τ},@Eq (R D) (evE w (.bi b es) τ) ((qA w es τ).bind λds=>b1 b ds):=rfl
theorem qK:∀{w a c τ},@Eq (R D) (evE w (.isi a c) τ) ((evE w a τ).bind λx=>cZ w x c):=rfl
theorem qx:∀{w it cap tg t elt τ},@Eq (R D) (evE w (.comp it cap tg t elt) τ) ((evI w it τ).bind λds=>if SZ<ds.length then .no else (cL (λx σ=>noEx ((store tg x σ).bind λσ'=>(evT w t σ').bind λr=>if r then (evE w elt σ').bind λd=>.ok (σ',[d])else .ok (σ',[]))) ds (dh cap τ) []).bind λout=>.ok (.lst out)):=rfl
theorem qU:∀{w a b τ},@Eq (R D) (evE w (.cnt a b) τ) (.no):=rfl
theorem qN:∀{w τ},@Eq (R D) (evE w (.dic) τ) (.ok (.dic [])):=rfl
theorem qM:∀{w ln a τ},@Eq (R D) (evE w (.sset ln a) τ) ((evE w a τ).bind (ng ln)):=rfl
theorem qR:∀{w a b τ},@Eq (R D) (evE w (.dget a b) τ) ((evE w a τ).bind λx=>nE x λx=>(evE w b τ).bind λy=>gz x y):=rfl
theorem qQ:∀{w f es τ},@Eq (R D) (evE w (.lstc f es) τ) ((qA w es τ).bind λds=>(w.call f ds).bind λd=>if zl d then .ok d else .no):=rfl
theorem qT:∀{w f es τ},@Eq (R D) (evE w (.callf f es) τ) ((qA w es τ).bind λds=>(w.call f ds).bind g_):=rfl
theorem qP:∀{w it cap tg t k v τ},@Eq (R D) (evE w (.dcm it cap tg t k v) τ) ((evI w it τ).bind λds=>if SZ<ds.length then .no else (dt (λx σ=>noEx ((store tg x σ).bind λσ'=>(evT w t σ').bind λr=>if r then (evE w k σ').bind λy=>(evE w v σ').bind λd=>fm y λq=>.ok (σ',[(q,d)])else .ok (σ',[]))) ds (dh cap τ) [] []).bind λout=>.ok (.dct out.1 out.2)):=rfl
theorem fO:∀{w τ},@Eq (R Bool) (evT w (.yes) τ) (.ok true):=rfl
theorem fW:∀{w e τ},@Eq (R Bool) (evT w (.val e) τ) ((evE w e τ).bind λx=>truth x):=rfl
theorem gi:∀{w c a b τ},@Eq (R Bool) (evT w (.cmp c a b) τ) ((evE w a τ).bind λx=>(evE w b τ).bind λy=>qk c x y):=rfl
theorem gr:∀{w c c' a b d τ},@Eq (R Bool) (evT w (.cmp2 c c' a b d) τ) ((evE w a τ).bind λx=>(evE w b τ).bind λy=>(qk c x y).bind λr=>if r then (evE w d τ).bind λz=>qk c' y z else .ok false):=rfl
theorem fV:∀{w a b τ},@Eq (R Bool) (evT w (.and a b) τ) ((evT w a τ).bind λr=>if r then evT w b τ else .ok false):=rfl
theorem fQ:∀{w a b τ},@Eq (R Bool) (evT w (.or a b) τ) ((evT w a τ).bind λr=>if r then .ok true else evT w b τ):=rfl
theorem fZ:∀{w a τ},@Eq (R Bool) (evT w (.not a) τ) ((evT w a τ).bind λr=>.ok (!r)):=rfl
set_option genInjectivity false
mutual
inductive S where
 |set (tg:Tg) (e:E)
 |app (i:Nat) (e:E)
 |seti (i:Nat) (k e:E)
 |exp (e:E)
 |ret (e:E)|retN
 |ite (t:T) (a b:Ss)
 |for (tg:Tg) (it:It) (b:Ss)
 |while (t:T) (b:Ss)
 |ins (i:Nat) (k e:E)
 |cnt|unk
 |dupd (i:Nat) (e:E)
 |give (i j:Nat)
 |retn (e:E)
 |aug (i:Nat) (e:E)
inductive Ss where
 |nil|cons (s:S) (r:Ss)
end
set_option genInjectivity true
inductive O where
 |nx (τ:Env)|rt (d:D)|bk (τ:Env)|ct (τ:Env)|ex (c:Str)|no
noncomputable def R.out{α:Type}:R α->(α->O)->O
 | .ok a,f=>f a
 | .ex c,_=>.ex c
 | .no,_=>.no
@[simp] theorem R.out_ok{α:Type}(a:α)(f:α->O):(R.ok a).out f=f a:=rfl
@[simp] theorem R.out_ex{α:Type}(c:Str)(f:α->O):(R.ex c:R α).out f=.ex c:=rfl
@[simp] theorem R.out_no{α:Type}(f:α->O):(R.no:R α).out f=.no:=rfl
noncomputable def dP(tg:Tg)(body:Env->O):List D->Env->O
 | [],τ=>.nx τ
 |x::r,τ=>(store tg x τ).out λτ'=>match body τ' with
  | .nx σ=>dP tg body r σ
  | .ct σ=>dP tg body r σ
  | .bk σ=>.nx σ
  |o=>o
noncomputable def dF(test:Env->R Bool)(body:Env->O):Nat->Env->O
 | 0,_=>.no
 |n+1,τ=>(test τ).out λb=>if b then (match body τ with
  | .nx σ=>dF test body n σ
  | .ct σ=>dF test body n σ
  | .bk σ=>.nx σ
  |o=>o)else .nx τ
noncomputable def fF:Nat:=100000
noncomputable def O.noEx:O->O
 | .ex _=>.no
 |o=>o
noncomputable def ET(w:W)(i:Nat)(k:E)(d:D)(τ:Env)(f:Env->O):O:=(zo τ i).out λx=>(evE w k τ).out λn=>match x with
 | .lst xs=>(match n with
  | .int j=>(match ixN xs.length j with|some m=>f (τ.set i (some (.lst (xs.set m d))))|none=>.no)
  |_=>.no)
 |_=>.no
noncomputable def gZ(ks:List (List Int))(ds:List D)(xs:List D)(d:D)(i:Nat)(τ:Env):O:=match ints? xs with
 |some k=>if ks.length<SZ then .nx (τ.set i (some (.dct (WD.zK ks k) (WD.zT ks ds k d))))else .no
 |none=>.no
noncomputable def ou(x d:D)(i:Nat)(τ:Env):O:=match x with
 | .int a=>(match d with
  | .int b=>.nx (τ.set i (some (.int (a+b))))
  |_=>.no)
 |_=>.no
noncomputable def eX(ks:List (List Int))(ds:List D)(ms:List (List Int))(es:List D)(i:Nat)(τ:Env):O:=
 if ms.isEmpty=false/\(ks.isEmpty=true->(ms.map WD.fv).Nodup)/\ks.length+ms.length<SZ then .nx (τ.set i (some (.dct (WD.zH ks (ms.zip es)) (WD.zE ks ds (ms.zip es)))))else .no
mutual
noncomputable def evS(w:W):S->Env->O
 | .set tg e,τ=>(evE w e τ).out λd=>(store tg d τ).out .nx
 | .app i e,τ=>(zo τ i).out λx=>match x with
  | .lst xs=>(evE w e τ).out λd=>if xs.length<SZ then .nx (τ.set i (some (.lst (xs++[d]))))else .no
  |_=>.no
 | .seti i k e,τ=>(evE w e τ).out λd=>(zo τ i).out λx=>(evE w k τ).out λn=>match x,n with
  | .lst xs,.int j=>match ixN xs.length j with
   |some m=>.nx (τ.set i (some (.lst (xs.set m d))))
   |none=>.no
  | .dic kvs,.int j=>(match d with
   | .int v=>if kvs.length<SZ then .nx (τ.set i (some (.dic (b9 kvs j v))))else .no
   |_=>.no)
  | .dic kvs,.tup xs=>if kvs.isEmpty=true then gZ [] [] xs d i τ else .no
  | .dct ks ds,.tup xs=>gZ ks ds xs d i τ
  |_,_=>.no
 | .exp e,τ=>(evE w e τ).out λ_=>.nx τ
 | .ret e,τ=>(evE w e τ).out .rt
 | .retN,_=>.rt .non
 | .ite t a b,τ=>(evT w t τ).out λr=>if r then qh w a τ else qh w b τ
 | .for tg it b,τ=>((evI w it τ).out λds=>dP tg (λσ=>qh w b σ) ds τ).noEx
 | .while t b,τ=>(dF (λσ=>evT w t σ) (λσ=>qh w b σ) fF τ).noEx
 | .ins i k e,_=>.no
 | .unk,_=>.no
 | .cnt,τ=>.ct τ
 | .dupd i e,τ=>(zo τ i).out λx=>match x with
  | .dic kvs=>(evE w e τ).out λd=>(match d with
   | .dct ms es=>if kvs.isEmpty=true then eX [] [] ms es i τ else .no
   |_=>.no)
  | .dct ks ds=>(evE w e τ).out λd=>(match d with
   | .dct ms es=>eX ks ds ms es i τ
   |_=>.no)
  |_=>.no
 | .retn e,τ=>(evE w e τ).out λd=>if zl d then .no else .rt d
 | .give i j,τ=>(zo τ j).out λd=>.nx ((τ.set j none).set i (some d))
 | .aug i e,τ=>(zo τ i).out λx=>(evE w e τ).out λd=>ou x d i τ
noncomputable def qh(w:W):Ss->Env->O
 | .nil,τ=>.nx τ
 | .cons s r,τ=>match evS w s τ with
  | .nx σ=>qh w r σ
  |o=>o
end
theorem zS:∀{w tg e τ},@Eq (O) (evS w (.set tg e) τ) ((evE w e τ).out λd=>(store tg d τ).out .nx):=rfl
theorem cA:∀{w i e τ},@Eq (O) (evS w (.app i e) τ) ((zo τ i).out λx=>match x with
  | .lst xs=>(evE w e τ).out λd=>if xs.length<SZ then .nx (τ.set i (some (.lst (xs++[d]))))else .no
  |_=>.no):=rfl
theorem cz:∀{w i k e τ},@Eq (O) (evS w (.seti i k e) τ) ((evE w e τ).out λd=>(zo τ i).out λx=>(evE w k τ).out λn=>match x,n with
  | .lst xs,.int j=>match ixN xs.length j with
   |some m=>.nx (τ.set i (some (.lst (xs.set m d))))
   |none=>.no
  | .dic kvs,.int j=>(match d with
   | .int v=>if kvs.length<SZ then .nx (τ.set i (some (.dic (b9 kvs j v))))else .no
   |_=>.no)
  | .dic kvs,.tup xs=>if kvs.isEmpty=true then gZ [] [] xs d i τ else .no
  | .dct ks ds,.tup xs=>gZ ks ds xs d i τ
  |_,_=>.no):=rfl
theorem cD:∀{w e τ},@Eq (O) (evS w (.exp e) τ) ((evE w e τ).out λ_=>.nx τ):=rfl
theorem zz:∀{w e τ},@Eq (O) (evS w (.ret e) τ) ((evE w e τ).out .rt):=rfl
theorem cG:∀{w τ},@Eq (O) (evS w (.retN) τ) (.rt .non):=rfl
theorem cx:∀{w t a b τ},@Eq (O) (evS w (.ite t a b) τ) ((evT w t τ).out λr=>if r then qh w a τ else qh w b τ):=rfl
theorem cJ:∀{w tg it b τ},@Eq (O) (evS w (.for tg it b) τ) (((evI w it τ).out λds=>dP tg (λσ=>qh w b σ) ds τ).noEx):=rfl
theorem cU:∀{w t b τ},@Eq (O) (evS w (.while t b) τ) ((dF (λσ=>evT w t σ) (λσ=>qh w b σ) fF τ).noEx):=rfl
theorem zX:∀{w i k e τ},@Eq (O) (evS w (.ins i k e) τ) (.no):=rfl
theorem zZ:∀{w τ},@Eq (O) (evS w (.unk) τ) (.no):=rfl
theorem zU:∀{w τ},@Eq (O) (evS w (.cnt) τ) (.ct τ):=rfl
theorem zW:∀{w i e τ},@Eq (O) (evS w (.dupd i e) τ) ((zo τ i).out λx=>match x with
  | .dic kvs=>(evE w e τ).out λd=>(match d with
   | .dct ms es=>if kvs.isEmpty=true then eX [] [] ms es i τ else .no
   |_=>.no)
  | .dct ks ds=>(evE w e τ).out λd=>(match d with
   | .dct ms es=>eX ks ds ms es i τ
   |_=>.no)
  |_=>.no):=rfl
theorem cV:∀{w e τ},@Eq (O) (evS w (.retn e) τ) ((evE w e τ).out λd=>if zl d then .no else .rt d):=rfl
theorem zY:∀{w i j τ},@Eq (O) (evS w (.give i j) τ) ((zo τ j).out λd=>.nx ((τ.set j none).set i (some d))):=rfl
theorem zV:∀{w i e τ},@Eq (O) (evS w (.aug i e) τ) ((zo τ i).out λx=>(evE w e τ).out λd=>ou x d i τ):=rfl
structure Fn where
 ps:Nat
 N:Nat
 fr:Bool
 body:Ss
noncomputable def du(w:W)(f:Fn)(ds:List D):R D:=if ds.length=f.ps then (match qh w f.body (ds.map some++bY (f.N-f.ps) none)with
  | .nx _=>if f.fr then .no else .ok .non
  | .rt d=>.ok d
  | .ex c=>.ex c
  |_=>.no)else .no
structure Pr where
 fns:Str->Option Fn
 glb:Str->Option D
 sub:Str->Cl->Option Bool
 cat:Str->Str->Bool
noncomputable def qc(p:Pr):Nat->Str->List D->R D
 | 0,_,_=>.no
 |k+1,x,ds=>match p.fns x with
  |some f=>du ⟨qc p k,p.glb,p.sub,p.cat⟩ f ds
  |none=>.no
inductive GK where
  |fn (fresh:Bool)|val|bi (b:B1)|rng|enum|zip|isi|ty (n:String) (b:Option B1)|exc|exk|set|rvd
  deriving DecidableEq
structure Cc where
  nm:List (Str×aW)
  N:List Str
  own:List Str
  G:List (Str×GK)
  calm:Bool
  fnc:Bool
  thr:Bool
  GH:List (Str×GK)
  oc:List Str
  frz:Bool
noncomputable def loc(c:Cc)(x:Str):Option Nat:=
  if x == "__debug__" ||x == "__classdict__" then none else
  match c.nm.lookup x with
  |some .local|some .cell|some .free=>let i:=c.N.findIdx (· == x);if c.N[i]? = some x then some i else none
  |_=>none
noncomputable def b7(c:Cc)(x:Str):Option Nat:=
  match c.nm.lookup x with
  |some .local=>loc c x
  |some .cell=>if c.fnc||c.oc.contains x then loc c x else none
  |_=>none
noncomputable def glob(c:Cc)(x:Str):Option GK:=
  if x == "__debug__" ||x == "__name__" then none else
  match c.nm.lookup x with
  |some .globalImplicit=>c.G.lookup x
  |_=>none
noncomputable def esc:E->Bool
  | .own _=>false
  |_=>true
noncomputable def dq:Es->Bool
  | .nil=>true
  | .cons e es=>esc e&&dq es
noncomputable def isL:E->Bool
  | .lst _=>true
  | .comp .. => true
  |_=>false
noncomputable def nN:O2->Bool
  | .add=>true
  | .mul=>true
  |_=>false
noncomputable def fresh(c:Cc):E->Bool
  | .op o a b=>nN o&&isL a||o==.add&&isL b
  | .lst _=>true
  | .comp .. => true
  | .dic=>true
  | .dcm .. => true
  | .bi .list _=>true
  | .bi .sorted _=>true
  | .lstc f _=>c.G.lookup f==some (.fn true)
  |_=>false
noncomputable def zF(c:Cc):E->Bool
  | .call f _=>c.G.lookup f==some (.fn true)
  | .ite _ a b=>zF c a&&zF c b
  |e=>fresh c e
noncomputable def iT(c:Cc):E->E
  | .call f es=>if c.G.lookup f==some (.fn true)then .lstc f es else .call f es
  |e=>e
noncomputable def o2:Operator->Option O2
  | .Add=>some .add
  | .Sub=>some .sub
  | .Mult=>some .mul
  | .FloorDiv=>some .fdiv
  | .Mod=>some .mod
  | .Pow=>some .pow
  | .LShift=>some .shl
  | .RShift=>some .shr
  | .BitAnd=>some .band
  | .BitOr=>some .bor
  | .BitXor=>some .bxor
  |_=>none
noncomputable def c2:CmpOp->C2
  | .Eq=>.eq
  | .NotEq=>.ne
  | .Lt=>.lt
  | .LtE=>.le
  | .Gt=>.gt
  | .GtE=>.ge
  | .Is=>.is
  | .IsNot=>.isnot
  | .In=>.isin
  | .NotIn=>.notin
noncomputable def ee:Expr->Bool
  | .ListComp .. => true
  | .SetComp .. => true
  | .DictComp .. => true
  |_=>false
noncomputable def qr:Expr->Bool
  | .Set .. => false
  |_=>true
noncomputable def h_(names nm:List (Str×aW)):List (Str×aW):=names.map λ(n,k)=>if k==b6&&(nm.lookup n==some .cell)then (n,aW.cell)else (n,k)
noncomputable def zm(names:List (Str×aW)):List Str:=(names.filter λp=>p.2==.local||p.2==.free||p.2==.cell).map (·.1)
noncomputable def dA(c:Cc)(names:List (Str×aW)):List (Option Nat):=(zm names).map λx=>if names.lookup x==some .free then loc c x else none
noncomputable def hW:List Expr->Option (List Str)
  | []=>some []
  | .Name x _::r=>(hW r).map (x :: ·)
  |_=>none
noncomputable def cTg(c:Cc):Expr->Option Tg
  | .Name x _=>if c.own.contains x then none else (b7 c x).map .nm
  | .Tuple es _ _=>if c.calm then do
      let xs <-hW es
      if xs.any c.own.contains then none else
      let is <-xs.mapM (b7 c)
      if is.Nodup then some (.tp is)else none
    else none
  |_=>none
noncomputable def isStar:Expr->Bool
  | .Starred .. => true
  |_=>false
noncomputable def isSlice:Expr->Bool
  | .Slice .. => true
  |_=>false
noncomputable def isTup:Expr->Bool
  | .Tuple .. => true
  |_=>false
noncomputable def fh(it:It)(tg:Expr):Bool:=match it with
  | .enum _=>isTup tg
  | .zip .. => isTup tg
  |_=>true
noncomputable def i8(c:Cc):Expr->Option Cl
  | .Name x _=>match glob c x with
    |some (.ty n _)=>some (.ty n)
    |some .exc=>some (.ex x)
    |some .exk=>some (.ex x)
    |_=>none
  |_=>none
noncomputable def vr(c:Cc)(x:Str)(i:Nat):E:=if c.own.contains x then .own i else .var i
noncomputable def cMt(c:Cc)(o:Expr)(m:Str)(ap:Pos)(as:List Expr)(cp:Pos):Option E:=none
noncomputable def baseOk:Expr->Bool
  | .Call (.Name _ _) (_::_) _ _=>true
  | .Name .. => true
  |_=>false
noncomputable def owned:It->Bool
  | .seq (.own _)=>true
  | .enum (.own _)=>true
  | .zip (.own _) _=>true
  | .zip _ (.own _)=>true
  |_=>false
noncomputable def lW:Expr->Option Str
  | .Constant k _ _=>match k with
    | .str t=>some t
    |_=>none
  |_=>none
noncomputable def oK:Expr->Option Expr
  | .FormattedValue a k f _=>match f with
    |none=>if k = -1 then some a else none
    |_=>none
  |_=>none
noncomputable def EX:List Expr->Option (Str×Expr×Str×Expr×Str)
  | [x0,x1,x2,x3,x4]=>do
    let t0 <-lW x0
    let a <-oK x1
    let t1 <-lW x2
    let b <-oK x3
    let t2 <-lW x4
    if (Str.empty++t0).length<=1000 then some (t0,a,t1,b,t2)else none
  |_=>none
noncomputable def pG(c:Cc)(b:B1)(_:List Expr):Option Expr:=none
noncomputable def EU(c:Cc)(t:String):List Expr->Option Expr
  | [a]=>match a with
    | .Name x _=>if t == "list" && c.calm&&c.own.contains x then some a else none
    |_=>none
  |_=>none
noncomputable def i_:Expr->Bool
  | .ListComp _ gs _ _=>gs.length==2
  |_=>false
mutual
noncomputable def cE:Nat->Cc->Expr->Option E
  | 0,_,_=>none
  |n+1,c,e=>match e with
    | .Name x _=>match loc c x with
      |some i=>if c.own.contains x then some (.own i)else some (.var i)
      |none=>match glob c x with
        |some .val=>some (.glb x)
        |some (.fn _)=>none
        |_=>none
    | .Constant k _ _=>match k with
      | .int i=>some (.con (.int i))
      | .bool i=>some (.con (.bl i))
      | .none=>some (.con .non)
      | .str x=>some (.con (.str x))
      |_=>none
    | .BinOp a op b _=>do
      let o <-o2 op
      let a <-cE n c a
      let b <-cE n c b
      some (.op o a b)
    | .UnaryOp op a _=>do
      let a <-cE n c a
      match op with
      | .USub=>some (.neg a)
      | .Invert=>none
      | .Not=>some (.not a)
      |_=>none
    | .BoolOp op vs _=>cBo n c op vs
    | .Compare a ops bs _=>match ops,bs with
      | [o],[b]=>do
        let a <-cE n c a
        let b' <-cE n c b
        if qr b then some (.cmp (c2 o) a b')else none
      | [o,o'],[b,d]=>do
        let a <-cE n c a
        let b' <-cE n c b
        let d' <-cE n c d
        if qr b&&qr d then some (.cmp2 (c2 o) (c2 o') a b' d')else none
      | [o,o',Hx],[b,d,f]=>do
        let a <-cE n c a
        let b' <-cE n c b
        let d' <-cE n c d
        let f' <-cE n c f
        if qr b&&qr d&&qr f then some (.cmp3 (c2 o) (c2 o') (c2 Hx) a b' d' f')else none
      |_,_=>none
    | .Dict ks vs _=>match ks with
      | []=>if vs.isEmpty then some .dic else none
      |_=>none
    | .IfExp t a b _=>do
      let t <-cT n c t
      let a <-cE n c a
      let b <-cE n c b
      if esc a&&esc b then some (.ite t a b)else none
    | .Tuple es _ _=>do
      let es <-cEs n c es
      if dq es then some (.tup es)else none
    | .List es _=>do
      let es <-cEs n c es
      if dq es then some (.lst es)else none
    | .Subscript a b _=>match b with
      | .Slice lo hi st _=>match st with
        |some _=>none
        |none=>do
          let a <-cE n c a
          let lo <-cO n c lo
          let hi <-cO n c hi
          some (.sl a lo hi)
      |b=>do
        if isSlice b then none else
        let a <-cE n c a
        let b <-cE n c b
        some (.ix a b)
    | .DictComp ke ve gs sc _=>match gs with
     | [⟨tgt,it,ifs,G9⟩]=>do
      if !(G9==0) || !c.calm || !qr it then none else
      let c':Cc:={c with nm:=h_ sc.names c.nm,N:=zm sc.names,fnc:=false,oc:=gB sc.names}
      let cap:=dA c sc.names
      if !fM (λx=>c.nm.lookup x) c.N (zm sc.names) cap sc || !decide (zm sc.names).Nodup then none else
      let it <-cI n c it
      let tg <-cTg c' tgt
      let t <-ff n c' ifs
      let k <-cE n c' ke
      let v <-cE n c' ve
      if esc k&&esc v&&fh it tgt then some (.dcm it cap tg t k v)else none
     |_=>none
    | .ListComp elt gs sc _=>match gs with
     | [⟨tgt,it,ifs,G9⟩]=>do
      if !(G9==0) || !c.calm || !qr it then none else
      let c':Cc:={c with nm:=h_ sc.names c.nm,N:=zm sc.names,fnc:=false,oc:=gB sc.names}
      let cap:=dA c sc.names
      if !fM (λx=>c.nm.lookup x) c.N (zm sc.names) cap sc || !decide (zm sc.names).Nodup then none else
      let it <-cI n c it
      let tg <-cTg c' tgt
      let t <-ff n c' ifs
      let elt <-cE n c' elt
      if esc elt&&fh it tgt then some (.comp it cap tg t elt)else none
     |_=>none
    | .Call fe as ks cp=>match ks with
     | []=>match fe with
      | .Name f _=>match loc c f with
        |some _=>none
        |none=>match glob c f with
          |some (.fn fr)=>do
            let es <-cEs n c as
            if dq es && !as.isEmpty then some (.call f es)else if !as.isEmpty then (if fr then some (.callf f es)else none)else none
          |some (.bi b)=>match pG c b as with
            |some a=>(cE n c a).map (.sset (b==.len))
            |none=>do
              let es <-cEs n c as
              if !as.isEmpty&&(c.calm||b==.len||b==.abs)then some (.bi b es)else none
          |some (.ty t (some b))=>do
              let es <-cEs n c as
              if !as.isEmpty then some (.bi b es)else none
          |some .isi=>match as with
            | [a,k]=>do
              if isStar a then none else
              let a <-cE n c a
              let k <-i8 c k
              some (.isi a k)
            |_=>none
          |_=>none
      | .Attribute o m ap=>match cMt c o m ap as cp with
        |some e=>some e
        |none=>match as with
          | [a]=>do
            if !baseOk o||isStar a || !(m == "count" ||m == "get") || !(ap.endLine==cp.line)then none else
            let o' <-cE n c o
            let a' <-cE n c a
            if m == "get" then some (.dget o' a')else if esc a' then some (.cnt o' a')else none
          |_=>none
      |_=>none
     |_=>none
    |_=>none
noncomputable def ff:Nat->Cc->List Expr->Option T
  | 0,_,_=>none
  |n+1,c,ifs=>match ifs with
    | []=>some .yes
    | [t]=>cT n c t
    |_=>none
noncomputable def cBo:Nat->Cc->BoolOp->List Expr->Option E
  | 0,_,_,_=>none
  |n+1,c,op,vs=>match vs with
    | []=>none
    | [a]=>do
      let a <-cE n c a
      if esc a then some a else none
    |a::b::r=>do
      let a <-cE n c a
      let r <-cBo n c op (b::r)
      match op with
      | .And=>some (.and a r)
      | .Or=>some (.or a r)
noncomputable def cO:Nat->Cc->Option Expr->Option OE
  | 0,_,_=>none
  |n+1,c,o=>match o with
    |none=>some .none
    |some e=>(cE n c e).map .some
noncomputable def cEs:Nat->Cc->List Expr->Option Es
  | 0,_,_=>none
  |n+1,c,es=>match es with
    | []=>some .nil
    |e::r=>do
      if isStar e then none else
      let e <-cE n c e
      let r <-cEs n c r
      some (.cons e r)
noncomputable def cI:Nat->Cc->Expr->Option It
  | 0,_,_=>none
  |n+1,c,e=>match e with
    | .Call (.Name f p) as [] q=>match loc c f with
      |some _=>(cE n c (.Call (.Name f p) as [] q)).map .seq
      |none=>match glob c f with
        |some .rng=>(match as with
          | [a]=>if isStar a then none else (cE n c a).map .rng
          | [a,b]=>if isStar a||isStar b then none else do
            let a <-cE n c a
            let b <-cE n c b
            some (.rng2 a b)
          |_=>none)
        |some .enum=>(match as with
          | [a]=>if isStar a then none else (cE n c a).map .enum
          |_=>none)
        |some .zip=>(match as with
          | [a,b]=>if isStar a||isStar b then none else do
            let a <-cE n c a
            let b <-cE n c b
            some (.zip a b)
          |_=>none)
        |_=>(cE n c (.Call (.Name f p) as [] q)).map .seq
    |e=>(cE n c e).map .seq
noncomputable def cT:Nat->Cc->Expr->Option T
  | 0,_,_=>none
  |n+1,c,e=>match e with
    | .UnaryOp .Not a _=>(cT n c a).map .not
    | .BoolOp op vs _=>cTs n c op vs
    | .IfExp .. => none
    | .Compare a ops bs _=>match ops,bs with
      | [o],[b]=>do
        let a <-cE n c a
        let b' <-cE n c b
        if qr b then some (.cmp (c2 o) a b')else none
      | [o,o'],[b,d]=>do
        let a <-cE n c a
        let b' <-cE n c b
        let d' <-cE n c d
        if qr b&&qr d then some (.cmp2 (c2 o) (c2 o') a b' d')else none
      | [o,o',Hx],[b,d,f]=>do
        let a <-cE n c a
        let b' <-cE n c b
        let d' <-cE n c d
        let f' <-cE n c f
        if qr b&&qr d&&qr f then some (.val (.cmp3 (c2 o) (c2 o') (c2 Hx) a b' d' f'))else none
      |_,_=>none
    |e=>(cE n c e).map .val
noncomputable def cTs:Nat->Cc->BoolOp->List Expr->Option T
  | 0,_,_,_=>none
  |n+1,c,op,vs=>match vs with
    | []=>none
    | [a]=>cT n c a
    |a::b::r=>do
      let a <-cT n c a
      let r <-cTs n c op (b::r)
      match op with
      | .And=>some (.and a r)
      | .Or=>some (.or a r)
end

noncomputable def jw:Expr->Option (Str×Str×Pos×Expr×Pos)
  | .Call f as ks cp=>match f with
    | .Attribute o m ap=>match o with
      | .Name x _=>match as with
        | [a]=>if ks.isEmpty then some (x,m,ap,a,cp)else none
        |_=>none
      |_=>none
    |_=>none
  |_=>none
noncomputable def lh(_:Expr):Option (Str×Pos×Expr×Expr×Pos):=none
noncomputable def jJ(c:Cc)(x:Str):Expr->Option Str
  | .Name y _=>if c.own.contains y && !c.own.contains x && !c.frz then some y else none
  |_=>none
noncomputable def j4:Expr->Bool
  | .Tuple es _ _=>es.all (foldedForSure 8)
  |_=>false
mutual
noncomputable def cS:Nat->Cc->Bool->Stmt->Option S
  | 0,_,_,_=>none
  |n+1,c,fr,s=>match s with
    | .Assign ts e _=>match ts with
      | [t]=>match t with
        | .Name x _=>match jJ c x e with
          |some y=>do
           let i <-b7 c x
           let j <-loc c y
           some (.give i j)
          |none=>do
          if i_ e then none else
          let i <-b7 c x
          let e' <-cE n c e
          if c.own.contains x then (if zF c e' && !c.frz then some (.set (.nm i) e')else none)else if esc e' then some (.set (.nm i) e')else none
        | .Tuple ts k p=>do
              let tg <-cTg c (.Tuple ts k p)
              let e' <-cE n c e
              if (isTup e && !j4 e)||ee e || !esc e' then none else some (.set tg e')
        | .Subscript a k _=>match a with
          | .Name x _=>do
            let i <-b7 c x
            let e' <-cE n c e
            let k' <-cE n c k
            if c.own.contains x&&esc e' && !isSlice k && !ee e && !c.frz then some (.seti i k' e')else none
          |_=>none
        |_=>none
      |_=>none
    | .Expr e _=>match lh e with
      |some (x,ap,k,a,cp)=>do
        let i <-b7 c x
        let k' <-cE n c k
        let a' <-cE n c a
        if c.own.contains x&&esc a' && !isStar k && !isStar a&&ap.endLine==cp.line && !c.frz then some (.ins i k' a')else none
      |none=>match jw e with
      |some (x,m,ap,a,cp)=>do
        let i <-b7 c x
        let a' <-cE n c a
        if m == "update" then (if c.own.contains x&&esc a' && !isStar a&&ap.endLine==cp.line && !c.frz then some (.dupd i a')else none)else
        if m == "append" && c.own.contains x&&esc a' && !isStar a&&ap.endLine==cp.line && !c.frz then some (.app i a')else none
      |none=>do
        if ee e then none else
        let e' <-cE n c e
        some (.exp e')
    | .Return o _=>match o with
      |some e=>do
        let e' <-cE n c e
        if fr then (match e with
          | .Name y _=>if c.own.contains y then (loc c y).map (λi=>.ret (.own i))else none
          |_=>if zF c e' then some (.ret e')else some (.retn e'))
        else some (.ret e')
      |none=>if fr then none else some .retN
    | .If t a b _=>do
      let t <-cT n c t
      let a <-cSs n c fr a
      let b <-cSs n c fr b
      some (.ite t a b)
    | .For tg it b els _=>do
      if !els.isEmpty || !c.calm || !qr it then none else
      let J5 <-cTg c tg
      let it <-cI n c it
      if !fh it tg then none else
      let b <-cSs n {c with frz:=c.frz||owned it} fr b
      some (.for J5 it b)
    | .While t b els _=>do
      if !els.isEmpty || !c.calm then none else
      let t <-cT n c t
      let b <-cSs n c fr b
      some (.while t b)
    | .AugAssign t op e _=>match t with
      | .Name x _=>match op with
        | .Add=>do
          let i <-b7 c x
          let e' <-cE n c e
          if c.own.contains x then none else some (.aug i e')
        |_=>none
      |_=>none
    |_=>none
noncomputable def cSs:Nat->Cc->Bool->List Stmt->Option Ss
  | 0,_,_,_=>none
  |n+1,c,fr,ss=>match ss with
    | []=>some .nil
    |s::r=>do
      let r <-cSs n c fr r
      some (.cons ((cS n c fr s).getD .unk) r)
end
noncomputable def noOwn(c:Cc):Cc:={c with own:=[],frz:=false}
noncomputable def jC(n:Nat)(c:Cc)(fr:Bool)(b:List Stmt):Option Ss:=cSs n c fr b
noncomputable def argNames(a:Arguments):List Str:=a.args.map (·.arg)
noncomputable def iF(a:Arguments)(sc:aR):List Str:=argNames a++((sc.names.filter λp=>p.2==.local||p.2==.cell).map (·.1)).filter λx=>!(argNames a).contains x
noncomputable def jE(N ps:List Str)(sc:aR):Bool:=
  sc.kind==.function && !sc.isCoroutine && !sc.isGenerator&&decide N.Nodup&&decide (N.take ps.length=ps)&&ps.all (λx=>sc.names.lookup x==some .local||sc.names.lookup x==some .cell)&&sc.names.all λy=>y.2 != .free
noncomputable def mq:Nat:=60
noncomputable def cFn(G GH:List (Str×GK))(own:List Str)(fr:Bool)(st:Stmt):Option Fn:=do
  let a:=zh st
  let sc:=zb st
  let N:=iF a sc
  if !jE N (argNames a) sc||(argNames a).any own.contains then none else
  let b <-jC mq ⟨sc.names,N,own,G,true,true,false,GH,[],false⟩ fr (eh st)
  some ⟨(argNames a).length,N.length,fr,b⟩
noncomputable def p7(GU:List (Str×GK))(own:List Str)(fr:Bool)(st:Stmt):Option Fn:=none
theorem oN{β:Type}{r:β}{Q:Prop}(h:(none:Option β)=some r):Q:=by cases h
theorem oS{α β:Type}{o:Option α}{f:α->Option β}{r:β}{Q:Prop}(h:(do let a <-o;f a)=some r)(k:∀a,o=some a->f a=some r->Q):Q:=by
  cases o with
  |none=>cases h
  |some a=>exact k a rfl h
theorem oI{β:Type}{p:Bool}{x r:β}{Q:Prop}(h:(if p then some x else none)=some r)(k:p=true->x=r->Q):Q:=by
  cases p with
  |false=>cases h
  |true=>exact k rfl (bM h)
theorem oB1{β α:Type}{o0:Option α}{f:α->Option β}{r:β}{Q:Prop}(h:(do let a <-o0;f a)=some r)(k:∀a,o0=some a->f a=some r->Q):Q:=
  oS h λa h0 h=>k a h0 h
theorem oB2{β α γ:Type}{o0:Option α}{o1:α->Option γ}{f:α->γ->Option β}{r:β}{Q:Prop}(h:(do let a <-o0;let b <-o1 a;f a b)=some r)(k:∀a b,o0=some a->o1 a=some b->f a b=some r->Q):Q:=
  oS h λa h0 h=>oS h λb h1 h=>k a b h0 h1 h
theorem oC1{β α:Type}{o0:Option α}{p:α->Bool}{x:α->β}{r:β}{Q:Prop}(h:(do let a <-o0;if p a then some (x a)else none)=some r)(k:∀a,o0=some a->p a=true->x a=r->Q):Q:=
  oS h λa h0 h=>oI h (k a h0)
theorem oC2{β α γ:Type}{o0:Option α}{o1:α->Option γ}{p:α->γ->Bool}{x:α->γ->β}{r:β}{Q:Prop}(h:(do let a <-o0;let b <-o1 a;if p a b then some (x a b)else none)=some r)(k:∀a b,o0=some a->o1 a=some b->p a b=true->x a b=r->Q):Q:=
  oS h λa h0 h=>oS h λb h1 h=>oI h (k a b h0 h1)
theorem oC3{β α γ δ:Type}{o0:Option α}{o1:α->Option γ}{o2:α->γ->Option δ}{p:α->γ->δ->Bool}{x:α->γ->δ->β}{r:β}{Q:Prop}(h:(do let a <-o0;let b <-o1 a;let d <-o2 a b;if p a b d then some (x a b d)else none)=some r)(k:∀a b d,o0=some a->o1 a=some b->o2 a b=some d->p a b d=true->x a b d=r->Q):Q:=
  oS h λa h0 h=>oS h λb h1 h=>oS h λd h2 h=>oI h (k a b d h0 h1 h2)
theorem oC4{β α γ δ ε:Type}{o0:Option α}{o1:α->Option γ}{o2:α->γ->Option δ}{o3:α->γ->δ->Option ε}{p:α->γ->δ->ε->Bool}{x:α->γ->δ->ε->β}{r:β}{Q:Prop}(h:(do let a <-o0;let b <-o1 a;let d <-o2 a b;let e <-o3 a b d;if p a b d e then some (x a b d e)else none)=some r)(k:∀a b d e,o0=some a->o1 a=some b->o2 a b=some d->o3 a b d=some e->p a b d e=true->x a b d e=r->Q):Q:=
  oS h λa h0 h=>oS h λb h1 h=>oS h λd h2 h=>oS h λe h3 h=>oI h (k a b d e h0 h1 h2 h3)
theorem oK1{β α:Type}{o0:Option α}{x:α->β}{r:β}{Q:Prop}(h:(do let a <-o0;some (x a))=some r)(k:∀a,o0=some a->x a=r->Q):Q:=
  oS h λa h0 h=>k a h0 (bM h)
theorem oK2{β α γ:Type}{o0:Option α}{o1:α->Option γ}{x:α->γ->β}{r:β}{Q:Prop}(h:(do let a <-o0;let b <-o1 a;some (x a b))=some r)(k:∀a b,o0=some a->o1 a=some b->x a b=r->Q):Q:=
  oS h λa h0 h=>oS h λb h1 h=>k a b h0 h1 (bM h)
theorem oK3{β α γ δ:Type}{o0:Option α}{o1:α->Option γ}{o2:α->γ->Option δ}{x:α->γ->δ->β}{r:β}{Q:Prop}(h:(do let a <-o0;let b <-o1 a;let d <-o2 a b;some (x a b d))=some r)(k:∀a b d,o0=some a->o1 a=some b->o2 a b=some d->x a b d=r->Q):Q:=
  oS h λa h0 h=>oS h λb h1 h=>oS h λd h2 h=>k a b d h0 h1 h2 (bM h)
end EV

namespace EV
open PySem PySem.Spec PyProof.Rows L2
structure Gc where
 K:aA
 fnA:Str->Option Addr
 clA:Str->Option Addr
mutual
inductive Rep(g:Gc)(H:Hp):D->V->Prop
 |non:Rep g H .non .non
 |bl (b:Bool):Rep g H (.bl b) (.bl b)
 |int (i:Int):Rep g H (.int i) (.int i)
 |str (x:Str):Rep g H (.str x) (.str x)
 |tup {a:Addr}{xs:List V}{ds:List D}:SqT g.K H a xs->qi g H ds xs->Rep g H (.tup ds) (.ref a)
 |lst {a:Addr}{xs:List V}{ds:List D}:SqL g.K H a xs->qi g H ds xs->Rep g H (.lst ds) (.ref a)
 |fn {x:Str}{a:Addr}:g.fnA x=some a->Rep g H (.fn x) (.ref a)
 |exn {c:Str}{a C:Addr}:g.clA c=some C->H a=some (Ah a (.ref C))->Rep g H (.exn c) (.ref a)
 |dic {a:Addr}{kvs:List (Int×Int)}:WD.IsK H a kvs->Rep g H (.dic kvs) (.ref a)
 |dct {a:Addr}{ks:List (List Int)}{ds:List D}{vs:List V}{xs:List WD.E3}{ep:Nat}:H a=some (WD.zD a xs ep)->WD.qW g.K H ks vs xs->qi g H ds vs->Rep g H (.dct ks ds) (.ref a)
inductive qi(g:Gc)(H:Hp):List D->List V->Prop
 |nil:qi g H [] []
 |cons {d:D}{ds:List D}{x:V}{xs:List V}:Rep g H d x->qi g H ds xs->qi g H (d::ds) (x::xs)
end
theorem eU{K:aA}{H H':Hp}{a:Addr}{xs:List V}(e:qf H H')(h:SqT K H a xs):SqT K H' a xs:=by
 rcases h with (h|⟨o,h⟩)|h
 ·exact .inl (.inl (e _ _ h))
 ·exact .inl (.inr ⟨o,e _ _ h⟩)
 ·exact .inr h
section
variable{g:Gc}{H H':Hp}
theorem fX{a b:Bool}(h:(a&&b)=true):a=true/\b=true:=by rw[aQ]at h;exact h
theorem Rep.mono(e:qf H H'){d:D}{v:V}(h:Rep g H d v):Rep g H' d v:=
 h.rec (motive_1:=λd v _=>Rep g H' d v) (motive_2:=λd v _=>qi g H' d v) .non .bl .int .str (λq _ r=>.tup (eU e q) r) (λq _ r=>.lst (e.seq q) r) .fn (λq r=>.exn q (e _ _ r)) (λq=>.dic (q.mono e)) (λq r _ t=>.dct (e _ _ q) (r.up e) t) .nil (λ_ _ a b=>.cons a b)
theorem qi.mono(e:qf H H'){d:List D}{v:List V}(h:qi g H d v):qi g H' d v:=
 h.rec (motive_1:=λd v _=>Rep g H' d v) (motive_2:=λd v _=>qi g H' d v) .non .bl .int .str (λq _ r=>.tup (eU e q) r) (λq _ r=>.lst (e.seq q) r) .fn (λq r=>.exn q (e _ _ r)) (λq=>.dic (q.mono e)) (λq r _ t=>.dct (e _ _ q) (r.up e) t) .nil (λ_ _ a b=>.cons a b)
theorem qi.length{ds:List D}:∀{vs:List V},qi g H ds vs->ds.length=vs.length:=by
 induction ds with
 |nil=>intro vs h;cases h;rfl
 |cons d ds ih=>intro vs h;cases h with|cons _ r=>exact congrArg (· + 1) (ih r)
theorem qi.get{ds:List D}:∀{vs:List V}{i:Nat}{d:D},qi g H ds vs->ds[i]? = some d->∃v,vs[i]? = some v/\Rep g H d v:=by
 induction ds with
 |nil=>intro vs i d h e;cases e
 |cons d ds ih=>
  intro vs i d' h e;cases h with
  |cons h t=>cases i with
   |zero=>cases e;exact⟨_,rfl,h⟩
   |succ i=>exact ih (i:=i) t e
theorem qi.append{ds:List D}:∀{es:List D}{vs us:List V},qi g H ds vs->qi g H es us->qi g H (ds++es) (vs++us):=by
 induction ds with
 |nil=>intro es vs us h s;cases h;exact s
 |cons d ds ih=>intro es vs us h s;cases h with|cons r t=>exact .cons r (ih t s)
theorem qi.take{ds:List D}:∀{vs:List V} (n:Nat),qi g H ds vs->qi g H (ds.take n) (vs.take n):=by
 induction ds with
 |nil=>intro vs n h;cases h;cases n<;>exact .nil
 |cons d ds ih=>intro vs n h;cases h with|cons r t=>cases n with
  |zero=>exact .nil
  |succ n=>exact .cons r (ih n t)
theorem qi.drop{ds:List D}:∀{vs:List V} (n:Nat),qi g H ds vs->qi g H (ds.drop n) (vs.drop n):=by
 induction ds with
 |nil=>intro vs n h;cases h;cases n<;>exact .nil
 |cons d ds ih=>intro vs n h;cases n with
  |zero=>exact h
  |succ n=>cases h with|cons r t=>exact ih n t
theorem qi.set{d:D}{v:V}(r:Rep g H d v){ds:List D}:∀{vs:List V} (i:Nat),qi g H ds vs->qi g H (ds.set i d) (vs.set i v):=by
 induction ds with
 |nil=>intro vs i h;cases h;exact .nil
 |cons d' ds ih=>intro vs i h;cases h with|cons q t=>cases i with
  |zero=>exact .cons r t
  |succ i=>exact .cons q (ih i t)
theorem qi.ints{ds:List D}:∀{vs:List V}{ns:List Int},qi g H ds vs->ints? ds=some ns->vs=ns.map V.int/\ds=ns.map D.int:=by
 induction ds with
 |nil=>intro vs ns h e;cases h;cases e;exact⟨rfl,rfl⟩
 |cons d ds ih=>
  intro vs ns h e;cases h with
  |cons h t=>cases d with
   |int i=>
    obtain⟨ms,e1,rfl⟩:=bF.mp (show (ints? ds).map (i :: ·)=some ns from e);obtain⟨h1,h2⟩:=ih t e1;cases h;exact⟨by rw[h1];rfl,by rw[h2];rfl⟩
   |_=>cases (show none=some ns from e)
theorem qi.bools{ds:List D}:∀{vs:List V}{ns:List Bool},qi g H ds vs->bools? ds=some ns->vs=ns.map V.bl:=by
 induction ds with
 |nil=>intro vs ns h e;cases h;cases e;rfl
 |cons d ds ih=>
  intro vs ns h e;cases h with
  |cons h t=>cases d with
   |bl i=>
    obtain⟨ms,e1,rfl⟩:=bF.mp (show (bools? ds).map (i :: ·)=some ns from e);have h1:=ih t e1;cases h;rw[h1];rfl
   |_=>cases (show none=some ns from e)
theorem qi.ofInts:∀(ns:List Int),qi g H (ns.map D.int) (ns.map V.int)
 | []=>.nil
 |i::r=>.cons (.int i) (qi.ofInts r)
end
structure Sh where
 o:Addr->Bool
 h:Addr->Bool
 z:L2.St
 y:Hp
noncomputable def hid(H:Hp)(S:Sh):Hp:=λb=>if S.h b=true then none else H b
noncomputable def qY(S:Sh)(a:Addr):Sh:=⟨S.o,λb=>S.h b||b==a,S.z,S.y⟩
theorem bC{H:Hp}{S:Sh}{b:Addr}{o:HO}:hid H S b=some o↔S.h b=false/\H b=some o:=by
 unfold hid;cases h:S.h b<;>simp
theorem qZ{H:Hp}{S:Sh}:qf (hid H S) H:=λ_ _ h=>(bC.mp h).2
theorem qg{H H':Hp}{S:Sh}(e:qf H H'):qf (hid H S) (hid H' S):=λb o h=>bC.mpr ⟨(bC.mp h).1,e _ _ (bC.mp h).2⟩
def Sub(S:Sh)(H:Hp):Prop:=∀a,(S.h a=true\/S.o a=true)->H a≠none
theorem Sub.same{S:Sh}{H H':Hp}(h:Sub S H)(e:qf H H'):Sub S H':=λa s n=>by
 cases q:H a with
 |none=>exact h a s q
 |some o=>rw[e _ _ q]at n;cases n
theorem Sub.free{S:Sh}{H:Hp}(h:Sub S H){p:Addr}(n:H p=none):S.h p=false:=by
 cases q:S.h p with
 |false=>rfl
 |true=>exact absurd n (h p (.inl q))
theorem Sub.freeO{S:Sh}{H:Hp}(h:Sub S H){p:Addr}(n:H p=none):S.o p=false:=by
 cases q:S.o p with
 |false=>rfl
 |true=>exact absurd n (h p (.inr q))
theorem zi{H:Hp}{p:Addr}{o:HO}(n:H p=none):qf H (upd H p o):=λb u h=>by
 rw[ql (λz=>by rw[z,n]at h;cases h)];exact h
theorem lJ{H:Hp}{S:Sh}{p:Addr}{o:HO}(hs:Sub S H)(n:H p=none):hid (upd H p o) S p=some o:=bC.mpr ⟨hs.free n,zw⟩
theorem gH{H:Hp}{S:Sh}{p:Addr}{o:HO}(n:H p=none):qf (hid H S) (hid (upd H p o) (qY S p)):=λb u h=>by
 obtain⟨h1,h2⟩:=bC.mp h;have hb:b≠p:=λz=>by rw[z,n]at h2;cases h2
 refine bC.mpr ⟨?_,by rw[ql hb];exact h2⟩;show (S.h b||b==p)=false;rw[h1]
 simpa using hb
theorem j0{H:Hp}{S:Sh}{p:Addr}:qf (hid H (qY S p)) (hid H S):=λb u h=>by
 obtain⟨h1,h2⟩:=bC.mp h;refine bC.mpr ⟨?_,h2⟩;have h1:(S.h b||b==p)=false:=h1;simp at h1;exact h1.1
inductive cg(g:Gc)(H:Hp)(a:Addr):D->HO->Prop
 |lst {ds:List D}{vs:List V}:qi g H ds vs->cg g H a (.lst ds) (.lst vs)
 |dic (kvs:List (Int×Int)) (xs:List WD.N4) (ep:Nat) (e:xs.map WD.nk=kvs):cg g H a (.dic kvs) (WD.cf a xs ep)
 |dct {ks:List (List Int)}{ds:List D}{vs:List V}{xs:List WD.E3}{ep:Nat}:WD.qW g.K H ks vs xs->qi g H ds vs->cg g H a (.dct ks ds) (WD.zD a xs ep)
theorem cg.mono{g:Gc}{H H':Hp}{a:Addr}{d:D}{o:HO}(e:qf H H')(h:cg g H a d o):cg g H' a d o:=by
 cases h with
 |lst r=>exact .lst (r.mono e)
 |dic k xs ep e=>exact .dic k xs ep e
 |dct q r=>exact .dct (q.up e) (r.mono e)
theorem cg.rep{g:Gc}{H H':Hp}{d:D}{o:HO}{a:Addr}(h:cg g H a d o)(e:qf H H')(ha:H' a=some o):Rep g H' d (.ref a):=by
 cases h with
 |lst r=>exact .lst (SqL.of ha) (r.mono e)
 |dic k xs ep e=>exact .dic ⟨xs,ep,ha,e⟩
 |dct q r=>exact .dct ha (q.up e) (r.mono e)
def zu(g:Gc)(H:Hp)(S:Sh)(d:D)(v:V):Prop:=
 Rep g (hid H S) d v\/∃a o,S.o a=true/\v=.ref a/\H a=some o/\cg g (hid H S) a d o
def Fr(g:Gc)(H0:Hp)(S:Sh)(H:Hp)(d:D)(v:V):Prop:=
 ∃a o,v=.ref a/\H0 a=none/\H a=some o/\cg g (hid H (qY S a)) a d o
section
variable{g:Gc}{H H' H0:Hp}{S:Sh}{d:D}{v:V}
theorem zu.mono(e:qf H H')(h:zu g H S d v):zu g H' S d v:=by
 rcases h with h|⟨a,o,h1,h2,h3,h4⟩
 ·exact .inl (h.mono (qg e))
 ·exact .inr ⟨a,o,h1,h2,e _ _ h3,h4.mono (qg e)⟩
theorem zu.rep(h:zu g H S d v):Rep g H d v:=by
 rcases h with h|⟨a,o,h1,rfl,h3,h4⟩
 ·exact h.mono qZ
 ·exact h4.rep qZ h3
theorem zu.lst{ds:List D}(h:zu g H S (.lst ds) v):∃a vs,v=.ref a/\SqL g.K H a vs/\qi g (hid H S) ds vs:=by
 rcases h with h|⟨a,o,h1,rfl,h3,h4⟩
 ·cases h with
  |lst h r=>exact⟨_,_,rfl,qZ.seq h,r⟩
 ·cases h4 with
  |lst r=>exact⟨a,_,rfl,SqL.of h3,r⟩
theorem zu.dic{kvs:List (Int×Int)}(h:zu g H S (.dic kvs) v):∃a,v=.ref a/\WD.IsK H a kvs:=by
 rcases h with h|⟨a,o,h1,rfl,h3,h4⟩
 ·cases h with
  |dic h=>exact⟨_,rfl,h.mono qZ⟩
 ·cases h4 with
  |dic k xs ep e=>exact⟨a,rfl,xs,ep,h3,e⟩
theorem zu.dct{ks:List (List Int)}{ds:List D}(h:zu g H S (.dct ks ds) v):∃a vs xs ep,v=.ref a/\H a=some (WD.zD a xs ep)/\WD.qW g.K (hid H S) ks vs xs/\qi g (hid H S) ds vs:=by
 rcases h with h|⟨a,o,h1,rfl,h3,h4⟩
 ·cases h with
  |dct h q r=>exact⟨_,_,_,_,rfl,qZ _ _ h,q,r⟩
 ·cases h4 with
  |dct q r=>exact⟨a,_,_,_,rfl,h3,q,r⟩
theorem zu.strong(h:zu g H S d v)(n:∀ds,d≠.lst ds)(n2:∀k,d≠.dic k:=by intro _ z;cases z)(n3:∀k ds,d≠.dct k ds:=by intro _ _ z;cases z):Rep g (hid H S) d v:=by
 rcases h with h|⟨a,o,h1,rfl,h3,h4⟩
 ·exact h
 ·cases h4 with
  |lst r=>exact absurd rfl (n _)
  |dic k xs ep e=>exact absurd rfl (n2 _)
  |dct q r=>exact absurd rfl (n3 _ _)
theorem zu.tup{ds:List D}(h:zu g H S (.tup ds) v):∃a vs,v=.ref a/\SqT g.K H a vs/\qi g (hid H S) ds vs:=by
 cases h.strong (by intro _ z;cases z)with
 |tup h2 r=>exact⟨_,_,rfl,eU qZ h2,r⟩
theorem zu.seq{ds:List D}(h:zu g H S d v)(e:seq? d=some ds):∃a vs,v=.ref a/\(SqL g.K H a vs\/SqT g.K H a vs)/\qi g (hid H S) ds vs:=by
 cases d with
 |tup xs=>cases e;obtain⟨a,vs,h1,h2,h3⟩:=h.tup;exact⟨a,vs,h1,.inr h2,h3⟩
 |lst xs=>cases e;obtain⟨a,vs,h1,h2,h3⟩:=h.lst;exact⟨a,vs,h1,.inl h2,h3⟩
 |_=>cases e
theorem zu.int{i:Int}(h:zu g H S (.int i) v):v=.int i:=by cases h.strong (by intro _ z;cases z);rfl
theorem zu.bl{b:Bool}(h:zu g H S (.bl b) v):v=.bl b:=by cases h.strong (by intro _ z;cases z);rfl
theorem jN{ds:List D}{vs:List V}{p:Addr}(hs:Sub S H)(n:H p=none)(r:qi g (hid H S) ds vs):Rep g (hid (upd H p (.tup vs)) S) (.tup ds) (.ref p):=
 .tup (SqT.of (lJ hs n)) (r.mono (qg (zi n)))
theorem fI{ds:List D}{vs:List V}{p:Addr}(hs:Sub S H)(n:H p=none)(r:qi g (hid H S) ds vs):Rep g (hid (upd H p (.lst vs)) S) (.lst ds) (.ref p):=
 .lst (SqL.of (lJ hs n)) (r.mono (qg (zi n)))
theorem fT{ds:List D}{vs:List V}{p:Addr}(e:qf H0 H)(n:H p=none)(r:qi g (hid H S) ds vs):Fr g H0 S (upd H p (.lst vs)) (.lst ds) (.ref p):=
 ⟨p,_,rfl,e.free n,zw,.lst (r.mono (gH n))⟩
theorem CW{p:Addr}(hs:Sub S H)(n:H p=none):Rep g (hid (upd H p (WD.cf p [] 0)) S) (.dic []) (.ref p):=.dic ⟨[],0,lJ hs n,rfl⟩
theorem uC{p:Addr}(e:qf H0 H)(n:H p=none):Fr g H0 S (upd H p (WD.cf p [] 0)) (.dic []) (.ref p):=⟨p,_,rfl,e.free n,zw,.dic [] [] 0 rfl⟩
end
end EV
namespace L2
open PySem PySem.Spec PyProof.Rows
section
variable{X:Cx}
end
end L2
namespace EV
open PySem PySem.Spec PySem.P PyProof.Rows L2
mutual
noncomputable def D.py:D->PyData
 | .non=>.none
 | .bl b=>.bool b
 | .int i=>.int i
 | .str x=>.str x
 | .tup xs=>.tuple (pys xs)
 | .lst xs=>.list (pys xs)
 | .fn _=>.none
 | .exn _=>.none
 | .dic _=>.none
 | .dct _ _=>.none
noncomputable def pys:List D->List PyData
 | []=>[]
 |x::xs=>x.py::pys xs
end
mutual
theorem nA:∀{d:D},d.plain=true->d.py.canLay0=true
 | .non,_ | .bl _,_ | .int _,_=>rfl
 | .str x,h=>h
 | .tup xs,h=>by exact kN (h)
 | .lst xs,h=>by exact kN (h)
 | .fn _,h | .exn _,h | .dic _,h | .dct _ _,h=>nomatch h
theorem kN:∀{ds:List D},plainAll ds=true->PyData.canLayAll0 (pys ds)=true
 | [],_=>by simp[pys,PyData.canLayAll0]
 |x::xs,h=>by
  simp only[plainAll,aQ]at h;simp only[pys,PyData.canLayAll0,aQ];exact⟨nA h.1,kN h.2⟩
end
mutual
theorem pH:∀(d:D),d.py.depth=d.deep
 | .non | .bl _ | .int _ | .str _ | .fn _ | .exn _ | .dic _ | .dct _ _=>rfl
 | .tup xs=>congrArg (· + 1) (kJ xs)
 | .lst xs=>congrArg (· + 1) (kJ xs)
theorem kJ:∀(ds:List D),PyData.depthAll (pys ds)=dC ds
 | []=>rfl
 |x::xs=>by simp only[pys,PyData.depthAll,dC];rw[pH x,kJ xs]
end
mutual
theorem mO:∀(a b:D),a.plain=true->b.plain=true->PyData.eqv a.py b.py=a.eqv b
 | .tup xs,.tup ys,h,h'=>by exact kA xs ys (h) (h')
 | .lst xs,.lst ys,h,h'=>by exact kA xs ys (h) (h')
 | .fn _,_,h,_=>nomatch h
 | .exn _,_,h,_=>nomatch h
 | .dic _,_,h,_ | .dct _ _,_,h,_=>nomatch h
 | .non,b,_,h' | .bl _,b,_,h' | .int _,b,_,h' | .str _,b,_,h'=>by cases b<;>first|rfl|exact Bool.noConfusion h'|simp[D.py,PyData.eqv,D.plain]at h' ⊢
 | .tup _,.non,_,_ | .tup _,.bl _,_,_ | .tup _,.int _,_,_ | .tup _,.str _,_,_ | .tup _,.lst _,_,_=>by simp[D.py,PyData.eqv,D.eqv]
 | .lst _,.non,_,_ | .lst _,.bl _,_,_ | .lst _,.int _,_,_ | .lst _,.str _,_,_ | .lst _,.tup _,_,_=>by simp[D.py,PyData.eqv,D.eqv]
 | .tup _,.fn _,_,h' | .tup _,.exn _,_,h' | .lst _,.fn _,_,h' | .lst _,.exn _,_,h' | .tup _,.dic _,_,h' | .lst _,.dic _,_,h' | .tup _,.dct _ _,_,h' | .lst _,.dct _ _,_,h'=>nomatch h'
theorem kA:∀(xs ys:List D),plainAll xs=true->plainAll ys=true->PyData.eqvAll (pys xs) (pys ys)=eqvAll xs ys
 | [],[],_,_=>rfl
 |x::xs,y::ys,h,h'=>by
  simp only[plainAll,aQ]at h h';simp only[pys,PyData.eqvAll,eqvAll];rw[mO x y h.1 h'.1,kA xs ys h.2 h'.2]
 | [],_::_,_,_=>rfl
 |_::_,[],_,_=>rfl
end
theorem Rep.data{g:Gc}{H:Hp}{d:D}{v:V}(h:Rep g H d v):d.plain=true->eP g.K H v d.py:=
 h.rec (motive_1:=λd v _=>d.plain=true->eP g.K H v d.py) (motive_2:=λds vs _=>plainAll ds=true->iz g.K H vs (pys ds)) (λ_=>.non) (λb _=>.bl b) (λb _=>.int b) (λb _=>.str b) (λq _ r p=>.tup q (r p)) (λq _ r p=>.lst q (r p)) (λ_ p=>nomatch p) (λ_ _ p=>nomatch p) (λ_ p=>nomatch p) (λ_ _ _ _ p=>nomatch p) (λ_=>.nil) (λ_ _ a b p=>.cons (a (fX p).1) (b (fX p).2))
theorem jk{d:D}:d.asks=true↔d.plain=true/\d.deep<=20:=by simp[D.asks]
section
variable{X:Cx}{g:Gc}
theorem OpR.imp{f:ae->ae->Sem ae}{r r':R2}(h:OpR X f r)(i:∀x y H Q,r' x y H Q->r x y H Q):OpR X f r':=
 λpins s σ H x y v u Q I rx ry q=>h pins s σ H x y v u Q I rx ry (i _ _ _ _ q)
def A_(K:aA):R2:=λx y H Q=>∃l b xs zs,x=.ref l/\y=.ref b/\SqL K H l xs/\SqL K H b zs/\xs.length+zs.length<=aK/\∀p,H p=none->Q (.ref p) (upd H p (.lst (xs++zs)))
theorem xg:OpR X (bI .Add) (A_ X.K):=by
 intro pins s σ H x y v u Q I rx ry h;obtain⟨l,b,xs,zs,rfl,rfl,hH,hB,hz,q⟩:=h;cases rx;cases ry;obtain⟨its,r,pl,z⟩:=I.list hH;obtain⟨FD,r2,L9,z2⟩:=I.list hB;have l1:=r.length;have l2:=r2.length;obtain⟨⟨cls,dd,data,sl⟩,ho,hc,n,hd⟩:=pl.isList;obtain⟨⟨Hc,F6,data2,GJ⟩,FO,Fy,n2,hd2⟩:=L9.isList;simp only at hc hd Fy hd2;subst hc hd Fy hd2;refine concat_meets ⟨_,ho,rfl⟩ ⟨_,FO,rfl⟩ noFill_list_add seq_list_add PySem.F.slot_list_add PySem.F.entry_list_add (PySem.F.args_list_add_2 _ _) (list_addW l b its.toArray FD.toArray n n2 dd F6 sl GJ (by rw[a7,a7];lia)) ⟨ho,FO,?_⟩;have ea:its.toArray++FD.toArray=(its++FD).toArray:=by simp
 rw[ea];exact⟨.ref _,_,I.lnew (t':=s.toks) (r.append r2) (by rw[di];lia),rfl,q _ I.fresh⟩
def rOp(g:Gc)(o:O2):R2:=λx y H Q=>∃S da db,Sub S H/\zu g H S da x/\zu g H S db y /\
 match op2 o da db with
 | .ok d=>∀v H',qf H H'->Rep g (hid H' S) d v->(lM da=true->Fr g H S H' d v)->Q v H'
 |_=>False
theorem fG{o:O2}(ho:o≠.add)(hm:o≠.mul){da db d:D}(h:op2 o da db=.ok d):∃i j,da=.int i/\db=.int j/\opI o i j=.ok d:=by
 unfold op2 at h;split at h
 ·exact⟨_,_,rfl,rfl,h⟩
 ·rw[if_neg (λz=>ho z.1)]at h;cases h
 ·rw[if_neg (λz=>ho z.1)]at h;cases h
 ·cases h
theorem oP{j:Int}(h:small j=true):-(2^64)<j/\j<2^64:=by simpa[small]using h
theorem n9{n:Nat}(h:n<=SZ):n<=sizeLine:=a8 h (by rw[bx];decide)
theorem log2_small{j:Int}(h1:0<j)(h2:j<1000000000000000000000000000000):j.natAbs.log2<9000:=by
 have h3:j.natAbs<2^100:=by
  have:(2:Nat)^100=1267650600228229401496703205376:=by decide +kernel
  rw[this];lia
 have:=(Nat.log2_lt (n:=j.natAbs) (k:=100) (by lia)).mpr h3;lia
theorem vm:OpR X (bI .FloorDiv) (rI (λ_ j=>0<j/\j<1000000000000000000000000000000) λi j=>.int (i/j)):=L2.opI λi j _ _ _ _ _ hc q=>by
 have h1:(0:Int)<j:=hc.1;exact floordiv_int (by lia) (by rw[Int.fdiv_eq_ediv_of_nonneg i (by lia)];exact q) (.inl (PyProof.noPylong_of_log2 (log2_small hc.1 hc.2)))
theorem yC(hK:X.K=g.K){op:Operator}{o:O2}(h:o2 op=some o):OpR X (bI op) (rOp g o):=by
 have two:∀{f:ae->ae->Sem ae}{C:Int->Int->Prop}{q:Int->Int->Int} (o:O2),OpR X f (rI C λi j=>.int (q i j))->(∀da db d,op2 o da db=.ok d->∃i j,da=.int i/\db=.int j/\C i j/\d=.int (q i j))->OpR X f (rOp g o):=λo k e=>by
  refine OpR.imp k λx y H Q ⟨S,da,db,hs,ra,rb,m⟩=>?_
  cases e1:op2 o da db with
  |ok d=>
   rw[e1]at m;obtain⟨i,j,rfl,rfl,c,rfl⟩:=e da db d e1;exact⟨i,j,ra.int,rb.int,c,m _ _ (qf.refl _) (.int _) (λz=>nomatch z)⟩
  |ex c=>rw[e1]at m;exact m.elim
  |no=>rw[e1]at m;exact m.elim
 have GX:∀{f:ae->ae->Sem ae}{q:Int->Int->Int} (o:O2),OpR X f (rI0 λi j=>.int (q i j))->(∀da db d,op2 o da db=.ok d->∃i j,da=.int i/\db=.int j/\d=.int (q i j))->OpR X f (rOp g o):=λ{f q} o k e=>
  two (C:=λ_ _=>True) (q:=q) o (OpR.imp k λx y H Q ⟨i,j,h1,h2,_,h3⟩=>⟨i,j,h1,h2,h3⟩) λda db d h=>by
   obtain⟨i,j,h1,h2,h3⟩:=e da db d h;exact⟨i,j,h1,h2,trivial,h3⟩
 cases op<;>simp only[o2,cn]at h<;>first|subst h|cases h
 ·-- Add
  refine OpR.imp (xJ.or (uu.or xg)) λx y H Q ⟨S,da,db,hs,ra,rb,m⟩=>?_
  cases da with
  |int i=>
   cases db with
   |int j=>exact .inl ⟨i,j,ra.int,rb.int,m _ _ (qf.refl _) (.int _) (λz=>nomatch z)⟩
   |_=>exact m.elim
  |tup xs=>
   cases db with
   |tup ys=>
    simp only[op2,true_and]at m;split at m
    ·rename_i e
     split at e<;>cases e
     rename_i hz
     obtain⟨a,vs,rfl,h1,r1⟩:=ra.tup;obtain⟨b,us,rfl,h2,r2⟩:=rb.tup;refine .inr (.inl ⟨a,b,vs,us,rfl,rfl,by rw[hK];exact h1,by rw[hK];exact h2,by rw[<-r1.length,<-r2.length];exact n9 hz,λe=>?_,λ_ e=>?_,λ_ _ p hp=>?_⟩)
     ·subst e;cases r1;exact m _ _ (qf.refl _) (rb.strong (by intro _ z;cases z)) (λz=>nomatch z)
     ·subst e;cases r2;rw[cb]at m;exact m _ _ (qf.refl _) (ra.strong (by intro _ z;cases z)) (λz=>nomatch z)
     ·exact m _ _ (zi hp) (jN hs hp (r1.append r2)) (λz=>nomatch z)
    ·exact m.elim
   |_=>exact m.elim
  |lst xs=>
   cases db with
   |lst ys=>
    simp only[op2,true_and]at m;split at m
    ·rename_i e
     split at e<;>cases e
     rename_i hz
     obtain⟨a,vs,rfl,h1,r1⟩:=ra.lst;obtain⟨b,us,rfl,h2,r2⟩:=rb.lst;refine .inr (.inr ⟨a,b,vs,us,rfl,rfl,by rw[hK];exact h1,by rw[hK];exact h2,by rw[<-r1.length,<-r2.length];exact n9 hz,λp hp=>?_⟩);exact m _ _ (zi hp) (fI hs hp (r1.append r2)) (λ_=>fT (qf.refl _) hp (r1.append r2))
    ·exact m.elim
   |_=>exact m.elim
  |_=>exact m.elim
 ·exact GX .sub Al λda db d h=>by obtain⟨i,j,rfl,rfl,h'⟩:=fG (by decide) (by decide) h;clear h;rename _=>h;cases h;exact⟨_,_,rfl,rfl,rfl⟩
 ·refine OpR.imp y9 λx y H Q ⟨S,da,db,hs,ra,rb,m⟩=>?_
  cases e1:op2 .mul da db with
  |ok d=>
   rw[e1]at m;unfold op2 at e1;split at e1
   ·simp only[opI]at e1;split at e1
    ·rename_i i j hc
     cases e1;refine⟨i,j,ra.int,rb.int,?_,m _ _ (qf.refl _) (.int _) (λz=>nomatch z)⟩;rcases(by simpa using hc)with z|z
     ·exact .inl (oP z)
     ·exact .inr (oP z)
    ·cases e1
   ·rw[if_neg (λz=>nomatch z.1)]at e1;cases e1
   ·rw[if_neg (λz=>nomatch z.1)]at e1;cases e1
   ·cases e1
  |ex c=>rw[e1]at m;exact m.elim
  |no=>rw[e1]at m;exact m.elim
 ·exact two .mod uB λda db d h=>by obtain⟨i,j,rfl,rfl,h'⟩:=fG (by decide) (by decide) h;clear h;rename _=>h;simp only[opI]at h;split at h<;>cases h;rename_i hc;exact⟨_,_,rfl,rfl,hc,rfl⟩
 ·exact two .pow tL λda db d h=>by obtain⟨i,j,rfl,rfl,h'⟩:=fG (by decide) (by decide) h;clear h;rename _=>h;simp only[opI]at h;split at h<;>cases h;rename_i hc;exact⟨_,_,rfl,rfl,hc,rfl⟩
 ·exact two .shl tQ λda db d h=>by obtain⟨i,j,rfl,rfl,h'⟩:=fG (by decide) (by decide) h;clear h;rename _=>h;simp only[opI]at h;split at h<;>cases h;rename_i hc;exact⟨_,_,rfl,rfl,hc,rfl⟩
 ·exact two .shr yn λda db d h=>by obtain⟨i,j,rfl,rfl,h'⟩:=fG (by decide) (by decide) h;clear h;rename _=>h;simp only[opI]at h;split at h<;>cases h;rename_i hc;exact⟨_,_,rfl,rfl,hc,rfl⟩
 ·exact GX .bor tF λda db d h=>by obtain⟨i,j,rfl,rfl,h'⟩:=fG (by decide) (by decide) h;clear h;rename _=>h;cases h;exact⟨_,_,rfl,rfl,rfl⟩
 ·exact GX .bxor yZ λda db d h=>by obtain⟨i,j,rfl,rfl,h'⟩:=fG (by decide) (by decide) h;clear h;rename _=>h;cases h;exact⟨_,_,rfl,rfl,rfl⟩
 ·exact GX .band wF λda db d h=>by obtain⟨i,j,rfl,rfl,h'⟩:=fG (by decide) (by decide) h;clear h;rename _=>h;cases h;exact⟨_,_,rfl,rfl,rfl⟩
 ·exact two .fdiv vm λda db d h=>by obtain⟨i,j,rfl,rfl,h'⟩:=fG (by decide) (by decide) h;clear h;rename _=>h;simp only[opI]at h;split at h<;>cases h;rename_i hc;exact⟨_,_,rfl,rfl,hc,rfl⟩
theorem km(hK:X.K=g.K){pins:List (Addr×Obj)}{σ:L2.St}{H:Hp}{s:af}(I:Inv X pins σ H s){d:D}{v:V}{u:ae}(r:Rep g H d v)(a:d.asks=true)(ru:RelV v u):∃as,Reads s.heap u d.py as/\d.py.canLay0=true/\d.py.depth<=20:=by
 obtain⟨h1,h2⟩:=jk.mp a;have h:=r.data h1;rw[<-hK]at h;obtain⟨as,q⟩:=I.reads h ru;exact⟨as,q,nA h1,by rw[pH];exact h2⟩
theorem nM:∀(a b:List Int),de a b=HT.lexLt a b
 | [],[]=>by simp[de,HT.lexLt]
 | [],_::_=>by simp[de,HT.lexLt]
 |_::_,[]=>by simp[de,HT.lexLt]
 |a::r,b::t=>by
  simp only[de,HT.lexLt];rw[nM r t]
  try (by_cases h:a=b<;>simp[h])
def rCm(g:Gc)(c:C2):R2:=λx y H Q=>∃S da db,zu g H S da x/\zu g H S db y /\
 match qk c da db with
 | .ok b=>Q (.bl b) H
 |_=>False
open Classical in
noncomputable def fg(h:Heap)(q:PyData)(u:ae):Bool:=if e:∃d as,Reads h u d as then PyData.eqv e.choose q else false
theorem sP{h:Heap}{q d:PyData}{u:ae}{as:List Addr}(r:Reads h u d as):fg h q u=PyData.eqv d q:=by
 have e:∃d as,Reads h u d as:=⟨d,as,r⟩
 unfold fg;rw[dif_pos e];obtain⟨bs,r'⟩:=e.choose_spec;rw[(PySem.Reads.unique r' d as r).1]
theorem any_eq(hK:X.K=g.K){pins:List (Addr×Obj)}{σ:L2.St}{H:Hp}{s:af}(I:Inv X pins σ H s){da:D}(ha:da.asks=true){ds:List D}:∀{vs:List V}{us:List ae},qi g H ds vs->Vals vs us->ds.all D.asks=true ->
  us.any (fg s.heap da.py)=inD da ds/\∀u∈us,∃d as,Reads s.heap u d as/\d.canLay0=true/\d.depth<=20:=by
 induction ds with
 |nil=>intro vs us h r _;cases h;cases r;exact⟨rfl,λu h=>nomatch h⟩
 |cons d ds ih=>
  intro vs us h q e;cases h with
  |cons h r=>cases q with
   |cons q t=>
    rw[List.all_cons,aQ]at e;obtain⟨as,h1,h2,h3⟩:=km hK I h e.1 q;obtain⟨i1,i2⟩:=ih r t e.2;refine⟨?_,λu hu=>?_⟩
    ·rw[List.any_cons,i1,sP h1,mO _ _ (jk.mp e.1).1 (jk.mp ha).1]
     rfl
    ·rcases aM.mp hu with rfl|hu
     ·exact⟨_,as,h1,h2,h3⟩
     ·exact i2 u hu
theorem BL{A:aD}{s:af}{u v:ae}{d:PyData}{as:List Addr}{q:PyData}{bs:List Addr}(hu:A.units+60<cLine)(r:Reads s.heap u d as)(r':Reads s.heap v q bs)(h1:d.canLay0=true)(h2:q.canLay0=true)(h3:d.depth<=20):SeqAt.EqAt A.in1 s u v (fg s.heap q u):=by
 rw[sP r];refine SeqAt.eqAt_reads d q A.in1 s u v as bs r r' h1 h2 ?_;have:min d.depth q.depth<=d.depth:=Nat.min_le_left _ _;show A.units+1+_<_;lia
theorem mZ(hK:X.K=g.K)(hu:X.A.units+64<cLine)(neg:Bool):OpR X (a6 (if neg then .NotIn else .In)) (λx y H Q=>∃S da db ds,zu g H S da x/\zu g H S db y/\seq? db=some ds/\da.asks=true/\ds.all D.asks=true/\Q (.bl (if neg then !inD da ds else inD da ds)) H):=by
 intro pins s σ H x y v u Q I rx ry h;obtain⟨S,da,db,ds,ra,rb,es,aa,ad,q⟩:=h;obtain⟨as,h1,h2,h3⟩:=km hK I ra.rep aa rx;obtain⟨a,vs,rfl,Ir,rr⟩:=rb.seq es;cases ry;have go:∀{its:List ae},Vals vs its->(∀w∈its.toArray,SeqAt.EqAt X.A.in1 s w v (fg s.heap da.py w))/\its.toArray.any (fg s.heap da.py)=inD da ds:=λ{its} rv=>by
  obtain⟨i1,i2⟩:=any_eq hK I aa (rr.mono qZ) rv ad;refine⟨λw hw=>?_,by simpa using i1⟩;obtain⟨d,bs,r1,r2,r3⟩:=i2 w (by simpa using hw);exact BL (Nat.lt_of_le_of_lt (Nat.add_le_add_left (by decide) _) hu) r1 h1 r2 h2 r3
 rcases Ir with Ir|Ir
 ·obtain⟨its,rv,pl,_⟩:=I.list (by rw[hK];exact Ir);obtain⟨g1,g2⟩:=go rv;cases neg with
  |false=>exact SeqAt.in_listAt (fg s.heap da.py) pl.isList g1 ⟨.bl _,H,I,rfl,by rw[g2];exact q⟩
  |true=>exact SeqAt.notIn_listAt (fg s.heap da.py) pl.isList g1 ⟨.bl _,H,I,rfl,by rw[g2];exact q⟩
 ·obtain⟨its,rv,pl,_⟩:=I.tuple (by rw[hK];exact Ir);obtain⟨g1,g2⟩:=go rv;cases neg with
  |false=>exact SeqAt.in_tupleAt (fg s.heap da.py) pl g1 ⟨.bl _,H,I,rfl,by rw[g2];exact q⟩
  |true=>exact SeqAt.notIn_tupleAt (fg s.heap da.py) pl g1 ⟨.bl _,H,I,rfl,by rw[g2];exact q⟩
theorem pL(hK:X.K=g.K)(hu:X.A.units+64<cLine)(neg:Bool):OpR X (a6 (if neg then .NotEq else .Eq)) (λx y H Q=>∃S da db,zu g H S da x/\zu g H S db y/\da.asks=true/\db.asks=true/\Q (.bl (if neg then !da.eqv db else da.eqv db)) H):=by
 intro pins s σ H x y v u Q I rx ry h;obtain⟨S,da,db,ra,rb,aa,ab,q⟩:=h;obtain⟨as,h1,h2,h3⟩:=km hK I ra.rep aa rx;obtain⟨bs,k1,k2,k3⟩:=km hK I rb.rep ab ry;have e:=mO da db (jk.mp aa).1 (jk.mp ab).1;have room:X.A.units+min da.py.depth db.py.depth<cLine:=by
  have:min da.py.depth db.py.depth<=da.py.depth:=Nat.min_le_left _ _;lia
 cases neg with
 |false=>exact SeqAt.compareEq_reads h1 k1 h2 k2 room ⟨.bl _,H,I,by rw[e];rfl,q⟩
 |true=>exact SeqAt.compareNe_reads h1 k1 h2 k2 room ⟨.bl _,H,I,by rw[e];rfl,q⟩
theorem zu.non_iff{S:Sh}{H:Hp}{d:D}{v:V}(r:zu g H S d v):decide (v=.non)=fA d:=by
 cases r.rep<;>rfl
theorem eY{op:CmpOp}{c:C2}{r:R2}(h:OpR X (a6 op) r)(k:∀S da db b x y H Q,zu g H S da x->zu g H S db y->qk c da db=.ok b->Q (.bl b) H->r x y H Q):OpR X (a6 op) (rCm g c):=by
 refine OpR.imp h λx y H Q ⟨S,da,db,ra,rb,m⟩=>?_
 cases e:qk c da db with
 |ok b=>rw[e]at m;exact k S da db b x y H Q ra rb e m
 |ex c'=>rw[e]at m;exact m.elim
 |no=>rw[e]at m;exact m.elim
theorem B7:OpR X (a6 .Is) (λx y H Q=>∃a b,x=.bl a/\y=.bl b/\Q (.bl (a==b)) H):=by
 intro pins s σ H x y v u Q I rx ry h;obtain⟨a,b,rfl,rfl,q⟩:=h;cases rx;cases ry;exact is_bool (ju I q rfl)
theorem yk:OpR X (a6 .IsNot) (λx y H Q=>∃a b,x=.bl a/\y=.bl b/\Q (.bl (!(a==b))) H):=by
 intro pins s σ H x y v u Q I rx ry h;obtain⟨a,b,rfl,rfl,q⟩:=h;cases rx;cases ry;exact isnot_bool (ju I q rfl)
theorem mY{n:Bool}{a b:EV.D}{c:Bool}(h:isB n a b=.ok c):∃x y,a=.bl x/\b=.bl y/\c=(n != (x==y)):=by
 unfold isB at h;split at h
 ·cases h;exact⟨_,_,rfl,rfl,rfl⟩
 ·cases h
theorem i'{g:Gc}{H:Hp}{S:Sh}{xs:List D}{x:V}{k:List Int}(h:zu g H S (.tup xs) x)(e:ints? xs=some k):∃b,x=.ref b/\SqT g.K H b (k.map V.int):=by
 obtain⟨b,vs,rfl,h1,r1⟩:=h.tup;obtain⟨rfl,rfl⟩:=r1.ints e;exact⟨b,rfl,h1⟩
def pP(d:D)(ks:List (List Int))(ds:List D):Prop:=d=.dct ks ds\/(d=.dic []/\ks=[]/\ds=[])
theorem k9{g:Gc}{H:Hp}{S:Sh}{d:D}{ks:List (List Int)}{ds:List D}{y:V}(h:zu g H S d y)(e:pP d ks ds):∃a vs xs,y=.ref a/\WD.TD H a xs/\WD.qW g.K H ks vs xs/\qi g (hid H S) ds vs:=by
 rcases e with rfl|⟨rfl,rfl,rfl⟩
 ·obtain⟨a,vs,xs,ep,h1,h2,h3,h4⟩:=h.dct;exact⟨a,vs,xs,h1,.inl ⟨ep,h2⟩,h3.up qZ,h4⟩
 ·obtain⟨a,h1,ys,ep,h2,h3⟩:=h.dic;cases List.map_eq_nil_iff.mp h3;exact⟨a,[],[],h1,.inr ⟨rfl,ep,h2⟩,.nil,.nil⟩
theorem m7{da:D}{ks:List (List Int)}{b:Bool}(h:eQ da ks=.ok b):∃xs k,da=.tup xs/\ints? xs=some k/\b=ks.any λx=>decide (x=k):=by
 unfold eQ at h;split at h
 ·split at h
  ·rename_i e;cases h;exact⟨_,_,rfl,e,rfl⟩
  ·cases h
 ·cases h
theorem oa{da db:D}{b:Bool}(h:cW da db=.ok b):(∃kvs i,db=.dic kvs/\da=.int i/\b=kvs.any λp=>decide (p.1=i))\/∃ks ds xs k,pP db ks ds/\da=.tup xs/\ints? xs=some k/\b=ks.any λx=>decide (x=k):=by
 unfold cW at h;split at h
 ·split at h
  ·cases h;exact .inl ⟨_,_,rfl,rfl,rfl⟩
  ·split at h
   ·rename_i q
    obtain⟨xs,k,e1,e2,e3⟩:=m7 h;exact .inr ⟨[],[],xs,k,.inr ⟨by rw[List.isEmpty_iff.mp q],rfl,rfl⟩,e1,e2,e3⟩
   ·cases h
 ·obtain⟨xs,k,e1,e2,e3⟩:=m7 h;exact .inr ⟨_,_,xs,k,.inl rfl,e1,e2,e3⟩
 ·cases h
theorem dJ(hK:X.K=g.K)(hu:X.A.units+64<cLine)(op:CmpOp):OpR X (a6 op) (rCm g (c2 op)):=by
 cases op
 ·exact eY (pL hK hu false) λS da db b x y H Q ra rb e q=>by
   simp only[c2,dN,zB,zI,zC,dX,dU,dW]at e;split at e<;>cases e
   rename_i a
   simp only[aQ]at a;exact⟨S,da,db,ra,rb,a.1,a.2,q⟩
 ·exact eY (pL hK hu true) λS da db b x y H Q ra rb e q=>by
   simp only[c2,dN,zB,zI,zC,dX,dU,dW]at e;split at e<;>cases e
   rename_i a
   simp only[aQ]at a;exact⟨S,da,db,ra,rb,a.1,a.2,q⟩
 ·exact eY (wZ.or (Dw (by lia))) λS da db b x y H Q ra rb e q=>by
   simp only[c2]at e;cases da with
   |int i=>
    cases db with
    |int j=>cases e;exact .inl ⟨i,j,ra.int,rb.int,q⟩
    |_=>cases e
   |tup xs=>
    cases db with
    |tup ys=>
     simp only[dN,zB,zI,zC,dX,dU,dW]at e;split at e
     ·rename_i ns ms e1 e2
      cases e;obtain⟨a,vs,rfl,h1,r1⟩:=ra.tup;obtain⟨b,us,rfl,h2,r2⟩:=rb.tup;obtain⟨rfl,_⟩:=r1.ints e1;obtain⟨rfl,_⟩:=r2.ints e2;exact .inr ⟨a,b,ns,ms,rfl,rfl,by rw[hK];exact h1,by rw[hK];exact h2,nM ns ms▸q⟩
     ·cases e
    |_=>cases e
   |_=>cases db<;>cases e
 ·exact eY y7 λS da db b x y H Q ra rb e q=>by
   cases da with
   |int i=>
    cases db with
    |int j=>cases e;exact⟨_,_,ra.int,rb.int,q⟩
    |_=>cases e
   |_=>cases e
 ·exact eY Au λS da db b x y H Q ra rb e q=>by
   cases da with
   |int i=>
    cases db with
    |int j=>cases e;exact⟨_,_,ra.int,rb.int,q⟩
    |_=>cases e
   |_=>cases e
 ·exact eY DQ λS da db b x y H Q ra rb e q=>by
   cases da with
   |int i=>
    cases db with
    |int j=>cases e;exact⟨_,_,ra.int,rb.int,q⟩
    |_=>cases e
   |_=>cases e
 ·exact eY (Br.or B7) λS da db b x y H Q ra rb e q=>by
   simp only[c2,dN,zB,zI,zC,dX,dU,dW]at e;split at e
   ·rename_i hd
    cases e;have hd:db=.non:=by cases db<;>first|rfl|cases hd
    subst hd;cases rb.rep;exact .inl ⟨rfl,by rw[ra.non_iff];exact q⟩
   ·obtain⟨a,c,rfl,rfl,rfl⟩:=mY e;cases ra.rep;cases rb.rep;exact .inr ⟨a,c,rfl,rfl,by cases a<;>cases c<;>exact q⟩
 ·exact eY (DO.or yk) λS da db b x y H Q ra rb e q=>by
   simp only[c2,dN,zB,zI,zC,dX,dU,dW]at e;split at e
   ·rename_i hd
    cases e;have hd:db=.non:=by cases db<;>first|rfl|cases hd
    subst hd;cases rb.rep;exact .inl ⟨rfl,by rw[ra.non_iff];exact q⟩
   ·obtain⟨a,c,rfl,rfl,rfl⟩:=mY e;cases ra.rep;cases rb.rep;exact .inr ⟨a,c,rfl,rfl,by cases a<;>cases c<;>exact q⟩
 ·exact eY (((mZ hK hu false).or (WD.xH hu)).or (WD.yz hu)) λS da db b x y H Q ra rb e q=>by
   simp only[c2,dN,zB,zI,zC,dX,dU,dW]at e;split at e
   ·rename_i xs es
    split at e<;>cases e
    rename_i a
    simp only[aQ]at a;exact .inl (.inl ⟨S,da,db,xs,ra,rb,es,a.1,a.2,q⟩)
   ·rcases oa e with ⟨kvs,i,rfl,rfl,rfl⟩|⟨ks,ds,xs,k,t,rfl,ek,rfl⟩
    ·obtain⟨l,rfl,hl⟩:=rb.dic;exact .inl (.inr ⟨l,kvs,i,rfl,ra.int,hl,q⟩)
    ·obtain⟨l,vs,ys,rfl,t1,t2,_⟩:=k9 rb t;obtain⟨b,rfl,hb⟩:=i' ra ek;exact .inr ⟨l,b,ys,ks,vs,k,rfl,rfl,t1,hK▸t2,hK▸hb,q⟩
 ·exact eY (((mZ hK hu true).or (WD.Cv hu)).or (WD.A9 hu)) λS da db b x y H Q ra rb e q=>by
   simp only[c2,dN,zB,zI,zC,dX,dU,dW]at e;split at e
   ·rename_i xs es
    split at e<;>cases e
    rename_i a
    simp only[aQ]at a;exact .inl (.inl ⟨S,da,db,xs,ra,rb,es,a.1,a.2,q⟩)
   ·cases ed:cW da db with
    |ok r=>
     rw[ed]at e;cases e;rcases oa ed with ⟨kvs,i,rfl,rfl,rfl⟩|⟨ks,ds,xs,k,t,rfl,ek,rfl⟩
     ·obtain⟨l,rfl,hl⟩:=rb.dic;exact .inl (.inr ⟨l,kvs,i,rfl,ra.int,hl,q⟩)
     ·obtain⟨l,vs,ys,rfl,t1,t2,_⟩:=k9 rb t;obtain⟨b,rfl,hb⟩:=i' ra ek;exact .inr ⟨l,b,ys,ks,vs,k,rfl,rfl,t1,hK▸t2,hK▸hb,q⟩
    |ex z=>rw[ed]at e;cases e
    |no=>rw[ed]at e;cases e
end
abbrev fk(g:Gc)(H:Hp)(S:Sh):List D->List V->Prop:=Paired (zu g H S)
section
variable{X:Cx}{g:Gc}
theorem rg{H:Hp}{ds:List D}{vs:List V}{i:Int}{d:D}(r:qi g H ds vs)(e:atI ds i=some d):∃v,atI vs i=some v/\Rep g H d v:=by
 unfold atI at e ⊢;rw[<-r.length];cases q:ixN ds.length i with
 |none=>rw[q]at e;cases e
 |some j=>rw[q]at e;exact r.get e
def Bf(g:Gc):R2:=λx y H Q=>∃S da db,zu g H S da x/\zu g H S db y /\
 match ixD da db with
 | .ok d=>∀v,Rep g (hid H S) d v->Q v H
 |_=>False
theorem mG{g:Gc}{H:Hp}{k:List Int}{d:D}:∀{ks:List (List Int)}{ds:List D}{vs:List V},ks.length=vs.length->qi g H ds vs->WD.atT ks ds k=some d->∃v,WD.atT ks vs k=some v/\Rep g H d v
 | [],_,_,_,_,e=>by cases e
 |_::_,_,[],h,_,_=>by cases h
 |k'::ks,_,v::vs,h,.cons r rs,e=>by
  rw[WD.atT]at e ⊢;by_cases q:k'=k
  ·rw[if_pos q]at e ⊢;cases e;exact⟨v,rfl,r⟩
  ·rw[if_neg q]at e ⊢;exact mG (by simpa using h) rs e
theorem pj{g:Gc}{H:Hp}{k:List Int}:∀{ks:List (List Int)}{ds:List D}{vs:List V},ks.length=vs.length->qi g H ds vs->WD.atT ks ds k=none->WD.atT ks vs k=none
 | [],_,_,_,_,_=>by rw[WD.atT];intros;simp_all
 |_::_,_,[],h,_,_=>by cases h
 |k'::ks,_,v::vs,h,.cons r rs,e=>by
  rw[WD.atT]at e ⊢;by_cases q:k'=k
  ·rw[if_pos q]at e;cases e
  ·rw[if_neg q]at e ⊢;exact pj (by simpa using h) rs e
theorem Dg(hK:X.K=g.K)(hu:X.A.units+64<cLine):IxR X (Bf g):=by
 have k:=((yX (X:=X)).or yj).or (WD.AV.or (WD.uM hu));intro value slice pins s σ H x y v u Q I rx ry h hs;refine k value slice pins s σ H x y v u Q I rx ry ?_ hs;obtain⟨S,da,db,ra,rb,m⟩:=h;cases da with
 |tup xs=>
  cases db with
  |int i=>
   simp only[ixD]at m;cases e:atI xs i with
   |none=>rw[e]at m;exact m.elim
   |some d=>
    rw[e]at m;obtain⟨a,vs,rfl,h1,r1⟩:=ra.tup;obtain⟨w,h2,h3⟩:=rg r1 e;exact .inl (.inr ⟨a,vs,i,w,rfl,rb.int,by rw[hK];exact h1,h2,m w h3⟩)
  |_=>exact m.elim
 |lst xs=>
  cases db with
  |int i=>
   simp only[ixD]at m;cases e:atI xs i with
   |none=>rw[e]at m;exact m.elim
   |some d=>
    rw[e]at m;obtain⟨a,vs,rfl,h1,r1⟩:=ra.lst;obtain⟨w,h2,h3⟩:=rg r1 e;exact .inl (.inl ⟨a,vs,i,w,rfl,rb.int,by rw[hK];exact h1,h2,m w h3⟩)
  |_=>exact m.elim
 |dic kvs=>
  cases db with
  |int i=>
   simp only[ixD]at m;cases e:atK kvs i with
   |none=>rw[e]at m;exact m.elim
   |some v=>
    rw[e]at m;obtain⟨a,rfl,h1⟩:=ra.dic;exact .inr (.inl ⟨a,kvs,i,v,rfl,rb.int,h1,e,m _ (.int v)⟩)
  |_=>exact m.elim
 |dct ks ds=>
  cases db with
  |tup xs=>
   simp only[ixD]at m;cases ek:ints? xs with
   |none=>rw[ek]at m;exact m.elim
   |some k=>
    rw[ek]at m;simp only at m;cases ea:WD.atT ks ds k with
    |none=>rw[ea]at m;exact m.elim
    |some d=>
     rw[ea]at m;obtain⟨a,vs,ys,rfl,t1,t2,t3⟩:=k9 ra (.inl rfl);obtain⟨b,rfl,hb⟩:=i' rb ek;obtain⟨v,hv,rv⟩:=mG t2.len.1 t3 ea;exact .inr (.inr ⟨a,b,ys,ks,vs,k,v,rfl,rfl,t1,by rw[hK];exact t2,by rw[hK];exact hb,hv,m _ rv⟩)
  |_=>exact m.elim
 |_=>exact m.elim
def tM(g:Gc):V->Option Int->Option Int->Hp->VK->Prop:=λx lo hi H Q=>∃S da,Sub S H/\zu g H S da x /\
 match slD da lo hi with
 | .ok d=>∀v H',qf H H'->Rep g (hid H' S) d v->Q v H'
 |_=>False
theorem Cd{H:Hp}{ds:List D}{vs:List V}(r:qi g H ds vs)(lo hi:Option Int):qi g H (cutD ds lo hi) (ip vs lo hi):=by
 unfold cutD ip;rw[r.length];exact(r.drop _).take _
theorem AI(hK:X.K=g.K):SlR X (tM g):=by
 intro pins s σ H x v vl vu lo hi sl Q I rx hs pl pu h;obtain⟨S,da,hS,ra,m⟩:=h;cases da with
 |lst xs=>
  obtain⟨a,vs,rfl,h1,r1⟩:=ra.lst;exact DJ pins s σ H _ v vl vu lo hi sl Q I rx hs pl pu ⟨a,vs,rfl,by rw[hK];exact h1,λp hp=>m _ _ (zi hp) (fI hS hp (Cd r1 lo hi))⟩
 |_=>exact m.elim
noncomputable def b1V:B1->ae
 | .len=>.builtin "len"
 | .tuple=>.type "tuple"
 | .list=>.type "list"
 | .sorted=>.builtin "sorted"
 | .all=>.builtin "all"
 | .any=>.builtin "any"
 | .sum=>.builtin "sum"
 | .min=>.builtin "min"
 | .max=>.builtin "max"
 | .abs=>.builtin "abs"
 | .int=>.type "int"
 | .bool=>.type "bool"
def rB1(g:Gc)(b:B1):List V->Hp->VK->Prop:=λvs H Q=>∃S ds,Sub S H/\fk g H S ds vs /\
 match b1 b ds with
 | .ok d=>∀v H',qf H H'->Rep g (hid H' S) d v->(b=.list\/b=.sorted->Fr g H S H' d v)->Q v H'
 |_=>False
theorem zf.imp{f:ae}{r r':List V->Hp->VK->Prop}(h:zf X f r)(i:∀xs H Q,r' xs H Q->r xs H Q):zf X f r':=
 λpins s σ H xs us Q I rv q=>h pins s σ H xs us Q I rv (i _ _ _ q)
theorem gw{f:ae}{b:B1}{r:List V->Hp->VK->Prop}(h:zf X f r)
  (k:∀S ds d vs H Q,Sub S H->fk g H S ds vs->b1 b ds=.ok d->(∀v H',qf H H'->Rep g (hid H' S) d v->(b=.list\/b=.sorted->Fr g H S H' d v)->Q v H')->r vs H Q):zf X f (rB1 g b):=by
 refine zf.imp h λvs H Q ⟨S,ds,hs,rs,m⟩=>?_
 cases e:b1 b ds with
 |ok d=>rw[e]at m;exact k S ds d vs H Q hs rs e m
 |ex c=>rw[e]at m;exact m.elim
 |no=>rw[e]at m;exact m.elim
theorem jL{f:ae}{b:B1}(h1:∀d,b11 b d=.no)(h2:∀d e,b12 b d e=.no):zf X f (rB1 g b):=λpins s σ H xs us Q I rv ⟨S,ds,hs,rs,m⟩=>by
 have e:b1 b ds=.no:=by
  unfold b1;split
  ·exact h1 _
  ·exact h2 _ _
  ·rfl
 rw[e]at m;exact m.elim
theorem jQ{b:B1}(hb:∀x y,b12 b x y=.no){ds:List D}{d:D}(h:b1 b ds=.ok d):∃x,ds=[x]/\b11 b x=.ok d:=by
 match ds,h with
 | [x],h=>exact⟨x,rfl,h⟩
 | [x,y],h=>have h:b12 b x y=.ok d:=h;rw[hb]at h;cases h
 | [],h=>cases h
 |_::_::_::_,h=>cases h
theorem ll{x r:D}{k:List D->R D}(h:eE x k=.ok r):∃xs,x=.lst xs/\k xs=.ok r:=by
 cases x with
 |lst xs=>exact⟨xs,rfl,h⟩
 |_=>cases h
theorem EN{x r:D}{f:Int->R D}{q:Bool->R D}(h:ibR x f q=.ok r):(∃i,x=.int i/\f i=.ok r)\/(∃b,x=.bl b/\q b=.ok r):=by
 cases x with
 |int i=>exact .inl ⟨i,rfl,h⟩
 |bl i=>exact .inr ⟨i,rfl,h⟩
 |_=>cases h
theorem nK{x y r:D}{k:Int->Int->R D}(h:iiR x y k=.ok r):∃i j,x=.int i/\y=.int j/\k i j=.ok r:=by
 cases x with
 |int i=>
  cases y with
  |int j=>exact⟨i,j,rfl,rfl,h⟩
  |_=>cases h
 |_=>cases h
theorem iY{α β:Type}{o:Option α}{k:α->R β}{r:β}(h:cy o k=.ok r):∃a,o=some a/\k a=.ok r:=by
 cases o with
 |some a=>exact⟨a,rfl,h⟩
 |none=>cases h
theorem ni{b:B1}{ds:List D}{d:D}{q:List D->R D}(h:b1 b ds=.ok d)(e:∀x,b1 b [x]=cy (seq? x) q)(n:ds.length≠1->b1 b ds=.no):∃x xs,ds=[x]/\seq? x=some xs/\q xs=.ok d:=by
 match ds with
 | []=>rw[n (by simp)]at h;cases h
 | [x]=>
  rw[e]at h;cases z:seq? x with
  |none=>rw[z]at h;cases h
  |some xs=>rw[z]at h;exact⟨x,xs,rfl,z,h⟩
 |x::y::r=>rw[n (by simp)]at h;cases h
theorem uf(hK:X.K=g.K):zf X (.builtin "len") (rB1 g .len):=gw vX λS ds d vs H Q hs rs h q=>by
 obtain⟨x,xs,rfl,e,h⟩:=ni (q:=λxs=>.ok (.int xs.length)) h (λ_=>rfl) (λn=>by match ds,n with | [],_=>rfl | [_,_],_=>rfl|_::_::_::_,_=>rfl);cases h;cases rs with
 |cons r rs=>
  cases rs;obtain⟨a,us,rfl,h1,r1⟩:=r.seq e;exact⟨a,us,rfl,by rw[hK];exact h1,by rw[<-r1.length];exact q _ _ (qf.refl _) (.int _) (by simp)⟩
theorem yG(hK:X.K=g.K):zf X (.type "tuple") (rB1 g .tuple):=gw As λS ds d vs H Q hs rs h q=>by
 obtain⟨x,xs,rfl,e,h⟩:=ni (q:=λxs=>.ok (.tup xs)) h (λ_=>rfl) (λn=>by match ds,n with | [],_=>rfl | [_,_],_=>rfl|_::_::_::_,_=>rfl);cases h;cases rs with
 |cons r rs=>
  cases rs;cases x with
  |lst ys=>
   cases e;obtain⟨a,us,rfl,h1,r1⟩:=r.lst;exact⟨a,us,rfl,.inl ⟨by rw[hK];exact h1,λp hp=>q _ _ (zi hp) (jN hs hp r1) (by simp)⟩⟩
  |tup ys=>
   cases e;have z:=r.strong (by intro _ z;cases z);obtain⟨a,us,rfl,h1,r1⟩:=r.tup;exact⟨a,us,rfl,.inr ⟨by rw[hK];exact h1,q _ _ (qf.refl _) z (by simp)⟩⟩
  |_=>cases e
theorem tO(hK:X.K=g.K):zf X (.type "list") (rB1 g .list):=jL (λ_=>rfl) λ_ _=>rfl
theorem wX(hc:X.calm=true)(al:Bool):zf X (.builtin (if al then "all" else "any")) (λxs H Q=>∃(l:Addr) (bs:List Bool),xs=[.ref l]/\SqL X.K H l (bs.map V.bl)/\Q (.bl (if al then bs.all id else bs.any id)) H):=by
 intro pins s σ H xs us Q I r h;obtain⟨l,bs,rfl,hl,q⟩:=h;obtain⟨u,rfl,ru⟩:=r.one;cases ru;obtain⟨its,rv,pl,hz⟩:=I.list hl;have e:=xM (A:=X.A) rv;subst e;have EZ:l<s.heap.objs.size:=by obtain⟨_,e,_⟩:=pl.isList;exact aP e
 have tr:TruthOf X.prog X.w X.A.in1 (λi v=>(bs.map bV).toArray[i]? = some v) (λi=>(bs[i]?).getD al):=λi v s' Q' E' hP hQ=>by
  have hv:(bs.map bV)[i]? = some v:=by simpa using hP
  rw[List.getElem?_map]at hv;cases e:bs[i]? with
  |none=>rw[e]at hv;cases hv
  |some b=>
   rw[e]at hv;cases hv;simp only[e,Option.getD_some]at hQ;exact bJ hQ
 have wk:=Walks.list (prog:=X.prog) (w:=X.w) (A:=X.A.in1) (I.ok.hd hc) s.heap.objs.size l (bq EZ) (bs.map bV).toArray;cases al with
 |true=>
  refine call_all_walk (wpAny_pyIter_list pl.isList ?_);refine⟨s.heap.objs.size,[s.heap.objs.size,l],[s.heap.objs.size],_,_,_,_,rfl,wk,⟨⟨_,Heap.get?_push_size _ rfl,rfl,rfl⟩,pl.isList.push _⟩,tr,λh' tk hk=>?_⟩;have e:((aX (bs.map bV).toArray.size).all λi=>(bs[i]?).getD true)=bs.all id:=by
   rw[a7,aV];exact LSm.range_all bs
  rw[e];exact⟨.bl _,H,I.kept (LSm.kept_iter hk),rfl,q⟩
 |false=>
  refine call_any_walk (wpAny_pyIter_list pl.isList ?_);refine⟨s.heap.objs.size,[s.heap.objs.size,l],[s.heap.objs.size],_,_,_,_,rfl,wk,⟨⟨_,Heap.get?_push_size _ rfl,rfl,rfl⟩,pl.isList.push _⟩,tr,λh' tk hk=>?_⟩;have e:((aX (bs.map bV).toArray.size).any λi=>(bs[i]?).getD false)=bs.any id:=by
   rw[a7,aV,Bool.eq_iff_iff];simp only[bK,List.mem_range,id];constructor
   ·rintro⟨i,hi,e⟩;rw[List.getElem?_eq_getElem hi]at e;exact⟨_,List.getElem_mem hi,e⟩
   ·rintro⟨b,hb,e⟩;obtain⟨i,hi,rfl⟩:=List.getElem_of_mem hb;exact⟨i,hi,by rw[List.getElem?_eq_getElem hi];exact e⟩
  rw[e];exact⟨.bl _,H,I.kept (LSm.kept_iter hk),rfl,q⟩
theorem pM(hK:X.K=g.K)(hc:X.calm=true)(al:Bool):zf X (.builtin (if al then "all" else "any")) (rB1 g (if al then .all else .any)):=gw (wX hc al) λS ds d vs H Q hs rs h q=>by
 obtain⟨xs,bs,rfl,e,rfl⟩:∃xs bs,ds=[.lst xs]/\bools? xs=some bs/\d=.bl (if al then bs.all id else bs.any id):=by
  cases al
  ·obtain⟨x,rfl,h'⟩:=jQ (λ_ _=>rfl) h;obtain⟨xs,rfl,h'⟩:=ll h';obtain⟨bs,e,h'⟩:=iY h';cases h';exact⟨xs,bs,rfl,e,rfl⟩
  ·obtain⟨x,rfl,h'⟩:=jQ (λ_ _=>rfl) h;obtain⟨xs,rfl,h'⟩:=ll h';obtain⟨bs,e,h'⟩:=iY h';cases h';exact⟨xs,bs,rfl,e,rfl⟩
 cases rs with
 |cons r rs=>
  cases rs;obtain⟨a,us,rfl,h1,r1⟩:=r.lst;have e2:=r1.bools e;subst e2;exact⟨a,bs,rfl,by rw[hK];exact h1,q _ _ (qf.refl _) (.bl _) (by cases al<;>simp)⟩
end
end EV
namespace L2
open PySem PySem.Spec PyProof.Rows TS
theorem mW:∀{vs:List ae}{a b:List Int},bg vs a->bg vs b->a=b
 |_,_,_,.nil,.nil=>rfl
 |_,_,_,.cons n t h,h'=>by
  cases h' with
  |cons n' t' IV=>rw[mW h IV]
theorem sk{h:Heap}{v:ae}{a b:List Int}(x:TupAt h v a)(y:TupAt h v b):a=b:=by
 obtain⟨p,o,its,n,rfl,e2,_,e4,e5⟩:=x;obtain⟨p',o',its',n',f1,f2,_,f4,f5⟩:=y;cases f1;rw[e2]at f2;cases f2;rw[e4]at f4;cases f4;exact mW e5 f5
theorem kB{h:Heap}{f:Addr->List Int}:∀(ps:List Addr),(∀p∈ps,TupAt h (.ref p) (f p))->b8 h (ps.map aY) (ps.map f)
 | [],_=>.nil
 |p::ps,z=>.cons (z p aL) (kB ps λq hq=>z q (aO _ hq))
theorem Ap{h:Heap}{vs:List ae}{a b:List (List Int)}(x:b8 h vs a)(y:b8 h vs b):a=b:=by
 induction x generalizing b with
 |nil=>cases y;rfl
 |cons t _ ih=>
  cases y with
  |cons t' y'=>rw[sk t t',ih y']
theorem Er{ps:List Addr}:∀{us:List ae},Vals (ps.map V.ref) us->us=ps.map ae.ref:=by
 induction ps with
 |nil=>intro us r;cases r;rfl
 |cons p ps ih=>
  intro us r;cases r with
  |cons h t=>rw[ih t,show _=aY p from h];rfl
theorem oX:∀(ps:List Addr),Vals (ps.map V.ref) (ps.map aY)
 | []=>.nil
 |p::ps=>.cons rfl (oX ps)
noncomputable def gA:ae->Addr
 | .ref a=>a
 |_=>0
def BR(K:aA):List V->Hp->VK->Prop:=λvs H Q=>∃(l:Addr) (p:Addr) (ps:List Addr) (f:Addr->List Int),vs=[.ref l]/\SqL K H l ((p::ps).map V.ref)/\ps≠[]/\(f p=[]\/∀q∈p::ps,f q≠[]) /\
 (∀q∈p::ps,SqT K H q ((f q).map V.int))/\∀(D:Addr) (qs:List Addr),H D=none->qs.Perm (p::ps)->(qs.map f).Pairwise (λa b=>ltL b a=false)->Q (.ref D) (upd H D (.lst (qs.map V.ref)))
theorem AO{X:Cx}(hu:X.A.in1.in1.units<cLine):zf X (.builtin "sorted") (BR X.K):=by
 intro pins s σ H xs us Q I r h;obtain⟨l,p,ps,f,rfl,hl,E8,hf,hp,q⟩:=h;obtain⟨u,rfl,ru⟩:=r.one;cases ru;obtain⟨its,rv,pl,hz⟩:=I.list hl;have ei:=Er rv;subst ei;have tp:∀z∈p::ps,TupAt s.heap (.ref z) (f z):=λz hz=>by
  obtain⟨its,r2,⟨o,e1,e2,n,e3⟩,_⟩:=I.tuple (hp z hz);exact⟨z,o,its.toArray,n,rfl,e1,e2,e3,by simpa using intsAre_of r2⟩
 have t:=kB (p::ps) tp;have FZ:((p::ps).map aY).length<=sizeLine:=by simpa using hz
 refine DY pl.isList (by cases ps with
  |nil=>exact absurd rfl E8
  |cons _ _=>simp) FZ t (by
   rcases hf with hf|hf
   ·left;rw[aJ,hf];rfl
   ·right;intro k hk;obtain⟨q,hq,rfl⟩:=aN.mp hk;exact hf q hq) hu λout GV op ot os=>?_
 have eo:out=(out.map gA).map ae.ref:=by
  rw[bh]
  conv=>lhs;rw[<-List.map_id out]
  refine List.map_congr_left λv hv=>?_
  obtain⟨a,_,rfl⟩:=aN.mp (op.mem_iff.mp hv)
  rfl
 have qp:(out.map gA).Perm (p::ps):=by
  have:=op.map gA
  rwa[bh,show (gA∘aY)=id from rfl,List.map_id]at this
 have ek:GV=(out.map gA).map f:=by
  rw[eo]at ot;exact Ap ot (kB _ λz hz=>tp z (qp.mem_iff.mp hz))
 subst ek;obtain⟨c,hc⟩:=sortedAll_at s.heap ((p::ps).map aY) out.toArray;have G6:s.heap.get? (s.heap.objs.size+1)=none:=Heap.get?_none_of_le (Nat.le_succ _);have q':=q (s.heap.objs.size+1) (out.map gA) (I.hok.free_of G6) qp os;refine⟨.ref (s.heap.objs.size+1),_,I.newList (s':={s with heap:=sortedAll s.heap ((p::ps).map aY) out.toArray}) (c:=c) (its:=out) rfl rfl (λb o _ e=>sortedAll_old e) (λm hm=>hm.keeps λb o e=>sortedAll_old e) G6 (Nat.ne_of_gt (cN I.lt)) hc (by have:=oX (out.map gA);rwa[<-eo]at this) (by rw[aV,aV,op.length_eq];exact FZ),rfl,q'⟩
def rp(K:aA):List V->Hp->VK->Prop:=λvs H Q=>∃(l:Addr) (as:List Addr) (ts:List (List Int)),vs=[.ref l]/\SqL K H l (as.map V.ref)/\as.length=ts.length/\2<=ts.length/\(ts[0]? = some []\/∀t∈ts,t≠[]) /\
 (∀(i:Nat) a t,as[i]? = some a->ts[i]? = some t->SqT K H a (t.map V.int)) /\
 ∀(D:Addr) (qs:List Addr) (f:Addr->List Int),H D=none->qs.Perm as->(∀(i:Nat) a t,as[i]? = some a->ts[i]? = some t->f a=t)->(qs.map f).Pairwise (λa b=>ltL b a=false)->Q (.ref D) (upd H D (.lst (qs.map V.ref)))
theorem t_{X:Cx}(hu:X.A.in1.in1.units<cLine):zf X (.builtin "sorted") (rp X.K):=by
 intro pins s σ H xs us Q I r h;obtain⟨l,as,ts,rfl,hl,hlen,h2,h0,ht,q⟩:=h;have tp:∀(i:Nat) a t,as[i]? = some a->ts[i]? = some t->TupAt s.heap (.ref a) t:=λi a t ha hb=>by
  obtain⟨its,r2,⟨o,e1,e2,n,e3⟩,_⟩:=I.tuple (ht i a t ha hb);exact⟨a,o,its.toArray,n,rfl,e1,e2,e3,by simpa using intsAre_of r2⟩
 let f:Addr->List Int:=λa=>ts.getD (as.idxOf a) []
 have hf:∀(i:Nat) a t,as[i]? = some a->ts[i]? = some t->f a=t:=λi a t ha hb=>by
  have hm:a∈as:=List.mem_of_getElem? ha;have hi:=List.idxOf_lt_length_of_mem hm;have e1:as[as.idxOf a]? = some a:=by rw[List.getElem?_eq_getElem hi];simp
  have e2:ts[as.idxOf a]? = some (f a):=by
   have:as.idxOf a<ts.length:=by lia
   simp[f,this]
  exact sk (tp _ _ _ e1 e2) (tp _ _ _ ha hb)
 match as,hlen with
 | [],hlen=>simp at hlen;lia
 |p::ps,hlen=>
  have E8:ps≠[]:=λz=>by subst z;simp at hlen;lia
  refine AO hu pins s σ H _ us Q I r ⟨l,p,ps,f,rfl,hl,E8,?_,λa ha=>?_,λD qs hD hp hs=>q D qs f hD hp hf hs⟩
  ·rcases h0 with h0|h0
   ·exact .inl (hf 0 p [] (by simp) h0)
   ·refine .inr λa ha=>?_
    obtain⟨i,hi,rfl⟩:=List.getElem_of_mem ha;have GL:i<ts.length:=by lia
    rw[hf i (p::ps)[i] ts[i] (by simp) (by simp)];exact h0 _ (List.getElem_mem GL)
  obtain⟨i,hi,rfl⟩:=List.getElem_of_mem ha;have GL:i<ts.length:=by lia
  have e:=ht i (p::ps)[i] ts[i] (by simp) (by simp)
  rwa[<-hf i (p::ps)[i] ts[i] (by simp) (by simp)]at e
def r8(K:aA):List V->Hp->VK->Prop:=λvs H Q=>∃(l:Addr) (xs:List V),vs=[.ref l]/\SqL K H l xs/\xs.length<2/\∀D,H D=none->Q (.ref D) (upd H D (.lst xs))
theorem p8{X:Cx}:zf X (.builtin "sorted") (r8 X.K):=by
 intro pins s σ H xs us Q I r h;obtain⟨l,ys,rfl,hl,h2,q⟩:=h;obtain⟨u,rfl,ru⟩:=r.one;cases ru;obtain⟨its,rv,pl,hz⟩:=I.list hl;have LW:=rv.length;refine vA pl.isList (by lia) ?_;obtain⟨c,hc⟩:=sortedAll_at s.heap its its.toArray;have G6:s.heap.get? (s.heap.objs.size+1)=none:=Heap.get?_none_of_le (Nat.le_succ _);exact⟨.ref (s.heap.objs.size+1),_,I.newList (s':={s with heap:=sortedAll s.heap its its.toArray}) (c:=c) rfl rfl (λb o _ e=>sortedAll_old e) (λm hm=>hm.keeps λb o e=>sortedAll_old e) G6 (Nat.ne_of_gt (cN I.lt)) hc rv (by rw[bx];lia),rfl,q _ (I.hok.free_of G6)⟩
end L2
namespace L2
open PySem PySem.Spec PyProof.Rows
section
variable{X:Cx}
end
section
variable{X:Cx}
end
end L2
namespace EV
open PySem PySem.Spec PySem.P PyProof.Rows L2
theorem insI_perm(i:Int):∀l,(insI i l).Perm (i::l)
 | []=>.refl _
 |j::r=>by
  unfold insI;split
  ·exact .refl _
  ·exact((insI_perm i r).cons j).trans (.swap ..)
theorem sortI_perm:∀l,(sortI l).Perm l
 | []=>.refl _
 |i::r=>(insI_perm i _).trans ((sortI_perm r).cons i)
theorem rq(i:Int):∀{l:List Int},l.Pairwise (·<=·)->(insI i l).Pairwise (·<=·)
 | [],_=>by simp[insI]
 |j::r,h=>by
  unfold insI;obtain⟨h1,h2⟩:=List.pairwise_cons.mp h;split
  ·rename_i E1
   refine List.pairwise_cons.mpr ⟨λx hx=>?_,h⟩;rcases aM.mp hx with rfl|hx
   ·exact E1
   ·exact Int.le_trans E1 (h1 x hx)
  ·rename_i E1
   refine List.pairwise_cons.mpr ⟨λx hx=>?_,rq i h2⟩;rcases aM.mp ((insI_perm i r).mem_iff.mp hx)with rfl|hx
   ·lia
   ·exact h1 x hx
theorem oB:∀l:List Int,(sortI l).Pairwise (·<=·)
 | []=>.nil
 |i::r=>rq i (oB r)
theorem kq{l m:List Int}(h1:m.Perm l)(h2:m.Pairwise (·<=·)):m=sortI l:=PySem.W.ksm_same (h1.trans (sortI_perm l).symm) h2 (oB l)
theorem lD(p:Int×Int):∀l,(fj p l).Perm (p::l)
 | []=>.refl _
 |j::r=>by
  unfold fj;split
  ·exact((lD p r).cons j).trans (.swap ..)
  ·exact .refl _
theorem lE:∀l,(zR l).Perm l
 | []=>.refl _
 |i::r=>(lD i _).trans ((lE r).cons i)
theorem rf{a b:Int×Int}:ltP a b=true↔a.1<b.1\/(a.1=b.1/\a.2<b.2):=by
 unfold ltP;by_cases h:a.1=b.1
 ·simp[h]
 ·simp[h]
theorem q_{a b:Int×Int}:ltP a b=false↔b.1<a.1\/(a.1=b.1/\b.2<=a.2):=by
 rw[<-Bool.not_eq_true,rf];lia
theorem nH(p:Int×Int):∀{l:List (Int×Int)},l.Pairwise (λa b=>ltP b a=false)->(fj p l).Pairwise (λa b=>ltP b a=false)
 | [],_=>by simp[fj]
 |j::r,h=>by
  unfold fj;obtain⟨h1,h2⟩:=List.pairwise_cons.mp h;split
  ·rename_i E1
   rw[rf]at E1;refine List.pairwise_cons.mpr ⟨λx hx=>?_,nH p h2⟩;rcases aM.mp ((lD p r).mem_iff.mp hx)with rfl|hx
   ·rw[q_];lia
   ·exact h1 x hx
  ·rename_i E1
   have GA:ltP j p=false:=by simpa using E1
   refine List.pairwise_cons.mpr ⟨λx hx=>?_,h⟩;rcases aM.mp hx with rfl|hx
   ·exact GA
   ·have:=h1 x hx;rw[q_]at this GA ⊢;lia
theorem pC:∀l:List (Int×Int),(zR l).Pairwise (λa b=>ltP b a=false)
 | []=>.nil
 |i::r=>nH i (pC r)
theorem rC:∀(a b:List Int),de a b=TS.ltL a b
 | [],[]=>rfl
 | [],_::_=>rfl
 |_::_,[]=>rfl
 |a::r,b::t=>by
  unfold de TS.ltL;rw[rC r t]
theorem kZ(p:List Int):∀l,(fL p l).Perm (p::l)
 | []=>.refl _
 |j::r=>by
  unfold fL;split
  ·exact((kZ p r).cons j).trans (.swap ..)
  ·exact .refl _
theorem f_:∀l,(zL l).Perm l
 | []=>.refl _
 |i::r=>(kZ i _).trans ((f_ r).cons i)
theorem p6(p:List Int):∀{l:List (List Int)},l.Pairwise (λa b=>TS.ltL b a=false)->(fL p l).Pairwise (λa b=>TS.ltL b a=false)
 | [],_=>by simp[fL]
 |j::r,h=>by
  unfold fL;obtain⟨h1,h2⟩:=List.pairwise_cons.mp h;rw[rC];split
  ·rename_i E1
   refine List.pairwise_cons.mpr ⟨λx hx=>?_,p6 p h2⟩;rcases aM.mp ((kZ p r).mem_iff.mp hx)with rfl|hx
   ·exact TS.jr E1
   ·exact h1 x hx
  ·rename_i E1
   have GA:TS.ltL j p=false:=by simpa using E1
   refine List.pairwise_cons.mpr ⟨λx hx=>?_,h⟩;rcases aM.mp hx with rfl|hx
   ·exact GA
   ·exact TS.jj GA (h1 x hx)
theorem lP:∀l:List (List Int),(zL l).Pairwise (λa b=>TS.ltL b a=false)
 | []=>.nil
 |i::r=>p6 i (lP r)
theorem rm{l m:List (List Int)}(h1:m.Perm l)(h2:m.Pairwise (λa b=>TS.ltL b a=false)):m=zL l:=
 (h1.trans (f_ l).symm).eq_of_pairwise (λa b _ _ z1 z2=>TS.sY z2 z1) h2 (lP l)
section
variable{X:Cx}{g:Gc}
theorem qi.tups{H:Hp}{ds:List D}:∀{vs:List V}{ts:List (List Int)},qi g H ds vs->tups? ds=some ts->ds=ts.map gL/\∃as:List Addr,vs=as.map V.ref/\as.length=ts.length/\∀(i:Nat) a t,as[i]? = some a->ts[i]? = some t->SqT g.K H a (t.map V.int)/\Rep g H (gL t) (.ref a):=by
 induction ds with
 |nil=>intro vs ts h e;cases h;cases e;exact⟨rfl,[],rfl,rfl,λi a p h=>by cases h⟩
 |cons d ds ih=>
  intro vs ts h e;cases h with
  |cons h t=>cases d with
   |tup xs=>
    obtain⟨n,e0,e⟩:=bE.mp (show (ints? xs).bind (λn=>(tups? ds).map (n :: ·))=some ts from e);obtain⟨ms,e1,rfl⟩:=bF.mp e;obtain⟨h1,as,h2,h3,h4⟩:=ih t e1;have hh:=h;cases h with
    | @tup a _ _ q r=>
     obtain⟨rfl,e2⟩:=r.ints e0;refine⟨by rw[h1,e2];rfl,a::as,by rw[h2];rfl,congrArg (· + 1) h3,λi b p hb hp=>?_⟩;cases i with
     |zero=>cases hb;cases hp;exact⟨q,by rw[e2]at hh;exact hh⟩
     |succ i=>exact h4 i b p hb hp
   |_=>cases (show none=some ts from e)
theorem qi.pairs{H:Hp}{ds:List D}:∀{vs:List V}{ps:List (Int×Int)},qi g H ds vs->pairs? ds=some ps->ds=ps.map pairD/\∃as:List Addr,vs=as.map V.ref/\as.length=ps.length/\∀(i:Nat) a p,as[i]? = some a->ps[i]? = some p->SqT g.K H a [.int p.1,.int p.2]:=by
 induction ds with
 |nil=>intro vs ps h e;cases h;cases e;exact⟨rfl,[],rfl,rfl,λi a p h=>by cases h⟩
 |cons d ds ih=>
  intro vs ps h e;have no:∀{P:Prop},pairs? (d::ds)=none->P:=λz=>by rw[z]at e;cases e
  cases h with
  |cons h t=>cases d with
   |tup xs=>cases xs with
    |nil=>exact no rfl
    |cons a xs=>cases a with
     |int x=>cases xs with
      |nil=>exact no rfl
      |cons b xs=>cases b with
       |int y=>cases xs with
        |cons _ _=>exact no rfl
        |nil=>
         obtain⟨ms,e1,rfl⟩:=bF.mp (show (pairs? ds).map ((x,y) :: ·)=some ps from e);obtain⟨h1,as,h2,h3,h4⟩:=ih t e1;cases h with
         | @tup a xs _ q r=>
          obtain⟨rfl,_⟩:=r.ints (ns:=[x,y]) rfl;refine⟨by rw[h1];rfl,a::as,by rw[h2];rfl,congrArg (· + 1) h3,λi b p hb hp=>?_⟩;cases i with
          |zero=>cases hb;cases hp;exact q
          |succ i=>exact h4 i b p hb hp
       |_=>exact no rfl
     |_=>exact no rfl
   |_=>exact no rfl
theorem rl{H:Hp}:∀{ts:List (List Int)}{as:List Addr},as.length=ts.length->(∀(i:Nat) a t,as[i]? = some a->ts[i]? = some t->Rep g H (gL t) (.ref a))->qi g H (ts.map gL) (as.map V.ref)
 | [],[],_,_=>.nil
 |t::ts,a::as,e,h=>.cons (h 0 a t rfl rfl) (rl (by simpa using e) λi b u hb hu=>h (i+1) b u (by simpa using hb) (by simpa using hu))
theorem jz:∀{xs:List D}{ps:List (Int×Int)},pairs? xs=some ps->tups? xs=some (ps.map λp=>[p.1,p.2])
 | [],_,h=>by cases h;rfl
 | .tup [.int i,.int j]::r,ps,h=>by
  simp only[pairs?,bF]at h;obtain⟨qs,h1,rfl⟩:=h;show (some [i,j]).bind (λn=>(tups? r).map (n :: ·))=_;rw[jz h1];rfl
theorem sj(p:Int×Int):∀qs:List (Int×Int),fL [p.1,p.2] (qs.map λp=>[p.1,p.2])=(fj p qs).map λp=>[p.1,p.2]
 | []=>rfl
 |q::r=>by
  have e:de [q.1,q.2] [p.1,p.2]=ltP q p:=by
   simp only[de,ltP];by_cases h:q.1=p.1
   ·rw[if_pos h,if_pos h];by_cases h':q.2=p.2
    ·rw[if_pos h',h'];simp
    ·rw[if_neg h']
   ·rw[if_neg h,if_neg h]
  rw[aJ,fL,fj,e,sj p r];cases ltP q p<;>rfl
theorem lA:∀qs:List (Int×Int),zL (qs.map λp=>[p.1,p.2])=(zR qs).map λp=>[p.1,p.2]
 | []=>rfl
 |q::r=>by rw[aJ,zL,zR,lA r,sj]
theorem uE{xs:List D}{ps:List (Int×Int)}(h:pairs? xs=some ps)(h2:2<=ps.length):cB xs=.ok (.lst ((zR ps).map pairD)):=by
 rw[cB,jz h];have e:dz (ps.map λp=>[p.1,p.2])=true:=by
  match ps,h2 with
  |p::q::r,_=>simp[dz]
 show (if dz _=true then _ else _)=_;rw[e,if_pos rfl,lA,bh]
 rfl
theorem t9(hK:X.K=g.K)(hu:X.A.units+64<cLine)(hc:X.calm=true):zf X (.builtin "sorted") (rB1 g .sorted):=gw (((uW.or (p8.or (p8.or (t_ (show X.A.units+1+1<cLine by lia))))).or BK).or (WD.uG hc)) λS ds d vs H Q hs rs h q=>by
 obtain⟨x,rfl,h'⟩:=jQ (λ_ _=>rfl) h;by_cases K0:∃xs,x=.tup xs
 ·obtain⟨xs,rfl⟩:=K0;have h':(if xs.length<64 then cy (ints? xs) λns=>.ok (.lst ((sortI ns).map D.int))else .no)=R.ok d:=h';split at h'
  ·rename_i hz
   obtain⟨ns,e,h2⟩:=iY h';cases h2;cases rs with
   |cons r rs=>
    cases rs;obtain⟨a,us,rfl,h1,r1⟩:=r.tup;obtain⟨rfl,rfl⟩:=r1.ints e;refine .inl (.inr ⟨a,ns,rfl,by rw[hK];exact h1,by simpa using hz,λp ms hp pm pw=>?_⟩);rw[kq pm pw];exact q _ _ (zi hp) (fI hs hp (qi.ofInts _)) λ_=>fT (qf.refl _) hp (qi.ofInts _)
  ·cases h'
 by_cases K1:∃kvs,x=.dic kvs
 ·obtain⟨kvs,rfl⟩:=K1;have h':R.ok (D.lst ((sortI (kvs.map (·.1))).map D.int))=R.ok d:=h';cases h';cases rs with
  |cons r rs=>
   cases rs;obtain⟨a,rfl,h1⟩:=r.dic;refine .inr ⟨a,kvs,rfl,h1,λp ms hp pm pw=>?_⟩;rw[kq pm pw];exact q _ _ (zi hp) (fI hs hp (qi.ofInts _)) λ_=>fT (qf.refl _) hp (qi.ofInts _)
 refine .inl (.inl ?_);have h':(eE x λxs=>if xs.length<64 then (match ints? xs with
   |some ns=>.ok (.lst ((sortI ns).map D.int))
   |none=>match pairs? xs with
    |some ps=>.ok (.lst ((zR ps).map pairD))
    |none=>cB xs)else cB xs)=.ok d:=by cases x<;>first|exact absurd ⟨_,rfl⟩ K0|exact absurd ⟨_,rfl⟩ K1|exact h'
 obtain⟨xs,rfl,h2⟩:=ll h'
 replace h:=h2
 cases rs with
 |cons r rs=>
  cases rs;obtain⟨a,us,rfl,h1,r1⟩:=r.lst;have big:cB xs=.ok d->r8 X.K [.ref a] H Q\/rp X.K [.ref a] H Q:=λh=>by
   obtain⟨ts,e,h⟩:=iY h;split at h
   ·rename_i hh
    cases h;by_cases K2:∃t,ts=[t]
    ·obtain⟨t,rfl⟩:=K2;have L_:xs=[gL t]:=(r1.tups e).1;subst L_;refine .inl ⟨a,us,rfl,by rw[hK];exact h1,?_,λp hn=>?_⟩
     ·have:=r1.length;simp at this;lia
     ·exact q _ _ (zi hn) (fI hs hn r1) λ_=>fT (qf.refl _) hn r1
    refine .inr ?_;obtain⟨rfl,as,rfl,hl,hp⟩:=r1.tups e;have K3:2<=ts.length/\(ts[0]? = some []\/∀t∈ts,t≠[]):=by
     match ts,hh,K2 with
     | [t],_,z=>exact absurd ⟨t,rfl⟩ z
     |p::q::r,hh,_=>
      refine⟨by simp,?_⟩;rw[dz,bG]at hh;rcases hh with hh|hh
      ·exact .inl (by simpa using hh)
      ·exact .inr λt ht=>by simpa using bS.mp hh t ht
    refine⟨a,as,ts,rfl,by rw[hK];exact h1,hl,K3.1,K3.2,λi b t hb ht=>by rw[hK];exact eU qZ (hp i b t hb ht).1,λD qs f hn pm hf ps=>?_⟩;have e1:as.map f=ts:=by
     refine List.ext_getElem (by simp[hl]) λi h1 h2=>?_
     rw[List.getElem_map];have:i<as.length:=by simpa using h1
     exact hf i as[i] ts[i] (by simp[this]) (by simp[h2])
    have e2:qs.map f=zL ts:=rm (by have:=pm.map f;rwa[e1]at this) ps;have hR:qi g (hid H S) ((zL ts).map gL) (qs.map V.ref):=by
     rw[<-e2];refine rl (by simp) λi b t hb ht=>?_
     have hm:b∈as:=pm.mem_iff.mp (List.mem_of_getElem? hb);obtain⟨j,hj,rfl⟩:=List.getElem_of_mem hm;have G7:j<ts.length:=by lia
     have e3:t=ts[j]:=by
      have e4:=hf j as[j] ts[j] (by simp[hj]) (by simp[G7]);rw[List.getElem?_map,hb]at ht;simp at ht;rw[<-ht,e4]
     rw[e3];exact(hp j as[j] ts[j] (by simp[hj]) (by simp[G7])).2
    exact q _ _ (zi hn) (fI hs hn hR) λ_=>fT (qf.refl _) hn hR
   ·cases h
  by_cases hz:xs.length<64
  ·rw[if_pos hz]at h;cases e:ints? xs with
   |some ns=>
    rw[e]at h;cases h;obtain⟨rfl,rfl⟩:=r1.ints e;refine .inl ⟨a,ns,rfl,by rw[hK];exact h1,by simpa using hz,λp ms hp pm pw=>?_⟩;rw[kq pm pw];exact q _ _ (zi hp) (fI hs hp (qi.ofInts _)) λ_=>fT (qf.refl _) hp (qi.ofInts _)
   |none=>
    rw[e]at h;cases e2:pairs? xs with
    |none=>rw[e2]at h;exact .inr (.inr (big h))
    |some ps=>
     rw[e2]at h;cases h;obtain⟨rfl,as,rfl,hl,hp⟩:=r1.pairs e2;by_cases h2:2<=ps.length
     ·exact .inr (.inr (big (uE e2 h2)))
     ·have e3:zR ps=ps:=by
       match ps,h2 with
       | [],_=>rfl
       | [_],_=>rfl
       |_::_::r,h=>exact absurd (show 2<=r.length+1+1 by lia) h
      refine .inr (.inl ⟨a,as.map V.ref,rfl,by rw[hK];exact h1,by rw[aV];lia,λp hn=>?_⟩);rw[e3]at q;exact q _ _ (zi hn) (fI hs hn r1) λ_=>fT (qf.refl _) hn r1
  ·rw[if_neg hz]at h;exact .inr (.inr (big h))
theorem rB(hK:X.K=g.K)(hc:X.calm=true)(mx:Bool):zf X (.builtin (if mx then "max" else "min")) (rB1 g (if mx then .max else .min)):=by
 have two:∀{S:Sh}{H:Hp}{x y:D}{vs:List V}{i j:Int},x=.int i->y=.int j->fk g H S [x,y] vs->vs=[.int i,.int j]:=by
  intro S H x y vs i j hx hy rs;subst hx hy;cases rs with
  |cons r1 rs=>
   cases rs with
   |cons r2 rs=>cases rs;rw[r1.int,r2.int]
 have inv:∀{b:B1}{ds:List D}{d:D},b1 b ds=.ok d->(∃x,ds=[x]/\b11 b x=.ok d)\/∃x y,ds=[x,y]/\b12 b x y=.ok d:=by
  intro b ds d h
  match ds,h with
  | [x],h=>exact .inl ⟨x,rfl,h⟩
  | [x,y],h=>exact .inr ⟨x,y,rfl,h⟩
  | [],h=>cases h
  |_::_::_::_,h=>cases h
 cases mx
 ·exact gw (CS hc) λS ds d vs H Q hs rs h q=>by
   rcases inv h with ⟨x,rfl,h'⟩|⟨x,y,rfl,h'⟩
   ·cases h'
   ·obtain⟨i,j,hx,hy,h'⟩:=nK h';cases h';exact⟨i,j,two hx hy rs,q _ _ (qf.refl _) (.int _) (by simp)⟩
 ·exact gw (uI hc) λS ds d vs H Q hs rs h q=>by
   rcases inv h with ⟨x,rfl,h'⟩|⟨x,y,rfl,h'⟩
   ·cases h'
   ·obtain⟨i,j,hx,hy,h'⟩:=nK h';cases h';exact⟨i,j,two hx hy rs,q _ _ (qf.refl _) (.int _) (by simp)⟩
theorem wA{S:Sh}{H:Hp}{vs:List V}{i:Int}(rs:fk g H S [.int i] vs):vs=[.int i]:=by
 cases rs with
 |cons r1 rs=>cases rs;rw[r1.int]
theorem yo{S:Sh}{H:Hp}{vs:List V}{i:Bool}(rs:fk g H S [.bl i] vs):vs=[.bl i]:=by
 cases rs with
 |cons r1 rs=>cases rs;rw[r1.bl]
theorem uR:zf X (.builtin "abs") (rB1 g .abs):=jL (λ_=>rfl) λ_ _=>rfl
theorem vB:zf X (.type "int") (rB1 g .int):=gw yg λS ds d vs H Q hs rs h q=>by
 obtain⟨x,rfl,h'⟩:=jQ (λ_ _=>rfl) h;rcases EN h' with ⟨i,rfl,h'⟩|⟨i,rfl,h'⟩
 ·cases h';exact .inl ⟨i,wA rs,q _ _ (qf.refl _) (.int _) (by simp)⟩
 ·cases h';exact .inr ⟨i,yo rs,q _ _ (qf.refl _) (.int _) (by simp)⟩
theorem vz:zf X (.type "bool") (rB1 g .bool):=jL (λ_=>rfl) λ_ _=>rfl
theorem tG(hK:X.K=g.K)(hc:X.calm=true):zf X (.builtin "sum") (rB1 g .sum):=jL (λ_=>rfl) λ_ _=>rfl
theorem rJ(hK:X.K=g.K)(hu:X.A.units+64<cLine):∀b,(X.calm=true\/b=.len\/b=.abs\/b=.tuple\/b=.list\/b=.int\/b=.bool)->zf X (b1V b) (rB1 g b)
 | .len,_=>uf hK
 | .tuple,_=>yG hK
 | .list,_=>tO hK
 | .sorted,h=>t9 hK hu (by simpa using h)
 | .all,h=>pM hK (by simpa using h) true
 | .any,h=>pM hK (by simpa using h) false
 | .sum,h=>tG hK (by simpa using h)
 | .min,h=>rB hK (by simpa using h) false
 | .max,h=>rB hK (by simpa using h) true
 | .abs,_=>uR
 | .int,_=>vB
 | .bool,_=>vz
theorem nV{H:Hp}{ds:List D}{vs:List V}(r:qi g H ds vs):ds.isEmpty=vs.isEmpty:=by cases r<;>rfl
theorem uD(hK:X.K=g.K){S:Sh}{H:Hp}{d:D}{v:V}{b:Bool}(r:zu g H S d v)(e:truth d=.ok b):lF X.K v H b:=by
 cases d with
 |non=>cases r.rep;cases e;exact rfl
 |bl c=>cases r.rep;cases e;exact rfl
 |int i=>cases r.rep;cases e;exact rfl
 |tup xs=>
  cases e;obtain⟨a,vs,rfl,h1,r1⟩:=r.tup;exact .inr (.inl ⟨vs,by rw[hK];exact h1,by rw[nV r1]⟩)
 |lst xs=>
  cases e;obtain⟨a,vs,rfl,h1,r1⟩:=r.lst;exact .inl ⟨vs,by rw[hK];exact h1,by rw[nV r1]⟩
 |_=>cases e
theorem wG(hK:X.K=g.K):zf X (.builtin "isinstance") (λxs H Q=>∃S d v n t,xs=[v,.ty n]/\zu g H S d v/\tyD d=some t/\n∈["int","bool","str","list","tuple"]/\Q (.bl (h9 t n)) H):=by
 intro pins s σ H xs us Q I r h;obtain⟨S,d,v,n,t,rfl,rd,ht,hn,q⟩:=h;obtain⟨u,cu,rfl,rx,rc⟩:=r.two;cases rc;have fin:∀tk,EP X pins σ Q (.bool (h9 t n)) {s with toks:=tk}:=λtk=>⟨.bl _,H,I.tok tk,rfl,q⟩
 have kb:t∈["NoneType","bool","int","str","list","tuple","dict"]->cq X.K (.type t) (.type n)=some (h9 t n):=λh=>D4 h hn
 cases d with
 |non=>cases ht;cases rd.rep;exact jD I rx .non (kb (by simp)) fin
 |bl c=>cases ht;cases rd.rep;exact jD I rx (.bl c) (kb (by simp)) fin
 |int i=>cases ht;cases rd.rep;exact jD I rx (.int i) (kb (by simp)) fin
 |str i=>cases ht;cases rd.rep;exact jD I rx (.str i) (kb (by simp)) fin
 |tup xs=>
  cases ht;obtain⟨a,vs,rfl,h1,_⟩:=rd.tup;cases rx;obtain⟨its,_,⟨o,e1,e2,_⟩,_⟩:=I.tuple (by rw[hK];exact h1);exact bL PySem.W.kitx_tuple I.kIn ⟨o,e1,e2⟩ (kb (by simp)) (λz=>nomatch z) fin
 |lst xs=>
  cases ht;obtain⟨a,vs,rfl,h1,_⟩:=rd.lst;cases rx;obtain⟨its,_,pl,_⟩:=I.list (by rw[hK];exact h1);obtain⟨o,e1,e2,_⟩:=pl.isList;exact bL PySem.W.kitx_list I.kIn ⟨o,e1,e2⟩ (kb (by simp)) (λz=>nomatch z) fin
 |dic=>
  cases ht;cases rd.rep with
  |dic h1=>
   cases rx;obtain⟨xs,ep,h1,_⟩:=h1;obtain⟨o,e1,e2,_⟩:=(WD.dY I h1).1;exact bL PySem.W.kitx_dict I.kIn ⟨o,e1,e2.1⟩ (kb (by simp)) (λz=>nomatch z) fin
 |dct ks ds=>
  cases ht;cases rd.rep with
  |dct h1 er _=>
   cases rx;obtain⟨_,o,e1,e2,_⟩:=(WD.fJ I (.inl ⟨_,h1⟩)).1;exact bL PySem.W.kitx_dict I.kIn ⟨o,e1,e2.1⟩ (kb (by simp)) (λz=>nomatch z) fin
 |_=>cases ht
end
theorem xG{o:O2}{a b:Int}{c:Str}:opI o a b≠.ex c:=by
 cases o<;>simp only[opI]<;>(try split)<;>intro h<;>cases h
theorem AX{o:O2}{a b:D}{c:Str}:op2 o a b≠.ex c:=by
 unfold op2;split
 ·exact xG
 all_goals ((try split)<;>intro h<;>cases h)
theorem nO{n:Bool}{a b:D}{c:Str}:isB n a b≠.ex c:=by
 unfold isB;split<;>intro h<;>cases h
theorem C6{a:D}{ks:List (List Int)}{c:Str}:eQ a ks≠.ex c:=by
 unfold eQ;split<;>(try split)<;>intro h<;>cases h
theorem lU{a b:D}{c:Str}:cW a b≠.ex c:=by
 unfold cW;split<;>(try split)<;>(try split)<;>intro h<;>first|(cases h;done)|exact C6 h
theorem sS{a b:D}{c:Str}:((cW a b).bind λr=>R.ok !r)≠.ex c:=by
 intro h;cases e:cW a b with
 |ok r=>rw[e]at h;cases h
 |ex z=>exact lU e
 |no=>rw[e]at h;cases h
theorem D_{o:C2}{a b:D}{c:Str}:qk o a b≠.ex c:=by
 cases o with
 |is=>rw[dN];split<;>first|(intro h;cases h;done)|exact nO
 |isnot=>rw[zB];split<;>first|(intro h;cases h;done)|exact nO
 |isin=>rw[zI];split<;>(try split)<;>first|(intro h;cases h;done)|(intro h;cases h;done)|exact lU|exact sS
 |notin=>rw[zC];split<;>(try split)<;>first|(intro h;cases h;done)|(intro h;cases h;done)|exact lU|exact sS
 |eq=>rw[dX];split<;>first|(intro h;cases h;done)|(intro h;cases h;done)
 |ne=>rw[dU];split<;>first|(intro h;cases h;done)|(intro h;cases h;done)
 |_=>cases a<;>first|(intro h;cases h;done)|(cases b<;>first|(intro h;cases h;done)|(intro h;cases h;done)|(rw[dW];split<;>(intro h;cases h;done)))
theorem EK{a:D}{c:Str}:truth a≠.ex c:=by
 unfold truth;split<;>intro h<;>cases h
theorem u4{a b:D}{c:Str}:ixD a b≠.ex c:=by
 unfold ixD;split<;>(try split)<;>(try split)<;>intro h<;>cases h
theorem xv{a:D}{l h:Option Int}{c:Str}:slD a l h≠.ex c:=by
 unfold slD;split<;>(try split)<;>intro h<;>cases h
theorem ma{x:D}{k:List D->R D}{c:Str}(h:∀xs,k xs≠.ex c):eE x k≠.ex c:=by
 cases x with
 |lst xs=>exact h xs
 |_=>intro z;cases z
theorem tZ{x:D}{f:Int->R D}{q:Bool->R D}{c:Str}(h:∀i,f i≠.ex c)(h':∀i,q i≠.ex c):ibR x f q≠.ex c:=by
 cases x with
 |int i=>exact h i
 |bl i=>exact h' i
 |_=>intro z;cases z
theorem pW{x y:D}{k:Int->Int->R D}{c:Str}(h:∀i j,k i j≠.ex c):iiR x y k≠.ex c:=by
 cases x with
 |int i=>
  cases y with
  |int j=>exact h i j
  |_=>intro z;cases z
 |_=>intro z;cases z
theorem hV{α β:Type}{o:Option α}{k:α->R β}{c:Str}(h:∀a,k a≠.ex c):cy o k≠.ex c:=by
 cases o with
 |some a=>exact h a
 |none=>intro z;cases z
theorem dE{α:Type}{a:α}{c:Str}:R.ok a≠.ex c:=by intro z;cases z
theorem ef{α:Type}{c:Str}:(R.no:R α)≠.ex c:=by intro z;cases z
theorem sD{xs:List D}{c:Str}:cB xs≠.ex c:=hV λ_=>by
 split
 ·exact dE
 ·exact ef
theorem AF{b:B1}{d:D}{c:Str}:b11 b d≠.ex c:=by
 cases b with
 |len=>exact hV λ_=>dE
 |tuple=>exact hV λ_=>dE
 |list=>exact ef
 |all=>exact ma λ_=>hV λ_=>dE
 |any=>exact ma λ_=>hV λ_=>dE
 |sorted=>
  by_cases h:∃xs,d=.tup xs
  ·obtain⟨xs,rfl⟩:=h;show (if xs.length<64 then cy (ints? xs) λns=>R.ok (D.lst ((sortI ns).map D.int))else R.no)≠R.ex c;split
   ·exact hV λ_=>dE
   ·exact ef
  by_cases h':∃kvs,d=.dic kvs
  ·obtain⟨kvs,rfl⟩:=h';exact dE
  have e:b11 .sorted d=eE d λxs=>if xs.length<64 then (match ints? xs with
    |some ns=>.ok (.lst ((sortI ns).map D.int))
    |none=>match pairs? xs with
     |some ps=>.ok (.lst ((zR ps).map pairD))
     |none=>cB xs)else cB xs:=by cases d<;>first|exact absurd ⟨_,rfl⟩ h|exact absurd ⟨_,rfl⟩ h'|rfl
  rw[e];refine ma λ_=>?_
  split
  ·split
   ·exact dE
   ·split
    ·exact dE
    ·exact sD
  ·exact sD
 |abs=>exact ef
 |int=>exact tZ (λ_=>dE) λ_=>dE
 |bool=>exact ef
 |sum=>exact ef
 |min=>exact ef
 |max=>exact ef
theorem Ar{b:B1}{ds:List D}{c:Str}:b1 b ds≠.ex c:=by
 match ds with
 | []=>exact ef
 | [_]=>exact AF
 | [x,y]=>
  cases b with
  |min=>exact pW λ_ _=>dE
  |max=>exact pW λ_ _=>dE
  |_=>exact ef
 |_::_::_::_=>exact ef
structure bu(g:Gc)(c:Cc)(e:E)(S:Sh)(H:Hp)(d:D)(v:V)(H':Hp):Prop where
 same:qf H H'
 rb:zu g H' S d v
 st:esc e=true->Rep g (hid H' S) d v
 fr:fresh c e=true->Fr g H S H' d v
 frc:zF c e=true->zl d=true->Fr g H S H' d v
structure SE(g:Gc)(c:Cc)(τ:Env)(σ:L2.St)(H:Hp)(S:Sh):Prop where
 len:τ.length=σ.length
 val:∀(i:Nat) (d:D),τ[i]? = some (some d)->∃v,σ[i]? = some (some v)/\zu g H S d v/\∀x,c.N[i]? = some x->c.own.contains x=false->Rep g (hid H S) d v
 sub:Sub S H
theorem SE.up{g:Gc}{c:Cc}{τ:Env}{σ:L2.St}{H H':Hp}{S:Sh}(s:SE g c τ σ H S)(e:qf H H'):SE g c τ σ H' S:=
 ⟨s.len,λi d h=>let ⟨v,h1,h2,h3⟩:=s.val i d h;⟨v,h1,h2.mono e,λx a b=>(h3 x a b).mono (qg e)⟩,s.sub.same e⟩
def tR{α:Type}(g:Gc)(E:XK)(H:Hp)(r:R α)(k:α->Prop):Prop:=match r with
 | .ok a=>k a
 | .ex c=>∀H' C,qf H H'->g.clA c=some C->E (.ref C) none H'
 | .no=>False
theorem tR.up{α:Type}{g:Gc}{E:XK}{H H':Hp}{r:R α}{k:α->Prop}(h:tR g E H r k)(e:qf H H'):tR g E H' r k:=by
 cases r with
 |ok a=>exact h
 |ex c=>exact λH2 C e2 hc=>h H2 C (e.trans e2) hc
 |no=>exact h
theorem tR.imp{α:Type}{g:Gc}{E:XK}{H:Hp}{r:R α}{k k':α->Prop}(h:tR g E H r k)(i:∀a,k a->k' a):tR g E H r k':=by
 cases r with
 |ok a=>exact i a h
 |ex c=>exact h
 |no=>exact h
section
variable(w:W)(g:Gc)(c:Cc)(E:XK)
def tE(e:EV.E):TE:=λσ H Q=>∃τ S,SE g c τ σ H S/\tR g E H (evE w e τ) λd=>∀v H',bu g c e S H d v H'->Q v H'
def tT(t:T):TT:=λσ H Q=>∃τ S,SE g c τ σ H S/\tR g E H (evT w t τ) λb=>∀H',qf H H'->Q b H'
def tA(es:Es):TA:=λσ H Q=>∃τ S,SE g c τ σ H S/\tR g E H (qA w es τ) λds=>∀vs H',qf H H'->fk g H' S ds vs->(dq es=true->qi g (hid H' S) ds vs)->Q vs H'
def tOe(o:OE):TO:=λσ H Q=>∃τ S,SE g c τ σ H S/\tR g E H (evO w o τ) λi=>∀H',qf H H'->Q i H'
def Goes(g:Gc)(J:L2.It)(ds:List D)(H:Hp)(S:Sh):Prop:=
 (∀i,ds.length<=i->J.stop i H)/\∀i d,ds[i]? = some d->J.go i H/\∀x H',J.yld i H x H'->qf H H'/\Rep g (hid H' S) d x
def tIt(it:It):TI:=λσ H R=>∃τ S,SE g c τ σ H S/\tR g E H (evI w it τ) λds=>∀J H',qf H H' ->
 (∀H2 S2,qf H' H2->qf (hid H' S) (hid H2 S2)->Sub S2 H2->Goes g J ds H2 S2)->(owned it=false->∀H2 S2,qf (hid H' S) (hid H2 S2)->Sub S2 H2->Goes g J ds H2 S2)->R J H'
end
theorem PE.imp{X:Cx}{e:Expr}{t t':TE}(h:PE X e t)(i:∀σ H Q,t' σ H Q->t σ H Q):PE X e t':=λpins s σ H Q I q=>h pins s σ H Q I (i _ _ _ q)
theorem PT.imp{X:Cx}{e:Expr}{t t':TT}(h:PT X e t)(i:∀σ H Q,t' σ H Q->t σ H Q):PT X e t':=λpins s σ H Q I q=>h pins s σ H Q I (i _ _ _ q)
theorem PW.imp{X:Cx}{e:Expr}{t t':TT}(h:PW X e t)(i:∀σ H Q,t' σ H Q->t σ H Q):PW X e t':=λwh pins s σ H Q I q=>h wh pins s σ H Q I (i _ _ _ q)
theorem PA.imp{X:Cx}{e:List Expr}{t t':TA}(h:PA X e t)(i:∀σ H Q,t' σ H Q->t σ H Q):PA X e t':=λpos pins s σ H Q I q=>h pos pins s σ H Q I (i _ _ _ q)
theorem PO.imp{X:Cx}{e:Option Expr}{t t':TO}(h:PO X e t)(i:∀σ H Q,t' σ H Q->t σ H Q):PO X e t':=λpins s σ H Q I q=>h pins s σ H Q I (i _ _ _ q)
theorem PI.imp{X:Cx}{tg e:Expr}{t t':TI}(h:PI X tg e t)(i:∀σ H Q,t' σ H Q->t σ H Q):PI X tg e t':=λpins s σ H Q I q=>h pins s σ H Q I (i _ _ _ q)
theorem PS.imp{X:Cx}{e:Stmt}{t t':TS}(h:PS X e t)(i:∀D σ H,t' D σ H->t D σ H):PS X e t':=λpins s σ H Q I q=>h pins s σ H Q I (i _ _ _ q)
theorem PSs.imp{X:Cx}{e:List Stmt}{t t':TS}(h:PSs X e t)(i:∀D σ H,t' D σ H->t D σ H):PSs X e t':=λpins s σ H Q I q=>h pins s σ H Q I (i _ _ _ q)
section
variable{w:W}{g:Gc}{c:Cc}{E:XK}{τ:Env}{σ:L2.St}{H H0:Hp}{S:Sh}
theorem zg{α:Type}{e:EV.E}{f:D->R α}{P:α->Prop}{Q:VK}(se:SE g c τ σ H S)(h:tR g E H ((evE w e τ).bind f) P)(k:∀d v H',evE w e τ=.ok d->bu g c e S H d v H'->tR g E H' (f d) P->Q v H'):tE w g c E e σ H Q:=by
 refine⟨τ,S,se,?_⟩;cases q:evE w e τ with
 |ok d=>rw[q]at h;exact λv H' p=>k d v H' q p (tR.up h p.same)
 |ex x=>rw[q]at h;exact h
 |no=>rw[q]at h;exact h
theorem j9{α:Type}{t:T}{f:Bool->R α}{P:α->Prop}{Q:Bool->Hp->Prop}(se:SE g c τ σ H S)(h:tR g E H ((evT w t τ).bind f) P)(k:∀b H',evT w t τ=.ok b->qf H H'->tR g E H' (f b) P->Q b H'):tT w g c E t σ H Q:=by
 refine⟨τ,S,se,?_⟩;cases q:evT w t τ with
 |ok d=>rw[q]at h;exact λH' p=>k d H' q p (tR.up h p)
 |ex x=>rw[q]at h;exact h
 |no=>rw[q]at h;exact h
theorem gG{α:Type}{es:Es}{f:List D->R α}{P:α->Prop}{Q:List V->Hp->Prop}(se:SE g c τ σ H S)(h:tR g E H ((qA w es τ).bind f) P)
  (k:∀ds vs H',qA w es τ=.ok ds->qf H H'->fk g H' S ds vs->(dq es=true->qi g (hid H' S) ds vs)->tR g E H' (f ds) P->Q vs H'):tA w g c E es σ H Q:=by
 refine⟨τ,S,se,?_⟩;cases q:qA w es τ with
 |ok d=>rw[q]at h;exact λvs H' p r r'=>k d vs H' q p r r' (tR.up h p)
 |ex x=>rw[q]at h;exact h
 |no=>rw[q]at h;exact h
theorem nQ{α:Type}{o:OE}{f:Option Int->R α}{P:α->Prop}{Q:Option Int->Hp->Prop}(se:SE g c τ σ H S)(h:tR g E H ((evO w o τ).bind f) P)(k:∀b H',evO w o τ=.ok b->qf H H'->tR g E H' (f b) P->Q b H'):tOe w g c E o σ H Q:=by
 refine⟨τ,S,se,?_⟩;cases q:evO w o τ with
 |ok d=>rw[q]at h;exact λH' p=>k d H' q p (tR.up h p)
 |ex x=>rw[q]at h;exact h
 |no=>rw[q]at h;exact h
theorem sv{e:EV.E}(h:fresh c e=true):zF c e=true:=by
 cases e<;>first|exact h|cases h
theorem bu.of{e:EV.E}{d:D}{v:V}{H':Hp}(s:qf H H')(r:Rep g (hid H' S) d v)(f:zF c e=false):bu g c e S H d v H':=⟨s,.inl r,λ_=>r,(λz=>by rw[sv z]at f;cases f),λz=>by rw[f]at z;cases z⟩
theorem bu.new{e:EV.E}{d:D}{v:V}{H':Hp}(s:qf H H')(r:Rep g (hid H' S) d v)(f:Fr g H S H' d v):bu g c e S H d v H':=⟨s,.inl r,λ_=>r,λ_=>f,λ_ _=>f⟩
theorem Fr.low{d:D}{v:V}{H1 H':Hp}(f:Fr g H1 S H' d v)(e:qf H H1):Fr g H S H' d v:=by
 obtain⟨a,o,h1,h3,h4,h5⟩:=f;exact⟨a,o,h1,e.free h3,h4,h5⟩
end
noncomputable def b1N:B1->Str
 | .len=>"len"
 | .tuple=>"tuple"
 | .list=>"list"
 | .sorted=>"sorted"
 | .all=>"all"
 | .any=>"any"
 | .sum=>"sum"
 | .min=>"min"
 | .max=>"max"
 | .abs=>"abs"
 | .int=>"int"
 | .bool=>"bool"
theorem D3:∀b,bU (b1N b)=some (b1V b)
 | .len | .tuple | .list | .sorted | .all | .any | .sum | .min | .max | .abs | .int | .bool=>by decide +kernel
def spF(w:W)(g:Gc)(x:Str)(fr:Bool):Sp:=λvs H Q E=>∃S ds,Sub S H/\qi g (hid H S) ds vs /\
 tR g E H (w.call x ds) λd=>∀v H',qf H H'->Rep g (hid H' S) d v->(fr=true->zl d=true->Fr g H S H' d v)->Q v H'
structure jU(w:W)(g:Gc)(P:aB)(wl:az)(mg:Str->Option ae)(base:Heap)(A:aD)(calm:Bool)(x:Str)(f:Addr)(fr:Bool):Prop where
 at_:mg x=some (.ref f)
 kp:cR g.K (.ref f)=true
 fn:∃k fd ps,Binds g.K fd ps []/\((calm=true/\gj P wl g.K mg base (CX1 P wl) k f fd ps (spF w g x fr)/\cC k A)\/(calm=false/\lX P wl g.K mg base (CX1 P wl) k f fd ps (spF w g x fr)/\je k A))
def GM(w:W)(g:Gc)(P:aB)(wl:az)(mg:Str->Option ae)(base:Heap)(A:aD)(calm:Bool)(x:Str):GK->Prop
 | .fn fr=>∃f,g.fnA x=some f/\jU w g P wl mg base A calm x f fr
 | .val=>∃u v d,mg x=some u/\RelV v u/\w.glb x=some d/\∀H,Rep g H d v
 | .bi b=>mg x=none/\x=b1N b/\∃id,b1V b=.builtin id
 | .rng=>mg x=none/\x = "range"
 | .enum=>mg x=none/\x = "enumerate"
 | .zip=>mg x=none/\x = "zip"
 | .isi=>mg x=none/\x = "isinstance"
 | .ty n b=>mg x=none/\bU x=some (.type n)/\(n∈["int","bool","str","list","tuple"]\/n = "ValueError")/\∀b',b=some b'->x=b1N b'/\b1V b'=.type n
 | .exc=>∃C,mg x=some (.ref C)/\g.clA x=some C
 | .exk=>∃C,mg x=some (.ref C)/\g.clA x=some C
 | .set=>mg x=none/\bU x=some (.type "set")
 | .rvd=>mg x=none/\x = "reversed"
structure XO(w:W)(g:Gc)(c:Cc)(E:XK)(X:Cx):Prop where
 K:X.K=g.K
 nm:X.env.scope.names=c.nm
 N:X.N=c.N
 nd:c.N.Nodup
 calm:c.calm=true->X.calm=true
 units:X.A.units+64<cLine
 fn:∀x,(c.fnc=true\/c.oc.contains x=true)->X.fn x=true
 kind:X.env.scope.kind=.function
 pass:Passes (CX1 X.prog X.w) X E
 gok:∀x k,c.G.lookup x=some k->GM w g X.prog X.w X.mg X.base X.A X.calm x k
 fns:X.calm=true->∀x f,g.fnA x=some f->∃fr,jU w g X.prog X.w X.mg X.base X.A X.calm x f fr
 -- what isinstance says of a caught error
 sub:∀k cl b,w.sub k cl=some b->∃C cv,g.clA k=some C/\l8 g.K C/\cq g.K (.ref C) cv=some b/\match cl with
  | .ty n=>n = "ValueError"/\cv=.type n
  | .ex x=>∃D,g.clA x=some D/\cv=.ref D
section
variable{w:W}{g:Gc}{c:Cc}{E:XK}{X:Cx}
theorem zO{x:Str}{i:Nat}(h:loc c x=some i):c.N[i]? = some x/\(c.nm.lookup x=some .local\/c.nm.lookup x=some .cell\/c.nm.lookup x=some .free)/\(x==("__debug__" : Str))=false/\(x==("__classdict__" : Str))=false:=by
 unfold loc at h;split at h
 ·exact oN h
 ·rename_i hd
  have FJ:(x==("__debug__" : Str))=false/\(x==("__classdict__" : Str))=false:=by simpa using hd
  have fin:∀{j},(if c.N[j]? = some x then some j else none)=some i->c.N[i]? = some x:=λ{j} z=>by
   split at z
   ·cases z;assumption
   ·cases z
  split at h
  ·rename_i q;exact⟨fin h,.inl q,FJ⟩
  ·rename_i q;exact⟨fin h,.inr (.inl q),FJ⟩
  ·rename_i q;exact⟨fin h,.inr (.inr q),FJ⟩
  ·exact oN h
theorem zG{x:Str}{k:GK}(h:glob c x=some k):c.nm.lookup x=some .globalImplicit/\c.G.lookup x=some k/\(x==("__debug__" : Str))=false/\x≠"__name__":=by
 unfold glob at h;split at h
 ·exact oN h
 ·rename_i hd
  have FJ:(x==("__debug__" : Str))=false/\(x==("__name__" : Str))=false:=by simpa using hd
  split at h
  ·rename_i q;exact⟨q,h,FJ.1,by simpa using FJ.2⟩
  ·exact oN h
theorem XO.gl(O:XO w g c E X){x:Str}{k:GK}(h:glob c x=some k):Gl X x:=by
 show X.env.scope.names.lookup x=_;rw[O.nm];exact(zG h).1
theorem XO.gm(O:XO w g c E X){x:Str}{k:GK}(h:glob c x=some k):GM w g X.prog X.w X.mg X.base X.A X.calm x k:=O.gok x k (zG h).2.1
theorem za{e:Expr}{es:List Expr}{env:PySem.Env}(h:isStar e=false):a_ (e::es) env=(false,eval e env)::a_ es env:=by
 cases e<;>first|rfl|(exact Bool.noConfusion h)
theorem l6{es:List Expr}{env:PySem.Env}{pos:Pos}:(∀e∈es,isStar e=false)->(backTo pos (a_ es env)).any (·.1)=false:=by
 induction es with
 |nil=>intro _;rfl
 |cons e es ih=>
  intro h;rw[za (h e aL)];show (false||(backTo pos (a_ es env)).any (·.1))=false;rw[ih λe he=>h e (aO _ he)]
  rfl
theorem gM:∀{n:Nat}{es:List Expr}{ir:Es},cEs n c es=some ir->∀e∈es,isStar e=false
 | 0,_,_,h=>by simp[cEs]at h
 |n+1,[],_,_=>by simp
 |n+1,e::es,ir,h=>by
  simp only[cEs]at h;cases hs:isStar e with
  |true=>simp[hs]at h
  |false=>
   simp only[hs,bp,if_false,bQ,bE]at h;obtain⟨_,_,r,hr,_⟩:=h;intro x hx;rcases aM.mp hx with rfl|hx
   ·exact hs
   ·exact gM hr x hx
theorem oi{x:Str}{f:Addr}{fr:Bool}{e:Expr}{es:List Expr}{p pos:Pos}{t:TA}(O:XO w g c E X)(C:jU w g X.prog X.w X.mg X.base X.A X.calm x f fr)(hg:Gl X x)(hd:(x==("__debug__" : Str))=false)(ha:PA X (e::es) t)
  (hs:∀z∈e::es,isStar z=false):PE X (.Call (.Name x p) (e::es) [] pos) (mN (spF w g x fr) [] E t):=by
 obtain⟨k,fd,ps,hb,h⟩:=C.fn;have he:=za (es:=es) (env:=X.env) (hs e aL);have hp:=l6 (env:=X.env) (pos:=pos) λz hz=>hs z (aO _ hz)
 rw[<-O.K]at hb h;rcases h with ⟨_,F,r⟩|⟨_,F,r⟩
 ·exact B8 F r hg C.at_ (by rw[O.K];exact C.kp) hb .nil O.pass ha hd he hp
 ·exact Ak F r hg C.at_ (by rw[O.K];exact C.kp) hb .nil O.pass ha hd he hp
end
end EV
namespace L2
open PySem PySem.Spec PyProof.Rows
section
variable{X:Cx}
end
end L2
namespace EV
open PySem PySem.Spec PySem.P PyProof.Rows L2
section
variable{w:W}{g:Gc}{c:Cc}{E:XK}{X:Cx}{a b d f:Expr}{ia ib id' if':EV.E}{pos p2:Pos}{ta tb:T}
theorem jY{e:Expr}{v:V}{dd:D}(h:PE X e (tC v))(r:∀H,Rep g H dd v):PE X e (tE w g c E (.con dd)):=PE.imp h λσ H Q ⟨τ,S,se,k⟩=>k v H (bu.of (qf.refl _) (r _) rfl)
theorem BQ{x:Str}{i:Nat}(O:XO w g c E X)(h:loc c x=some i):PE X (.Name x pos) (tE w g c E (if c.own.contains x then .own i else .var i)):=by
 obtain⟨h1,h2,h3,h4⟩:=zO h;refine PE.imp (g9 (i:=i) (by rw[O.N];exact h1) (by unfold fC;rw[O.nm];exact h2) h3 h4) λσ H Q ⟨τ,S,se,k⟩=>?_
 have key:∀e,evE w e τ=zo τ i->zF c e=false->(esc e=true->c.own.contains x=false)->tR g E H (evE w e τ) (λd=>∀v H',bu g c e S H d v H'->Q v H')->gY i σ H Q:=λe e1 e2 e3 k=>by
  rw[e1]at k;unfold zo at k;cases q:τ[i]? with
  |none=>rw[q]at k;exact k.elim
  |some o=>
   cases o with
   |none=>rw[q]at k;exact k.elim
   |some d=>
    rw[q]at k;obtain⟨v,z1,z2,z3⟩:=se.val i d q;exact⟨v,z1,k v H ⟨qf.refl _,z2,λz=>z3 x h1 (e3 z),(λz=>by rw[sv z]at e2;cases e2),λz=>by rw[e2]at z;cases z⟩⟩
 cases ho:c.own.contains x with
 |true=>rw[ho]at k;exact key (.own i) (by simp[qz,qX,ze,zj,qV,zp,zk,qF,qH,qI,qC,qE,qS,qJ,qD,qw,qG,qB,qu,qK,qx,qU,qN,qM,qR,qQ,qT,qP]) rfl (by intro z;cases z) k
 |false=>rw[ho]at k;exact key (.var i) (by simp[qz,qX,ze,zj,qV,zp,zk,qF,qH,qI,qC,qE,qS,qJ,qD,qw,qG,qB,qu,qK,qx,qU,qN,qM,qR,qQ,qT,qP]) rfl (λ_=>ho) k
theorem EJ{x:Str}(O:XO w g c E X)(h:glob c x=some .val):PE X (.Name x pos) (tE w g c E (.glb x)):=by
 obtain⟨u,v,d,h1,h2,h3,h4⟩:=O.gm h;refine PE.imp (lQ (O.gl h) h1 h2 (zG h).2.2.1) λσ H Q ⟨τ,S,se,k⟩=>?_
 simp only[qz,qX,ze,zj,qV,zp,zk,qF,qH,qI,qC,qE,qS,qJ,qD,qw,qG,qB,qu,qK,qx,qU,qN,qM,qR,qQ,qT,qP,h3]at k;exact k v H (bu.of (qf.refl _) (h4 _) rfl)
theorem sf{τ:EV.Env}{e:EV.E}{d:D}(h:isL e=true)(he:evE w e τ=.ok d):lM d=true:=by
 cases e<;>first|(cases h;done)|skip
 ·simp only[qz,qX,ze,zj,qV,zp,zk,qF,qH,qI,qC,qE,qS,qJ,qD,qw,qG,qB,qu,qK,qx,qU,qN,qM,qR,qQ,qT,qP]at he;cases q:qA w ‹_› τ with
  |ok ds=>rw[q]at he;cases he;rfl
  |ex z=>rw[q]at he;cases he
  |no=>rw[q]at he;cases he
 ·simp only[qz,qX,ze,zj,qV,zp,zk,qF,qH,qI,qC,qE,qS,qJ,qD,qw,qG,qB,qu,qK,qx,qU,qN,qM,qR,qQ,qT,qP]at he;cases q:evI w ‹_› τ with
  |ok ds=>
   rw[q]at he;simp only[R.bind_ok]at he;split at he
   ·cases he
   ·generalize cL _ _ _ _=r at he;cases r with
    |ok o=>cases he;rfl
    |ex z=>cases he
    |no=>cases he
  |ex z=>rw[q]at he;cases he
  |no=>rw[q]at he;cases he
theorem xD(O:XO w g c E X){op:Operator}{o:O2}(ho:o2 op=some o)(ha:PE X a (tE w g c E ia))(hb:PE X b (tE w g c E ib)):PE X (.BinOp a op b pos) (tE w g c E (.op o ia ib)):=
 PE.imp (BE (yC O.K ho) ha hb) λσ H Q ⟨τ,S,se,k⟩=>by
  simp only[qz,qX,ze,zj,qV,zp,zk,qF,qH,qI,qC,qE,qS,qJ,qD,qw,qG,qB,qu,qK,qx,qU,qN,qM,qR,qQ,qT,qP]at k;refine zg se k λda va H1 e1 p1 k1=>zg (se.up p1.same) k1 λdb vb H2 e2 p2 k2=>⟨S,da,db,(se.up (p1.same.trans p2.same)).sub,p1.rb.mono p2.same,p2.rb,?_⟩
  cases q:op2 o da db with
  |ok r=>
   rw[q]at k2;have fw:fresh c (.op o ia ib)=true->∀{v H'},(lM da=true->Fr g H2 S H' r v)->Fr g H S H' r v:=λz {v H'} f=>by
    replace z:(nN o&&isL ia||o==.add&&isL ib)=true:=z;simp only[bG,aQ,beq_iff_eq]at z
    refine(f ?_).low (p1.same.trans p2.same);rcases z with z|⟨rfl,z⟩
    ·exact sf z.2 e1
    ·have:=sf z e2;cases db<;>first|(cases this;done)|skip
     cases da<;>first|rfl|(cases q;done)
   exact λv H' s r f=>k2 v H' ⟨(p1.same.trans p2.same).trans s,.inl r,λ_=>r,λz=>fw z f,λz _=>fw z f⟩
  |ex z=>exact AX q
  |no=>rw[q]at k2;exact k2
theorem DP(ha:PE X a (tE w g c E ia)):PE X (.UnaryOp .USub a pos) (tE w g c E (.neg ia)):=
 PE.imp (Ea y0 ha) λσ H Q ⟨τ,S,se,k⟩=>by
  simp only[qz,qX,ze,zj,qV,zp,zk,qF,qH,qI,qC,qE,qS,qJ,qD,qw,qG,qB,qu,qK,qx,qU,qN,qM,qR,qQ,qT,qP]at k;refine zg se k λda va H1 e1 p1 k1=>?_
  cases da with
  |int i=>exact⟨i,p1.rb.int,k1 _ _ (bu.of p1.same (.int _) rfl)⟩
  |_=>exact k1.elim
theorem AR(O:XO w g c E X){o:Expr}{m:Str}{ap cp:Pos}{as:List Expr}{e:EV.E}(h:cMt c o m ap as cp=some e):PE X (.Call (.Attribute o m ap) as [] cp) (tE w g c E e):=by cases h
theorem B5{o:Expr}{m:Str}(h:baseOk o=true):attributeBase o m X.env (eval o X.env)=eval o X.env:=by
 unfold baseOk at h;split at h
 ·rfl
 ·rfl
 ·cases h
theorem AD(O:XO w g c E X){o:Expr}{ap cp:Pos}(hb:baseOk o=true)(ho:PE X o (tE w g c E ia))(ha:PE X a (tE w g c E ib))(hs:isStar a=false)(hl:(ap.endLine==cp.line)=true) :
  PE X (.Call (.Attribute o "count" ap) [a] [] cp) (tE w g c E (.cnt ia ib)):=λpins s σ H Q I ⟨τ,S,se,kk⟩=>by
 simp only[qz,qX,ze,zj,qV,zp,zk,qF,qH,qI,qC,qE,qS,qJ,qD,qw,qG,qB,qu,qK,qx,qU,qN,qM,qR,qQ,qT,qP]at kk;exact bH kk
theorem y_(ha:PE X a (tE w g c E ia)):PE X (.UnaryOp .Not a pos) (tE w g c E (.not ia)):=
 PE.imp (A0 ha) λσ H Q ⟨τ,S,se,k⟩=>by
  simp only[qz,qX,ze,zj,qV,zp,zk,qF,qH,qI,qC,qE,qS,qJ,qD,qw,qG,qB,qu,qK,qx,qU,qN,qM,qR,qQ,qT,qP]at k;refine zg se k λda va H1 e1 p1 k1=>?_
  cases da with
  |bl i=>exact⟨i,p1.rb.bl,k1 _ _ (bu.of p1.same (.bl _) rfl)⟩
  |_=>exact k1.elim
theorem bu.pass{e e':EV.E}{S:Sh}{H H1 H':Hp}{dd:D}{v:V}(s:qf H H1)(p:bu g c e S H1 dd v H')(h:esc e=true)(f:zF c e'=false):bu g c e' S H dd v H':=bu.of (s.trans p.same) (p.st h) f
theorem bu.passC{e e':EV.E}{S:Sh}{H H1 H':Hp}{dd:D}{v:V}(s:qf H H1)(p:bu g c e S H1 dd v H')(h:esc e=true)(f:fresh c e'=false)(fc:zF c e'=true->zF c e=true):bu g c e' S H dd v H':=⟨s.trans p.same,.inl (p.st h),λ_=>p.st h,(λz=>by rw[f]at z;cases z),λz l=>(p.frc (fc z) l).low s⟩
theorem Bx{rest:List Expr}{ir:EV.E}(ha:PE X a (tE w g c E ia))(hb:PE X (.BoolOp .And (b::rest) pos) (tE w g c E ir))(he:esc ir=true):PE X (.BoolOp .And (a::b::rest) pos) (tE w g c E (.and ia ir)):=
 PE.imp (DN ha hb) λσ H Q ⟨τ,S,se,k⟩=>by
  simp only[qz,qX,ze,zj,qV,zp,zk,qF,qH,qI,qC,qE,qS,qJ,qD,qw,qG,qB,qu,qK,qx,qU,qN,qM,qR,qQ,qT,qP]at k;refine zg se k λda va H1 e1 p1 k1=>?_
  cases da with
  |bl i=>
   refine⟨i,p1.rb.bl,?_⟩;cases i with
   |true=>
    refine⟨τ,S,se.up p1.same,tR.imp k1 λd hk v H' p=>hk v H' (p.pass p1.same he rfl)⟩
   |false=>exact k1 _ _ (bu.of p1.same (.bl _) rfl)
  |_=>exact k1.elim
theorem DF{rest:List Expr}{ir:EV.E}(ha:PE X a (tE w g c E ia))(hb:PE X (.BoolOp .Or (b::rest) pos) (tE w g c E ir))(he:esc ir=true):PE X (.BoolOp .Or (a::b::rest) pos) (tE w g c E (.or ia ir)):=
 PE.imp (yM ha hb) λσ H Q ⟨τ,S,se,k⟩=>by
  simp only[qz,qX,ze,zj,qV,zp,zk,qF,qH,qI,qC,qE,qS,qJ,qD,qw,qG,qB,qu,qK,qx,qU,qN,qM,qR,qQ,qT,qP]at k;refine zg se k λda va H1 e1 p1 k1=>?_
  cases da with
  |bl i=>
   refine⟨i,p1.rb.bl,?_⟩;cases i with
   |false=>
    refine⟨τ,S,se.up p1.same,tR.imp k1 λd hk v H' p=>hk v H' (p.pass p1.same he rfl)⟩
   |true=>exact k1 _ _ (bu.of p1.same (.bl _) rfl)
  |_=>exact k1.elim
theorem gU{op:CmpOp}{b:Expr}(h:qr b=true):behindInMarks op b=false:=by cases b<;>first|rfl|(exact Bool.noConfusion h)
theorem dZ{o:C2}{S:Sh}{H:Hp}{da db:D}{va vb:V}{r:R Bool}{P:Bool->Prop}{Q:VK}(ra:zu g H S da va)(rb:zu g H S db vb)(q:tR g E H (qk o da db) P)(k:∀z,qk o da db=.ok z->P z->Q (.bl z) H):rCm g o va vb H Q:=by
 refine⟨S,da,db,ra,rb,?_⟩;cases e:qk o da db with
 |ok z=>rw[e]at q;exact k z e q
 |ex z=>exact D_ e
 |no=>rw[e]at q;exact q
theorem tR.bnd{α β:Type}{H:Hp}{r:R α}{f:α->R β}{P:β->Prop}(h:tR g E H (r.bind f) P):tR g E H r λa=>tR g E H (f a) P:=by
 cases r with
 |ok a=>exact h
 |ex z=>exact h
 |no=>exact h
theorem wz(O:XO w g c E X){op:CmpOp}(ha:PE X a (tE w g c E ia))(hb:PE X b (tE w g c E ib))(hs:qr b=true):PE X (.Compare a [op] [b] pos) (tE w g c E (.cmp (c2 op) ia ib)):=
 PE.imp (xy (dJ O.K O.units op) ha hb (gU hs)) λσ H Q ⟨τ,S,se,k⟩=>by
  simp only[qz,qX,ze,zj,qV,zp,zk,qF,qH,qI,qC,qE,qS,qJ,qD,qw,qG,qB,qu,qK,qx,qU,qN,qM,qR,qQ,qT,qP]at k;refine zg se k λda va H1 e1 p1 k1=>zg (se.up p1.same) k1 λdb vb H2 e2 p2 k2=>?_
  exact dZ (r:=.no) (p1.rb.mono p2.same) p2.rb (tR.bnd k2) λz _ q=>q _ _ (bu.of (p1.same.trans p2.same) (.bl _) rfl)
theorem xt(O:XO w g c E X){op:CmpOp}(ha:PE X a (tE w g c E ia))(hb:PE X b (tE w g c E ib))(hs:qr b=true):PT X (.Compare a [op] [b] pos) (tT w g c E (.cmp (c2 op) ia ib)):=
 PT.imp (B6 (dJ O.K O.units op) ha hb (gU hs)) λσ H Q ⟨τ,S,se,k⟩=>by
  simp only[fO,fW,gi,gr,fV,fQ,fZ]at k;refine zg se k λda va H1 e1 p1 k1=>zg (se.up p1.same) k1 λdb vb H2 e2 p2 k2=>?_
  exact dZ (r:=.no) (p1.rb.mono p2.same) p2.rb k2 λz _ q=>⟨z,rfl,q _ (p1.same.trans p2.same)⟩
theorem DW(O:XO w g c E X){op Fb:CmpOp}(ha:PE X a (tE w g c E ia))(hb:PE X b (tE w g c E ib))(hd:PE X d (tE w g c E id'))(Fh:qr d=true):PE X (.Compare a [op,Fb] [b,d] pos) (tE w g c E (.cmp2 (c2 op) (c2 Fb) ia ib id')):=
 PE.imp (Bc (dJ O.K O.units op) (dJ O.K O.units Fb) ha hb hd (gU Fh)) λσ H Q ⟨τ,S,se,k⟩=>by
  simp only[qz,qX,ze,zj,qV,zp,zk,qF,qH,qI,qC,qE,qS,qJ,qD,qw,qG,qB,qu,qK,qx,qU,qN,qM,qR,qQ,qT,qP]at k;refine zg se k λda va H1 e1 p1 k1=>zg (se.up p1.same) k1 λdb vb H2 e2 p2 k2=>?_
  have s2:=p1.same.trans p2.same;refine dZ (r:=.no) (p1.rb.mono p2.same) p2.rb (tR.bnd k2) λz _ q=>⟨z,rfl,?_⟩
  cases z with
  |true=>
   exact zg (se.up s2) q λdd vd H3 e3 p3 k3=>dZ (r:=.no) (p2.rb.mono p3.same) p3.rb (tR.bnd k3) λz _ q=>q _ _ (bu.of (s2.trans p3.same) (.bl _) rfl)
  |false=>exact q _ _ (bu.of s2 (.bl _) rfl)
theorem vG(O:XO w g c E X){op Fb:CmpOp}(ha:PE X a (tE w g c E ia))(hb:PE X b (tE w g c E ib))(hd:PE X d (tE w g c E id'))(Fh:qr d=true):PT X (.Compare a [op,Fb] [b,d] pos) (tT w g c E (.cmp2 (c2 op) (c2 Fb) ia ib id')):=
 PT.imp (Ay (dJ O.K O.units op) (dJ O.K O.units Fb) ha hb hd (gU Fh)) λσ H Q ⟨τ,S,se,k⟩=>by
  simp only[fO,fW,gi,gr,fV,fQ,fZ]at k;refine zg se k λda va H1 e1 p1 k1=>zg (se.up p1.same) k1 λdb vb H2 e2 p2 k2=>?_
  have s2:=p1.same.trans p2.same;refine dZ (r:=.no) (p1.rb.mono p2.same) p2.rb (tR.bnd k2) λz _ q=>⟨z,rfl,?_⟩
  cases z with
  |true=>
   exact zg (se.up s2) q λdd vd H3 e3 p3 k3=>dZ (r:=.no) (p2.rb.mono p3.same) p3.rb k3 λz _ q=>⟨z,rfl,q _ (s2.trans p3.same)⟩
  |false=>exact⟨false,rfl,q _ s2⟩
theorem yW(O:XO w g c E X){op Fb Fc:CmpOp}(ha:PE X a (tE w g c E ia))(hb:PE X b (tE w g c E ib))(hd:PE X d (tE w g c E id'))(hf:PE X f (tE w g c E if'))(Fh:qr f=true):PE X (.Compare a [op,Fb,Fc] [b,d,f] pos) (tE w g c E (.cmp3 (c2 op) (c2 Fb) (c2 Fc) ia ib id' if')):=
 PE.imp (DT (dJ O.K O.units op) (dJ O.K O.units Fb) (dJ O.K O.units Fc) ha hb hd hf (gU Fh)) λσ H Q ⟨τ,S,se,k⟩=>by
  simp only[qz,qX,ze,zj,qV,zp,zk,qF,qH,qI,qC,qE,qS,qJ,qD,qw,qG,qB,qu,qK,qx,qU,qN,qM,qR,qQ,qT,qP]at k;refine zg se k λda va H1 e1 p1 k1=>zg (se.up p1.same) k1 λdb vb H2 e2 p2 k2=>?_
  have s2:=p1.same.trans p2.same;refine dZ (r:=.no) (p1.rb.mono p2.same) p2.rb (tR.bnd k2) λz _ q=>⟨z,rfl,?_⟩
  cases z with
  |true=>
   refine zg (se.up s2) q λdd vd H3 e3 p3 k3=>dZ (r:=.no) (p2.rb.mono p3.same) p3.rb (tR.bnd k3) λz _ q=>⟨z,rfl,?_⟩
   have s3:=s2.trans p3.same;cases z with
   |true=>exact zg (se.up s3) q λdf vf H4 e4 p4 k4=>dZ (r:=.no) (p3.rb.mono p4.same) p4.rb (tR.bnd k4) λz _ q=>q _ _ (bu.of (s3.trans p4.same) (.bl _) rfl)
   |false=>exact q _ _ (bu.of s3 (.bl _) rfl)
  |false=>exact q _ _ (bu.of s2 (.bl _) rfl)
theorem uS{a b c d:Expr}{ta tb tc td:TE}{pos:Pos}{op Fb Fc:CmpOp}{r r' Gw:R2}(ho:OpR X (a6 op) r)(Fu:OpR X (a6 Fb) r')(Hm:OpR X (a6 Fc) Gw)(ha:PE X a ta)(hb:PE X b tb)(hc:PE X c tc)(hd:PE X d td)
  (hm:lastMarks [op,Fb,Fc] [b,c,d]=false):PT X (.Compare a [op,Fb,Fc] [b,c,d] pos) (mz (n6 r r' Gw ta tb tc td)):=by
 intro pins s σ H Q I h;refine isTrue_chain (thn (ha pins s σ H _ I h) λv s1 ⟨x,H1,I1,r1,q1⟩=>test_link (thn (hb pins s1 σ H1 _ I1 q1) λu s2 ⟨y,H2,I2,r2,q2⟩=>
  thn (ho pins s2 σ H2 x y v u _ I2 r1 r2 q2) λd s3 ⟨z,H3,I3,r3,k,e,q3⟩=>?_)) hm
 subst e;cases r3;refine bJ ?_;cases k with
 |false=>
  obtain⟨k',e',q'⟩:=q3;cases e';exact ite_ff ⟨H3,I3,q'⟩
 |true=>
  refine ite_tt (test_link (thn (hc pins s3 σ H3 _ I3 q3) λw' s4 ⟨z',H4,I4,r4,q4⟩=>thn (Fu pins s4 σ H4 y z' u w' _ I4 r2 r4 q4) λd' s5 ⟨z2,H5,I5,r5,k2,e2,q5⟩=>?_));subst e2;cases r5;refine bJ ?_;cases k2 with
  |false=>
   obtain⟨k',e',q'⟩:=q5;cases e';exact ite_ff ⟨H5,I5,q'⟩
  |true=>
   refine ite_tt (test_last (thn (hd pins s5 σ H5 _ I5 q5) λIe s6 ⟨z3,H6,I6,r6,q6⟩=>thn (Hm pins s6 σ H6 z' z3 w' Ie _ I6 r4 r6 q6) λNz s7 ⟨z4,H7,I7,r7,k4,e4,q7⟩=>?_));subst e4;cases r7;exact bJ ⟨H7,I7,q7⟩
theorem R.bind_assoc{α β γ:Type}(r:R α)(f:α->R β)(h:β->R γ):(r.bind f).bind h=r.bind λa=>(f a).bind h:=by cases r<;>rfl
theorem De(O:XO w g c E X){op Fb Fc:CmpOp}(ha:PE X a (tE w g c E ia))(hb:PE X b (tE w g c E ib))(hd:PE X d (tE w g c E id'))(hf:PE X f (tE w g c E if'))(Fh:qr f=true):PT X (.Compare a [op,Fb,Fc] [b,d,f] pos) (tT w g c E (.val (.cmp3 (c2 op) (c2 Fb) (c2 Fc) ia ib id' if'))):=
 PT.imp (uS (dJ O.K O.units op) (dJ O.K O.units Fb) (dJ O.K O.units Fc) ha hb hd hf (gU Fh)) λσ H Q ⟨τ,S,se,k⟩=>by
  simp only[fO,fW,gi,gr,fV,fQ,fZ,qz,qX,ze,zj,qV,zp,zk,qF,qH,qI,qC,qE,qS,qJ,qD,qw,qG,qB,qu,qK,qx,qU,qN,qM,qR,qQ,qT,qP,R.bind_assoc]at k;refine zg se k λda va H1 e1 p1 k1=>zg (se.up p1.same) k1 λdb vb H2 e2 p2 k2=>?_
  have s2:=p1.same.trans p2.same;refine dZ (r:=.no) (p1.rb.mono p2.same) p2.rb (tR.bnd k2) λz _ q=>⟨z,rfl,?_⟩
  cases z with
  |true=>
   simp only[if_true,R.bind_assoc]at q;refine zg (se.up s2) q λdd vd H3 e3 p3 k3=>dZ (r:=.no) (p2.rb.mono p3.same) p3.rb (tR.bnd k3) λz _ q=>⟨z,rfl,?_⟩
   have s3:=s2.trans p3.same;cases z with
   |true=>
    simp only[if_true,R.bind_assoc]at q;exact zg (se.up s3) q λdf vf H4 e4 p4 k4=>dZ (r:=.no) (p3.rb.mono p4.same) p4.rb (tR.bnd k4) λz _ q=>⟨z,rfl,q _ (s3.trans p4.same)⟩
   |false=>exact⟨false,rfl,q _ s3⟩
  |false=>exact⟨false,rfl,q _ s2⟩
theorem Cj(ht:PT X d (tT w g c E ta))(ha:PE X a (tE w g c E ia))(hb:PE X b (tE w g c E ib))(h1:esc ia=true)(h2:esc ib=true):PE X (.IfExp d a b pos) (tE w g c E (.ite ta ia ib)):=
 PE.imp (wj ht ha hb) λσ H Q ⟨τ,S,se,k⟩=>by
  simp only[qz,qX,ze,zj,qV,zp,zk,qF,qH,qI,qC,qE,qS,qJ,qD,qw,qG,qB,qu,qK,qx,qU,qN,qM,qR,qQ,qT,qP]at k;refine j9 se k λz H1 e1 s1 k1=>?_
  cases z with
  |true=>exact⟨τ,S,se.up s1,tR.imp k1 λdd hk v H' p=>hk v H' (p.passC s1 h1 rfl λz=>(fX z).1)⟩
  |false=>exact⟨τ,S,se.up s1,tR.imp k1 λdd hk v H' p=>hk v H' (p.passC s1 h2 rfl λz=>(fX z).2)⟩
theorem EC{e:Expr}{ie:EV.E}(h:PE X e (tE w g c E ie)):PE X e (tE w g c E (iT c ie)):=by
 unfold iT;split
 ·rename_i f es
  split
  ·rename_i hg
   refine PE.imp h λσ H Q ⟨τ,S,se,k⟩=>⟨τ,S,se,?_⟩
   have e1:evE w (.lstc f es) τ=(evE w (.call f es) τ).bind λd=>if zl d then .ok d else .no:=by
    simp only[qz,qX,ze,zj,qV,zp,zk,qF,qH,qI,qC,qE,qS,qJ,qD,qw,qG,qB,qu,qK,qx,qU,qN,qM,qR,qQ,qT,qP];cases qA w es τ<;>rfl
   rw[e1]at k;cases q:evE w (.call f es) τ with
   |ok d=>
    rw[q]at k;simp only[R.bind_ok]at k;cases hl:zl d with
    |true=>
     rw[hl,if_pos rfl]at k;exact λv H' p=>k v H' ⟨p.same,p.rb,λ_=>p.st rfl,λz=>p.frc z hl,λz _=>p.frc z hl⟩
    |false=>rw[hl]at k;exact k.elim
   |ex z=>rw[q]at k;exact k
   |no=>rw[q]at k;exact k
  ·exact h
 ·exact h
theorem tY:PA X [] (tA w g c E .nil):=PA.imp g8 λσ H Q ⟨τ,S,se,k⟩=>k [] H (qf.refl _) .nil λ_=>.nil
theorem yP{es:List Expr}{ies:Es}(ha:PE X a (tE w g c E ia))(hr:PA X es (tA w g c E ies))(hs:isStar a=false):PA X (a::es) (tA w g c E (.cons ia ies)):=
 PA.imp (gk ha hr (za hs)) λσ H Q ⟨τ,S,se,k⟩=>by
  simp only[qA]at k;refine zg se k λda va H1 e1 p1 k1=>gG (se.up p1.same) k1 λds vs H2 e2 s2 r2 L' k2=>k2 _ _ (p1.same.trans s2) (.cons (p1.rb.mono s2) r2) λz=>?_
  simp only[dq,aQ]at z;exact .cons ((p1.st z.1).mono (qg s2)) (L' z.2)
theorem my:∀{es:Es}{τ:Env}{ds:List D}{l:List Expr}{n:Nat},cEs n c l=some es->qA w es τ=.ok ds->ds.length=l.length
 |_,_,_,l,0,h,_=>by simp[cEs]at h
 |es,τ,ds,[],n+1,h,e=>by
  simp only[cEs,cn]at h;subst h;simp only[qA,R.ok.injEq]at e;subst e;rfl
 |es,τ,ds,x::l,n+1,h,e=>by
  simp only[cEs]at h;cases hs:isStar x with
  |true=>simp[hs]at h
  |false=>
   simp only[hs,bp,if_false,bQ,bE]at h;obtain⟨i1,_,r,hr,h⟩:=h;cases h;simp only[qA]at e;cases q:evE w i1 τ with
   |ok z=>
    rw[q]at e;simp only[R.bind_ok]at e;cases q2:qA w r τ with
    |ok zs=>
     rw[q2]at e;cases e;simp[my hr q2]
    |ex z=>rw[q2]at e;cases e
    |no=>rw[q2]at e;cases e
   |ex z=>rw[q]at e;cases e
   |no=>rw[q]at e;cases e
theorem sX{n:Nat}(h:n<=100000):n<=sizeLine:=a8 h (by rw[bx];decide)
theorem wI{es:List Expr}{ies:Es}{k:Nat}(ha:PA X es (tA w g c E ies))(he:dq ies=true)(hl:∀τ ds,qA w ies τ=.ok ds->ds.length<=100000):PE X (.Tuple es k pos) (tE w g c E (.tup ies)):=
 PE.imp (CL ha) λσ H Q ⟨τ,S,se,k⟩=>by
  simp only[qz,qX,ze,zj,qV,zp,zk,qF,qH,qI,qC,qE,qS,qJ,qD,qw,qG,qB,qu,qK,qx,qU,qN,qM,qR,qQ,qT,qP]at k;refine gG se k λds vs H1 e1 s1 r1 r1' k1=>?_
  have r:=r1' he;exact⟨by rw[<-r.length];exact sX (hl _ _ e1),λp hp=>k1 _ _ (bu.of (s1.trans (zi hp)) (jN (se.sub.same s1) hp r) rfl)⟩
theorem uH{es:List Expr}{ies:Es}(ha:PA X es (tA w g c E ies))(he:dq ies=true)(hl:∀τ ds,qA w ies τ=.ok ds->ds.length<=100000):PE X (.List es pos) (tE w g c E (.lst ies)):=
 PE.imp (BW ha) λσ H Q ⟨τ,S,se,k⟩=>by
  simp only[qz,qX,ze,zj,qV,zp,zk,qF,qH,qI,qC,qE,qS,qJ,qD,qw,qG,qB,qu,qK,qx,qU,qN,qM,qR,qQ,qT,qP]at k;refine gG se k λds vs H1 e1 s1 r1 r1' k1=>?_
  have r:=r1' he;exact⟨by rw[<-r.length];exact sX (hl _ _ e1),λp hp=>k1 _ _ (bu.new (s1.trans (zi hp)) (fI (se.sub.same s1) hp r) (fT s1 hp r))⟩
theorem vL{b:Expr}(h:isSlice b=false):mU b:=λo i=>by cases b<;>first|rfl|(exact Bool.noConfusion h)
theorem yI(O:XO w g c E X)(ha:PE X a (tE w g c E ia))(hb:PE X b (tE w g c E ib))(hs:isSlice b=false):PE X (.Subscript a b pos) (tE w g c E (.ix ia ib)):=
 PE.imp (tN (Dg O.K O.units) ha hb (vL hs)) λσ H Q ⟨τ,S,se,k⟩=>by
  simp only[qz,qX,ze,zj,qV,zp,zk,qF,qH,qI,qC,qE,qS,qJ,qD,qw,qG,qB,qu,qK,qx,qU,qN,qM,qR,qQ,qT,qP]at k;refine zg se k λda va H1 e1 p1 k1=>zg (se.up p1.same) k1 λdb vb H2 e2 p2 k2=>⟨S,da,db,p1.rb.mono p2.same,p2.rb,?_⟩
  cases q:ixD da db with
  |ok r=>rw[q]at k2;exact λv r=>k2 v H2 (bu.of (p1.same.trans p2.same) r rfl)
  |ex z=>exact u4 q
  |no=>rw[q]at k2;exact k2
theorem w6(O:XO w g c E X){lo hi:Option Expr}{il ih:OE}(ha:PE X a (tE w g c E ia))(hl:PO X lo (tOe w g c E il))(hh:PO X hi (tOe w g c E ih)):PE X (.Subscript a (.Slice lo hi none p2) pos) (tE w g c E (.sl ia il ih)):=
 PE.imp (wq (AI O.K) ha hl hh) λσ H Q ⟨τ,S,se,k⟩=>by
  simp only[qz,qX,ze,zj,qV,zp,zk,qF,qH,qI,qC,qE,qS,qJ,qD,qw,qG,qB,qu,qK,qx,qU,qN,qM,qR,qQ,qT,qP]at k;refine zg se k λda va H1 e1 p1 k1=>nQ (se.up p1.same) k1 λl H2 e2 s2 k2=>nQ (se.up (p1.same.trans s2)) k2 λh H3 e3 s3 k3=>?_
  have s:=(p1.same.trans s2).trans s3;refine⟨S,da,se.sub.same s,p1.rb.mono (s2.trans s3),?_⟩;cases q:slD da l h with
  |ok r=>rw[q]at k3;exact λv H' s' r=>k3 v H' (bu.of (s.trans s') r rfl)
  |ex z=>exact xv q
  |no=>rw[q]at k3;exact k3
theorem Ew:PO X none (tOe w g c E .none):=PO.imp wW λσ H Q ⟨τ,S,se,k⟩=>k H (qf.refl _)
theorem vk(ha:PE X a (tE w g c E ia)):PO X (some a) (tOe w g c E (.some ia)):=PO.imp (EA ha) λσ H Q ⟨τ,S,se,k⟩=>by
 simp only[evO]at k;refine zg se k λda va H1 e1 p1 k1=>?_
 cases da with
 |int i=>exact⟨i,p1.rb.int,k1 _ p1.same⟩
 |_=>exact k1.elim
theorem DK(O:XO w g c E X){x:Str}{fr:Bool}{e:Expr}{es:List Expr}{ies:Es}(h:glob c x=some (.fn fr))(ha:PA X (e::es) (tA w g c E ies))(he:dq ies=true)(hs:∀z∈e::es,isStar z=false):PE X (.Call (.Name x p2) (e::es) [] pos) (tE w g c E (.call x ies)):=by
 obtain⟨f,h1,h2⟩:=O.gm h;refine PE.imp (oi O h2 (O.gl h) (zG h).2.2.1 ha hs) λσ H Q ⟨τ,S,se,k⟩=>?_
 simp only[qz,qX,ze,zj,qV,zp,zk,qF,qH,qI,qC,qE,qS,qJ,qD,qw,qG,qB,qu,qK,qx,qU,qN,qM,qR,qQ,qT,qP]at k;refine gG se k λds vs H1 e1 s1 r1 r1' k1=>⟨S,ds,se.sub.same s1,by rw[cb];exact r1' he,tR.imp k1 λdd hk v H' s' r f=>hk v H' ⟨s1.trans s',.inl r,λ_=>r,(λz=>by cases z),λz l=>?_⟩⟩
 simp only[zF,(zG h).2.1,beq_iff_eq,cn,GK.fn.injEq]at z;exact(f z l).low s1
def LD(o:HO):Prop:=((∃vs,o=.lst vs)\/∃m,o=.dK m)\/∃φ,o=.ext φ
theorem cg.ld{H:Hp}{a:Addr}{d:D}{o:HO}(h:cg g H a d o):LD o:=by
 cases h with
 |lst r=>exact .inl (.inl ⟨_,rfl⟩)
 |dic k xs ep e=>exact .inr ⟨_,rfl⟩
 |dct q r=>exact .inr ⟨_,rfl⟩
theorem tD{H:Hp}{S S':Sh}(hL:∀a,S'.h a=false->S.h a=true->∃o,H a=some o/\LD o){K:aA}{a:Addr}{xs:List V}(q:SqT K (hid H S') a xs):SqT K (hid H S) a xs:=by
 have key:∀o:HO,¬ LD o->hid H S' a=some o->hid H S a=some o:=λo ho z=>by
  obtain⟨z1,z2⟩:=bC.mp z;refine bC.mpr ⟨?_,z2⟩;cases y:S.h a with
  |false=>rfl
  |true=>
   obtain⟨o',e,ld⟩:=hL a z1 y;rw[z2]at e;cases e;exact absurd ld ho
 rcases q with (q|⟨o,q⟩)|q
 ·exact .inl (.inl (key _ (by rintro((⟨_,z⟩|⟨_,z⟩)|⟨_,z⟩)<;>cases z) q))
 ·exact .inl (.inr ⟨o,key _ (by rintro((⟨_,z⟩|⟨_,z⟩)|⟨_,z⟩)<;>cases z) q⟩)
 ·exact .inr q
theorem u9{H:Hp}{S S':Sh}(hL:∀a,S'.h a=false->S.h a=true->∃o,H a=some o/\LD o){d:D}{v:V}(hn:d.noL=true)(h:Rep g (hid H S') d v):Rep g (hid H S) d v:=
 h.rec (motive_1:=λd v _=>d.noL=true->Rep g (hid H S) d v) (motive_2:=λd v _=>d_ d=true->qi g (hid H S) d v) (λ_=>.non) (λb _=>.bl b) (λb _=>.int b) (λb _=>.str b) (λq _ r p=>.tup (tD hL q) (r p)) (λ_ _ _ p=>nomatch p) (λ_ p=>nomatch p) (λ_ _ p=>nomatch p) (λ_ p=>nomatch p) (λ_ _ _ _ p=>nomatch p) (λ_=>.nil) (λ_ _ a b p=>.cons (a (fX p).1) (b (fX p).2)) hn
theorem yE{H:Hp}{S S':Sh}(hL:∀a,S'.h a=false->S.h a=true->∃o,H a=some o/\LD o){d:List D}{v:List V}(hn:d_ d=true)(h:qi g (hid H S') d v):qi g (hid H S) d v:=
 h.rec (motive_1:=λd v _=>d.noL=true->Rep g (hid H S) d v) (motive_2:=λd v _=>d_ d=true->qi g (hid H S) d v) (λ_=>.non) (λb _=>.bl b) (λb _=>.int b) (λb _=>.str b) (λq _ r p=>.tup (tD hL q) (r p)) (λ_ _ _ p=>nomatch p) (λ_ p=>nomatch p) (λ_ _ p=>nomatch p) (λ_ p=>nomatch p) (λ_ _ _ _ p=>nomatch p) (λ_=>.nil) (λ_ _ a b p=>.cons (a (fX p).1) (b (fX p).2)) hn
noncomputable def fU(S:Sh)(L:List Addr):Sh:=⟨λ_=>false,λb=>S.h b && !L.contains b,S.z,S.y⟩
theorem m_{H:Hp}{S:Sh}{L:List Addr}:qf (hid H S) (hid H (fU S L)):=λb o h=>by
 obtain⟨h1,h2⟩:=bC.mp h;exact bC.mpr ⟨by show (S.h b&&_)=false;rw[h1];rfl,h2⟩
theorem Ci{H:Hp}{S:Sh}{L:List Addr}{a:Addr}:qf (hid H (fU S L)) (hid H (fU S (a::L))):=λb o h=>by
 obtain⟨h1,h2⟩:=bC.mp h;refine bC.mpr ⟨?_,h2⟩;have h1:(S.h b && !L.contains b)=false:=h1;show (S.h b && !(a::L).contains b)=false;cases q:S.h b with
 |false=>rfl
 |true=>
  rw[q]at h1;have h1:L.contains b=true:=by simpa using h1
  simp only[List.contains_cons,h1,Bool.or_true];rfl
theorem seen{H:Hp}{S:Sh}:∀{ds:List D}{vs:List V},fk g H S ds vs->∃L:List Addr,(∀a∈L,∃o,H a=some o/\LD o)/\qi g (hid H (fU S L)) ds vs
 |_,_,.nil=>⟨[],by simp,.nil⟩
 |_,_,.cons r t=>by
  obtain⟨L,h1,h2⟩:=seen t;rcases r with r|⟨a,o,z1,rfl,z4,z5⟩
  ·exact⟨L,h1,.cons (r.mono m_) h2⟩
  ·refine⟨a::L,λb hb=>?_,.cons (z5.rep m_ (bC.mpr ⟨?_,z4⟩)) (h2.mono Ci)⟩
   ·rcases aM.mp hb with rfl|hb
    ·exact⟨o,z4,z5.ld⟩
    ·exact h1 b hb
   ·show (S.h a && !(a::L).contains a)=false;simp
theorem D2(O:XO w g c E X){x:Str}{e:Expr}{es:List Expr}{ies:Es}(h:glob c x=some (.fn true))(ha:PA X (e::es) (tA w g c E ies))(hs:∀z∈e::es,isStar z=false):PE X (.Call (.Name x p2) (e::es) [] pos) (tE w g c E (.callf x ies)):=by
 obtain⟨f,h1,h2⟩:=O.gm h;refine PE.imp (oi O h2 (O.gl h) (zG h).2.2.1 ha hs) λσ H Q ⟨τ,S,se,k⟩=>?_
 simp only[qz,qX,ze,zj,qV,zp,zk,qF,qH,qI,qC,qE,qS,qJ,qD,qw,qG,qB,qu,qK,qx,qU,qN,qM,qR,qQ,qT,qP]at k;refine gG se k λds vs H1 e1 s1 r1 r1' k1=>?_
 obtain⟨L,hL,rr⟩:=seen r1;refine⟨fU S L,ds,λa ha=>?_,by rw[cb];exact rr,?_⟩
 ·refine se.sub.same s1 a ?_;rcases ha with ha|ha
  ·have ha:(S.h a && !L.contains a)=true:=ha;exact .inl (aQ _ _▸ha).1
  ·cases ha
 ·have up:∀{H':Hp},qf H1 H'->∀a,(fU S L).h a=false->S.h a=true->∃o,H' a=some o/\LD o:=λ{H'} s' a z1 z2=>by
   have z1:(S.h a && !L.contains a)=false:=z1;rw[z2]at z1;obtain⟨us,e,ld⟩:=hL a (by simpa using z1);exact⟨us,s' _ _ e,ld⟩
  cases q:w.call x ds with
  |ok d=>
   rw[q]at k1;simp only[R.bind_ok]at k1;by_cases hl:∃xs,d=.lst xs
   ·obtain⟨xs,rfl⟩:=hl;simp only[g_]at k1;split at k1
    ·rename_i hd
     intro v H' s' r f;obtain⟨p,o,rfl,z1,z2,z3⟩:=f rfl rfl;cases z3 with
     | @lst _ us z3=>
      have FT:=se.sub.same s1;refine k1 _ H' (bu.of (s1.trans s') (.lst (SqL.of (bC.mpr ⟨FT.free z1,z2⟩)) (yE (S':=qY (fU S L) p) (λa y1 y2=>up s' a ?_ y2) hd z3)) rfl);have y1:((fU S L).h a||a==p)=false:=y1;exact(Bool.or_eq_false_iff.mp y1).1
    ·exact k1.elim
   ·have e:g_ d=if d.noL then R.ok d else .no:=by
     cases d<;>first|rfl|exact absurd ⟨_,rfl⟩ hl
    rw[e]at k1;split at k1
    ·rename_i hd
     intro v H' s' r _;exact k1 v H' (bu.of (s1.trans s') (u9 (λa z1 z2=>up s' a z1 z2) hd r) rfl)
    ·exact k1.elim
  |ex z=>rw[q]at k1;exact λH' C sm hc=>k1 H' C sm hc
  |no=>rw[q]at k1;exact k1.elim
theorem SE.plus{τ:Env}{σ:L2.St}{H:Hp}{S:Sh}{p:Addr}{o:HO}(se:SE g c τ σ H S)(n:H p=none):SE g c τ σ (upd H p o) (qY S p):=by
 refine⟨se.len,λi d h=>?_,λa ha hn=>?_⟩
 ·obtain⟨v,h1,h2,h3⟩:=se.val i d h;refine⟨v,h1,?_,λx q1 q2=>(h3 x q1 q2).mono (gH n)⟩;rcases h2 with h2|⟨a,o',z1,z2,z3,z4⟩
  ·exact .inl (h2.mono (gH n))
  ·exact .inr ⟨a,o',z1,z2,zi n _ _ z3,z4.mono (gH n)⟩
 ·by_cases q:a=p
  ·rw[q,zw]at hn;cases hn
  ·rw[ql q]at hn;refine se.sub a ?_ hn;rcases ha with ha|ha
   ·have ha:(S.h a||a==p)=true:=ha;exact .inl (by simpa[q]using ha)
   ·exact .inr ha
theorem mD{H:Hp}{S:Sh}{xs:List EV.D}{x:V}{k:List Int}(h:zu g H S (.tup xs) x)(e:ints? xs=some k):∃b,x=.ref b/\SqT g.K (hid H S) b (k.map V.int):=by
 cases h.strong (by intro _ z;cases z)with
 |tup h2 r=>
  obtain⟨rfl,rfl⟩:=r.ints e;exact⟨_,rfl,h2⟩
theorem wJ(O:XO w g c E X){o:Expr}{ap cp:Pos}(hb:baseOk o=true)(ho:PE X o (tE w g c E ia))(ha:PE X a (tE w g c E ib))(hs:isStar a=false)(hl:(ap.endLine==cp.line)=true) :
  PE X (.Call (.Attribute o "get" ap) [a] [] cp) (tE w g c E (.dget ia ib)):=by
 have FV:=za (es:=[]) (env:=X.env) hs;have hu:=O.units;have hK:=O.K;refine PE.imp (WD.yQ (by lia) ho ha ⟨B5 hb,by rw[FV];rfl,hl,by rw[FV];rfl⟩) λσ H Q ⟨τ,S,se,k⟩=>?_
 simp only[qz,qX,ze,zj,qV,zp,zk,qF,qH,qI,qC,qE,qS,qJ,qD,qw,qG,qB,qu,qK,qx,qU,qN,qM,qR,qQ,qT,qP]at k;refine zg se k λda va H1 e1 p1 k1=>?_
 cases da with
 |dic kvs=>
  obtain⟨l,rfl,h1⟩:=p1.rb.dic;refine⟨l,rfl,.inl ⟨_,h1⟩,zg (se.up p1.same) k1 λdb vb H2 e2 p2 k2=>?_⟩;cases db with
  |int i=>
   have h2:=p2.rb.int;subst h2;refine .inl ⟨kvs,i,h1.mono p2.same,rfl,?_⟩;cases e:atK kvs i with
   |none=>simp only[gz,iC,e]at k2;exact k2 _ _ (bu.of (p1.same.trans p2.same) .non rfl)
   |some v=>simp only[gz,iC,e]at k2;exact k2 _ _ (bu.of (p1.same.trans p2.same) (.int v) rfl)
  |tup xs=>
   simp only[gz,iC]at k2;split at k2
   ·rename_i q
    cases List.isEmpty_iff.mp q;simp only[iP]at k2;cases ek:ints? xs with
    |none=>rw[ek]at k2;exact k2.elim
    |some kk=>
     rw[ek]at k2;obtain⟨b',rfl,Ff⟩:=i' p2.rb ek;obtain⟨ys,ep,h1,h3⟩:=h1;cases List.map_eq_nil_iff.mp h3;exact .inr ⟨b',[],[],[],kk,rfl,.inr ⟨rfl,ep,p2.same _ _ h1⟩,.nil,by rw[hK];exact Ff,k2 _ _ (bu.of (p1.same.trans p2.same) .non rfl)⟩
   ·exact k2.elim
  |_=>simp only[gz,iC,iP]at k2;split at k2<;>exact k2.elim
 |dct ks ds=>
  obtain⟨l,vs,ys,ep,rfl,h1,r1,r2⟩:=p1.rb.dct;refine⟨l,rfl,.inr ⟨_,_,h1⟩,zg (se.up p1.same) k1 λdb vb H2 e2 p2 k2=>?_⟩;cases db with
  |tup xs=>
   simp only[gz,iC,iP]at k2;cases ek:ints? xs with
   |none=>rw[ek]at k2;exact k2.elim
   |some kk=>
    rw[ek]at k2;dsimp only at k2;obtain⟨b',rfl,Ff⟩:=i' p2.rb ek;refine .inr ⟨b',ys,ks,vs,kk,rfl,.inl ⟨ep,p2.same _ _ h1⟩,by rw[hK];exact(r1.up qZ).up p2.same,by rw[hK];exact Ff,?_⟩;cases ea:WD.atT ks ds kk with
    |none=>rw[ea]at k2;rw[pj r1.len.1 r2 ea];exact k2 _ _ (bu.of (p1.same.trans p2.same) .non rfl)
    |some d=>
     rw[ea]at k2;obtain⟨v,hv,rv⟩:=mG r1.len.1 r2 ea;rw[hv];exact k2 _ _ (bu.of (p1.same.trans p2.same) (rv.mono (qg p2.same)) rfl)
  |_=>exact k2.elim
 |_=>exact k1.elim
theorem wO:PE X (.Dict [] [] pos) (tE w g c E .dic):=PE.imp WD.xC λσ H Q ⟨τ,S,se,k⟩ p hp=>by
 simp only[qz,qX,ze,zj,qV,zp,zk,qF,qH,qI,qC,qE,qS,qJ,qD,qw,qG,qB,qu,qK,qx,qU,qN,qM,qR,qQ,qT,qP]at k;exact k _ _ (bu.new (zi hp) (CW se.sub hp) (uC (qf.refl _) hp))
theorem nP{b:B1}{S:Sh}{H0 H:Hp}{ds:List D}{vs:List V}{Q:VK}{ies:Es}(s:qf H0 H)(hS:Sub S H)(r:fk g H S ds vs)(k:tR g E H (b1 b ds) λd=>∀v H',bu g c (.bi b ies) S H0 d v H'->Q v H'):rB1 g b vs H Q:=by
 refine⟨S,ds,hS,r,?_⟩;cases q:b1 b ds with
 |ok d=>
  rw[q]at k;have fw:fresh c (.bi b ies)=true->b=.list\/b=.sorted:=λz=>by cases b<;>first|exact .inl rfl|exact .inr rfl|exact Bool.noConfusion z
  exact λv H' s' r' f=>k v H' ⟨s.trans s',.inl r',λ_=>r',λz=>(f (fw z)).low s,λz _=>(f (fw z)).low s⟩
 |ex z=>exact Ar q
 |no=>rw[q]at k;exact k
theorem xh(O:XO w g c E X){x:Str}{b:B1}{e:Expr}{es:List Expr}{ies:Es}(h:glob c x=some (.bi b))(hc:X.calm=true\/b=.len\/b=.abs)(ha:PA X (e::es) (tA w g c E ies))(hs:∀z∈e::es,isStar z=false):PE X (.Call (.Name x p2) (e::es) [] pos) (tE w g c E (.bi b ies)):=by
 obtain⟨h1,h2,id,h3⟩:=O.gm h;have hb:=D3 b;rw[<-h2,h3]at hb;have FG:=rJ (X:=X) (g:=g) O.K O.units b (by rcases hc with z|z|z;exact .inl z;exact .inr (.inl z);exact .inr (.inr (.inl z)));rw[h3]at FG;refine PE.imp (pD FG (O.gl h) h1 hb ha (zG h).2.2.2 (zG h).2.2.1 (za (hs e aL)) (l6 λz hz=>hs z (aO _ hz))) λσ H Q ⟨τ,S,se,k⟩=>?_
 simp only[qz,qX,ze,zj,qV,zp,zk,qF,qH,qI,qC,qE,qS,qJ,qD,qw,qG,qB,qu,qK,qx,qU,qN,qM,qR,qQ,qT,qP]at k;exact gG se k λds vs H1 e1 s1 r1 r1' k1=>nP (ies:=ies) s1 (se.sub.same s1) r1 k1
theorem t7(O:XO w g c E X){x:Str}{n:String}{b:B1}{e:Expr}{es:List Expr}{ies:Es}(h:glob c x=some (.ty n (some b)))(ha:PA X (e::es) (tA w g c E ies))(hs:∀z∈e::es,isStar z=false):PE X (.Call (.Name x p2) (e::es) [] pos) (tE w g c E (.bi b ies)):=by
 obtain⟨h1,h2,_,h3⟩:=O.gm h;obtain⟨_,h4⟩:=h3 b rfl;have FG:=rJ (X:=X) (g:=g) O.K O.units b (by cases b<;>simp[b1V]at h4 ⊢);rw[h4]at FG;refine PE.imp (xu FG (O.gl h) h1 h2 ha (zG h).2.2.2 (zG h).2.2.1 (za (hs e aL)) (l6 λz hz=>hs z (aO _ hz))) λσ H Q ⟨τ,S,se,k⟩=>?_
 simp only[qz,qX,ze,zj,qV,zp,zk,qF,qH,qI,qC,qE,qS,qJ,qD,qw,qG,qB,qu,qK,qx,qU,qN,qM,qR,qQ,qT,qP]at k;exact gG se k λds vs H1 e1 s1 r1 r1' k1=>nP (ies:=ies) s1 (se.sub.same s1) r1 k1
end
section
variable{w:W}{g:Gc}{c:Cc}{E:XK}{X:Cx}{a b d f:Expr}{ia ib id' if':EV.E}{pos p2:Pos}{ta tb:T}
def clV(g:Gc)(vc:V):Cl->Prop
 | .ty n=>vc=.ty n/\(n∈["int","bool","str","list","tuple"]\/n = "ValueError")
 | .ex x=>∃D,g.clA x=some D/\vc=.ref D
theorem vP{x:D}{cl:Cl}:(∃t n,tyD x=some t/\cl=.ty n/\n≠"ValueError"/\cZ w x cl=.ok (.bl (h9 t n)))\/cZ w x cl=.no:=by
 unfold cZ;cases e:tyD x with
 |some t=>
  cases cl with
  |ty n=>
   by_cases hn:n = "ValueError"
   ·exact .inr (by simp[hn])
   ·exact .inl ⟨t,n,rfl,rfl,hn,by simp[hn]⟩
  |ex y=>exact .inr rfl
 |none=>exact .inr (by cases cl<;>rfl)
theorem yd(O:XO w g c E X){x:Str}{k:Expr}{cl:Cl}(h:glob c x=some .isi)(ha:PE X a (tE w g c E ia))(hk:i8 c k=some cl)(hs:isStar a=false):PE X (.Call (.Name x p2) [a,k] [] pos) (tE w g c E (.isi ia cl)):=by
 obtain⟨h1,rfl⟩:=O.gm h;obtain⟨y,q,rfl⟩:∃y q,k=.Name y q:=by
  cases k<;>first|exact⟨_,_,rfl⟩|(cases hk)
 obtain⟨vc,hv,hc⟩:∃vc,PE X (.Name y q) (tC vc)/\clV g vc cl:=by
  simp only[i8]at hk;split at hk
  ·rename_i n b e
   cases hk;obtain⟨z1,z2,z3,_⟩:=O.gm e;exact⟨.ty n,uF (O.gl e) z1 z2 rfl (zG e).2.2.2 (zG e).2.2.1,rfl,z3⟩
  ·rename_i e
   cases hk;obtain⟨C,z1,z2⟩:=O.gm e;exact⟨.ref C,lQ (O.gl e) z1 rfl (zG e).2.2.1,C,z2,rfl⟩
  ·rename_i e
   cases hk;obtain⟨C,z1,z2⟩:=O.gm e;exact⟨.ref C,lQ (O.gl e) z1 rfl (zG e).2.2.1,C,z2,rfl⟩
  ·exact oN hk
 refine PE.imp (pD (wG O.K) (O.gl h) h1 (by decide +kernel) (gk ha (gk hv g8 rfl) (za hs)) (by decide) (by decide) (za hs) rfl) λσ H Q ⟨τ,S,se,k⟩=>?_
 simp only[qz,qX,ze,zj,qV,zp,zk,qF,qH,qI,qC,qE,qS,qJ,qD,qw,qG,qB,qu,qK,qx,qU,qN,qM,qR,qQ,qT,qP]at k;refine zg se k λda va H1 e1 p1 k1=>?_
 rcases vP (w:=w) (x:=da) (cl:=cl)with ⟨t,n,z1,rfl,z2,z3⟩|z3
 ·rw[z3]at k1;obtain⟨rfl,hc|hc⟩:=hc
  ·exact⟨S,da,va,n,t,rfl,p1.rb,z1,hc,k1 _ _ (bu.of p1.same (.bl _) rfl)⟩
  ·exact absurd hc z2
 ·rw[z3]at k1;exact k1.elim
theorem m5(O:XO w g c E X)(ha:PE X a (tE w g c E ia))(he:∀whole,isTrue a X.env whole=(do let v <-whole;standAt a.pos;holding [v] (truthy v))):PT X a (tT w g c E (.val ia)):=
 PT.imp (CB ha he) λσ H Q ⟨τ,S,se,k⟩=>by
  simp only[fO,fW,gi,gr,fV,fQ,fZ]at k;refine zg se k λda va H1 e1 p1 k1=>?_
  cases q:truth da with
  |ok z=>rw[q]at k1;exact⟨z,uD O.K p1.rb q,k1 _ p1.same⟩
  |ex z=>exact absurd q EK
  |no=>rw[q]at k1;exact k1.elim
theorem tP(ha:PT X a (tT w g c E ta)):PT X (.UnaryOp .Not a pos) (tT w g c E (.not ta)):=
 PT.imp (wa ha) λσ H Q ⟨τ,S,se,k⟩=>by
  simp only[fO,fW,gi,gr,fV,fQ,fZ]at k;exact j9 se k λz H1 e1 s1 k1=>k1 _ s1
theorem vo{rest:List Expr}(ha:PT X a (tT w g c E ta))(hb:PW X (.BoolOp .And (b::rest) pos) (tT w g c E tb)):PW X (.BoolOp .And (a::b::rest) pos) (tT w g c E (.and ta tb)):=
 PW.imp (En ha hb) λσ H Q ⟨τ,S,se,k⟩=>by
  simp only[fO,fW,gi,gr,fV,fQ,fZ]at k;refine j9 se k λz H1 e1 s1 k1=>?_
  cases z with
  |true=>exact⟨τ,S,se.up s1,tR.imp k1 λb hk H' s=>hk H' (s1.trans s)⟩
  |false=>exact k1 _ s1
theorem yD{rest:List Expr}(ha:PT X a (tT w g c E ta))(hb:PW X (.BoolOp .Or (b::rest) pos) (tT w g c E tb)):PW X (.BoolOp .Or (a::b::rest) pos) (tT w g c E (.or ta tb)):=
 PW.imp (uA ha hb) λσ H Q ⟨τ,S,se,k⟩=>by
  simp only[fO,fW,gi,gr,fV,fQ,fZ]at k;refine j9 se k λz H1 e1 s1 k1=>?_
  cases z with
  |false=>exact⟨τ,S,se.up s1,tR.imp k1 λb hk H' s=>hk H' (s1.trans s)⟩
  |true=>exact k1 _ s1
theorem PI.or{tg e:Expr}{t t':TI}(h:PI X tg e t)(h':PI X tg e t'):PI X tg e (λσ H R=>t σ H R\/t' σ H R):=λpins s σ H R I q=>by
 rcases q with q|q
 ·exact h pins s σ H R I q
 ·exact h' pins s σ H R I q
theorem mS{K:aA}{a:Addr}{vs:List V}{ds:List D}{H:Hp}{S:Sh}(hl:SqL K H a vs)(r:qi g (hid H S) ds vs):Goes g (Itl K a) ds H S:=by
 refine⟨λi hi=>⟨vs,hl,by rw[<-r.length];exact hi⟩,λi d hd=>?_⟩;obtain⟨v,h1,h2⟩:=r.get hd;refine⟨⟨vs,v,hl,h1⟩,λx H' ⟨e,hx⟩=>?_⟩;subst e;have:=hx vs hl;rw[h1]at this;cases this;exact⟨qf.refl _,h2⟩
theorem rF{K:aA}{a:Addr}{vs:List V}{ds:List D}{H:Hp}{S:Sh}(hl:SqT K H a vs)(r:qi g (hid H S) ds vs):Goes g (Itt K a) ds H S:=by
 refine⟨λi hi=>⟨vs,hl,by rw[<-r.length];exact hi⟩,λi d hd=>?_⟩;obtain⟨v,h1,h2⟩:=r.get hd;refine⟨⟨vs,v,hl,h1⟩,λx H' ⟨e,hx⟩=>?_⟩;subst e;have:=hx vs hl;rw[h1]at this;cases this;exact⟨qf.refl _,h2⟩
theorem pI:∀{xs:List D}{k i:Nat}{d:D},(eJ k xs)[i]? = some d->∃x,xs[i]? = some x/\d=.tup [.int ((k+i:Nat):Int),x]
 | [],_,_,_,h=>by simp[eJ]at h
 |x::r,k,0,d,h=>by simp[eJ]at h;exact⟨x,rfl,by rw[<-h];rfl⟩
 |x::r,k,i+1,d,h=>by
  simp only[eJ,List.getElem?_cons_succ]at h;obtain⟨y,h1,h2⟩:=pI h;exact⟨y,by simpa using h1,by rw[h2,show k+1+i=k+(i+1)by lia]⟩
theorem rP:∀(xs:List D) (k:Nat),(eJ k xs).length=xs.length
 | [],_=>rfl
 |x::r,k=>by simp[eJ,rP r]
theorem pF{K:aA}{a:Addr}{vs:List V}{ds:List D}{H:Hp}{S:Sh}(hl:SqL K H a vs)(r:qi g (hid H S) ds vs)(hS:Sub S H):Goes g (Ite K a) (eJ 0 ds) H S:=by
 refine⟨λi hi=>⟨vs,hl,by rw[<-r.length,<-rP ds 0];exact hi⟩,λi d hd=>?_⟩;obtain⟨y,h0,rfl⟩:=pI hd;obtain⟨v,h1,h2⟩:=r.get h0;refine⟨⟨vs,v,hl,h1⟩,λx H' ⟨p,z,hp,e1,e2,hx⟩=>?_⟩;subst e1 e2;have:=hx vs hl;rw[h1]at this;cases this;refine⟨zi hp,?_⟩;rw[Nat.zero_add];exact jN hS hp (.cons (.int _) (.cons h2 .nil))
theorem kl{lo:Int}{n:Nat}{H:Hp}{S:Sh}:Goes g (Itr lo n) (zA lo n) H S:=by
 refine⟨λi hi=>by show n<=i;simpa[zA]using hi,λi d hd=>?_⟩;unfold zA at hd;rw[List.getElem?_map]at hd;cases q:(aX n)[i]? with
 |none=>rw[q]at hd;exact oN hd
 |some j=>
  rw[q]at hd;cases hd;have hi:=(List.getElem?_eq_some_iff.mp q)
  obtain⟨h1,h2⟩:=hi;simp at h1 h2;subst h2;exact⟨h1,λx H' ⟨e1,e2⟩=>by subst e1 e2;exact⟨qf.refl _,.int _⟩⟩
theorem oU{K:aA}{H:Hp}{i:Nat}{k:List Int}:∀{ks:List (List Int)}{vs:List V}{xs:List WD.E3},WD.qW K H ks vs xs->ks[i]? = some k->∃e,xs[i]? = some e/\SqT K H e.2.1 (k.map V.int)
 | [],_,_,_,h=>by cases h
 |k'::ks,_,_,.cons h1 h2 r,h=>by
  cases i with
  |zero=>cases h;exact⟨_,rfl,h1⟩
  |succ i=>exact oU (i:=i) r h
theorem mF{a:Addr}{xs:List WD.E3}{ep:Nat}{ks:List (List Int)}{vs:List V}{H:Hp}{S:Sh}(h:H a=some (WD.zD a xs ep))(r:WD.qW g.K (hid H S) ks vs xs):Goes g (WD.Itd a xs ep) (ks.map λk=>EV.D.tup (k.map EV.D.int)) H S:=by
 refine⟨λi hi=>⟨h,by rw[aV]at hi;rw[r.len.2];exact hi⟩,λi d hd=>?_⟩;rw[List.getElem?_map]at hd;cases q:ks[i]? with
 |none=>rw[q]at hd;exact oN hd
 |some k=>
  rw[q]at hd;cases hd;obtain⟨e,he,hs⟩:=oU r q;have hi:i<xs.length:=(List.getElem?_eq_some_iff.mp he).1;refine⟨⟨h,hi⟩,λx H' ⟨e1,e',Iu,ex⟩=>?_⟩;subst e1 ex;rw[he]at Iu;cases Iu;exact⟨qf.refl _,.tup hs (qi.ofInts _)⟩
theorem mw{a:Addr}{xs:List WD.N4}{ep:Nat}{H:Hp}{S:Sh}(h:H a=some (WD.cf a xs ep)):Goes g (WD.Itn a xs ep) ((xs.map WD.nk).map λp=>EV.D.int p.1) H S:=by
 refine⟨λi hi=>⟨h,by rw[aV,aV]at hi;exact hi⟩,λi d hd=>?_⟩;rw[bh,List.getElem?_map]at hd;cases q:xs[i]? with
 |none=>rw[q]at hd;exact oN hd
 |some k=>
  rw[q]at hd;cases hd;refine⟨⟨h,(List.getElem?_eq_some_iff.mp q).1⟩,λx H' ⟨e1,e',Iu,ex⟩=>?_⟩;subst e1 ex;rw[q]at Iu;cases Iu;exact⟨qf.refl _,.int _⟩
theorem C_(O:XO w g c E X){tg:Expr}(ha:PE X a (tE w g c E ia)):PI X tg a (tIt w g c E (.seq ia)):=
 PI.imp (PI.or (D5 ha) (PI.or (uz ha) (PI.or (WD.Bz ha) (WD.Eu ha)))) λσ H R ⟨τ,S,se,k⟩=>by
  have k0:=k;simp only[evI]at k;cases q:evE w ia τ with
  |ex z=>exact .inl ⟨τ,S,se,by rw[q]at k ⊢;exact k⟩
  |no=>rw[q]at k;exact k.elim
  |ok dd=>
   cases dd with
   |lst ds=>
    refine .inl (zg se k λda va H1 e1 p1 k1=>?_);rw[q]at e1;cases e1;obtain⟨ad,vs,rfl,h1,r1⟩:=p1.rb.lst;rw[<-O.K]at h1;refine⟨ad,rfl,⟨vs,h1⟩,k1 _ H1 p1.same (λH2 S2 s1 s2 _=>mS (s1.seq h1) (r1.mono s2)) λho H2 S2 s2 _=>?_⟩;have he:esc ia=true:=by
     cases ia<;>first|rfl|(exact Bool.noConfusion ho)
    cases p1.st he with
    |lst h2 r2=>exact mS (by rw[O.K];exact(s2.trans qZ).seq h2) (r2.mono s2)
   |tup ds=>
    refine .inr (.inl (zg se k λda va H1 e1 p1 k1=>?_));rw[q]at e1;cases e1;cases p1.rb.strong (by intro _ z;cases z)with
    |tup h2 r2=>
     refine⟨_,rfl,⟨_,by rw[O.K];exact eU qZ h2⟩,k1 _ H1 p1.same (λH2 S2 s1 s2 _=>rF (by rw[O.K];exact eU (s2.trans qZ) h2) (r2.mono s2)) λho H2 S2 s2 _=>rF (by rw[O.K];exact eU (s2.trans qZ) h2) (r2.mono s2)⟩
   |dct ks ds=>
    refine .inr (.inr (.inl (zg se k λda va H1 e1 p1 k1=>?_)));rw[q]at e1;cases e1;cases ho:owned (.seq ia)with
    |false=>
     have he:esc ia=true:=by
      cases ia<;>first|rfl|(exact Bool.noConfusion ho)
     cases p1.st he with
     |dct h2 r2 _=>
      exact⟨_,_,_,rfl,qZ _ _ h2,k1 _ H1 p1.same (λH2 S2 s1 s2 _=>mF (s1 _ _ (qZ _ _ h2)) (r2.up s2)) λ_ H2 S2 s2 _=>mF ((s2.trans qZ) _ _ h2) (r2.up s2)⟩
    |true=>
     obtain⟨a',vs,xs,ep,rfl,h1,r1,_⟩:=p1.rb.dct;exact⟨_,_,_,rfl,h1,k1 _ H1 p1.same (λH2 S2 s1 s2 _=>mF (s1 _ _ h1) (r1.up s2)) λFu=>by rw[ho]at Fu;cases Fu⟩
   |dic kvs=>
    refine .inr (.inr (.inr (zg se k λda va H1 e1 p1 k1=>?_)));rw[q]at e1;cases e1;cases ho:owned (.seq ia)with
    |false=>
     have he:esc ia=true:=by
      cases ia<;>first|rfl|(exact Bool.noConfusion ho)
     cases p1.st he with
     |dic h2=>
      obtain⟨xs,ep,h2,e⟩:=h2;subst e;exact⟨_,_,_,rfl,qZ _ _ h2,k1 _ H1 p1.same (λH2 S2 s1 s2 _=>mw (s1 _ _ (qZ _ _ h2))) λ_ H2 S2 s2 _=>mw ((s2.trans qZ) _ _ h2)⟩
    |true=>
     obtain⟨a',rfl,xs,ep,h1,e⟩:=p1.rb.dic;subst e;exact⟨_,_,_,rfl,h1,k1 _ H1 p1.same (λH2 S2 s1 s2 _=>mw (s1 _ _ h1)) λFu=>by rw[ho]at Fu;cases Fu⟩
   |_=>rw[q]at k;exact k.elim
theorem l_{j:Int}(h:qy j=true):-1000000<=j/\j<=1000000:=by simpa[qy]using h
theorem xB(O:XO w g c E X){x:Str}{tg:Expr}(h:glob c x=some .rng)(ha:PE X a (tE w g c E ia))(hs:isStar a=false):PI X tg (.Call (.Name x p2) [a] [] pos) (tIt w g c E (.rng ia)):=by
 obtain⟨h1,rfl⟩:=O.gm h;refine PI.imp (Ei (O.gl h) h1 (gk ha g8 (za hs)) (za hs)) λσ H R ⟨τ,S,se,k⟩=>?_
 simp only[evI]at k;refine zg se k λda va H1 e1 p1 k1=>?_
 cases da with
 |int j=>
  simp only at k1;cases q:qy j with
  |true=>
   rw[q,if_pos rfl]at k1;obtain⟨z1,z2⟩:=l_ q;exact⟨j,by rw[p1.rb.int],by lia,by lia,k1 _ H1 p1.same (λ_ _ _ _ _=>kl) λ_ _ _ _ _=>kl⟩
  |false=>rw[q]at k1;exact k1.elim
 |_=>exact k1.elim
theorem u6(O:XO w g c E X){x:Str}{tg:Expr}(h:glob c x=some .rng)(ha:PE X a (tE w g c E ia))(hb:PE X b (tE w g c E ib))(hs:isStar a=false)(Fh:isStar b=false):PI X tg (.Call (.Name x p2) [a,b] [] pos) (tIt w g c E (.rng2 ia ib)):=by
 obtain⟨h1,rfl⟩:=O.gm h;refine PI.imp (ye (O.gl h) h1 (gk ha (gk hb g8 (za Fh)) (za hs)) (by rw[za hs,za Fh];rfl) (za Fh)) λσ H R ⟨τ,S,se,k⟩=>?_
 simp only[evI]at k;refine zg se k λda va H1 e1 p1 k1=>zg (se.up p1.same) k1 λdb vb H2 e2 p2 k2=>?_
 cases da with
 |int i=>
  cases db with
  |int j=>
   simp only at k2;cases q:qy i&&qy j with
   |true=>
    rw[q,if_pos rfl]at k2;simp only[aQ]at q;obtain⟨z1,z2⟩:=l_ q.1;obtain⟨z3,z4⟩:=l_ q.2;exact⟨i,j,by rw[p1.rb.int,p2.rb.int],⟨by lia,by lia,by lia,by lia⟩,k2 _ H2 (p1.same.trans p2.same) (λ_ _ _ _ _=>kl) λ_ _ _ _ _=>kl⟩
   |false=>rw[q]at k2;exact k2.elim
  |_=>exact k2.elim
 |_=>exact k2.elim
theorem uQ(O:XO w g c E X){x:Str}{es:List Expr}{ek:Nat}{FP:Pos}(h:glob c x=some .enum)(ha:PE X a (tE w g c E ia))(hs:isStar a=false):PI X (.Tuple es ek FP) (.Call (.Name x p2) [a] [] pos) (tIt w g c E (.enum ia)):=by
 obtain⟨h1,rfl⟩:=O.gm h;refine PI.imp (Af (O.gl h) h1 (by decide +kernel) (gk ha g8 (za hs)) (za hs)) λσ H R ⟨τ,S,se,k⟩=>?_
 simp only[evI]at k;refine zg se k λda va H1 e1 p1 k1=>?_
 cases da with
 |lst ds=>
  obtain⟨ad,vs,rfl,h1,r1⟩:=p1.rb.lst;rw[<-O.K]at h1;refine⟨ad,rfl,⟨vs,h1⟩,k1 _ H1 p1.same (λH2 S2 s1 s2 s3=>pF (s1.seq h1) (r1.mono s2) s3) λho H2 S2 s2 s3=>?_⟩;have he:esc ia=true:=by
   cases ia<;>first|rfl|(exact Bool.noConfusion ho)
  cases p1.st he with
  |lst h2 r2=>exact pF (by rw[O.K];exact(s2.trans qZ).seq h2) (r2.mono s2) s3
 |_=>exact k1.elim
theorem BG(O:XO w g c E X){x:Str}{es:List Expr}{ek:Nat}{FP:Pos}(h:glob c x=some .zip)(ha:PE X a (tE w g c E ia))(hb:PE X b (tE w g c E ib))(hs:isStar a=false)(Fh:isStar b=false):PI X (.Tuple es ek FP) (.Call (.Name x p2) [a,b] [] pos) (tIt w g c E (.zip ia ib)):=λpins s σ H R I ⟨τ,S,se,kk⟩=>by
 simp only[evI]at kk;exact bH kk
end
def iH:List Nat->TGs
 | []=>oD
 |i::is=>tj (eZ i) (iH is)
def gT(K:aA):Tg->TG
 | .nm i=>eZ i
 | .tp is=>tf K is.length (iH is)
section
variable{w:W}{g:Gc}{c:Cc}{E:XK}{X:Cx}
theorem zQ{x:Str}{i:Nat}(h:b7 c x=some i):loc c x=some i/\(c.nm.lookup x=some .local\/(c.nm.lookup x=some .cell/\(c.fnc=true\/c.oc.contains x=true))):=by
 unfold b7 at h;split at h
 ·rename_i q;exact⟨h,.inl q⟩
 ·rename_i q
  split at h
  ·rename_i z;exact⟨h,.inr ⟨q,by simpa using z⟩⟩
  ·exact oN h
 ·exact oN h
theorem n5(O:XO w g c E X){x:Str}{i:Nat}{pos:Pos}(h:b7 c x=some i):PG X (.Name x pos) (eZ i):=by
 obtain⟨h1,h2⟩:=zQ h;obtain⟨h3,_⟩:=zO h1;refine x_ (by rw[O.N];exact O.nd) (by rw[O.N];exact h3) (by unfold L2.Loc;rw[O.nm];rcases h2 with z|z;exact .inl z;exact .inr z.1) ?_;rcases h2 with z|z
 ·exact .inr (by rw[O.nm];exact z)
 ·exact .inl (O.fn x z.2)
theorem sA:∀{es:List Expr}{xs:List Str},hW es=some xs->∃ps:List Pos,es=(xs.zip ps).map (λp=>Expr.Name p.1 p.2)/\ps.length=xs.length
 | [],xs,h=>by simp[hW]at h;subst h;exact⟨[],rfl,rfl⟩
 |e::es,xs,h=>by
  cases e with
  |Name y p=>
   simp only[hW,bF]at h;obtain⟨ys,h1,rfl⟩:=h;obtain⟨ps,h2,h3⟩:=sA h1;exact⟨p::ps,by rw[h2];rfl,by simp[h3]⟩
  |_=>simp[hW]at h
theorem rN(O:XO w g c E X):∀{xs:List Str}{ps:List Pos}{is:List Nat},ps.length=xs.length->xs.mapM (b7 c)=some is ->
  PGs X ((xs.zip ps).map λp=>Expr.Name p.1 p.2) (iH is)/\(assignEach ((xs.zip ps).map λp=>Expr.Name p.1 p.2) X.env).length=is.length/\(assignEach ((xs.zip ps).map λp=>Expr.Name p.1 p.2) X.env).findIdx? (·.1)=none
 | [],ps,is,_,h=>by
  simp at h;subst h;exact⟨yv,rfl,rfl⟩
 |x::xs,[],_,h,_=>by simp at h
 |x::xs,p::ps,is,hl,h=>by
  simp only[List.mapM_cons,bQ,bE]at h;obtain⟨i,h1,js,h2,h3⟩:=h;cases h3;obtain⟨r1,r2,r3⟩:=rN O (xs:=xs) (ps:=ps) (by simpa using hl) h2;refine⟨Dm (n5 O h1) r1 rfl,?_,?_⟩
  ·show (assignEach ((xs.zip ps).map λp=>Expr.Name p.1 p.2) X.env).length+1=js.length+1;rw[r2]
  ·show List.findIdx? (·.1) ((false,_)::assignEach ((xs.zip ps).map λp=>Expr.Name p.1 p.2) X.env)=none;rw[List.findIdx?_cons];simp only[bp,if_false];rw[r3];rfl
theorem hX(O:XO w g c E X){e:Expr}{tg:Tg}(h:cTg c e=some tg):PG X e (gT X.K tg):=by
 cases e with
 |Name x p=>
  simp only[cTg]at h;split at h
  ·exact oN h
  ·simp only[bF]at h;obtain⟨i,h1,rfl⟩:=h;exact n5 O h1
 |Tuple es k p=>
  simp only[cTg]at h;split at h
  ·rename_i hc
   simp only[bQ,bE]at h;obtain⟨xs,h1,h⟩:=h;split at h
   ·exact oN h
   ·simp only[bE]at h;obtain⟨is,h2,h⟩:=h;split at h
    ·cases h;obtain⟨ps,rfl,hl⟩:=sA h1;obtain⟨r1,r2,r3⟩:=rN O hl h2;exact Aa (O.calm hc) r1 r2 r3
    ·exact oN h
  ·exact oN h
 |_=>simp[cTg]at h
def i4(c:Cc):Tg->Prop
 | .nm i=>∀x,c.N[i]? = some x->c.own.contains x=false
 | .tp is=>∀i∈is,∀x,c.N[i]? = some x->c.own.contains x=false
theorem oz{α β:Type}{f:α->Option β}:∀{xs:List α}{ys:List β},xs.mapM f=some ys->∀y∈ys,∃x∈xs,f x=some y
 | [],ys,h,y,hy=>by simp at h;subst h;simp at hy
 |x::xs,ys,h,y,hy=>by
  simp only[List.mapM_cons,bQ,bE]at h;obtain⟨z,h1,zs,h2,h3⟩:=h;cases h3;rcases aM.mp hy with rfl|hy
  ·exact⟨x,aL,h1⟩
  ·obtain⟨x',h4,h5⟩:=oz h2 y hy;exact⟨x',aO _ h4,h5⟩
theorem ph{e:Expr}{tg:Tg}(h:cTg c e=some tg):i4 c tg:=by
 have one:∀{x:Str}{i:Nat},c.own.contains x=false->b7 c x=some i->∀y,c.N[i]? = some y->c.own.contains y=false:=λ{x i} ho hl y hy=>by
  obtain⟨h3,_⟩:=zO (zQ hl).1;rw[h3]at hy;cases hy;exact ho
 cases e with
 |Name x p=>
  simp only[cTg]at h;split at h
  ·exact oN h
  ·rename_i ho
   simp only[bF]at h;obtain⟨i,h1,rfl⟩:=h;exact one (by simpa using ho) h1
 |Tuple es k p=>
  simp only[cTg]at h;split at h
  ·simp only[bQ,bE]at h;obtain⟨xs,h1,h⟩:=h;split at h
   ·exact oN h
   ·rename_i ho
    simp only[bE]at h;obtain⟨is,h2,h⟩:=h;split at h
    ·cases h;intro i hi;obtain⟨x,hx,hl⟩:=oz h2 i hi;refine one ?_ hl;cases q:c.own.contains x with
     |false=>rfl
     |true=>exact absurd (bK.mpr ⟨x,hx,q⟩) ho
    ·exact oN h
  ·exact oN h
 |_=>simp[cTg]at h
section
variable{τ τ':Env}{σ:L2.St}{H:Hp}{S:Sh}
theorem SE.set{i:Nat}{d:D}{v:V}(se:SE g c τ σ H S)(r:Rep g (hid H S) d v):SE g c (τ.set i (some d)) (σ.set i (some v)) H S:=by
 refine⟨by simp[se.len],λj e h=>?_,se.sub⟩;by_cases E1:i=j
 ·subst E1;by_cases hi:i<τ.length
  ·simp[hi]at h;subst h;have GL:i<σ.length:=by rw[<-se.len];exact hi
   exact⟨v,by simp[GL],.inl r,λ_ _ _=>r⟩
  ·rw[List.set_eq_of_length_le (by lia)]at h;rw[List.getElem?_eq_none (by lia)]at h;cases h
 ·rw[List.getElem?_set_ne E1]at h ⊢;exact se.val j e h
theorem SE.setAll{is:List Nat}:∀{ds:List D}{vs:List V}{τ:Env}{σ:L2.St}{Q:L2.St->Hp->Prop},SE g c τ σ H S->qi g (hid H S) ds vs->setAll is ds τ=.ok τ'->(∀σ',SE g c τ' σ' H S->Q σ' H)->iH is vs σ H Q:=by
 induction is with
 |nil=>
  intro ds vs τ σ Q se r h k;cases r with
  |nil=>cases (show R.ok τ=R.ok τ' from h);exact⟨rfl,k σ se⟩
  |cons _ _=>cases (show R.no=R.ok τ' from h)
 |cons i is ih=>
  intro ds vs τ σ Q se r h k;cases r with
  |nil=>cases (show R.no=R.ok τ' from h)
  |cons r rs=>exact⟨_,_,rfl,ih (se.set r) rs h k⟩
theorem sC(O:X.K=g.K){tg:Tg}{d:D}{v:V}{Q:L2.St->Hp->Prop}(se:SE g c τ σ H S)(r:Rep g (hid H S) d v)(h:store tg d τ=.ok τ')(k:∀σ',SE g c τ' σ' H S->Q σ' H):gT X.K tg v σ H Q:=by
 cases tg with
 |nm i=>
  simp only[store,R.ok.injEq]at h;subst h;exact k _ (se.set r)
 |tp is=>
  cases d with
  |tup ds=>
   simp only[store]at h;split at h
   ·rename_i hl
    cases r with
    |tup h1 r1=>exact⟨_,_,rfl,by rw[O];exact eU qZ h1,by rw[<-r1.length];exact hl,se.setAll r1 h k⟩
   ·cases h
  |_=>simp[store]at h
end
end
abbrev zr(c:Cc)(sc:aR):Cc:={c with nm:=h_ sc.names c.nm,N:=zm sc.names,fnc:=false,oc:=gB sc.names}
section
variable{w:W}{g:Gc}{c:Cc}{E:XK}{X:Cx}
theorem XO.comp(O:XO w g c E X){sc:aR}(hk:sc.kind=.function)(F4:(zm sc.names).Nodup)(cl:List (Str×Addr))(C:Addr)(s₀:af)(H₀:Hp)(fp:List Addr):XO w g (zr c sc) E0 (qq X (zm sc.names) sc cl C s₀ H₀ fp) where
 K:=O.K
 nm:=by
  show (relabel sc X.env).names=h_ sc.names c.nm;unfold relabel h_;simp only
  congr 1
  funext p;have h1:(X.env.scope.kind==ScopeKind.function)=true:=by rw[O.kind];rfl
  have h2:X.env.kindOf p.1=c.nm.lookup p.1:=by show X.env.scope.names.lookup p.1=_;rw[O.nm]
  obtain⟨n,k⟩:=p;simp only at h2;simp only[h1,h2,Bool.and_true]
 N:=rfl
 nd:=F4
 calm:=O.calm
 units:=O.units
 fn:=λx z=>z.elim (λz=>by cases z) λz=>z
 kind:=hk
 pass:=oJ rfl rfl
 gok:=O.gok
 fns:=O.fns
 sub:=O.sub
theorem pY{α:Type}{τ:Env}{σ:L2.St}{H:Hp}{S:Sh}{it:It}{f:List D->R α}{P:α->Prop}{R':L2.It->Hp->Prop}(se:SE g c τ σ H S)(h:tR g E H ((evI w it τ).bind f) P)
  (k:∀ds J H',evI w it τ=.ok ds->qf H H'->(∀H2 S2,qf H' H2->qf (hid H' S) (hid H2 S2)->Sub S2 H2->Goes g J ds H2 S2)->(owned it=false->∀H2 S2,qf (hid H' S) (hid H2 S2)->Sub S2 H2->Goes g J ds H2 S2)->tR g E H' (f ds) P->R' J H'):tIt w g c E it σ H R':=by
 refine⟨τ,S,se,?_⟩;cases q:evI w it τ with
 |ok d=>rw[q]at h;exact λJ H' s k1 k2=>k d J H' q s k1 k2 (tR.up h s)
 |ex x=>rw[q]at h;exact h
 |no=>rw[q]at h;exact h
theorem o9{α:Type}{r:R α}{x:Str}:noEx r≠.ex x:=by cases r<;>intro h<;>cases h
theorem su{α:Type}{r:R α}{a:α}(h:noEx r=.ok a):r=.ok a:=by cases r<;>first|exact h|cases h
theorem rD{body:D->Env->R (Env×List D)}(hb:∀d τ x,body d τ≠.ex x):∀{ds:List D}{τ:Env}{acc:List D}{x:Str},cL body ds τ acc≠.ex x
 | [],_,_,_,h=>by cases h
 |d::r,τ,acc,x,h=>by
  simp only[cL]at h;cases q:body d τ with
  |ok p=>rw[q]at h;exact rD hb h
  |ex y=>exact hb _ _ _ q
  |no=>rw[q]at h;cases h
theorem SE.caps{sc:aR}{cap:List (Option Nat)}{τ:Env}{σ:L2.St}{H:Hp}{S:Sh}(O:XO w g c E X)(hc:oR X (zm sc.names) cap sc)(se:SE g c τ σ H S):SE g (zr c sc) (dh cap τ) (L2.caps cap σ) H S:=by
 refine⟨by simp[dh,L2.caps],λi d h=>?_,se.sub⟩;unfold dh at h;rw[List.getElem?_map]at h;cases q:cap[i]? with
 |none=>rw[q]at h;cases h
 |some o=>
  cases o with
  |none=>rw[q]at h;cases h
  |some j=>
   rw[q]at h;simp only[Option.map_some,Option.bind_some,cn]at h;cases q2:τ[j]? with
   |none=>rw[q2]at h;cases h
   |some z=>
    rw[q2]at h;cases z with
    |none=>cases h
    |some d'=>
     have:d'=d:=by simpa using h
     subst this;obtain⟨v,h1,h2,h3⟩:=se.val j d' q2;refine⟨v,?_,h2,λx hx ho=>?_⟩
     ·unfold L2.caps;rw[List.getElem?_map,q];simp[h1]
     ·obtain⟨y,e1,e2,_⟩:=hc.2 i j q;have K4:(zm sc.names)[i]? = some x:=hx;rw[e1]at K4;cases K4;exact h3 _ (by rw[<-O.N];exact e2) ho
theorem gD{H:Hp}{S:Sh}{p:Addr}{o:HO}(h:S.h p=true):hid (upd H p o) S=hid H S:=by
 funext b;unfold hid;by_cases hb:b=p
 ·subst hb;rw[if_pos h,if_pos h]
 ·rw[ql hb]
theorem SE.grow{c:Cc}{τ:Env}{σ:L2.St}{H:Hp}{S:Sh}{p:Addr}{o:HO}(se:SE g c τ σ H S)(h:S.h p=true)(ho:S.o p=false):SE g c τ σ (upd H p o) S:=by
 refine⟨se.len,λi d e=>?_,λa ha n=>?_⟩
 ·obtain⟨v,h1,h2,h3⟩:=se.val i d e;refine⟨v,h1,?_,λx hx hy=>by rw[gD h];exact h3 x hx hy⟩;rcases h2 with h2|⟨a,o',z1,z2,z4,z5⟩
  ·exact .inl (by rw[gD h];exact h2)
  ·refine .inr ⟨a,o',z1,z2,?_,by rw[gD h];exact z5⟩;rw[ql (λz=>by rw[z,ho]at z1;cases z1)];exact z4
 ·by_cases hb:a=p
  ·subst hb;rw[zw]at n;cases n
  ·rw[ql hb]at n;exact se.sub a ha n
theorem SE.hide{c:Cc}{τ:Env}{σ:L2.St}{H:Hp}{S:Sh}{p:Addr}{vs:List V}(se:SE g c τ σ H S)(hp:H p=none):SE g c τ σ (upd H p (.lst vs)) (qY S p):=by
 refine⟨se.len,λi d e=>?_,λa ha n=>?_⟩
 ·obtain⟨v,h1,h2,h3⟩:=se.val i d e;refine⟨v,h1,?_,λx hx hy=>(h3 x hx hy).mono (gH hp)⟩;rcases h2 with h2|⟨a,o',z1,z2,z4,z5⟩
  ·exact .inl (h2.mono (gH hp))
  ·exact .inr ⟨a,o',z1,z2,zi hp _ _ z4,z5.mono (gH hp)⟩
 ·by_cases hb:a=p
  ·subst hb;rw[zw]at n;cases n
  ·rw[ql hb]at n;refine se.sub a ?_ n;rcases ha with ha|ha
   ·refine .inl ?_;have ha:(S.h a||a==p)=true:=ha
    simpa[hb]using ha
   ·exact .inr ha
theorem nz(O:XO w g c E X){sc:aR}{cap:List (Option Nat)}{E7:It}{E4:Tg}{tt:T}{Fq:EV.E}(hS:zq X (zm sc.names) cap sc)(he:esc Fq=true){σ:L2.St}{H:Hp}{Q:VK}(hq:tE w g c E (.comp E7 cap E4 tt Fq) σ H Q) :
  mJ cap (tIt w g c E E7) (gT X.K E4) (tT w g (zr c sc) E0 tt) (λacc=>jv acc (tE w g (zr c sc) E0 Fq)) σ H Q:=by
 obtain⟨τ,S,se,k⟩:=hq;simp only[qz,qX,ze,zj,qV,zp,zk,qF,qH,qI,qC,qE,qS,qJ,qD,qw,qG,qB,qu,qK,qx,qU,qN,qM,qR,qQ,qT,qP]at k;refine pY se k λds J H1 e1 s1 kW _ k1 acc E5=>?_
 by_cases hz:SZ<ds.length
 ·rw[if_pos hz]at k1;exact k1.elim
 rw[if_neg hz]at k1;generalize Fd:(λx σ=>noEx ((store E4 x σ).bind λσ'=>(evT w tt σ').bind λr=>if r=true then (evE w Fq σ').bind λd=>R.ok (σ',[d])else R.ok (σ',[])))=body at k1;have Iv:∀d τ x,body d τ≠.ex x:=λd τ x=>by rw[<-Fd];exact o9
 cases hl:cL body ds (dh cap τ) []with
 |ex z=>exact absurd hl (rD Iv)
 |no=>rw[hl]at k1;exact k1.elim
 |ok out=>
  rw[hl]at k1;simp only[R.bind_ok]at k1;have k1:∀v H',bu g c (.comp E7 cap E4 tt Fq) S H (.lst out) v H'->Q v H':=k1;have FT:=se.sub.same s1;have GB:S.o acc=false:=FT.freeO E5;have Fw:(qY S acc).h acc=true:=by show (S.h acc||acc==acc)=true;simp
  -- what holds between two turns
  refine⟨λi m σ' H'=>m=ds.length-i/\i<=ds.length/\∃τ' o,cL body (ds.drop i) τ' o=.ok out/\SE g (zr c sc) τ' σ' H' (qY S acc)/\o.length<=i/\qf H1 H'/\∃vs,H' acc=some (.lst vs)/\qi g (hid H' (qY S acc)) o vs,
   ⟨ds.length,rfl,bz _,dh cap τ,[],hl,(se.up s1).caps O hS.cap |>.hide E5,aF _,zi E5,[],zw,.nil⟩,?_⟩
  rintro i m σ' H' ⟨rfl,GL,τ',o,Fg,Iw,Ma,GY,vs,hv,hr⟩;have keep:qf (hid H1 S) (hid H' (qY S acc)):=λb u hb=>by
   obtain⟨z1,z2⟩:=bC.mp hb;refine bC.mpr ⟨?_,GY _ _ z2⟩;show (S.h b||b==acc)=false;rw[z1]
   simpa using λz:b=acc=>by rw[z,E5]at z2;cases z2
  obtain⟨g1,g2⟩:=kW H' (qY S acc) GY keep Iw.sub;by_cases EZ:i<ds.length
  ·have hd:ds[i]? = some ds[i]:=List.getElem?_eq_getElem EZ;obtain⟨Iy,go2⟩:=g2 i ds[i] hd;refine .inr ⟨Iy,λσ'' H''=>∃τ' o,cL body (ds.drop (i+1)) τ' o=.ok out/\SE g (zr c sc) τ' σ'' H'' (qY S acc)/\o.length<=i+1/\qf H1 H''/\∃vs,H'' acc=some (.lst vs)/\qi g (hid H'' (qY S acc)) o vs,
    λσ'' H'' z=>⟨ds.length-(i+1),by lia,rfl,EZ,z⟩,λx H2 hy=>?_⟩
   obtain⟨s2,rx⟩:=go2 x H2 hy;rw[eO EZ]at Fg;simp only[cL]at Fg;cases q:body ds[i] τ' with
   |ex z=>exact absurd q (Iv _ _ _)
   |no=>rw[q]at Fg;cases Fg
   |ok p=>
    rw[q]at Fg;simp only[R.bind_ok]at Fg;rw[<-Fd]at q;have q:=su q;cases q1:store E4 ds[i] τ' with
    |ex z=>rw[q1]at q;cases q
    |no=>rw[q1]at q;cases q
    |ok τ1=>
     rw[q1]at q;simp only[R.bind_ok]at q;refine sC O.K (Iw.up s2) rx q1 λσ1 GO=>?_
     cases q2:evT w tt τ1 with
     |ex z=>rw[q2]at q;cases q
     |no=>rw[q2]at q;cases q
     |ok r=>
      rw[q2]at q;simp only[R.bind_ok]at q;refine⟨τ1,qY S acc,GO,?_⟩;rw[q2];intro H3 s3;have Iz:=s3 _ _ (s2 _ _ hv);have IA:=GY.trans (s2.trans s3);cases r with
      |false=>
       simp only[bp,if_false,R.ok.injEq]at q;subst q;rw[if_neg bX];exact⟨τ1,o++[],Fg,GO.up s3,by simp;lia,IA,vs,Iz,by rw[cb];exact hr.mono (qg (s2.trans s3))⟩
      |true=>
       simp only[if_true]at q;rw[if_pos rfl];cases q3:evE w Fq τ1 with
       |ex z=>rw[q3]at q;cases q
       |no=>rw[q3]at q;cases q
       |ok dd=>
        rw[q3]at q;simp only[R.bind_ok,R.ok.injEq]at q;subst q;refine⟨τ1,qY S acc,GO.up s3,?_⟩;rw[q3];intro v H4 p4;have Mb:=p4.same _ _ Iz;have Mc:=hr.mono (qg ((s2.trans s3).trans p4.same));have FZ:vs.length<sizeLine:=by
         rw[<-hr.length,bx];have:ds.length<=SZ:=Nat.le_of_not_lt hz;unfold SZ at this;lia
        refine⟨vs,Mb,FZ,τ1,o++[dd],Fg,(GO.up (s3.trans p4.same)).grow Fw GB,by simp;lia,λb u hb=>?_,vs++[v],zw,?_⟩
        ·rw[ql (λz=>by rw[z,E5]at hb;cases hb)];exact p4.same _ _ (IA _ _ hb)
        ·rw[gD Fw];exact Mc.append (.cons (p4.st he) .nil)
  ·have e:i=ds.length:=by lia
   subst e;refine .inl ⟨g1 ds.length (aF _),?_⟩;rw[List.drop_length]at Fg;simp only[cL,R.ok.injEq]at Fg;subst Fg;have rep:Rep g (hid H' S) (.lst o) (.ref acc):=.lst (SqL.of (bC.mpr ⟨FT.free E5,hv⟩)) (hr.mono j0);exact k1 _ _ (bu.new (s1.trans GY) rep ⟨acc,_,rfl,s1.free E5,hv,.lst hr⟩)
theorem Cg(O:XO w g c E X)(GC:X.calm=true){sc:aR}{cap:List (Option Nat)}{tgt it elt:Expr}{ifs:List Expr}{pos:Pos}{E7:It}{E4:Tg}{tt:T}{Fq:EV.E}(hS:zq X (zm sc.names) cap sc)(F4:(zm sc.names).Nodup)
  (hi:PI X tgt it (tIt w g c E E7)) (hb:∀cl C s₀ H₀ fp,PG (qq X (zm sc.names) sc cl C s₀ H₀ fp) tgt (gT X.K E4)/\PTs (qq X (zm sc.names) sc cl C s₀ H₀ fp) ifs (tT w g (zr c sc) E0 tt)/\PE (qq X (zm sc.names) sc cl C s₀ H₀ fp) elt (tE w g (zr c sc) E0 Fq))
  (he:esc Fq=true) (hs:qr it=true):PE X (.ListComp elt [⟨tgt,it,ifs,0⟩] sc pos) (tE w g c E (.comp E7 cap E4 tt Fq)):=by
 exact PE.imp (CK (tb:=λacc=>jv acc (tE w g (zr c sc) E0 Fq)) GC hS hi (λcl C s₀ H₀ fp=>⟨(hb cl C s₀ H₀ fp).1,(hb cl C s₀ H₀ fp).2.1,λacc=>s_ rfl (hb cl C s₀ H₀ fp).2.2⟩) (by simp) (λx=>by cases it<;>first|rfl|(exact Bool.noConfusion hs))) λσ H Q q=>nz O hS he q
theorem lO{H:Hp}{k:List Int}{d:EV.D}{v:V}(rv:Rep g H d v):∀{ks:List (List Int)}{ds:List EV.D}{vs:List V},qi g H ds vs->qi g H (WD.cK ks ds k d) (WD.cK ks vs k v)
 | [],_,_,r=>by
  simp only[WD.cK];exact r
 |_::_,[],_,.nil=>.nil
 |k'::ks,_::_,_::_,.cons a r=>by
  simp only[WD.cK];by_cases q:k'=k
  ·rw[if_pos q,if_pos q];exact .cons rv (lO rv r)
  ·rw[if_neg q,if_neg q];exact .cons a (lO rv r)
theorem jA{H:Hp}{k:List Int}{d:EV.D}{v:V}{ks:List (List Int)}{ds:List EV.D}{vs:List V}(_:ks.length=vs.length)(r:qi g H ds vs)(rv:Rep g H d v):qi g H (WD.zT ks ds k d) (WD.zT ks vs k v):=by
 unfold WD.zT;by_cases q:(ks.any λx=>decide (x=k))=true
 ·rw[if_pos q,if_pos q];exact lO rv r
 ·rw[if_neg q,if_neg q];exact r.append (.cons rv .nil)
theorem sV{body:D->Env->R (Env×List (List Int×D))}(hb:∀d τ x,body d τ≠.ex x):∀{ds:List D}{τ:Env}{ks:List (List Int)}{vs:List D}{x:Str},dt body ds τ ks vs≠.ex x
 | [],_,_,_,_,h=>by cases h
 |d::r,τ,ks,vs,x,h=>by
  simp only[dt]at h;cases q:body d τ with
  |ok p=>rw[q]at h;exact sV hb h
  |ex y=>exact hb _ _ _ q
  |no=>rw[q]at h;cases h
theorem xW{β:Type}{k:D}{f:List Int->R β}{b:β}(h:fm k f=.ok b):∃xs q,k=.tup xs/\ints? xs=some q/\f q=.ok b:=by
 unfold fm at h;split at h
 ·obtain⟨q,e,h⟩:=iY h;exact⟨_,q,rfl,e,h⟩
 ·cases h
theorem pQ(O:XO w g c E X){sc:aR}{cap:List (Option Nat)}{E7:It}{E4:Tg}{tt:T}{ik iv:EV.E}(hS:zq X (zm sc.names) cap sc)(hk:esc ik=true)(hv:esc iv=true){σ:L2.St}{H:Hp}{Q:VK}(hq:tE w g c E (.dcm E7 cap E4 tt ik iv) σ H Q) :
  lu (λa=>WD.zD a [] 0) cap (tIt w g c E E7) (gT X.K E4) (tT w g (zr c sc) E0 tt) (λacc=>WD.j6 X.K acc (tE w g (zr c sc) E0 ik) (tE w g (zr c sc) E0 iv)) σ H Q:=by
 obtain⟨τ,S,se,k⟩:=hq;simp only[qz,qX,ze,zj,qV,zp,zk,qF,qH,qI,qC,qE,qS,qJ,qD,qw,qG,qB,qu,qK,qx,qU,qN,qM,qR,qQ,qT,qP]at k;refine pY se k λds J H1 e1 s1 kW _ k1 acc E5=>?_
 by_cases hz:SZ<ds.length
 ·rw[if_pos hz]at k1;exact k1.elim
 rw[if_neg hz]at k1;generalize Fd:(λx σ=>noEx ((store E4 x σ).bind λσ'=>(evT w tt σ').bind λr=>if r=true then (evE w ik σ').bind λy=>(evE w iv σ').bind λd=>fm y λq=>R.ok (σ',[(q,d)])else R.ok (σ',[])))=body at k1;have Iv:∀d τ x,body d τ≠.ex x:=λd τ x=>by rw[<-Fd];exact o9
 cases hl:dt body ds (dh cap τ) [] []with
 |ex z=>exact absurd hl (sV Iv)
 |no=>rw[hl]at k1;exact k1.elim
 |ok out=>
  obtain⟨J6,J7⟩:=out;rw[hl]at k1;simp only[R.bind_ok]at k1;have k1:∀v H',bu g c (.dcm E7 cap E4 tt ik iv) S H (.dct J6 J7) v H'->Q v H':=k1;have FT:=se.sub.same s1;have GB:S.o acc=false:=FT.freeO E5;have Fw:(qY S acc).h acc=true:=by show (S.h acc||acc==acc)=true;simp
  refine⟨λi m σ' H'=>m=ds.length-i/\i<=ds.length/\∃τ' ks ws,dt body (ds.drop i) τ' ks ws=.ok (J6,J7)/\SE g (zr c sc) τ' σ' H' (qY S acc)/\ks.length<=i/\qf H1 H'/\∃xs ep vs,H' acc=some (WD.zD acc xs ep)/\WD.qW g.K (hid H' (qY S acc)) ks vs xs/\qi g (hid H' (qY S acc)) ws vs,
   ⟨ds.length,rfl,bz _,dh cap τ,[],[],hl,((se.up s1).caps O hS.cap).plus E5,aF _,zi E5,[],0,[],zw,.nil,.nil⟩,?_⟩
  rintro i m σ' H' ⟨rfl,GL,τ',ks,ws,Fg,Iw,Ma,GY,xs,ep,vs,Ik,r0,hr⟩;have keep:qf (hid H1 S) (hid H' (qY S acc)):=λb u hb=>by
   obtain⟨z1,z2⟩:=bC.mp hb;refine bC.mpr ⟨?_,GY _ _ z2⟩;show (S.h b||b==acc)=false;rw[z1]
   simpa using λz:b=acc=>by rw[z,E5]at z2;cases z2
  obtain⟨g1,g2⟩:=kW H' (qY S acc) GY keep Iw.sub;by_cases EZ:i<ds.length
  ·have hd:ds[i]? = some ds[i]:=List.getElem?_eq_getElem EZ;obtain⟨Iy,go2⟩:=g2 i ds[i] hd;refine .inr ⟨Iy,λσ'' H''=>∃τ' ks ws,dt body (ds.drop (i+1)) τ' ks ws=.ok (J6,J7)/\SE g (zr c sc) τ' σ'' H'' (qY S acc)/\ks.length<=i+1/\qf H1 H''/\∃xs ep vs,H'' acc=some (WD.zD acc xs ep)/\WD.qW g.K (hid H'' (qY S acc)) ks vs xs/\qi g (hid H'' (qY S acc)) ws vs,
    λσ'' H'' z=>⟨ds.length-(i+1),by lia,rfl,EZ,z⟩,λx H2 hy=>?_⟩
   obtain⟨s2,rx⟩:=go2 x H2 hy;rw[eO EZ]at Fg;simp only[dt]at Fg;cases q:body ds[i] τ' with
   |ex z=>exact absurd q (Iv _ _ _)
   |no=>rw[q]at Fg;cases Fg
   |ok p=>
    rw[q]at Fg;simp only[R.bind_ok]at Fg;rw[<-Fd]at q;have q:=su q;cases q1:store E4 ds[i] τ' with
    |ex z=>rw[q1]at q;cases q
    |no=>rw[q1]at q;cases q
    |ok τ1=>
     rw[q1]at q;simp only[R.bind_ok]at q;refine sC O.K (Iw.up s2) rx q1 λσ1 GO=>?_
     cases q2:evT w tt τ1 with
     |ex z=>rw[q2]at q;cases q
     |no=>rw[q2]at q;cases q
     |ok r=>
      rw[q2]at q;simp only[R.bind_ok]at q;refine⟨τ1,qY S acc,GO,?_⟩;rw[q2];intro H3 s3;have Iz:=s3 _ _ (s2 _ _ Ik);have IA:=GY.trans (s2.trans s3);have K5:=qg (S:=qY S acc) (s2.trans s3);cases r with
      |false=>
       simp only[bp,if_false,R.ok.injEq]at q;subst q;rw[if_neg bX];exact⟨τ1,ks,ws,Fg,GO.up s3,by lia,IA,xs,ep,vs,Iz,r0.up K5,hr.mono K5⟩
      |true=>
       simp only[if_true]at q;rw[if_pos rfl];cases q3:evE w ik τ1 with
       |ex z=>rw[q3]at q;cases q
       |no=>rw[q3]at q;cases q
       |ok dk=>
        rw[q3]at q;simp only[R.bind_ok]at q;cases q4:evE w iv τ1 with
        |ex z=>rw[q4]at q;cases q
        |no=>rw[q4]at q;cases q
        |ok dd=>
         rw[q4]at q;simp only[R.bind_ok]at q;obtain⟨ys,key,rfl,ek,q⟩:=xW q;cases q;refine⟨τ1,qY S acc,GO.up s3,?_⟩;rw[q3];intro kv H4 p4;refine⟨τ1,qY S acc,(GO.up s3).up p4.same,?_⟩;rw[q4];intro v H5 p5;obtain⟨b,rfl,hb⟩:=mD (S:=qY S acc) p4.rb ek;have Md:=p5.same _ _ (p4.same _ _ Iz);have K6:=qg (S:=qY S acc) ((s2.trans s3).trans (p4.same.trans p5.same));have r5:=r0.up K6;have Me:=hr.mono K6;have FZ:xs.length<sizeLine:=by
          rw[r0.len.2,bx];have:ds.length<=SZ:=Nat.le_of_not_lt hz;unfold SZ at this;lia
         refine⟨b,xs,ep,ks,vs,key,hid H5 (qY S acc),rfl,Md,qZ,by rw[O.K];exact r5,by rw[O.K];exact eU (qg p5.same) hb,FZ,λFz ep' r'=>⟨τ1,_,_,Fg,(GO.up (s3.trans (p4.same.trans p5.same))).grow Fw GB,?_,λb u hb=>?_,Fz,ep',WD.zT ks vs key v,zw,?_,?_⟩⟩
         ·have:=WD.o8 ks key;show (WD.zK ks key).length<=i+1;lia
         ·rw[ql (λz=>by rw[z,E5]at hb;cases hb)];exact p5.same _ _ (p4.same _ _ (IA _ _ hb))
         ·rw[gD Fw];rw[O.K]at r';exact r'
         ·rw[gD Fw];exact jA r0.len.1 Me (p5.st hv)
  ·have e:i=ds.length:=by lia
   subst e;refine .inl ⟨g1 ds.length (aF _),?_⟩;rw[List.drop_length]at Fg;simp only[dt,R.ok.injEq,Prod.mk.injEq]at Fg;obtain⟨rfl,rfl⟩:=Fg;have rep:Rep g (hid H' S) (.dct ks ws) (.ref acc):=.dct (bC.mpr ⟨FT.free E5,Ik⟩) (r0.up j0) (hr.mono j0);exact k1 _ _ (bu.new (s1.trans GY) rep ⟨acc,_,rfl,s1.free E5,Ik,.dct r0 hr⟩)
theorem Dl(O:XO w g c E X)(GC:X.calm=true){sc:aR}{cap:List (Option Nat)}{tgt it ke ve:Expr}{ifs:List Expr}{pos:Pos}{E7:It}{E4:Tg}{tt:T}{ik iv:EV.E}(hS:zq X (zm sc.names) cap sc)
  (hi:PI X tgt it (tIt w g c E E7)) (hb:∀cl C s₀ H₀ fp,PG (qq X (zm sc.names) sc cl C s₀ H₀ fp) tgt (gT X.K E4)/\PTs (qq X (zm sc.names) sc cl C s₀ H₀ fp) ifs (tT w g (zr c sc) E0 tt)/\PE (qq X (zm sc.names) sc cl C s₀ H₀ fp) ke (tE w g (zr c sc) E0 ik)/\PE (qq X (zm sc.names) sc cl C s₀ H₀ fp) ve (tE w g (zr c sc) E0 iv))
  (hk:esc ik=true) (hv:esc iv=true) (hs:qr it=true):PE X (.DictComp ke ve [⟨tgt,it,ifs,0⟩] sc pos) (tE w g c E (.dcm E7 cap E4 tt ik iv)):=by
 have hu:X.A.units<cLine:=by have:=O.units;lia
 exact PE.imp (xx (o0:=λa=>WD.zD a [] 0) (tb:=λacc=>WD.j6 X.K acc (tE w g (zr c sc) E0 ik) (tE w g (zr c sc) E0 iv)) (λI=>WD.pB I) GC hS hi (λcl C s₀ H₀ fp=>⟨(hb cl C s₀ H₀ fp).1,(hb cl C s₀ H₀ fp).2.1,λacc=>WD.o5 hu (hb cl C s₀ H₀ fp).2.2.1 (hb cl C s₀ H₀ fp).2.2.2⟩) (λx=>by cases it<;>first|rfl|(exact Bool.noConfusion hs))) λσ H Q q=>pQ O hS hk hv q
end
end EV
namespace L2
open PySem PySem.Spec PyProof.Rows
section
variable{prog:aB}{w:az}{A:aD}{E:ae->af->Prop}{s:af}
end
section
variable{X:Cx}{tg:Expr}
end
end L2
namespace EV
open PySem PySem.Spec PySem.P PyProof.Rows L2
section
variable{prog:aB}{w:az}{A:aD}{E:ae->af->Prop}{s:af}
end
section
variable{X:Cx}
end
section
variable{w:W}{g:Gc}{c:Cc}{E:XK}{X:Cx}{a b:Expr}{ia ib:EV.E}{pos p2 p3 pos3:Pos}
end
structure Snd(w:W)(g:Gc)(n:Nat):Prop where
 e:∀{c:Cc}{E:XK}{X:Cx} (O:XO w g c E X) {x:Expr}{ir:EV.E},cE n c x=some ir->PE X x (tE w g c E ir)
 bo:∀{c:Cc}{E:XK}{X:Cx} (O:XO w g c E X) {op:PySem.BoolOp}{vs:List Expr}{pos:Pos}{ir:EV.E},cBo n c op vs=some ir->PE X (.BoolOp op vs pos) (tE w g c E ir)/\esc ir=true
 o:∀{c:Cc}{E:XK}{X:Cx} (O:XO w g c E X) {x:Option Expr}{ir:OE},cO n c x=some ir->PO X x (tOe w g c E ir)
 es:∀{c:Cc}{E:XK}{X:Cx} (O:XO w g c E X) {x:List Expr}{ir:Es},cEs n c x=some ir->PA X x (tA w g c E ir)
 i:∀{c:Cc}{E:XK}{X:Cx} (O:XO w g c E X) {tg x:Expr}{ir:It},cI n c x=some ir->fh ir tg=true->PI X tg x (tIt w g c E ir)
 t:∀{c:Cc}{E:XK}{X:Cx} (O:XO w g c E X) {x:Expr}{ir:T},cT n c x=some ir->PT X x (tT w g c E ir)
 ts:∀{c:Cc}{E:XK}{X:Cx} (O:XO w g c E X) {op:PySem.BoolOp}{vs:List Expr}{pos:Pos}{ir:T},cTs n c op vs=some ir->PW X (.BoolOp op vs pos) (tT w g c E ir)
 ifs:∀{c:Cc}{E:XK}{X:Cx} (O:XO w g c E X) {x:List Expr}{ir:T},ff n c x=some ir->PTs X x (tT w g c E ir)
section
variable{w:W}{g:Gc}{n:Nat}
theorem Snd.ifs_succ(ih:Snd w g n){c:Cc}{E:XK}{X:Cx}(O:XO w g c E X){x:List Expr}{ir:T}(h:ff (n+1) c x=some ir):PTs X x (tT w g c E ir):=by
 match x with
 | []=>
  simp only[ff,cn]at h;subst h;intro pins s σ H Q I ⟨τ,S,se,q⟩;exact AY pins s σ H Q I (q H (qf.refl _))
 | [t]=>simp only[ff]at h;exact yK (ih.t O h)
 |_::_::_=>simp[ff]at h
theorem Snd.bo_succ(ih:Snd w g n){c:Cc}{E:XK}{X:Cx}(O:XO w g c E X){op:PySem.BoolOp}{vs:List Expr}{pos:Pos}{ir:EV.E}(h:cBo (n+1) c op vs=some ir):PE X (.BoolOp op vs pos) (tE w g c E ir)/\esc ir=true:=by
 match vs with
 | []=>simp[cBo]at h
 | [a]=>
  simp only[cBo,bQ,bE]at h;obtain⟨ia,h1,h⟩:=h;split at h
  ·rename_i he
   cases h;exact⟨CD (ih.e O h1),he⟩
  ·exact oN h
 |a::b::r=>
  simp only[cBo,bQ,bE]at h;obtain⟨ia,h1,J8,h2,h⟩:=h;obtain⟨r1,r2⟩:=ih.bo O (pos:=pos) h2;cases op with
  |And=>cases h;exact⟨Bx (ih.e O h1) r1 r2,rfl⟩
  |Or=>cases h;exact⟨DF (ih.e O h1) r1 r2,rfl⟩
theorem Snd.o_succ(ih:Snd w g n){c:Cc}{E:XK}{X:Cx}(O:XO w g c E X){x:Option Expr}{ir:OE}(h:cO (n+1) c x=some ir):PO X x (tOe w g c E ir):=by
 cases x with
 |none=>simp only[cO,cn]at h;subst h;exact Ew
 |some e=>
  simp only[cO,bF]at h;obtain⟨ie,h1,rfl⟩:=h;exact vk (ih.e O h1)
theorem Snd.es_succ(ih:Snd w g n){c:Cc}{E:XK}{X:Cx}(O:XO w g c E X){x:List Expr}{ir:Es}(h:cEs (n+1) c x=some ir):PA X x (tA w g c E ir):=by
 match x with
 | []=>simp only[cEs,cn]at h;subst h;exact tY
 |e::r=>
  have hs:=gM h e aL;simp only[cEs,hs,bp,if_false,bQ,bE]at h;obtain⟨ie,h1,J8,h2,h⟩:=h;cases h;exact yP (ih.e O h1) (ih.es O h2) hs
theorem Snd.ts_succ(ih:Snd w g n){c:Cc}{E:XK}{X:Cx}(O:XO w g c E X){op:PySem.BoolOp}{vs:List Expr}{pos:Pos}{ir:T}(h:cTs (n+1) c op vs=some ir):PW X (.BoolOp op vs pos) (tT w g c E ir):=by
 match vs with
 | []=>simp[cTs]at h
 | [a]=>
  simp only[cTs]at h;cases op with
  |And=>exact xp (ih.t O h)
  |Or=>exact x9 (ih.t O h)
 |a::b::r=>
  simp only[cTs,bQ,bE]at h;obtain⟨ia,h1,J8,h2,h⟩:=h;cases op with
  |And=>cases h;exact vo (ih.t O h1) (ih.ts O h2)
  |Or=>cases h;exact yD (ih.t O h1) (ih.ts O h2)
theorem Snd.t_succ(ih:Snd w g n){c:Cc}{E:XK}{X:Cx}(O:XO w g c E X){x:Expr}{ir:T}(h:cT (n+1) c x=some ir):PT X x (tT w g c E ir):=by
 cases x
 case UnaryOp op a p=>
  cases op
  case Not=>
   replace h:(cT n c a).map .not=some ir:=h
   simp only[bF]at h;obtain⟨ia,h1,rfl⟩:=h;exact tP (ih.t O h1)
  all_goals
   replace h:(cE n c _).map T.val=some ir:=h
   rw[bF]at h;obtain⟨ia,h1,rfl⟩:=h;exact m5 O (ih.e O h1) λwhole=>rfl
 case BoolOp op vs p=>exact(ih.ts O h).pt
 case IfExp a b d p=>exact oN h
 case Compare a ops bs p=>
  rcases ops with _|⟨o,_|⟨o',_|⟨Hx,_|_⟩⟩⟩
  ·exact oN h
  ·rcases bs with _|⟨b,_|_⟩
   ·exact oN h
   ·replace h:(do
      let a <-cE n c a
      let b' <-cE n c b
      if qr b then some (.cmp (c2 o) a b')else none:Option T)=some ir:=h
    refine oC2 h ?_;clear h;intro ia ib h1 h2 hs e_;subst e_;exact xt O (ih.e O h1) (ih.e O h2) hs
   ·exact oN h
  ·rcases bs with _|⟨b,_|⟨d,_|_⟩⟩
   ·exact oN h
   ·exact oN h
   ·replace h:(do
      let a <-cE n c a
      let b' <-cE n c b
      let d' <-cE n c d
      if qr b&&qr d then some (.cmp2 (c2 o) (c2 o') a b' d')else none:Option T)=some ir:=h
    refine oC3 h ?_;clear h;intro ia ib id' h1 h2 h3 hs e_;simp only[aQ]at hs;subst e_;exact vG O (ih.e O h1) (ih.e O h2) (ih.e O h3) hs.2
   ·exact oN h
  ·rcases bs with _|⟨b,_|⟨d,_|⟨f,_|_⟩⟩⟩
   ·exact oN h
   ·exact oN h
   ·exact oN h
   ·replace h:(do
      let a <-cE n c a
      let b' <-cE n c b
      let d' <-cE n c d
      let f' <-cE n c f
      if qr b&&qr d&&qr f then some (.val (.cmp3 (c2 o) (c2 o') (c2 Hx) a b' d' f'))else none:Option T)=some ir:=h
    refine oC4 h ?_;clear h;intro ia ib id' if' h1 h2 h3 h4 hs e_
    simp only[aQ]at hs;subst e_;exact De O (ih.e O h1) (ih.e O h2) (ih.e O h3) (ih.e O h4) hs.2
   ·exact oN h
  ·exact oN h
 all_goals
  replace h:(cE n c _).map T.val=some ir:=h
  rw[bF]at h;obtain⟨ia,h1,rfl⟩:=h;exact m5 O (ih.e O h1) λwhole=>rfl
noncomputable def cIb(n:Nat)(c:Cc)(f:Str)(p q:Pos)(as:List Expr)(gv:Option GK):Option It:=
 match gv with
  |some .rng=>(match as with
   | [a]=>if isStar a then none else (cE n c a).map .rng
   | [a,b]=>if isStar a||isStar b then none else do
    let a <-cE n c a
    let b <-cE n c b
    some (.rng2 a b)
   |_=>none)
  |some .enum=>(match as with
   | [a]=>if isStar a then none else (cE n c a).map .enum
   |_=>none)
  |some .zip=>(match as with
   | [a,b]=>if isStar a||isStar b then none else do
    let a <-cE n c a
    let b <-cE n c b
    some (.zip a b)
   |_=>none)
  |_=>(cE n c (.Call (.Name f p) as [] q)).map .seq
theorem Snd.i_succ(ih:Snd w g n){c:Cc}{E:XK}{X:Cx}(O:XO w g c E X){tg x:Expr}{ir:It}(h:cI (n+1) c x=some ir)(ht:fh ir tg=true):PI X tg x (tIt w g c E ir):=by
 have sq:∀{x:Expr}{ir:It},(cE n c x).map It.seq=some ir->PI X tg x (tIt w g c E ir):=λ{x ir} h=>by
  simp only[bF]at h;obtain⟨ia,h1,rfl⟩:=h;exact C_ O (ih.e O h1)
 have tup:isTup tg=true->∃es k p,tg=.Tuple es k p:=λh=>by cases tg<;>first|exact⟨_,_,_,rfl⟩|(exact Bool.noConfusion h)
 cases x
 case Call fe as ks q=>
  cases fe
  case Name f p=>
   rcases ks with _|⟨k0,kr⟩
   ·replace h:(match loc c f with
     |some _=>(cE n c (.Call (.Name f p) as [] q)).map .seq
     |none=>cIb n c f p q as (glob c f):Option It)=some ir:=h
    cases IB:loc c f with
    |some i=>rw[IB]at h;exact sq h
    |none=>
     rw[IB]at h
     replace h:cIb n c f p q as (glob c f)=some ir:=h
     cases hg:glob c f with
     |none=>rw[hg]at h;exact sq h
     |some gv=>
      rw[hg]at h;cases gv
      case rng=>
       rcases as with _|⟨a,_|⟨b,_|_⟩⟩
       ·exact oN h
       ·replace h:(if isStar a then none else (cE n c a).map .rng:Option It)=some ir:=h
        split at h
        ·exact oN h
        ·rename_i hs
         simp only[bF]at h;obtain⟨ia,h1,rfl⟩:=h;exact xB O hg (ih.e O h1) (by simpa using hs)
       ·replace h:(if isStar a||isStar b then none else do
          let a <-cE n c a
          let b <-cE n c b
          some (.rng2 a b):Option It)=some ir:=h
        split at h
        ·exact oN h
        ·rename_i hs
         have hs:isStar a=false/\isStar b=false:=by simpa using hs
         refine oK2 h ?_;clear h;intro ia ib h1 h2 e_;subst e_;exact u6 O hg (ih.e O h1) (ih.e O h2) hs.1 hs.2
       ·exact oN h
      case enum=>
       rcases as with _|⟨a,_|_⟩
       ·exact oN h
       ·replace h:(if isStar a then none else (cE n c a).map .enum:Option It)=some ir:=h
        split at h
        ·exact oN h
        ·rename_i hs
         simp only[bF]at h;obtain⟨ia,h1,rfl⟩:=h;obtain⟨es,k,p',rfl⟩:=tup ht;exact uQ O hg (ih.e O h1) (by simpa using hs)
       ·exact oN h
      case zip=>
       rcases as with _|⟨a,_|⟨b,_|_⟩⟩
       ·exact oN h
       ·exact oN h
       ·replace h:(if isStar a||isStar b then none else do
          let a <-cE n c a
          let b <-cE n c b
          some (.zip a b):Option It)=some ir:=h
        split at h
        ·exact oN h
        ·rename_i hs
         have hs:isStar a=false/\isStar b=false:=by simpa using hs
         refine oK2 h ?_;clear h;intro ia ib h1 h2 e_;subst e_;obtain⟨es,k,p',rfl⟩:=tup ht;exact BG O hg (ih.e O h1) (ih.e O h2) hs.1 hs.2
       ·exact oN h
      all_goals exact sq h
   ·exact sq h
  all_goals exact sq h
 all_goals exact sq h
end
section
variable{w:W}{g:Gc}{c:Cc}{E:XK}{X:Cx}{a:Expr}{ia:EV.E}{pos p2 p3 pos3:Pos}
end
section
variable{w:W}{g:Gc}{n:Nat}
noncomputable def cGb(n:Nat)(c:Cc)(f:Str)(as:List Expr)(gv:Option GK):Option E:=
 match gv with
  |some (.fn fr)=>do
   let es <-cEs n c as
   if dq es && !as.isEmpty then some (.call f es)else if !as.isEmpty then (if fr then some (.callf f es)else none)else none
  |some (.bi b)=>match pG c b as with
   |some a=>(cE n c a).map (.sset (b==.len))
   |none=>do
    let es <-cEs n c as
    if !as.isEmpty&&(c.calm||b==.len||b==.abs)then some (.bi b es)else none
  |some (.ty t (some b))=>do
    let es <-cEs n c as
    if !as.isEmpty then some (.bi b es)else none
  |some .isi=>match as with
   | [a,k]=>do
    if isStar a then none else
    let a <-cE n c a
    let k <-i8 c k
    some (.isi a k)
   |_=>none
  |_=>none
theorem Snd.call_name(ih:Snd w g n){c:Cc}{E:XK}{X:Cx}(O:XO w g c E X){f:Str}{p pos:Pos}{as:List Expr}{ir:EV.E}(h:cE (n+1) c (.Call (.Name f p) as [] pos)=some ir):PE X (.Call (.Name f p) as [] pos) (tE w g c E ir):=by
 replace h:(match loc c f with
  |some _=>none
  |none=>cGb n c f as (glob c f):Option EV.E)=some ir:=h
 cases IB:loc c f with
 |some i=>rw[IB]at h;cases h
 |none=>
  rw[IB]at h
  replace h:cGb n c f as (glob c f)=some ir:=h
  cases hg:glob c f with
  |none=>rw[hg]at h;exact oN h
  |some gv=>
   rw[hg]at h;cases gv
   case fn fr=>
    replace h:(do
      let es <-cEs n c as
      if dq es && !as.isEmpty then some (.call f es)else if !as.isEmpty then (if fr then some (.callf f es)else none)else none:Option EV.E)=some ir:=h
    refine oB1 h ?_;clear h;intro ies h1 h;split at h
    ·rename_i hc
     simp only[aQ,bR]at hc;cases h
     match as with
     | []=>simp at hc
     |e::es=>exact DK O hg (ih.es O h1) hc.1 (gM h1)
    ·split at h
     ·rename_i hc
      simp only[bR]at hc
      match as with
      | []=>simp at hc
      |e::es=>match fr,hg,h with
       |true,hg,h=>cases h;exact D2 O hg (ih.es O h1) (gM h1)
       |false,hg,h=>exact oN h
     ·exact oN h
   case bi b=>
    replace h:(do
      let es <-cEs n c as
      if !as.isEmpty&&(c.calm||b==.len||b==.abs)then some (.bi b es)else none:Option EV.E)=some ir:=h
    refine oC1 h ?_;clear h;intro ies h1 hc e_;simp only[aQ,bR,bG,beq_iff_eq]at hc;subst e_
    match as with
    | []=>simp at hc
    |e::es=>exact xh O hg (by rcases hc.2 with (z|z)|z;exact .inl (O.calm z);exact .inr (.inl z);exact .inr (.inr z)) (ih.es O h1) (gM h1)
   case ty t ob=>
    cases ob
    case none=>exact oN h
    case some b=>
     replace h:(do
       let es <-cEs n c as
       if !as.isEmpty then some (.bi b es)else none:Option EV.E)=some ir:=h
     have plain:∀{ies:Es},cEs n c as=some ies->as.isEmpty=false->PE X (.Call (.Name f p) as [] pos) (tE w g c E (.bi b ies)):=λ{ies} h1 he=>by
      match as with
      | []=>simp at he
      |e::es=>exact t7 O hg (ih.es O h1) (gM h1)
     refine oC1 h ?_;clear h;intro ies h1 hc e_;subst e_;exact plain h1 (by simpa using hc)
   case isi=>
    rcases as with _|⟨a,_|⟨k,_|_⟩⟩
    ·exact oN h
    ·exact oN h
    ·replace h:(do
       if isStar a then none else
       let a <-cE n c a
       let k <-i8 c k
       some (.isi a k):Option EV.E)=some ir:=h
     split at h
     ·exact oN h
     ·rename_i hs
      refine oK2 h ?_;clear h;intro ia cl h1 h2 e_;subst e_;exact yd O hg (ih.e O h1) h2 (by simpa using hs)
    ·exact oN h
   all_goals exact oN h
theorem kH:∀{n:Nat}{c:Cc}{l:List Expr}{es:Es},cEs n c l=some es->l.length<=n
 | 0,_,_,_,h=>by simp[cEs]at h
 |n+1,_,[],_,_=>by simp
 |n+1,c,x::l,es,h=>by
  have hs:=gM h x aL;simp only[cEs,hs,bp,if_false,bQ,bE]at h;obtain⟨_,_,r,hr,_⟩:=h;have:=kH hr
  simpa using this
theorem mB{c:Cc}{elt:Expr}{gs:List bT}{sc:aR}{p:Pos}{ir:EV.E}(h:cE (n+1) c (.ListComp elt gs sc p)=some ir) :
  ∃tgt it ifs E7 E4 Fx ie,gs=[⟨tgt,it,ifs,0⟩]/\(c.calm=true/\qr it=true)/\(fM (λx=>c.nm.lookup x) c.N (zm sc.names) (dA c sc.names) sc=true/\(zm sc.names).Nodup)/\cI n c it=some E7/\cTg (zr c sc) tgt=some E4/\ff n (zr c sc) ifs=some Fx/\cE n (zr c sc) elt=some ie/\(esc ie=true/\fh E7 tgt=true)/\ir=.comp E7 (dA c sc.names) E4 Fx ie:=by
 rcases gs with _|⟨⟨tgt,it,ifs,G9⟩,_|_⟩
 ·exact oN h
 ·replace h:(do
    if !(G9==0) || !c.calm || !qr it then none else
    let c':Cc:={c with nm:=h_ sc.names c.nm,N:=zm sc.names,fnc:=false,oc:=gB sc.names}
    let cap:=dA c sc.names
    if !fM (λx=>c.nm.lookup x) c.N (zm sc.names) cap sc || !decide (zm sc.names).Nodup then none else
    let it <-cI n c it
    let tg <-cTg c' tgt
    let t <-ff n c' ifs
    let elt <-cE n c' elt
    if esc elt&&fh it tgt then some (.comp it cap tg t elt)else none:Option EV.E)=some ir:=h
  dsimp only at h;split at h
  ·exact oN h
  ·rename_i hs
   have hs:(G9=0/\c.calm=true)/\qr it=true:=by simpa using hs
   obtain⟨⟨rfl,GD⟩,HB⟩:=hs;split at h
   ·exact oN h
   ·rename_i hk
    have hk:fM (λx=>c.nm.lookup x) c.N (zm sc.names) (dA c sc.names) sc=true/\(zm sc.names).Nodup:=by simpa using hk
    refine oC4 h ?_;clear h;intro E7 E4 Fx ie h1 h2 h3 h4 he e_;simp only[aQ]at he;subst e_;exact⟨tgt,it,ifs,E7,E4,Fx,ie,rfl,⟨GD,HB⟩,hk,h1,h2,h3,h4,he,rfl⟩
 ·exact oN h
theorem kR{c:Cc}{ke ve:Expr}{gs:List bT}{sc:aR}{p:Pos}{ir:EV.E}(h:cE (n+1) c (.DictComp ke ve gs sc p)=some ir) :
  ∃tgt it ifs E7 E4 Fx ik iv,gs=[⟨tgt,it,ifs,0⟩]/\(c.calm=true/\qr it=true)/\(fM (λx=>c.nm.lookup x) c.N (zm sc.names) (dA c sc.names) sc=true/\(zm sc.names).Nodup)/\cI n c it=some E7/\cTg (zr c sc) tgt=some E4/\ff n (zr c sc) ifs=some Fx/\cE n (zr c sc) ke=some ik/\cE n (zr c sc) ve=some iv/\((esc ik=true/\esc iv=true)/\fh E7 tgt=true)/\ir=.dcm E7 (dA c sc.names) E4 Fx ik iv:=by
 unfold cE at h;dsimp only at h;split at h
 ·rename_i tgt it ifs G9
  split at h
  ·exact oN h
  ·rename_i hs
   have hs:(G9=0/\c.calm=true)/\qr it=true:=by simpa using hs
   obtain⟨⟨rfl,GD⟩,HB⟩:=hs;split at h
   ·exact oN h
   ·rename_i hk
    have hk:fM (λx=>c.nm.lookup x) c.N (zm sc.names) (dA c sc.names) sc=true/\(zm sc.names).Nodup:=by simpa using hk
    simp only[bQ,bE]at h;obtain⟨E7,h1,E4,h2,Fx,h3,ik,h4,iv,h5,h⟩:=h;split at h
    ·rename_i he
     simp only[aQ]at he;cases h;exact⟨tgt,it,ifs,E7,E4,Fx,ik,iv,rfl,⟨GD,HB⟩,hk,h1,h2,h3,h4,h5,he,rfl⟩
    ·exact oN h
 ·exact oN h
theorem Snd.e_succ(ih:Snd w g n)(hn:n<=100000){c:Cc}{E:XK}{X:Cx}(O:XO w g c E X){x:Expr}{ir:EV.E}(h:cE (n+1) c x=some ir):PE X x (tE w g c E ir):=by
 cases x
 case Name x p1=>
  cases hl:loc c x with
  |some i=>
   have:=BQ (w:=w) (E:=E) (pos:=p1) O hl
   replace h:(match (generalizing:=false) loc c x with
     |some i=>if c.own.contains x then some (.own i)else some (.var i)
     |none=>match (generalizing:=false) glob c x with
      |some .val=>some (.glb x)
      |some (.fn _)=>none
      |_=>none:Option EV.E)=some ir:=h
   rw[hl]at h
   replace h:(if c.own.contains x=true then some (EV.E.own i)else some (EV.E.var i))=some ir:=h
   cases ho:c.own.contains x with
   |true=>rw[ho]at h this;cases h;exact this
   |false=>rw[ho]at h this;cases h;exact this
  |none=>
   replace h:(match (generalizing:=false) loc c x with
     |some i=>if c.own.contains x then some (.own i)else some (.var i)
     |none=>match (generalizing:=false) glob c x with
      |some .val=>some (.glb x)
      |some (.fn _)=>none
      |_=>none:Option EV.E)=some ir:=h
   rw[hl]at h
   replace h:(match (generalizing:=false) glob c x with
     |some .val=>some (.glb x)
     |some (.fn _)=>none
     |_=>none:Option EV.E)=some ir:=h
   cases hg:glob c x with
   |none=>rw[hg]at h;exact oN h
   |some gv=>
    rw[hg]at h;cases gv
    case val=>cases h;exact EJ O hg
    all_goals exact oN h
 case Constant k p1 p2=>
  cases k
  case int=>
   cases h;exact jY wR λ_=>.int _
  case bool=>
   cases h;exact jY tW λ_=>.bl _
  case none=>
   cases h;exact jY yJ λ_=>.non
  case str=>
   cases h;exact jY EM λ_=>.str _
  all_goals exact oN h
 case BinOp a op b p3=>
  replace h:(do
    let o <-o2 op
    let a <-cE n c a
    let b <-cE n c b
    some (.op o a b):Option EV.E)=some ir:=h
  refine oK3 h ?_;clear h;intro o ia ib ho h1 h2 e_;subst e_;exact xD O ho (ih.e O h1) (ih.e O h2)
 case UnaryOp op a p=>
  replace h:(do
    let a <-cE n c a
    match op with
    | .USub=>some (.neg a)
    | .Invert=>none
    | .Not=>some (.not a)
    |_=>none:Option EV.E)=some ir:=h
  refine oB1 h ?_;clear h;intro ia h1 h;cases op with
  |USub=>cases h;exact DP (ih.e O h1)
  |Invert=>exact oN h
  |Not=>cases h;exact y_ (ih.e O h1)
  |UAdd=>exact oN h
 case BoolOp op vs p2=>
  replace h:(cBo n c op vs:Option EV.E)=some ir:=h
  exact(ih.bo O h).1
 case Compare a ops bs p3=>
  rcases ops with _|⟨o,_|⟨o',_|⟨Hx,_|_⟩⟩⟩
  ·exact oN h
  ·rcases bs with _|⟨b,_|_⟩
   ·exact oN h
   ·replace h:(do
      let a <-cE n c a
      let b' <-cE n c b
      if qr b then some (.cmp (c2 o) a b')else none:Option EV.E)=some ir:=h
    refine oC2 h ?_;clear h;intro ia ib h1 h2 hs e_;subst e_;exact wz O (ih.e O h1) (ih.e O h2) hs
   ·exact oN h
  ·rcases bs with _|⟨b,_|⟨d,_|_⟩⟩
   ·exact oN h
   ·exact oN h
   ·replace h:(do
      let a <-cE n c a
      let b' <-cE n c b
      let d' <-cE n c d
      if qr b&&qr d then some (.cmp2 (c2 o) (c2 o') a b' d')else none:Option EV.E)=some ir:=h
    refine oC3 h ?_;clear h;intro ia ib id' h1 h2 h3 hs e_;simp only[aQ]at hs;subst e_;exact DW O (ih.e O h1) (ih.e O h2) (ih.e O h3) hs.2
   ·exact oN h
  ·rcases bs with _|⟨b,_|⟨d,_|⟨f,_|_⟩⟩⟩
   ·exact oN h
   ·exact oN h
   ·exact oN h
   ·replace h:(do
      let a <-cE n c a
      let b' <-cE n c b
      let d' <-cE n c d
      let f' <-cE n c f
      if qr b&&qr d&&qr f then some (.cmp3 (c2 o) (c2 o') (c2 Hx) a b' d' f')else none:Option EV.E)=some ir:=h
    refine oC4 h ?_;clear h;intro ia ib id' if' h1 h2 h3 h4 hs e_
    simp only[aQ]at hs;subst e_;exact yW O (ih.e O h1) (ih.e O h2) (ih.e O h3) (ih.e O h4) hs.2
   ·exact oN h
  ·exact oN h
 case Dict ks vs p2=>
  replace h:(match (generalizing:=false) ks with
    | []=>if vs.isEmpty then some .dic else none
    |_=>none:Option EV.E)=some ir:=h
  split at h
  ·split at h
   ·rename_i hk
    rw[List.isEmpty_iff]at hk;subst hk;cases h;exact wO
   ·exact oN h
  ·exact oN h
 case IfExp t a b p3=>
  replace h:(do
    let t <-cT n c t
    let a <-cE n c a
    let b <-cE n c b
    if esc a&&esc b then some (.ite t a b)else none:Option EV.E)=some ir:=h
  refine oC3 h ?_;clear h;intro it ia ib h1 h2 h3 hs e_;simp only[aQ]at hs;subst e_;exact Cj (ih.t O h1) (ih.e O h2) (ih.e O h3) hs.1 hs.2
 case Tuple es p1 p2=>
  replace h:(do
    let es <-cEs n c es
    if dq es then some (.tup es)else none:Option EV.E)=some ir:=h
  refine oC1 h ?_;clear h;intro ies h1 hs e_;subst e_;exact wI (ih.es O h1) hs λτ ds e=>by rw[my h1 e];exact a8 (kH h1) hn
 case List es p1=>
  replace h:(do
    let es <-cEs n c es
    if dq es then some (.lst es)else none:Option EV.E)=some ir:=h
  refine oC1 h ?_;clear h;intro ies h1 hs e_;subst e_;exact uH (ih.es O h1) hs λτ ds e=>by rw[my h1 e];exact a8 (kH h1) hn
 case Subscript a b p2=>
  have ix:isSlice b=false->(do
    let a <-cE n c a
    let b <-cE n c b
    some (.ix a b):Option EV.E)=some ir->PE X (.Subscript a b p2) (tE w g c E ir):=λhs h=>by
   refine oK2 h ?_;clear h;intro ia ib h1 h2 e_;subst e_;exact yI O (ih.e O h1) (ih.e O h2) (hs)
  cases b
  case Slice lo hi st sp=>
   cases st with
   |some s=>exact oN h
   |none=>
    replace h:(do
      let a <-cE n c a
      let lo <-cO n c lo
      let hi <-cO n c hi
      some (.sl a lo hi):Option EV.E)=some ir:=h
    refine oK3 h ?_;clear h;intro ia il ih' h1 h2 h3 e_;subst e_;exact w6 O (ih.e O h1) (ih.o O h2) (ih.o O h3)
  all_goals exact ix rfl h
 case DictComp ke ve gs sc p=>
  obtain⟨tgt,it,ifs,E7,E4,Fx,ik,iv,rfl,hs,hk,h1,h2,h3,h4,h5,he,rfl⟩:=kR h;have hS:zq X (zm sc.names) (dA c sc.names) sc:=zq.of (by
   have e1:(λx=>c.nm.lookup x)=X.env.kindOf:=by funext x;show _=X.env.scope.names.lookup x;rw[O.nm]
   rw[<-e1,O.N];exact hk.1)
  refine Dl O (O.calm hs.1) hS (ih.i O h1 he.2) (λcl C s₀ H₀ fp=>?_) he.1.1 he.1.2 hs.2;have OY:=O.comp hS.kind hk.2 cl C s₀ H₀ fp;exact⟨hX OY h2,ih.ifs OY h3,ih.e OY h4,ih.e OY h5⟩
 case ListComp elt gs sc p=>
  obtain⟨tgt,it,ifs,E7,E4,Fx,ie,rfl,hs,hk,h1,h2,h3,h4,he,rfl⟩:=mB h;have hS:zq X (zm sc.names) (dA c sc.names) sc:=zq.of (by
   have e1:(λx=>c.nm.lookup x)=X.env.kindOf:=by funext x;show _=X.env.scope.names.lookup x;rw[O.nm]
   rw[<-e1,O.N];exact hk.1)
  refine Cg O (O.calm hs.1) hS hk.2 (ih.i O h1 he.2) (λcl C s₀ H₀ fp=>?_) he.1 hs.2;have OY:=O.comp hS.kind hk.2 cl C s₀ H₀ fp;exact⟨hX OY h2,ih.ifs OY h3,ih.e OY h4⟩
 case Call fe as ks cp=>
  rcases ks with _|⟨⟨kn,kv,kp⟩,_|_⟩
  ·cases fe
   case Name=>exact ih.call_name O h
   case Attribute o m ap=>
    replace h:(match (generalizing:=false) cMt c o m ap as cp with
      |some e=>some e
      |none=>match (generalizing:=false) as with
       | [a]=>do
        if !baseOk o||isStar a || !(m == "count" ||m == "get") || !(ap.endLine==cp.line)then none else
        let o' <-cE n c o
        let a' <-cE n c a
        if m == "get" then some (.dget o' a')else if esc a' then some (.cnt o' a')else none
       |_=>none:Option EV.E)=some ir:=h
    cases hm:cMt c o m ap as cp with
    |some e=>rw[hm]at h;cases h;exact AR O hm
    |none=>
     rw[hm]at h
     replace h:(match (generalizing:=false) as with
       | [a]=>do
        if !baseOk o||isStar a || !(m == "count" ||m == "get") || !(ap.endLine==cp.line)then none else
        let o' <-cE n c o
        let a' <-cE n c a
        if m == "get" then some (.dget o' a')else if esc a' then some (.cnt o' a')else none
       |_=>none:Option EV.E)=some ir:=h
     split at h
     ·split at h
      ·exact oN h
      ·rename_i hc
       simp only[bG,bR,not_or,Bool.not_eq_true,Bool.not_eq_false]at hc;refine oB2 h ?_;clear h;intro io ia h1 h2 h;obtain⟨⟨⟨c1,c2⟩,c3⟩,c4⟩:=hc;split at h
       ·rename_i hg
        cases h;have hg:=eq_of_beq hg;subst hg;exact wJ O c1 (ih.e O h1) (ih.e O h2) c2 c4
       ·rename_i hg
        split at h
        ·cases h;have c3:=eq_of_beq (c3.resolve_right hg);subst c3;exact AD O c1 (ih.e O h1) (ih.e O h2) c2 c4
        ·exact oN h
     ·exact oN h
   all_goals exact oN h
  ·exact oN h
  ·exact oN h
 all_goals exact oN h
theorem CM:Snd w g 0:=⟨λ_ _ _ h=>(by cases h),λ_ _ _ _ _ h=>(by cases h),λ_ _ _ h=>(by cases h),λ_ _ _ h=>(by cases h),λ_ _ _ _ h=>(by cases h),λ_ _ _ h=>(by cases h),λ_ _ _ _ _ h=>(by cases h),λ_ _ _ h=>(by cases h)⟩
theorem snd:∀n,n<=100000->Snd w g n
 | 0,_=>CM
 |n+1,h=>
  have ih:=snd n (Nat.le_of_succ_le h)
  ⟨λO _ _ q=>ih.e_succ (Nat.le_of_succ_le h) O q,λO _ _ _ _ q=>ih.bo_succ O q,λO _ _ q=>ih.o_succ O q,λO _ _ q=>ih.es_succ O q,λO _ _ _ q t=>ih.i_succ O q t,λO _ _ q=>ih.t_succ O q,λO _ _ _ _ q=>ih.ts_succ O q,λO _ _ q=>ih.ifs_succ O q⟩
end
def zc(c:Cc)(i:Nat):Prop:=∃x,c.N[i]? = some x/\c.own.contains x=true
structure SS(g:Gc)(c:Cc)(H0:Hp)(B:Sh)(τ:Env)(σ:L2.St)(H:Hp)(S:Sh):Prop where
 se:SE g c τ σ H S
 lenN:τ.length=c.N.length
 same:qf H0 H
 sub0:Sub B H0
 hd:∀a,S.h a=(B.h a||S.o a)
 new:∀a,S.o a=true->H0 a=none
 own:∀i d,zc c i->τ[i]? = some (some d)->zl d=true->∃a o,σ[i]? = some (some (.ref a))/\S.o a=true/\H a=some o/\cg g (hid H S) a d o
 inj:∀i j d e a,zc c i->zc c j->τ[i]? = some (some d)->τ[j]? = some (some e)->zl d=true->zl e=true->σ[i]? = some (some (.ref a))->σ[j]? = some (some (.ref a))->i=j
 frz:c.frz=true->(∀i,zc c i->σ[i]? = B.z[i]?)/\qf B.y H
section
variable{g:Gc}{c:Cc}{H0:Hp}{B:Sh}{τ:Env}{σ:L2.St}{H H':Hp}{S:Sh}
theorem SS.up(s:SS g c H0 B τ σ H S)(e:qf H H'):SS g c H0 B τ σ H' S:=
 ⟨s.se.up e,s.lenN,s.same.trans e,s.sub0,s.hd,s.new,λi d hi h l=>let ⟨a,o,h1,h2,h4,h5⟩:=s.own i d hi h l;⟨a,o,h1,h2,e _ _ h4,h5.mono (qg e)⟩,s.inj,λz=>⟨(s.frz z).1,(s.frz z).2.trans e⟩⟩
theorem SS.set{i:Nat}{d:D}{v:V}(s:SS g c H0 B τ σ H S)(hi:¬ zc c i)(r:Rep g (hid H S) d v):SS g c H0 B (τ.set i (some d)) (σ.set i (some v)) H S:=by
 refine⟨s.se.set r,by simp[s.lenN],s.same,s.sub0,s.hd,s.new,λj e hj h l=>?_,λj k e f a hj hk h1 h2 l1 l2 h3 h4=>?_,λz=>⟨λj hj=>?_,(s.frz z).2⟩⟩
 ·have E1:i≠j:=λz=>hi (z▸hj)
  rw[List.getElem?_set_ne E1]at h ⊢;exact s.own j e hj h l
 ·have E1:i≠j:=λz=>hi (z▸hj)
  have Fm:i≠k:=λz=>hi (z▸hk)
  rw[List.getElem?_set_ne E1]at h1 h3;rw[List.getElem?_set_ne Fm]at h2 h4;exact s.inj j k e f a hj hk h1 h2 l1 l2 h3 h4
 ·rw[List.getElem?_set_ne (λz:i=j=>hi (z▸hj))];exact(s.frz z).1 j hj
theorem cg.isld{H:Hp}{a:Addr}{d:D}{o:HO}(h:cg g H a d o):zl d=true:=by cases h<;>rfl
theorem zu.nold{H:Hp}{d:D}{v:V}(h:zu g H S d v)(l:zl d=false):Rep g (hid H S) d v:=by
 rcases h with h|⟨_,_,_,_,_,h⟩
 ·exact h
 ·rw[h.isld]at l;cases l
theorem SS.setN{i:Nat}{d:D}{v:V}(s:SS g c H0 B τ σ H S)(hz:c.frz=false)(EZ:i<τ.length)(l:zl d=false)(r:Rep g (hid H S) d v):SS g c H0 B (τ.set i (some d)) (σ.set i (some v)) H S:=by
 have no:∀j e,(τ.set i (some d))[j]? = some (some e)->zl e=true->i≠j:=λj e h q z=>by
  subst z;simp[EZ]at h;subst h;rw[l]at q;cases q
 refine⟨s.se.set r,by simp[s.lenN],s.same,s.sub0,s.hd,s.new,λj e hj h q=>?_,λj k e f a hj hk h1 h2 l1 l2 h3 h4=>?_,λz=>by rw[hz]at z;cases z⟩
 ·have E1:=no j e h q;rw[List.getElem?_set_ne E1]at h ⊢;exact s.own j e hj h q
 ·have E1:=no j e h1 l1;have Fm:=no k f h2 l2;rw[List.getElem?_set_ne E1]at h1 h3;rw[List.getElem?_set_ne Fm]at h2 h4;exact s.inj j k e f a hj hk h1 h2 l1 l2 h3 h4
theorem SS.setAll{is:List Nat}:∀{ds:List D}{vs:List V}{τ τ':Env}{σ:L2.St}{Q:L2.St->Hp->Prop},SS g c H0 B τ σ H S->(∀i∈is,¬ zc c i)->qi g (hid H S) ds vs->EV.setAll is ds τ=.ok τ'->(∀σ',SS g c H0 B τ' σ' H S->Q σ' H)->iH is vs σ H Q:=by
 induction is with
 |nil=>
  intro ds vs τ τ' σ Q se _ r h k;cases r with
  |nil=>cases (show R.ok τ=R.ok τ' from h);exact⟨rfl,k σ se⟩
  |cons _ _=>cases (show R.no=R.ok τ' from h)
 |cons i is ih=>
  intro ds vs τ τ' σ Q se ho r h k;cases r with
  |nil=>cases (show R.no=R.ok τ' from h)
  |cons r rs=>exact⟨_,_,rfl,ih (se.set (ho i aL) r) (λj hj=>ho j (aO _ hj)) rs h k⟩
theorem CP{tg:Tg}(h:i4 c tg):match tg with | .nm i=>¬ zc c i | .tp is=>∀i∈is,¬ zc c i:=by
 cases tg with
 |nm i=>rintro⟨x,h1,h2⟩;rw[h x h1]at h2;cases h2
 |tp is=>rintro i hi ⟨x,h1,h2⟩;rw[h i hi x h1]at h2;cases h2
theorem SS.store{X:Cx}(O:X.K=g.K){tg:Tg}{d:D}{v:V}{τ':Env}{Q:L2.St->Hp->Prop}(s:SS g c H0 B τ σ H S)(hf:i4 c tg)(r:Rep g (hid H S) d v)(h:EV.store tg d τ=.ok τ')(k:∀σ',SS g c H0 B τ' σ' H S->Q σ' H):gT X.K tg v σ H Q:=by
 have ho:=CP hf;cases tg with
 |nm i=>
  simp only[EV.store,R.ok.injEq]at h;subst h;exact k _ (s.set ho r)
 |tp is=>
  cases d with
  |tup ds=>
   simp only[EV.store]at h;split at h
   ·rename_i hl
    cases r with
    |tup h1 r1=>exact⟨_,_,rfl,by rw[O];exact eU qZ h1,by rw[<-r1.length];exact hl,s.setAll ho r1 h k⟩
   ·cases h
  |_=>simp[EV.store]at h
noncomputable def og(S:Sh)(a:Addr):Sh:=⟨λb=>S.o b||b==a,λb=>S.h b||b==a,S.z,S.y⟩
theorem SS.setOwn{i:Nat}{d:D}{v:V}(s:SS g c H0 B τ σ H S)(hz:c.frz=false)(hi:zc c i)(EZ:i<τ.length)(e:qf H H')(f:Fr g H S H' d v):∃S',SS g c H0 B (τ.set i (some d)) (σ.set i (some v)) H' S'/\qf (hid H S) (hid H' S'):=by
 obtain⟨a,oo,rfl,h1,h2,h3⟩:=f;have up:qf (hid H S) (hid H' (og S a)):=λb o hb=>by
  obtain⟨z1,z2⟩:=bC.mp hb;refine bC.mpr ⟨?_,e _ _ z2⟩;show (S.h b||b==a)=false;rw[z1]
  simpa using λz:b=a=>by rw[z,h1]at z2;cases z2
 have Ge:i<σ.length:=by rw[<-s.se.len];exact EZ
 refine⟨og S a,⟨⟨by simp[s.se.len],λj e' hj=>?_,λb hb n=>?_⟩,by simp[s.lenN],s.same.trans e,s.sub0,λb=>?_,λb hb=>?_,λj e' hj h l=>?_,λj k e1 e2 b hj hk q1 q2 l1 l2 q3 q4=>?_,λz=>by rw[hz]at z;cases z⟩,up⟩
 ·by_cases E1:i=j
  ·subst E1;simp[EZ]at hj;subst hj;refine⟨.ref a,by simp[Ge],.inr ⟨a,oo,by show (S.o a||a==a)=true;simp,rfl,h2,h3⟩,λx hx hn=>?_⟩;obtain⟨y,Hy,GF⟩:=hi;rw[Hy]at hx;cases hx;rw[hn]at GF;cases GF
  ·rw[List.getElem?_set_ne E1]at hj ⊢;obtain⟨u,z1,z2,z3⟩:=s.se.val j e' hj;refine⟨u,z1,?_,λx hx hn=>(z3 x hx hn).mono up⟩;rcases z2 with z2|⟨a',o',y1,y2,y4,y5⟩
   ·exact .inl (z2.mono up)
   ·exact .inr ⟨a',o',by show (S.o a'||a'==a)=true;rw[y1];rfl,y2,e _ _ y4,y5.mono up⟩
 ·have hb:(S.h b||b==a)=true\/(S.o b||b==a)=true:=hb;by_cases Gk:b=a
  ·rw[Gk,h2]at n;cases n
  ·have:S.h b=true\/S.o b=true:=by
    rcases hb with z|z
    ·exact .inl (by simpa[Gk]using z)
    ·exact .inr (by simpa[Gk]using z)
   exact(s.se.sub.same e) b this n
 ·show (S.h b||b==a)=(B.h b||(S.o b||b==a))
  rw[s.hd b,Bool.or_assoc]
 ·have hb:(S.o b||b==a)=true:=hb;by_cases Gk:b=a
  ·rw[Gk];exact s.same.free h1
  ·exact s.new b (by simpa[Gk]using hb)
 ·by_cases E1:i=j
  ·subst E1;simp[EZ]at h;subst h;exact⟨a,oo,by simp[Ge],by show (S.o a||a==a)=true;simp,h2,h3⟩
  ·rw[List.getElem?_set_ne E1]at h ⊢;obtain⟨a',o',y1,y2,y4,y5⟩:=s.own j e' hj h l;exact⟨a',o',y1,by show (S.o a'||a'==a)=true;rw[y2];rfl,e _ _ y4,y5.mono up⟩
 ·have other:∀j e1 b,i≠j->zc c j->τ[j]? = some (some e1)->zl e1=true->σ[j]? = some (some (.ref b))->b≠a:=λj e1 b E1 hj q1 l q3 z=>by
   obtain⟨a',o',y1,y2,y4,y5⟩:=s.own j e1 hj q1 l;rw[q3]at y1;cases y1;rw[z,h1]at y4;cases y4
  by_cases E1:i=j
  ·by_cases Fm:i=k
   ·rw[<-E1,<-Fm]
   ·subst E1;rw[List.getElem?_set_ne Fm]at q2 q4;have Mf:b=a:=by
     have:(σ.set i (some (.ref a)))[i]? = some (some (.ref a)):=by simp[Ge]
     rw[this]at q3;cases q3;rfl
    exact absurd Mf (other k e2 b Fm hk q2 l2 q4)
  ·by_cases Fm:i=k
   ·subst Fm;rw[List.getElem?_set_ne E1]at q1 q3;have Mh:b=a:=by
     have:(σ.set i (some (.ref a)))[i]? = some (some (.ref a)):=by simp[Ge]
     rw[this]at q4;cases q4;rfl
    exact absurd Mh (other j e1 b E1 hj q1 l1 q3)
   ·rw[List.getElem?_set_ne E1]at q1 q3;rw[List.getElem?_set_ne Fm]at q2 q4;exact s.inj j k e1 e2 b hj hk q1 q2 l1 l2 q3 q4
theorem SS.changeO{i:Nat}{a:Addr}{d0 d1:D}{o1:HO}(s:SS g c H0 B τ σ H S)(hz:c.frz=false)(hi:zc c i)(h0:τ[i]? = some (some d0))(ha:σ[i]? = some (some (.ref a)))(r:cg g (hid H S) a d1 o1)(l0:zl d0=true:=by rfl):SS g c H0 B (τ.set i (some d1)) σ (upd H a o1) S/\qf (hid H S) (hid (upd H a o1) S):=by
 have EZ:i<τ.length:=(List.getElem?_eq_some_iff.mp h0).1;obtain⟨a',o0,y1,y2,y4,y5⟩:=s.own i d0 hi h0 l0;rw[ha]at y1;cases y1;have hh:S.h a=true:=by rw[s.hd,y2,Bool.or_true]
 have he:hid (upd H a o1) S=hid H S:=gD hh;have other:∀j e,i≠j->zc c j->τ[j]? = some (some e)->zl e=true->∀b,σ[j]? = some (some (.ref b))->b≠a:=λj e E1 hj h l b hb z=>by
  subst z;exact E1 (s.inj i j d0 e b hi hj h0 h l0 l ha hb)
 refine⟨⟨⟨by simp[s.se.len],λj e hj=>?_,λb hb n=>?_⟩,by simp[s.lenN],λb o hb=>?_,s.sub0,s.hd,s.new,λj e hj h l=>?_,λj k e1 e2 b hj hk q1 q2 l1 l2 q3 q4=>?_,λz=>by rw[hz]at z;cases z⟩,by rw[he];exact qf.refl _⟩
 ·by_cases E1:i=j
  ·subst E1;simp[EZ]at hj;subst hj;refine⟨.ref a,ha,.inr ⟨a,o1,y2,rfl,zw,by rw[he];exact r⟩,λx hx hn=>?_⟩;obtain⟨y,Hy,GF⟩:=hi;rw[Hy]at hx;cases hx;rw[hn]at GF;cases GF
  ·rw[List.getElem?_set_ne E1]at hj;obtain⟨u,z1,z2,z3⟩:=s.se.val j e hj;by_cases ho:zc c j/\zl e=true
   ·obtain⟨b,ob,w1,w2,w4,w5⟩:=s.own j e ho.1 hj ho.2;rw[z1]at w1;cases w1;refine⟨_,z1,.inr ⟨b,ob,w2,rfl,by rw[ql (other j e E1 ho.1 hj ho.2 b z1)];exact w4,by rw[he];exact w5⟩,λx hx hn=>?_⟩;obtain⟨y,Hy,GF⟩:=ho.1;rw[Hy]at hx;cases hx;rw[hn]at GF;cases GF
   ·have st:Rep g (hid H S) e u:=by
     cases q:c.N[j]? with
     |some x=>
      cases q2:c.own.contains x with
      |false=>exact z3 x q q2
      |true=>exact z2.nold (by cases q3:zl e with|false=>rfl|true=>exact absurd ⟨⟨x,q,q2⟩,q3⟩ ho)
     |none=>
      have h1:=(List.getElem?_eq_some_iff.mp hj).1;have h2:=List.getElem?_eq_none_iff.mp q;have h3:=s.lenN;lia
    exact⟨u,z1,.inl (by rw[he];exact st),λ_ _ _=>by rw[he];exact st⟩
 ·by_cases Gk:b=a
  ·subst Gk;rw[zw]at n;cases n
  ·rw[ql Gk]at n;exact s.se.sub b hb n
 ·by_cases Gk:b=a
  ·subst Gk;rw[s.new b y2]at hb;cases hb
  ·rw[ql Gk];exact s.same _ _ hb
 ·by_cases E1:i=j
  ·subst E1;simp[EZ]at h;subst h;exact⟨a,o1,ha,y2,zw,by rw[he];exact r⟩
  ·rw[List.getElem?_set_ne E1]at h;obtain⟨b,ob,w1,w2,w4,w5⟩:=s.own j e hj h l;exact⟨b,ob,w1,w2,by rw[ql (other j e E1 hj h l b w1)];exact w4,by rw[he];exact w5⟩
 ·have f:∀k e,(τ.set i (some d1))[k]? = some (some e)->zl e=true->∃e',τ[k]? = some (some e')/\zl e'=true:=λk e h l=>by
   by_cases Fm:i=k
   ·subst Fm;exact⟨d0,h0,l0⟩
   ·rw[List.getElem?_set_ne Fm]at h;exact⟨e,h,l⟩
  obtain⟨Hq,Mi,KP⟩:=f j e1 q1 l1;obtain⟨Ih,Mj,IQ⟩:=f k e2 q2 l2;exact s.inj j k Hq Ih b hj hk Mi Mj KP IQ q3 q4
theorem SS.change{i:Nat}{a:Addr}{d0:D}{vs:List V}{ds:List D}(s:SS g c H0 B τ σ H S)(hz:c.frz=false)(hi:zc c i)(h0:τ[i]? = some (some d0))(ha:σ[i]? = some (some (.ref a)))(r:qi g (hid H S) ds vs)(l0:zl d0=true:=by rfl):SS g c H0 B (τ.set i (some (.lst ds))) σ (upd H a (.lst vs)) S/\qf (hid H S) (hid (upd H a (.lst vs)) S):=s.changeO hz hi h0 ha (.lst r) l0
theorem SS.drop{j:Nat}(s:SS g c H0 B τ σ H S)(hz:c.frz=false):SS g c H0 B (τ.set j none) σ H S:=by
 have f:∀k e,(τ.set j none)[k]? = some (some e)->τ[k]? = some (some e):=λk e h=>by
  by_cases q:j=k
  ·subst q;rw[List.getElem?_set]at h;simp at h
  ·rwa[List.getElem?_set_ne q]at h
 exact⟨⟨by simp[s.se.len],λk e h=>s.se.val k e (f k e h),s.se.sub⟩,by simp[s.lenN],s.same,s.sub0,s.hd,s.new,λk e hk h l=>s.own k e hk (f k e h) l,λk l e e' b hk hl h1 h2 l1 l2 h3 h4=>s.inj k l e e' b hk hl (f k e h1) (f l e' h2) l1 l2 h3 h4,λz=>by rw[hz]at z;cases z⟩
theorem SS.give{i j:Nat}{d:D}(s:SS g c H0 B τ σ H S)(hz:c.frz=false)(hi:¬ zc c i)(EZ:i<τ.length)(hj:zc c j)(h:τ[j]? = some (some d)) :
  ∃v S',σ[j]? = some (some v)/\SS g c H0 B ((τ.set j none).set i (some d)) (σ.set i (some v)) H S'/\qf (hid H S) (hid H S'):=by
 have E1:i≠j:=λz=>hi (z▸hj)
 cases l:zl d with
 |false=>
  obtain⟨v,z1,z2,_⟩:=s.se.val j d h;exact⟨v,S,z1,(s.drop hz).set hi (z2.nold l),qf.refl _⟩
 |true=>
  obtain⟨a,o,z1,y1,y2,y3⟩:=s.own j d hj h l;have ba:B.h a=false:=by
   cases q:B.h a with
   |false=>rfl
   |true=>exact absurd (s.new a y1) (s.sub0 a (.inl q))
  let S':Sh:=⟨λb=>S.o b && !(b==a),λb=>B.h b||(S.o b && !(b==a)),S.z,S.y⟩
  have le:qf (hid H S) (hid H S'):=λb u hb=>by
   obtain⟨q1,q2⟩:=bC.mp hb;rw[s.hd,Bool.or_eq_false_iff]at q1;refine bC.mpr ⟨?_,q2⟩;show (B.h b||(S.o b && !(b==a)))=false;rw[q1.1,q1.2];rfl
  have ha:hid H S' a=some o:=bC.mpr ⟨by show (B.h a||(S.o a && !(a==a)))=false;rw[ba];simp,y2⟩;have rd:Rep g (hid H S') d (.ref a):=y3.rep le ha;have other:∀k e b,k≠j->zc c k->τ[k]? = some (some e)->zl e=true->σ[k]? = some (some (.ref b))->b≠a:=λk e b IC hk q1 q2 q3 z=>by
   rw[z]at q3;exact IC (s.inj k j e d a hk hj q1 h q2 l q3 z1)
  have f:∀k e,i≠k->((τ.set j none).set i (some d))[k]? = some (some e)->k≠j/\τ[k]? = some (some e):=λk e Fm q=>by
   rw[List.getElem?_set_ne Fm]at q;by_cases z:j=k
   ·subst z;rw[List.getElem?_set]at q;simp at q
   ·rw[List.getElem?_set_ne z]at q;exact⟨λy=>z y.symm,q⟩
  have Mk:i<σ.length:=by rw[<-s.se.len];exact EZ
  refine⟨.ref a,S',z1,⟨⟨by simp[s.se.len],λk e q=>?_,λb q n=>?_⟩,by simp[s.lenN],s.same,s.sub0,λb=>rfl,λb q=>?_,λk e hk q l2=>?_,λk m e1 e2 b hk hm q1 q2 l1 l2 q3 q4=>?_,λz=>by rw[hz]at z;cases z⟩,le⟩
  ·by_cases Fm:i=k
   ·subst Fm;rw[List.getElem?_set_self (by simp[EZ])]at q;cases q;exact⟨.ref a,by simp[Mk],.inl rd,λ_ _ _=>rd⟩
   ·obtain⟨IC,q⟩:=f k e Fm q;rw[List.getElem?_set_ne Fm];obtain⟨u,w1,w2,w3⟩:=s.se.val k e q;by_cases ho:zc c k/\zl e=true
    ·obtain⟨b,ob,v1,v2,v4,v5⟩:=s.own k e ho.1 q ho.2;rw[w1]at v1;cases v1;have nb:=other k e b IC ho.1 q ho.2 w1;refine⟨_,w1,.inr ⟨b,ob,by show (S.o b && !(b==a))=true;rw[v2];simpa using nb,rfl,v4,v5.mono le⟩,λx hx hn=>?_⟩;obtain⟨y,Hy,GF⟩:=ho.1;rw[Hy]at hx;cases hx;rw[hn]at GF;cases GF
    ·have st:Rep g (hid H S) e u:=by
      cases q1:c.N[k]? with
      |some x=>
       cases q2:c.own.contains x with
       |false=>exact w3 x q1 q2
       |true=>exact w2.nold (by cases q3:zl e with|false=>rfl|true=>exact absurd ⟨⟨x,q1,q2⟩,q3⟩ ho)
      |none=>
       have h1:=(List.getElem?_eq_some_iff.mp q).1;have h2:=List.getElem?_eq_none_iff.mp q1;have h3:=s.lenN;lia
     exact⟨u,w1,.inl (st.mono le),λ_ _ _=>st.mono le⟩
  ·refine s.se.sub b ?_ n;have q:(B.h b||(S.o b && !(b==a)))=true\/(S.o b && !(b==a))=true:=q;simp only[bG,aQ]at q;rcases q with (q|q)|q
   ·exact .inl (by rw[s.hd,q];rfl)
   ·exact .inr q.1
   ·exact .inr q.1
  ·have q:(S.o b && !(b==a))=true:=q;simp only[aQ]at q;exact s.new b q.1
  ·have Fm:i≠k:=λz=>hi (z▸hk)
   obtain⟨IC,q⟩:=f k e Fm q;rw[List.getElem?_set_ne Fm];obtain⟨b,ob,v1,v2,v4,v5⟩:=s.own k e hk q l2;have nb:=other k e b IC hk q l2 v1;exact⟨b,ob,v1,by show (S.o b && !(b==a))=true;rw[v2];simpa using nb,v4,v5.mono le⟩
  ·have Fm:i≠k:=λz=>hi (z▸hk)
   have K7:i≠m:=λz=>hi (z▸hm)
   rw[List.getElem?_set_ne Fm]at q3;rw[List.getElem?_set_ne K7]at q4;exact s.inj k m e1 e2 b hk hm (f k e1 Fm q1).2 (f m e2 K7 q2).2 l1 l2 q3 q4
end
def cH(g:Gc)(c:Cc)(E:XK)(fr:Bool)(H0:Hp)(B:Sh)(H:Hp)(S:Sh)(D:Ends):O->Prop
 | .nx τ'=>∀σ' H' S',SS g c H0 B τ' σ' H' S'->qf (hid H S) (hid H' S')->D.nx σ' H'
 | .bk τ'=>∀σ' H' S',SS g c H0 B τ' σ' H' S'->qf (hid H S) (hid H' S')->D.bk σ' H'
 | .ct τ'=>∀σ' H' S',SS g c H0 B τ' σ' H' S'->qf (hid H S) (hid H' S')->D.ct σ' H'
 | .rt d=>∀v H',qf H0 H'->Rep g (hid H' B) d v->(fr=true->zl d=true->Fr g H0 B H' d v)->D.rt v H'
 | .ex k=>∀H' C,qf H0 H'->g.clA k=some C->E (.ref C) none H'
 | .no=>False
section
variable(w:W)(g:Gc)(c:Cc)(E:XK)(fr:Bool)
def tS(s:EV.S):TS:=λD σ H=>∃H0 B τ S,SS g c H0 B τ σ H S/\cH g c E fr H0 B H S D (evS w s τ)
def tSs(s:Ss):TS:=λD σ H=>∃H0 B τ S,SS g c H0 B τ σ H S/\cH g c E fr H0 B H S D (qh w s τ)
end
structure XS(w:W)(g:Gc)(c:Cc)(E:XK)(X:Cx):Prop extends XO w g c E X where
 thr:c.thr=true->Throws X E
 exc:∀x C,c.G.lookup x=some .exc->g.clA x=some C->pq g.K C
 cat:∀k x,w.cat k x=true->∀C D,g.clA k=some C->g.clA x=some D->PySem.W.exmOne g.K (.ref C) (.ref D)=some true
 frm:X.ex=[]/\X.stack=X.env::X.outer/\X.env.frame=some X.env.locals
 gh:∀x k,c.GH.lookup x=some k->k≠.exc/\∀v,GM w g X.prog X.w X.mg X.base (X.A.mark v) false x k
section
variable{w:W}{g:Gc}{c:Cc}{E:XK}{fr:Bool}{X:Cx}{H0:Hp}{B:Sh}{τ:Env}{σ:L2.St}{H H':Hp}{S:Sh}{Ed:Ends}
theorem cH.up{o:O}{S':Sh}(h:cH g c E fr H0 B H S Ed o)(e:qf (hid H S) (hid H' S')):cH g c E fr H0 B H' S' Ed o:=by
 cases o with
 |nx t=>exact λσ' H2 S2 s e2=>h σ' H2 S2 s (e.trans e2)
 |bk t=>exact λσ' H2 S2 s e2=>h σ' H2 S2 s (e.trans e2)
 |ct t=>exact λσ' H2 S2 s e2=>h σ' H2 S2 s (e.trans e2)
 |rt d=>exact h
 |ex k=>exact h
 |no=>exact h
theorem s_e{e:EV.E}{f:D->O}{Q:VK}(ss:SS g c H0 B τ σ H S)(h:cH g c E fr H0 B H S Ed ((evE w e τ).out f))(k:∀d v H',evE w e τ=.ok d->bu g c e S H d v H'->cH g c E fr H0 B H S Ed (f d)->Q v H'):tE w g c E e σ H Q:=by
 refine⟨τ,S,ss.se,?_⟩;cases q:evE w e τ with
 |ok d=>rw[q]at h;exact λv H' p=>k d v H' q p h
 |ex x=>rw[q]at h;exact λH' C s hc=>h H' C (ss.same.trans s) hc
 |no=>rw[q]at h;exact h
theorem s_t{t:T}{f:Bool->O}{Q:Bool->Hp->Prop}(ss:SS g c H0 B τ σ H S)(h:cH g c E fr H0 B H S Ed ((evT w t τ).out f))(k:∀b H',evT w t τ=.ok b->qf H H'->cH g c E fr H0 B H S Ed (f b)->Q b H'):tT w g c E t σ H Q:=by
 refine⟨τ,S,ss.se,?_⟩;cases q:evT w t τ with
 |ok d=>rw[q]at h;exact λH' p=>k d H' q p h
 |ex x=>rw[q]at h;exact λH' C s hc=>h H' C (ss.same.trans s) hc
 |no=>rw[q]at h;exact h
theorem pV(ss:SS g c H0 B τ σ H S){b:Addr}(h:S.h b=false):B.h b=false:=by
 have:=ss.hd b;rw[h]at this;cases q:B.h b with
 |false=>rfl
 |true=>rw[q]at this;cases this
theorem kO(ss:SS g c H0 B τ σ H S):qf (hid H' S) (hid H' B):=λb o h=>by
 obtain⟨z1,z2⟩:=bC.mp h;exact bC.mpr ⟨pV ss z1,z2⟩
theorem sQ:∀{is:List Nat}{ds:List EV.D}{τ:Env}{x:Str},setAll is ds τ≠.ex x
 | [],[],_,_,h=>by cases h
 | [],_::_,_,_,h=>by cases h
 |_::_,[],_,_,h=>by cases h
 |i::is,d::ds,τ,x,h=>by simp only[setAll]at h;exact sQ h
theorem i7{e:Expr}{t:Option Expr}{l:Nat}{env:PySem.Env}(h:ee e=false):swapsWith e t l env=pure false:=by
 cases e<;>first|rfl|(exact Bool.noConfusion h)
theorem CA{e:Expr}{ie:EV.E}{pos:Pos}(he:PE X e (tE w g c E ie))(hc:ee e=false):PS X (.Expr e pos) (tS w g c E fr (.exp ie)):=
 PS.imp (k8 he (i7 hc)) λD σ H ⟨H0,B,τ,S,ss,h⟩=>by
  simp only[zS,cA,cz,cD,zz,cG,cx,cJ,cU,zX,zZ,zU,zW,cV,zY,zV]at h;exact s_e ss h λd v H' _ p k=>k σ H' S (ss.up p.same) (qg p.same)
theorem we{pos:Pos}(hf:fr=false):PS X (.Return none pos) (tS w g c E fr .retN):=PS.imp yq λD σ H ⟨H0,B,τ,S,ss,h⟩=>h _ _ ss.same .non (by rw[hf];intro z;cases z)
theorem mE(ss:SS g c H0 B τ σ H S){a:Addr}{d:EV.D}{o:HO}(h1:H0 a=none)(h2:H' a=some o)(h3:cg g (hid H' (qY S a)) a d o):Rep g (hid H' B) d (.ref a)/\Fr g H0 B H' d (.ref a):=by
 have up:qf (hid H' (qY S a)) (hid H' (qY B a)):=λb o hb=>by
  obtain⟨z1,z2⟩:=bC.mp hb;refine bC.mpr ⟨?_,z2⟩;have z1:(S.h b||b==a)=false:=z1;simp only[Bool.or_eq_false_iff]at z1;show (B.h b||b==a)=false;rw[pV ss z1.1,z1.2];rfl
 exact⟨h3.rep (up.trans j0) (bC.mpr ⟨ss.sub0.free h1,h2⟩),⟨a,o,rfl,h1,h2,h3.mono up⟩⟩
theorem nL(ss:SS g c H0 B τ σ H S){a:Addr}{d:EV.D}{o1:HO}(y1:S.o a=true)(y3:cg g (hid H' S) a d o1):cg g (hid H' (qY S a)) a d o1:=y3.mono λb o hb=>by
 have hh:S.h a=true:=by rw[ss.hd,y1,Bool.or_true]
 obtain⟨z1,z2⟩:=bC.mp hb;refine bC.mpr ⟨?_,z2⟩;show (S.h b||b==a)=false;rw[z1]
 simpa using λz:b=a=>by rw[z,hh]at z1;cases z1
theorem rT{e:Expr}{ie:EV.E}{pos:Pos}(he:PE X e (tE w g c E ie))(hf:fr=true->zF c ie=true):PS X (.Return (some e) pos) (tS w g c E fr (.ret ie)):=
 PS.imp (kM he) λD σ H ⟨H0,B,τ,S,ss,h⟩=>by
  simp only[zS,cA,cz,cD,zz,cG,cx,cJ,cU,zX,zZ,zU,zW,cV,zY,zV]at h;refine s_e ss h λd v H' _ p k=>?_
  have k:∀v H',qf H0 H'->Rep g (hid H' B) d v->(fr=true->zl d=true->Fr g H0 B H' d v)->D.rt v H':=k;have s1:=ss.up p.same;by_cases hz:fr=true/\zl d=true
  ·obtain⟨a,o,rfl,h1,h2,h3⟩:=p.frc (hf hz.1) hz.2;obtain⟨r1,r2⟩:=mE (H':=H') ss (ss.same.free h1) h2 h3;exact k _ H' s1.same r1 λ_ _=>r2
  ·rcases p.rb with r|⟨a,o,y1,rfl,y2,y3⟩
   ·exact k v H' s1.same (r.mono (kO ss)) λz l=>absurd ⟨z,l⟩ hz
   ·obtain⟨r1,r2⟩:=mE (H':=H') ss (ss.new a y1) y2 (nL ss y1 y3);exact k _ H' s1.same r1 λ_ _=>r2
theorem BN{e:Expr}{ie:EV.E}{pos:Pos}(he:PE X e (tE w g c E ie)):PS X (.Return (some e) pos) (tS w g c E fr (.retn ie)):=
 PS.imp (kM he) λD σ H ⟨H0,B,τ,S,ss,h⟩=>by
  simp only[zS,cA,cz,cD,zz,cG,cx,cJ,cU,zX,zZ,zU,zW,cV,zY,zV]at h;refine s_e ss h λd v H' _ p k=>?_
  have s1:=ss.up p.same;cases hl:zl d with
  |true=>rw[hl]at k;exact k.elim
  |false=>
   rw[hl]at k;have k:∀v H',qf H0 H'->Rep g (hid H' B) d v->(fr=true->zl d=true->Fr g H0 B H' d v)->D.rt v H':=k;rcases p.rb with r|⟨a,o,y1,rfl,y2,y3⟩
   ·exact k v H' s1.same (r.mono (kO ss)) λ_ l=>by rw[hl]at l;cases l
   ·cases y3<;>cases hl
theorem vj(O:XO w g c E X){x:Str}{i:Nat}{p pos:Pos}(h:loc c x=some i)(ho:c.own.contains x=true):PS X (.Return (some (.Name x p)) pos) (tS w g c E fr (.ret (.own i))):=by
 obtain⟨h1,h2,h3,h4⟩:=zO h;refine PS.imp (kM (g9 (i:=i) (by rw[O.N];exact h1) (by unfold fC;rw[O.nm];exact h2) h3 h4)) λD σ H ⟨H0,B,τ,S,ss,h⟩=>?_
 simp only[zS,cA,cz,cD,zz,cG,cx,cJ,cU,zX,zZ,zU,zW,cV,zY,zV,qz,qX,ze,zj,qV,zp,zk,qF,qH,qI,qC,qE,qS,qJ,qD,qw,qG,qB,qu,qK,qx,qU,qN,qM,qR,qQ,qT,qP,zo]at h;cases q:τ[i]? with
 |none=>rw[q]at h;exact h.elim
 |some o=>
  cases o with
  |none=>rw[q]at h;exact h.elim
  |some d=>
   rw[q]at h;cases hl:zl d with
   |false=>
    obtain⟨v,z1,z2,_⟩:=ss.se.val i d q;exact⟨_,z1,h v H ss.same ((z2.nold hl).mono (kO ss)) λ_ l=>by rw[hl]at l;cases l⟩
   |true=>
   obtain⟨a,o,z1,y1,y2,y3⟩:=ss.own i d ⟨x,h1,ho⟩ q hl;obtain⟨r1,r2⟩:=mE (H':=H) ss (ss.new a y1) y2 (nL ss y1 y3);exact⟨_,z1,h _ H ss.same r1 λ_ _=>r2⟩
theorem iZ{e:Expr}{ie:EV.E}{i:Nat}{st:Stmt}{te:TE}(hp:PS X st (jn te (eZ i)))(hr:∀σ H Q,tE w g c E ie σ H Q->te σ H Q)(EZ:i<c.N.length)(hk:(zc c i/\zF c ie=true/\c.frz=false)\/(¬ zc c i/\esc ie=true)):PS X st (tS w g c E fr (.set (.nm i) ie)):=
 PS.imp hp λD σ H ⟨H0,B,τ,S,ss,h⟩=>by
  simp only[zS,cA,cz,cD,zz,cG,cx,cJ,cU,zX,zZ,zU,zW,cV,zY,zV,store]at h;refine hr σ H _ (s_e ss h λd v H' _ p k=>?_);have k:∀σ' H2 S2,SS g c H0 B (τ.set i (some d)) σ' H2 S2->qf (hid H S) (hid H2 S2)->D.nx σ' H2:=k;rcases hk with ⟨ho,hf,FH⟩|⟨ho,he⟩
  ·cases hl:zl d with
   |true=>
    obtain⟨S',s1,s2⟩:=ss.setOwn FH ho (by rw[ss.lenN];exact EZ) p.same (p.frc hf hl);exact k _ _ S' s1 s2
   |false=>exact k _ _ S ((ss.up p.same).setN FH (by rw[ss.lenN];exact EZ) hl (p.rb.nold hl)) (qg p.same)
  ·exact k _ _ S ((ss.up p.same).set ho (p.st he)) (qg p.same)
theorem t8(O:XO w g c E X){tg e:Expr}{E4:Tg}{ie:EV.E}{pos:Pos}(he:PE X e (tE w g c E ie))(hg:PG X tg (gT X.K E4))(hf:i4 c E4)(Gf:esc ie=true)(hs:swapsWithSole [tg] e pos.line X.env=pure false)(hw:swappedStores [tg] e X.env=pure none)(h1:(assignEach [tg] X.env).map (·.2)=[assign tg X.env]) :
  PS X (.Assign [tg] e pos) (tS w g c E fr (.set E4 ie)):=
 PS.imp (sU he hg hs hw h1) λD σ H ⟨H0,B,τ,S,ss,h⟩=>by
  simp only[zS,cA,cz,cD,zz,cG,cx,cJ,cU,zX,zZ,zU,zW,cV,zY,zV]at h;refine s_e ss h λd v H' _ p k=>?_
  cases q:store E4 d τ with
  |ok τ'=>
   rw[q]at k;exact(ss.up p.same).store O.K hf (p.st Gf) q λσ' s1=>k σ' H' S s1 (qg p.same)
  |ex z=>cases E4<;>simp only[store]at q<;>first|cases q|(split at q<;>first|cases q|(split at q<;>first|(exact absurd q (sQ))|cases q))
  |no=>rw[q]at k;exact k.elim
end
section
variable{w:W}{g:Gc}{c:Cc}{E:XK}{fr:Bool}{X:Cx}{H0:Hp}{B:Sh}{τ:Env}{σ:L2.St}{H H':Hp}{S:Sh}{Ed:Ends}
theorem jm{i:Nat}{d:EV.D}(h:zo τ i=.ok d):τ[i]? = some (some d):=by
 unfold zo at h;split at h
 ·rename_i q;cases h;exact q
 ·cases h
theorem uw(O:XO w g c E X)(FH:c.frz=false){x:Str}{i:Nat}{a:Expr}{ia:EV.E}{p ap cp pos:Pos}(h:loc c x=some i)(ho:c.own.contains x=true)(ha:PE X a (tE w g c E ia))(Gf:esc ia=true)(hs:isStar a=false)(hl:(ap.endLine==cp.line)=true) :
  PS X (.Expr (.Call (.Attribute (.Name x p) "append" ap) [a] [] cp) pos) (tS w g c E fr (.app i ia)):=by
 obtain⟨h1,h2,h3,h4⟩:=zO h;have hv:PE X (.Name x p) (gY i):=g9 (i:=i) (by rw[O.N];exact h1) (by unfold fC;rw[O.nm];exact h2) h3 h4;have FV:=za (es:=[]) (env:=X.env) hs;have hb:=Ec (X:=X) (apos:=ap) (cpos:=cp) PySem.F.plainAttrs_list PySem.F.slot_list_append PySem.F.type_list_append tq hv (gk ha g8 FV) rfl (by rw[FV];rfl) hl FV rfl;refine PS.imp (k8 hb rfl) λD σ H ⟨H0,B,τ,S,ss,k⟩=>?_
 simp only[zS,cA,cz,cD,zz,cG,cx,cJ,cU,zX,zZ,zU,zW,cV,zY,zV]at k;cases q:zo τ i with
 |ex z=>unfold zo at q;split at q<;>cases q
 |no=>rw[q]at k;exact k.elim
 |ok d0=>
  rw[q]at k;have q':=jm q;have hi:zc c i:=⟨x,h1,ho⟩
  have ld:zl d0=true:=by cases d0<;>first|rfl|exact k.elim
  obtain⟨ad,oo,z1,y1,y2,y3⟩:=ss.own i d0 hi q' ld;cases y3 with
  |dic kvs=>exact k.elim
  |dct _ _=>exact k.elim
  | @lst ds vs y3=>
  refine⟨_,z1,.inl ⟨rfl,vs,SqL.of y2⟩,s_e ss k λd v H1 _ p1 k1=>?_⟩
  try simp only at k1
  by_cases hz:ds.length<SZ
  ·rw[if_pos hz]at k1;have s1:=ss.up p1.same;have Gg:=p1.same _ _ y2;obtain⟨s2,s3⟩:=s1.change (vs:=vs++[v]) (ds:=ds++[d]) FH hi q' z1 ((y3.mono (qg p1.same)).append (.cons (p1.st Gf) .nil));exact⟨ad,vs,v,rfl,rfl,Gg,by rw[<-y3.length,bx];unfold SZ at hz;lia,k1 _ _ S s2 ((qg p1.same).trans s3)⟩
  ·rw[if_neg hz]at k1;exact k1.elim
theorem BS(O:XO w g c E X){x:Str}{i:Nat}{e:Expr}{ie:EV.E}{p pos:Pos}(hl:b7 c x=some i)(ho:c.own.contains x=false)(he:PE X e (tE w g c E ie)):PS X (.AugAssign (.Name x p) .Add e pos) (tS w g c E fr (.aug i ie)):=by
 obtain⟨l1,l2⟩:=zQ hl;obtain⟨l3,_⟩:=zO l1;have hx:L2.Loc X.env.scope x:=by unfold L2.Loc;rw[O.nm];rcases l2 with z|z;exact .inl z;exact .inr z.1
 have hf:X.fn x=true\/X.env.scope.names.lookup x=some .local:=by
  rcases l2 with z|z
  ·exact .inr (by rw[O.nm];exact z)
  ·exact .inl (O.fn x z.2)
 have J9:¬ zc c i:=λ⟨y,z1,z2⟩=>by rw[l3]at z1;cases z1;rw[ho]at z2;cases z2
 refine PS.imp (wD (by rw[O.N];exact O.nd) (by rw[O.N];exact l3) hx he CG hf) λD σ H ⟨H0,B,τ,S,ss,h⟩=>?_
 simp only[zS,cA,cz,cD,zz,cG,cx,cJ,cU,zX,zZ,zU,zW,cV,zY,zV]at h;cases q:zo τ i with
 |ex z=>unfold zo at q;split at q<;>cases q
 |no=>rw[q]at h;exact h.elim
 |ok d0=>
  rw[q]at h;obtain⟨v0,z1,z2,_⟩:=ss.se.val i d0 (jm q);refine⟨v0,z1,s_e ss h λd v H1 _ p1 k1=>?_⟩;cases d0 with
  |int a=>
   cases d with
   |int b=>
    have h2:=p1.rb.int;have h1:=z2.int;subst h2 h1;have k1:∀σ' H2 S2,SS g c H0 B (τ.set i (some (.int (a+b)))) σ' H2 S2->qf (hid H S) (hid H2 S2)->D.nx σ' H2:=k1;exact⟨a,b,rfl,rfl,k1 _ _ S ((ss.up p1.same).set J9 (.int _)) (qg p1.same)⟩
   |_=>exact k1.elim
  |_=>exact k1.elim
theorem mi{α β:Type}:∀{ms ks:List (List Int)}{as:List α}{bs:List β},as.length=bs.length->WD.zH ks (ms.zip as)=WD.zH ks (ms.zip bs)
 | [],_,_,_,_=>rfl
 |_::_,_,[],[],_=>rfl
 |_::_,_,[],_::_,h=>by cases h
 |_::_,_,_::_,[],h=>by cases h
 |m::ms,ks,a::as,b::bs,h=>mi (ms:=ms) (ks:=WD.zK ks m) (by simpa using h)
theorem iR{α:Type}{k:List Int}{y:α}:∀{ks:List (List Int)}{vs:List α},(WD.cK ks vs k y).length=vs.length
 | [],_=>by simp only[WD.cK]
 |_::_,[]=>rfl
 |_::ks,_::vs=>by simp only[WD.cK,b_];rw[iR]
theorem vt{ks:List (List Int)}{α:Type}{vs:List α}{k:List Int}{y:α}(h:ks.length=vs.length):(WD.zK ks k).length=(WD.zT ks vs k y).length:=by
 unfold WD.zK WD.zT;split
 ·rw[h,iR]
 ·simp[h]
theorem pO{H:Hp}{es:List EV.D}{us:List V}(r:qi g H es us):∀{ms ks:List (List Int)}{ds:List EV.D}{vs:List V},ks.length=vs.length->qi g H ds vs->qi g H (WD.zE ks ds (ms.zip es)) (WD.zE ks vs (ms.zip us)):=by
 intro ms
 induction ms generalizing es us with
 |nil=>intro ks ds vs _ r2;simp only[List.zip_nil_left,WD.zE];exact r2
 |cons m ms ih=>
  intro ks ds vs hl r2;cases r with
  |nil=>simp only[List.zip_nil_right,WD.zE];exact r2
  |cons r1 r'=>exact ih r' (vt hl) (jA hl r2 r1)
theorem D7(O:XO w g c E X)(FH:c.frz=false){x:Str}{i:Nat}{a:Expr}{ia:EV.E}{p ap cp pos:Pos}(h:loc c x=some i)(ho:c.own.contains x=true)(ha:PE X a (tE w g c E ia))(Gf:esc ia=true)(hs:isStar a=false)(hl:(ap.endLine==cp.line)=true) :
  PS X (.Expr (.Call (.Attribute (.Name x p) "update" ap) [a] [] cp) pos) (tS w g c E fr (.dupd i ia)):=by
 obtain⟨h1,h2,h3,h4⟩:=zO h;have hv:PE X (.Name x p) (gY i):=g9 (i:=i) (by rw[O.N];exact h1) (by unfold fC;rw[O.nm];exact h2) h3 h4;have FV:=za (es:=[]) (env:=X.env) hs;have hu:=O.units;refine PS.imp (k8 (WD.Ad (X:=X) (apos:=ap) (cpos:=cp) (by lia) hv ha ⟨rfl,by rw[FV];rfl,hl,by rw[FV];rfl⟩) rfl) λD σ H ⟨H0,B,τ,S,ss,k⟩=>?_
 simp only[zS,cA,cz,cD,zz,cG,cx,cJ,cU,zX,zZ,zU,zW,cV,zY,zV]at k;cases q:zo τ i with
 |ex z=>unfold zo at q;split at q<;>cases q
 |no=>rw[q]at k;exact k.elim
 |ok d0=>
  rw[q]at k;have q':=jm q;have hi:zc c i:=⟨x,h1,ho⟩
  have ld:zl d0=true:=by cases d0<;>first|rfl|exact k.elim
  obtain⟨ad,oo,z1,y1,y2,y3⟩:=ss.own i d0 hi q' ld;have ne:∀{b:Addr}{H1:Hp}{o:HO},hid H1 S b=some o->ad≠b:=λFf z=>by
   obtain⟨b1,b2⟩:=bC.mp Ff;have:S.h ad=true:=by rw[ss.hd,y1,Bool.or_true]
   rw[z,b1]at this;cases this
  cases y3 with
  |lst r=>exact k.elim
  |dic kvs ys ID ey=>
   refine⟨_,z1,ad,rfl,.inl ⟨kvs,ys,ID,y2,ey⟩,s_e ss k λd v H1 _ p1 k1=>?_⟩;have s1:=ss.up p1.same;have Gg:=p1.same _ _ y2;cases d with
   |dct ms es=>
    simp only at k1;by_cases qe:kvs.isEmpty=true
    ·rw[if_pos qe]at k1;cases List.isEmpty_iff.mp qe;cases List.map_eq_nil_iff.mp ey;unfold eX at k1;split at k1
     ·rename_i hc
      obtain⟨c1,c2,c3⟩:=hc;cases p1.st Gf with
      | @dct b _ _ IE J_ Ka Ff r2 rr2=>
       refine⟨b,[],J_,Ka,[],[],ms,IE,hid H1 S,rfl,ne Ff,.inr ⟨rfl,ID,Gg⟩,qZ _ _ Ff,qZ,.nil,by rw[O.K];exact r2,λz=>(by rw[z]at c1;cases c1),λ_=>c2 rfl,by rw[bx];unfold SZ at c3;lia,λFz ep' r=>?_⟩;rw[O.K]at r;obtain⟨s2,s3⟩:=s1.changeO (d1:=.dct (WD.zH [] (ms.zip es)) (WD.zE [] [] (ms.zip es))) (o1:=WD.zD ad Fz ep') FH hi q' z1 (.dct (by rw[mi (β:=V) (bs:=IE) rr2.length];exact r) (pO rr2 rfl .nil));exact k1 _ _ S s2 ((qg p1.same).trans s3)
     ·exact k1.elim
    ·rw[if_neg qe]at k1;exact k1.elim
   |_=>exact k1.elim
  | @dct ks ds vs xs ep r0 rr=>
   refine⟨_,z1,ad,rfl,.inr ⟨_,_,y2⟩,s_e ss k λd v H1 _ p1 k1=>?_⟩;have s1:=ss.up p1.same;have Gg:=p1.same _ _ y2;cases d with
   |dct ms es=>
    simp only at k1;unfold eX at k1;split at k1
    ·rename_i hc
     obtain⟨c1,c2,c3⟩:=hc;cases p1.st Gf with
     | @dct b _ _ IE J_ Ka Ff r2 rr2=>
      have up:=qg (S:=S) p1.same;refine⟨b,xs,J_,Ka,ks,vs,ms,IE,hid H1 S,rfl,ne Ff,.inl ⟨ep,Gg⟩,qZ _ _ Ff,qZ,by rw[O.K];exact r0.up up,by rw[O.K];exact r2,λz=>(by rw[z]at c1;cases c1),λz=>c2 (by rw[z];rfl),by rw[bx];unfold SZ at c3;lia,λFz ep' r=>?_⟩;rw[O.K]at r;obtain⟨s2,s3⟩:=s1.changeO (d1:=.dct (WD.zH ks (ms.zip es)) (WD.zE ks ds (ms.zip es))) (o1:=WD.zD ad Fz ep') FH hi q' z1 (.dct (by rw[mi (β:=V) (bs:=IE) rr2.length];exact r) (pO rr2 r0.len.1 (rr.mono up)));exact k1 _ _ S s2 (up.trans s3)
    ·exact k1.elim
   |_=>exact k1.elim
theorem ui(O:XO w g c E X)(FH:c.frz=false){x y:Str}{i j:Nat}{px py pos:Pos}(hx:b7 c x=some i)(hy:loc c y=some j)(Kb:c.own.contains x=false)(Kc:c.own.contains y=true) :
  PS X (.Assign [.Name x px] (.Name y py) pos) (tS w g c E fr (.give i j)):=by
 obtain⟨h1,h2,h3,h4⟩:=zO hy;obtain⟨l1,l2⟩:=zQ hx;obtain⟨l3,_⟩:=zO l1;have hv:PE X (.Name y py) (gY j):=g9 (i:=j) (by rw[O.N];exact h1) (by unfold fC;rw[O.nm];exact h2) h3 h4;refine PS.imp (jF (i:=i) (by rw[O.N];exact O.nd) (by rw[O.N];exact l3) (by unfold L2.Loc;rw[O.nm];rcases l2 with z|z;exact .inl z;exact .inr z.1) hv (i7 rfl) (by
  rcases l2 with z|z
  ·exact .inr (by rw[O.nm];exact z)
  ·exact .inl (O.fn x z.2))) λD σ H ⟨H0,B,τ,S,ss,k⟩=>?_
 simp only[zS,cA,cz,cD,zz,cG,cx,cJ,cU,zX,zZ,zU,zW,cV,zY,zV]at k;cases q:zo τ j with
 |ex z=>unfold zo at q;split at q<;>cases q
 |no=>rw[q]at k;exact k.elim
 |ok d0=>
  rw[q]at k;have q':=jm q;have hj:zc c j:=⟨y,h1,Kc⟩
  have J9:¬ zc c i:=λ⟨z,z1,z2⟩=>by rw[l3]at z1;cases z1;rw[Kb]at z2;cases z2
  obtain⟨v,S',z1,s2,sm⟩:=ss.give FH J9 (by rw[ss.lenN];exact(List.getElem?_eq_some_iff.mp l3).1) hj q';exact⟨v,z1,k _ _ S' s2 sm⟩
theorem DM(O:XO w g c E X)(FH:c.frz=false){x:Str}{i:Nat}{k e:Expr}{ik ie:EV.E}{p sp pos:Pos}(h:loc c x=some i)(ho:c.own.contains x=true)(hk:PE X k (tE w g c E ik))(he:PE X e (tE w g c E ie))(Gf:esc ie=true)(IX:isSlice k=false)(hc:ee e=false) :
  PS X (.Assign [.Subscript (.Name x p) k sp] e pos) (tS w g c E fr (.seti i ik ie)):=by
 obtain⟨h1,h2,h3,h4⟩:=zO h;have hv:PE X (.Name x p) (gY i):=g9 (i:=i) (by rw[O.N];exact h1) (by unfold fC;rw[O.nm];exact h2) h3 h4;have hg:=Dh (pos:=sp) hv hk (((set_list (X:=X)).or WD.vD).or (WD.yO O.units)) (by intro v;cases k<;>first|rfl|(exact Bool.noConfusion IX));refine PS.imp (sU he hg (by simp only[swapsWithSole];exact i7 hc) rfl rfl) λD σ H ⟨H0,B,τ,S,ss,k⟩=>?_
 simp only[zS,cA,cz,cD,zz,cG,cx,cJ,cU,zX,zZ,zU,zW,cV,zY,zV]at k;refine s_e ss k λd v H1 _ p1 k1=>?_
 cases q:zo τ i with
 |ex z=>unfold zo at q;split at q<;>cases q
 |no=>rw[q]at k1;exact k1.elim
 |ok d0=>
  rw[q]at k1;have q':=jm q;have hi:zc c i:=⟨x,h1,ho⟩
  have s1:=ss.up p1.same;cases ld:zl d0 with
  |false=>
   obtain⟨v0,z1,_⟩:=s1.se.val i d0 q';refine⟨_,z1,s_e s1 (cH.up k1 (qg p1.same)) λn vn H2 _ p2 k2=>?_⟩;cases d0<;>first|exact k2.elim|cases ld
  |true=>
  obtain⟨ad,oo,z1,y1,y2,y3⟩:=s1.own i d0 hi q' ld;refine⟨_,z1,s_e s1 (cH.up k1 (qg p1.same)) λn vn H2 _ p2 k2=>?_⟩;cases y3 with
  | @lst ds vs y3=>
   cases n with
   |int j=>
    simp only at k2;cases qj:ixN ds.length j with
    |none=>rw[qj]at k2;exact k2.elim
    |some m=>
     rw[qj]at k2;have s2:=s1.up p2.same;have Gg:=p2.same _ _ y2;obtain⟨s3,s4⟩:=s2.change (vs:=vs.set m v) (ds:=ds.set m d) FH hi q' z1 ((y3.mono (qg p2.same)).set ((p1.st Gf).mono (qg p2.same)) m);exact .inl (.inl ⟨ad,vs,j,m,rfl,p2.rb.int,Gg,by rw[<-y3.length];exact qj,k2 _ _ S s3 ((qg p2.same).trans s4)⟩)
   |_=>exact k2.elim
  |dic kvs zs ID ez=>
   cases n with
   |int j=>
    cases d with
    |int z=>
     simp only at k2;by_cases hz:kvs.length<SZ
     ·rw[if_pos hz]at k2;have s2:=s1.up p2.same;have Gg:=p2.same _ _ y2;have hv:=p1.rb.int;subst hv;refine .inl (.inr ⟨ad,zs,ID,j,z,rfl,p2.rb.int,rfl,Gg,?_,λMl ep' e=>?_⟩)
      ·have:kvs.length=zs.length:=by rw[<-ez,aV]
       rw[bx];unfold SZ at hz;lia
      ·rw[ez]at e;obtain⟨s3,s4⟩:=s2.changeO (d1:=.dic (b9 kvs j z)) (o1:=WD.cf ad Ml ep') FH hi q' z1 (.dic _ _ _ e);exact k2 _ _ S s3 ((qg p2.same).trans s4)
     ·rw[if_neg hz]at k2;exact k2.elim
    |_=>exact k2.elim
   |tup xs=>
    simp only at k2;by_cases qe:kvs.isEmpty=true
    ·rw[if_pos qe]at k2;cases List.isEmpty_iff.mp qe;cases List.map_eq_nil_iff.mp ez;simp only[gZ]at k2;cases ek:ints? xs with
     |none=>rw[ek]at k2;exact k2.elim
     |some kk=>
      rw[ek]at k2;dsimp only at k2;rw[if_pos (by decide)]at k2;have s2:=s1.up p2.same;have Gg:=p2.same _ _ y2;obtain⟨b',rfl,Ff⟩:=mD p2.rb ek;refine .inr ⟨ad,b',[],[],[],kk,hid H2 S,rfl,rfl,.inr ⟨rfl,ID,Gg⟩,qZ,.nil,by rw[O.K];exact Ff,by rw[bx];simp,λFz ep r=>?_⟩;rw[O.K]at r;obtain⟨s3,s4⟩:=s2.changeO (d1:=.dct (WD.zK [] kk) (WD.zT [] [] kk d)) (o1:=WD.zD ad Fz ep) FH hi q' z1 (.dct r (jA rfl .nil ((p1.st Gf).mono (qg p2.same))));exact k2 _ _ S s3 ((qg p2.same).trans s4)
    ·rw[if_neg qe]at k2;exact k2.elim
   |_=>exact k2.elim
  | @dct ks ds vs xs ep r0 rr=>
   cases n with
   |tup ys=>
    simp only[gZ]at k2;cases ek:ints? ys with
    |none=>rw[ek]at k2;exact k2.elim
    |some kk=>
     rw[ek]at k2;dsimp only at k2;by_cases hz:ks.length<SZ
     ·rw[if_pos hz]at k2;have s2:=s1.up p2.same;have Gg:=p2.same _ _ y2;obtain⟨b',rfl,Ff⟩:=mD p2.rb ek;have Mm:=r0.up (qg p2.same);refine .inr ⟨ad,b',xs,ks,vs,kk,hid H2 S,rfl,rfl,.inl ⟨ep,Gg⟩,qZ,by rw[O.K];exact Mm,by rw[O.K];exact Ff,by rw[r0.len.2,bx];unfold SZ at hz;lia,λFz ep' r=>?_⟩;rw[O.K]at r;obtain⟨s3,s4⟩:=s2.changeO (d1:=.dct (WD.zK ks kk) (WD.zT ks ds kk d)) (o1:=WD.zD ad Fz ep') FH hi q' z1 (.dct r (jA r0.len.1 (rr.mono (qg p2.same)) ((p1.st Gf).mono (qg p2.same))));exact k2 _ _ S s3 ((qg p2.same).trans s4)
     ·rw[if_neg hz]at k2;exact k2.elim
   |_=>exact k2.elim
theorem vS:PSs X [] (tSs w g c E fr .nil):=PSs.imp uq λD σ H ⟨H0,B,τ,S,ss,h⟩=>by
 simp only[qh]at h;exact h σ H S ss (qf.refl _)
theorem sH{s:Stmt}{r:List Stmt}{is:EV.S}{ir:Ss}(h1:PS X s (tS w g c E fr is))(h2:PSs X r (tSs w g c E fr ir)):PSs X (s::r) (tSs w g c E fr (.cons is ir)):=
 PSs.imp (uo h1 h2) λD σ H ⟨H0,B,τ,S,ss,h⟩=>by
  simp only[qh]at h;refine⟨H0,B,τ,S,ss,?_⟩;cases q:evS w is τ with
  |nx τ'=>rw[q]at h;exact λσ' H' S' s' e=>⟨H0,B,τ',S',s',cH.up h e⟩
  |bk τ'=>rw[q]at h;exact h
  |ct τ'=>rw[q]at h;exact h
  |rt d=>rw[q]at h;exact h
  |ex k=>rw[q]at h;exact h
  |no=>rw[q]at h;exact h
theorem DZ{t:Expr}{a b:List Stmt}{it:T}{ia ib:Ss}{pos:Pos}(ht:PT X t (tT w g c E it))(ha:PSs X a (tSs w g c E fr ia))(hb:PSs X b (tSs w g c E fr ib)):PS X (.If t a b pos) (tS w g c E fr (.ite it ia ib)):=
 PS.imp (Cw ht ha hb) λD σ H ⟨H0,B,τ,S,ss,h⟩=>by
  simp only[zS,cA,cz,cD,zz,cG,cx,cJ,cU,zX,zZ,zU,zW,cV,zY,zV]at h;refine s_t ss h λz H1 _ s1 k1=>?_
  cases z with
  |true=>exact⟨H0,B,τ,S,ss.up s1,cH.up k1 (qg s1)⟩
  |false=>exact⟨H0,B,τ,S,ss.up s1,cH.up k1 (qg s1)⟩
theorem PS.nox'{st:Stmt}{t:TS}(h:PS X.nox st t):PS X st t:=λpins s σ H D I hw=>
 bD (h pins s σ H D (I.wish _) hw) (λ_ _ q=>q.unwish) λ_ _ z=>bH z
theorem XO.nox(O:XO w g c E X):XO w g c E0 X.nox:=⟨O.K,O.nm,O.N,O.nd,O.calm,O.units,O.fn,O.kind,oJ rfl rfl,O.gok,O.fns,O.sub⟩
theorem XS.nox(O:XS w g c E X):XS w g c E0 X.nox:=⟨O.toXO.nox,λ_ _ _ _ _ _ _ _ _ _ _ z=>bH z,O.exc,O.cat,O.frm,O.gh⟩
theorem oG{o:O}(h:cH g c E fr H0 B H S Ed o.noEx):cH g c E0 fr H0 B H S Ed o/\(∀k,o≠.ex k)/\o≠.no:=by
 cases o with
 |ex k=>exact h.elim
 |no=>exact h.elim
 |nx t=>exact⟨h,(λ_ z=>by cases z),(λz=>by cases z)⟩
 |bk t=>exact⟨h,(λ_ z=>by cases z),(λz=>by cases z)⟩
 |ct t=>exact⟨h,(λ_ z=>by cases z),(λz=>by cases z)⟩
 |rt t=>exact⟨h,(λ_ z=>by cases z),(λz=>by cases z)⟩
noncomputable def frozen(c:Cc)(b:Bool):Cc:={c with frz:=c.frz||b}
theorem XS.froze(O:XS w g c E X){b:Bool}:XS w g (frozen c b) E X:=
 ⟨⟨O.K,O.nm,O.N,O.nd,O.calm,O.units,O.fn,O.kind,O.pass,O.gok,O.fns,O.sub⟩,O.thr,O.exc,O.cat,O.frm,O.gh⟩
noncomputable def eR(B:Sh)(b:Bool)(σ:L2.St)(H:Hp):Sh:=if b=true then ⟨B.o,B.h,σ,H⟩else B
theorem mm{b:Bool}:(eR B b σ H).h=B.h:=by unfold eR;split<;>rfl
theorem C8{b:Bool}{H1:Hp}:hid H1 (eR B b σ H)=hid H1 B:=by funext a;unfold hid;rw[mm]
theorem SS.froze(b:Bool)(ss:SS g c H0 B τ σ H S):SS g (frozen c b) H0 (eR B b σ H) τ σ H S:=by
 refine⟨⟨ss.se.len,ss.se.val,ss.se.sub⟩,ss.lenN,ss.same,?_,?_,ss.new,ss.own,ss.inj,λz=>?_⟩
 ·unfold eR;split
  ·exact ss.sub0
  ·exact ss.sub0
 ·rw[mm];exact ss.hd
 ·cases b with
  |true=>exact⟨λi _=>rfl,qf.refl _⟩
  |false=>
   have z:(c.frz||false)=true:=z;rw[Bool.or_false]at z;exact ss.frz z
theorem SS.thaw{b:Bool}{σ1:L2.St}{H1:Hp}{τ1:Env}{S1:Sh}(s0:SS g c H0 B τ1 σ1 H1 S1)(ss:SS g (frozen c b) H0 (eR B b σ1 H1) τ σ H S):SS g c H0 B τ σ H S:=by
 refine⟨⟨ss.se.len,ss.se.val,ss.se.sub⟩,ss.lenN,ss.same,s0.sub0,?_,ss.new,ss.own,ss.inj,λz=>?_⟩
 ·have:=ss.hd;rw[mm]at this;exact this
 ·have f:=ss.frz (by show (c.frz||b)=true;rw[z];rfl);cases b with
  |true=>exact⟨λi hi=>(f.1 i hi).trans ((s0.frz z).1 i hi),(s0.frz z).2.trans f.2⟩
  |false=>exact f
theorem SS.iced{b:Bool}{σ1:L2.St}{H1:Hp}(hb:b=true)(ss:SS g (frozen c b) H0 (eR B b σ1 H1) τ σ H S):qf H1 H:=by
 subst hb;exact(ss.frz (by show (c.frz||true)=true;rw[Bool.or_true])).2
theorem AH(O:XO w g c E X)(hc:X.calm=true){tg it:Expr}{b:List Stmt}{E4:Tg}{E7:It}{ib:Ss}{pos:Pos}(hi:PI X.nox tg it (tIt w g c E0 E7))(hg:PG X.nox tg (gT X.K E4))(hf:i4 c E4)(hb:PSs X.nox b (tSs w g (frozen c (owned E7)) E0 fr ib))(hs:qr it=true) :
  PS X (.For tg it b [] pos) (tS w g c E fr (.for E4 E7 ib)):=by
 refine PS.nox' (PS.imp (wg (X:=X.nox) PassesOwn.never hc hi hg hb (λx=>by cases it<;>first|rfl|(exact Bool.noConfusion hs))) λD σ H ⟨H0,B,τ,S,ss,h⟩=>?_);simp only[zS,cA,cz,cD,zz,cG,cx,cJ,cU,zX,zZ,zU,zW,cV,zY,zV]at h;obtain⟨h,F_,Gm⟩:=oG h;cases q:evI w E7 τ with
 |ex z=>rw[q]at F_;exact absurd rfl (F_ z)
 |no=>rw[q]at Gm;exact absurd rfl Gm
 |ok ds=>
  rw[q]at h F_ Gm;simp only[R.out_ok]at h F_ Gm;refine⟨τ,S,ss.se,?_⟩;rw[q];intro J H1 s1 kW kS;generalize hr:dP E4 (λσ=>qh w ib σ) ds τ=r at h F_ Gm;refine⟨λi m σ' H'=>m=ds.length-i/\i<=ds.length/\∃τ' S',SS g (frozen c (owned E7)) H0 (eR B (owned E7) σ H1) τ' σ' H' S'/\qf (hid H1 S) (hid H' S')/\dP E4 (λσ=>qh w ib σ) (ds.drop i) τ'=r,⟨ds.length,rfl,bz _,τ,S,(ss.up s1).froze _,qf.refl _,hr⟩,?_⟩;rintro i m σ' H' ⟨rfl,GL,τ',S',GZ,e',hl⟩;have gg:Goes g J ds H' S':=by
   cases hw:owned E7 with
   |false=>exact kS hw H' S' e' GZ.se.sub
   |true=>exact kW H' S' (GZ.iced hw) e' GZ.se.sub
  obtain⟨g1,g2⟩:=gg;have eH:qf (hid H S) (hid H' S'):=(qg s1).trans e';by_cases EZ:i<ds.length
  ·have hd:ds[i]? = some ds[i]:=List.getElem?_eq_getElem EZ;obtain⟨Iy,go2⟩:=g2 i ds[i] hd;refine .inr ⟨Iy,λσ2 H2=>∃τ' S',SS g (frozen c (owned E7)) H0 (eR B (owned E7) σ H1) τ' σ2 H2 S'/\qf (hid H1 S) (hid H2 S')/\dP E4 (λσ=>qh w ib σ) (ds.drop (i+1)) τ'=r,λσ2 H2 z=>⟨ds.length-(i+1),by lia,rfl,EZ,z⟩,λx H2 hy=>?_⟩;obtain⟨s2,rx⟩:=go2 x H2 hy;rw[eO EZ]at hl;simp only[dP]at hl;cases q1:store E4 ds[i] τ' with
   |ex z=>rw[q1]at hl;exact absurd hl.symm (F_ z)
   |no=>rw[q1]at hl;exact absurd hl.symm Gm
   |ok τ1=>
    rw[q1]at hl;simp only[R.out_ok]at hl;refine(GZ.up s2).store O.K hf rx q1 λσ1 Mn=>⟨H0,_,τ1,S',Mn,?_⟩
    cases q2:qh w ib τ1 with
    |nx τ2=>rw[q2]at hl;exact λσ2 H3 S3 s3 e3=>⟨τ2,S3,s3,(e'.trans (qg s2)).trans e3,hl⟩
    |ct τ2=>rw[q2]at hl;exact λσ2 H3 S3 s3 e3=>⟨τ2,S3,s3,(e'.trans (qg s2)).trans e3,hl⟩
    |bk τ2=>
     rw[q2]at hl;simp only at hl;rw[<-hl]at h;exact λσ2 H3 S3 s3 e3=>h σ2 H3 S3 ((ss.up s1).thaw s3) ((eH.trans (qg s2)).trans e3)
    |rt d=>
     rw[q2]at hl;simp only at hl;rw[<-hl]at h;refine λv H3 s3 r3 f3=>h v H3 s3 (by rw[C8]at r3;exact r3) λz=>?_
     have f3:=f3 z;unfold eR at f3;split at f3
     ·exact f3
     ·exact f3
    |ex z=>rw[q2]at hl;exact absurd hl.symm (F_ z)
    |no=>rw[q2]at hl;exact absurd hl.symm Gm
  ·have e:i=ds.length:=by lia
   subst e;rw[List.drop_length]at hl;simp only[dP]at hl;rw[<-hl]at h;exact .inl ⟨g1 ds.length (aF _),h σ' H' S' ((ss.up s1).thaw GZ) eH⟩
theorem EG{t:Expr}{b:List Stmt}{it:T}{ib:Ss}{pos:Pos}(ht:PT X.nox t (tT w g c E0 it))(hb:PSs X.nox b (tSs w g c E0 fr ib)):PS X (.While t b [] pos) (tS w g c E fr (.while it ib)):=by
 refine PS.nox' (PS.imp (wt (X:=X.nox) PassesOwn.never ht hb) λD σ H ⟨H0,B,τ,S,ss,h⟩=>?_);simp only[zS,cA,cz,cD,zz,cG,cx,cJ,cU,zX,zZ,zU,zW,cV,zY,zV]at h;obtain⟨h,F_,Gm⟩:=oG h;generalize hr:dF (λσ=>evT w it σ) (λσ=>qh w ib σ) fF τ=r at h F_ Gm;refine⟨λm σ' H'=>∃τ' S',SS g c H0 B τ' σ' H' S'/\qf (hid H S) (hid H' S')/\dF (λσ=>evT w it σ) (λσ=>qh w ib σ) m τ'=r,⟨fF,τ,S,ss,qf.refl _,hr⟩,?_⟩;rintro m σ' H' ⟨τ',S',GZ,e',hl⟩;cases m with
 |zero=>simp only[dF]at hl;exact absurd hl.symm Gm
 |succ m=>
  simp only[dF]at hl;cases q:evT w it τ' with
  |ex z=>rw[q]at hl;exact absurd hl.symm (F_ z)
  |no=>rw[q]at hl;exact absurd hl.symm Gm
  |ok z=>
   rw[q]at hl;simp only[R.out_ok]at hl;refine⟨τ',S',GZ.se,?_⟩;rw[q];intro H1 s1;cases z with
   |false=>
    simp only[bp,if_false]at hl;rw[if_neg bX];rw[<-hl]at h;exact h σ' H1 S' (GZ.up s1) (e'.trans (qg s1))
   |true=>
    simp only[if_true]at hl;rw[if_pos rfl];refine⟨λσ2 H2=>∃τ' S',SS g c H0 B τ' σ2 H2 S'/\qf (hid H S) (hid H2 S')/\dF (λσ=>evT w it σ) (λσ=>qh w ib σ) m τ'=r,λσ2 H2 z=>⟨m,Nat.lt_succ_self m,z⟩,H0,B,τ',S',GZ.up s1,?_⟩;have e1:=e'.trans (qg (S:=S') s1);cases q2:qh w ib τ' with
    |nx τ2=>rw[q2]at hl;exact λσ2 H3 S3 s3 e3=>⟨τ2,S3,s3,e1.trans e3,hl⟩
    |ct τ2=>rw[q2]at hl;exact λσ2 H3 S3 s3 e3=>⟨τ2,S3,s3,e1.trans e3,hl⟩
    |bk τ2=>
     rw[q2]at hl;simp only at hl;rw[<-hl]at h;exact λσ2 H3 S3 s3 e3=>h σ2 H3 S3 s3 (e1.trans e3)
    |rt d=>rw[q2]at hl;simp only at hl;rw[<-hl]at h;exact h
    |ex z=>rw[q2]at hl;exact absurd hl.symm (F_ z)
    |no=>rw[q2]at hl;exact absurd hl.symm Gm
end
section
variable{w:W}{g:Gc}{c:Cc}{E:XK}{fr:Bool}{X:Cx}{H0:Hp}{B:Sh}{τ:Env}{σ:L2.St}{H H':Hp}{S:Sh}{Ed:Ends}
theorem ug{s:Stmt}:PS X s (tS w g c E fr .unk):=λpins s σ H D I ⟨H0,B,τ,S,ss,h⟩=>by
 simp only[zS,cA,cz,cD,zz,cG,cx,cJ,cU,zX,zZ,zU,zW,cV,zY,zV]at h;exact h.elim
theorem wB(O:XO w g c E X)(FH:c.frz=false){x:Str}{i:Nat}{k a:Expr}{ik ia:EV.E}{p ap cp pos:Pos}(h:loc c x=some i)(ho:c.own.contains x=true)(hk:PE X k (tE w g c E ik))(ha:PE X a (tE w g c E ia))(Gf:esc ia=true)(NA:isStar k=false)(hs:isStar a=false)(hl:(ap.endLine==cp.line)=true) :
  PS X (.Expr (.Call (.Attribute (.Name x p) "insert" ap) [k,a] [] cp) pos) (tS w g c E fr (.ins i ik ia)):=λpins s σ H D I ⟨H0,B,τ,S,ss,h⟩=>by
 simp only[zS,cA,cz,cD,zz,cG,cx,cJ,cU,zX,zZ,zU,zW,cV,zY,zV]at h;exact bH h
end
theorem BX{e:Expr}{x:Str}{ap cp:Pos}{k a:Expr}(h:lh e=some (x,ap,k,a,cp)):∃p,e=.Call (.Attribute (.Name x p) "insert" ap) [k,a] [] cp:=by cases h
theorem vV{ts:List Expr}{k:Nat}{p:Pos}{e:Expr}{env:PySem.Env}(h:isTup e=true->j4 e=true):swappedStores [.Tuple ts k p] e env=pure none:=by
 cases e<;>first|rfl|skip
 rename_i vs k2 p2
 have h:vs.all (foldedForSure 8)=true:=h rfl;unfold swappedStores;simp only[h,if_true];split
 ·rfl
 ·split
  ·rfl
  ·split
   ·rfl
   ·rfl
section
variable{w:W}{g:Gc}{c:Cc}{E:XK}{fr:Bool}{X:Cx}
theorem yp{n:Nat}{c:Cc}{elt:Expr}{gs:List bT}{sc:aR}{p:Pos}{ie:EV.E}(h:cE n c (.ListComp elt gs sc p)=some ie)(HH:i_ (.ListComp elt gs sc p)=false):iT c ie=ie:=by
 match n,h with
 | 0,h=>exact oN h
 |m+1,h=>
  obtain⟨tgt,it,ifs,E7,E4,Fx,K8,rfl,GD,FX,h1,h2,h3,h4,he,rfl⟩:=mB h
  rfl
theorem Bu(O:XO w g c E X){n:Nat}(hn:n<=100000){x:Str}{i:Nat}{elt:Expr}{gs:List bT}{sc:aR}{p p' pos:Pos}{ie:EV.E}(hl:b7 c x=some i)(h:cE n c (.ListComp elt gs sc p)=some ie)(HH:i_ (.ListComp elt gs sc p)=false)(hk:(zc c i/\zF c ie=true/\c.frz=false)\/(¬ zc c i/\esc ie=true)) :
  PS X (.Assign [.Name x p'] (.ListComp elt gs sc p) pos) (tS w g c E fr (.set (.nm i) ie)):=by
 obtain⟨l1,l2⟩:=zQ hl;obtain⟨l3,_⟩:=zO l1;have EZ:i<c.N.length:=(List.getElem?_eq_some_iff.mp l3).1;have hN:X.N.Nodup:=by rw[O.N];exact O.nd
 have F9:X.N[i]? = some x:=by rw[O.N];exact l3
 have hx:L2.Loc X.env.scope x:=by unfold L2.Loc;rw[O.nm];rcases l2 with z|z;exact .inl z;exact .inr z.1
 have hf:X.fn x=true\/X.env.scope.names.lookup x=some .local:=by
  rcases l2 with z|z
  ·exact .inr (by rw[O.nm];exact z)
  ·exact .inl (O.fn x z.2)
 cases hb:(X.env.blockKind==.function&&X.env.kindOf x==some .local&&p'.line==p.line && !(sc.names.any λ(n,k)=>n==x&&(k==.local||k==.cell)))with
 |false=>
  have hs:swapsWith (.ListComp elt gs sc p) (some (.Name x p')) pos.line X.env=pure false:=by rw[<-hb];rfl
  exact iZ (e:=.ListComp elt gs sc p) (jF hN F9 hx ((snd n hn).e O h) hs hf) (λ_ _ _ z=>z) EZ hk
 |true=>
  have hs:swapsWith (.ListComp elt gs sc p) (some (.Name x p')) pos.line X.env=pure true:=by rw[<-hb];rfl
  match n,h with
  | 0,h=>exact oN h
  |m+1,h=>
   have ih:=snd (w:=w) (g:=g) m (Nat.le_of_succ_le hn);obtain⟨tgt,it,ifs,E7,E4,Fx,K8,rfl,GD,FX,h1,h2,h3,h4,he,rfl⟩:=mB h;have hS:zq X (zm sc.names) (dA c sc.names) sc:=zq.of (by
    have e1:(λx=>c.nm.lookup x)=X.env.kindOf:=by funext x;show _=X.env.scope.names.lookup x;rw[O.nm]
    rw[<-e1,O.N];exact FX.1)
   refine iZ (e:=.ListComp elt [⟨tgt,it,ifs,0⟩] sc p) (yu (tb:=λacc=>jv acc (tE w g (zr c sc) E0 K8)) hN F9 hx (O.calm GD.1) hS (ih.i O h1 he.2) (λcl C s₀ H₀ fp=>?_) (by simp) hs hf (λx=>by
    have q:=GD.2;cases it<;>first|rfl|cases q)) (λσ H Q q=>nz O hS he.1 q) EZ hk
   have OY:=O.comp hS.kind FX.2 cl C s₀ H₀ fp;exact⟨hX OY h2,ih.ifs OY h3,λacc=>s_ rfl (ih.e OY h4)⟩
theorem Cz{n:Nat}{c:Cc}{ke ve:Expr}{gs:List bT}{sc:aR}{p:Pos}{ie:EV.E}(h:cE n c (.DictComp ke ve gs sc p)=some ie):iT c ie=ie:=by
 match n,h with
 | 0,h=>exact oN h
 |m+1,h=>
  obtain⟨tgt,it,ifs,E7,E4,Fx,ik,iv,rfl,GD,FX,h1,h2,h3,h4,h5,he,rfl⟩:=kR h
  rfl
theorem DR(O:XO w g c E X){n:Nat}(hn:n<=100000){x:Str}{i:Nat}{ke ve:Expr}{gs:List bT}{sc:aR}{p p' pos:Pos}{ie:EV.E}(hl:b7 c x=some i)(h:cE n c (.DictComp ke ve gs sc p)=some ie)(hk:(zc c i/\zF c ie=true/\c.frz=false)\/(¬ zc c i/\esc ie=true)) :
  PS X (.Assign [.Name x p'] (.DictComp ke ve gs sc p) pos) (tS w g c E fr (.set (.nm i) ie)):=by
 obtain⟨l1,l2⟩:=zQ hl;obtain⟨l3,_⟩:=zO l1;have EZ:i<c.N.length:=(List.getElem?_eq_some_iff.mp l3).1;have hN:X.N.Nodup:=by rw[O.N];exact O.nd
 have F9:X.N[i]? = some x:=by rw[O.N];exact l3
 have hx:L2.Loc X.env.scope x:=by unfold L2.Loc;rw[O.nm];rcases l2 with z|z;exact .inl z;exact .inr z.1
 have hf:X.fn x=true\/X.env.scope.names.lookup x=some .local:=by
  rcases l2 with z|z
  ·exact .inr (by rw[O.nm];exact z)
  ·exact .inl (O.fn x z.2)
 cases hb:(X.env.blockKind==.function&&X.env.kindOf x==some .local&&p'.line==p.line && !(sc.names.any λ(n,k)=>n==x&&(k==.local||k==.cell)))with
 |false=>
  have hs:swapsWith (.DictComp ke ve gs sc p) (some (.Name x p')) pos.line X.env=pure false:=by rw[<-hb];rfl
  exact iZ (e:=.DictComp ke ve gs sc p) (jF hN F9 hx ((snd n hn).e O h) hs hf) (λ_ _ _ z=>z) EZ hk
 |true=>
  have hs:swapsWith (.DictComp ke ve gs sc p) (some (.Name x p')) pos.line X.env=pure true:=by rw[<-hb];rfl
  match n,h with
  | 0,h=>exact oN h
  |m+1,h=>
   have ih:=snd (w:=w) (g:=g) m (Nat.le_of_succ_le hn);obtain⟨tgt,it,ifs,E7,E4,Fx,ik,iv,rfl,GD,FX,h1,h2,h3,h4,h5,he,rfl⟩:=kR h;have hu:X.A.units<cLine:=by have:=O.units;lia
   have hS:zq X (zm sc.names) (dA c sc.names) sc:=zq.of (by
    have e1:(λx=>c.nm.lookup x)=X.env.kindOf:=by funext x;show _=X.env.scope.names.lookup x;rw[O.nm]
    rw[<-e1,O.N];exact FX.1)
   refine iZ (e:=.DictComp ke ve [⟨tgt,it,ifs,0⟩] sc p) (WD.Eb (o0:=λa=>WD.zD a [] 0) (tb:=λacc=>WD.j6 X.K acc (tE w g (zr c sc) E0 ik) (tE w g (zr c sc) E0 iv)) (λI=>WD.pB I) hN F9 hx (O.calm GD.1) hS (ih.i O h1 he.2) (λcl C s₀ H₀ fp=>?_) hs hf (λx=>by
    have q:=GD.2;cases it<;>first|rfl|cases q)) (λσ H Q q=>pQ O hS he.1.1 he.1.2 q) EZ hk
   have OY:=O.comp hS.kind FX.2 cl C s₀ H₀ fp;exact⟨hX OY h2,ih.ifs OY h3,λacc=>WD.o5 hu (ih.e OY h4) (ih.e OY h5)⟩
end
structure jf(w:W)(g:Gc)(n:Nat):Prop where
 s:∀{c:Cc}{E:XK}{X:Cx} (O:XS w g c E X) {fr:Bool}{x:Stmt}{ir:EV.S},cS n c fr x=some ir->PS X x (tS w g c E fr ir)
 ss:∀{c:Cc}{E:XK}{X:Cx} (O:XS w g c E X) {fr:Bool}{x:List Stmt}{ir:Ss},cSs n c fr x=some ir->PSs X x (tSs w g c E fr ir)
section
variable{w:W}{g:Gc}{n:Nat}
theorem jf.ss_succ(ih:jf w g n){c:Cc}{E:XK}{X:Cx}(O:XS w g c E X){fr:Bool}{x:List Stmt}{ir:Ss}(h:cSs (n+1) c fr x=some ir):PSs X x (tSs w g c E fr ir):=by
 match x with
 | []=>simp only[cSs,cn]at h;subst h;exact vS
 |s::r=>
  simp only[cSs,bQ,bE]at h;obtain⟨J8,h2,h⟩:=h;cases h;cases h1:cS n c fr s with
  |none=>exact sH ug (ih.ss O h2)
  |some is=>exact sH (ih.s O h1) (ih.ss O h2)
theorem BO{c:Cc}{x:Str}{i:Nat}(h:c.N[i]? = some x):zc c i↔c.own.contains x=true:=⟨λ⟨y,h1,h2⟩=>by rw[h]at h1;cases h1;exact h2,λh2=>⟨x,h,h2⟩⟩
theorem xY{e:Expr}{x m:Str}{ap cp:Pos}{a:Expr}(h:jw e=some (x,m,ap,a,cp)):∃p,e=.Call (.Attribute (.Name x p) m ap) [a] [] cp:=by
 unfold jw at h;split at h
 ·split at h
  ·split at h
   ·split at h
    ·split at h
     ·rename_i hk;cases h;rw[List.isEmpty_iff]at hk;subst hk;exact⟨_,rfl⟩
     ·exact oN h
    ·exact oN h
   ·exact oN h
  ·exact oN h
 ·exact oN h
theorem vI{c:Cc}{x y:Str}{e:Expr}(h:jJ c x e=some y):∃p,e=.Name y p/\c.own.contains y=true/\c.own.contains x=false/\c.frz=false:=by
 unfold jJ at h;split at h
 ·split at h
  ·rename_i hc
   simp only[aQ,bR]at hc;cases h;exact⟨_,rfl,hc.1.1,hc.1.2,hc.2⟩
  ·exact oN h
 ·exact oN h
theorem jf.s_succ(ih:jf w g n)(hn:n<=100000){c:Cc}{E:XK}{X:Cx}(O:XS w g c E X){fr:Bool}{x:Stmt}{ir:EV.S}(h:cS (n+1) c fr x=some ir):PS X x (tS w g c E fr ir):=by
 have K:=snd (w:=w) (g:=g) n hn;cases x
 case Assign Mo e pos=>
  rcases Mo with _|⟨t0,_|_⟩
  ·exact oN h
  ·cases t0
   case Name y p=>
    replace h:(match (generalizing:=false) jJ c y e with
      |some y2=>do
       let i <-b7 c y
       let j <-loc c y2
       some (.give i j)
      |none=>do
      if i_ e then none else
      let i <-b7 c y
      let e' <-cE n c e
      if c.own.contains y then (if zF c e' && !c.frz then some (.set (.nm i) e')else none)else if esc e' then some (.set (.nm i) e')else none:Option EV.S)=some ir:=h
    split at h
    ·rename_i y' hg
     obtain⟨p0,rfl,Kc,Kb,FH⟩:=vI hg;refine oK2 h ?_;clear h;intro i j hl hj e_;subst e_;exact ui O.toXO FH hl hj Kb Kc
    split at h
    ·exact oN h
    rename_i HH
    have HH:i_ e=false:=by simpa using HH
    refine oB2 h ?_;clear h;intro i ie hl h1 h;obtain⟨l1,l2⟩:=zQ hl;obtain⟨l3,_⟩:=zO l1;have ho:=BO l3;have hk:∃ig,((zc c i/\zF c ig=true/\c.frz=false)\/(¬ zc c i/\esc ig=true))/\ir=.set (.nm i) ig/\(ig=ie\/ig=iT c ie):=by
     split at h
     ·rename_i hy
      split at h
      ·rename_i hf;cases h;exact⟨_,.inl ⟨ho.mpr hy,by simpa using hf⟩,rfl,.inl rfl⟩
      ·exact oN h
     ·rename_i hy
      split at h
      ·rename_i hf;cases h;exact⟨_,.inr ⟨λz=>hy (ho.mp z),hf⟩,rfl,.inl rfl⟩
      ·exact oN h
    obtain⟨ig,hk,rfl,Kd⟩:=hk;have hE:PE X e (tE w g c E ig):=by
     rcases Kd with rfl|rfl
     ·exact K.e O.toXO h1
     ·exact EC (K.e O.toXO h1)
    cases hc:ee e with
    |false=>
     refine iZ (e:=e) (jF (i:=i) (by rw[O.N];exact O.nd) (by rw[O.N];exact l3) (by unfold L2.Loc;rw[O.nm];rcases l2 with z|z;exact .inl z;exact .inr z.1) hE (i7 hc) ?_) (λ_ _ _ z=>z) (List.getElem?_eq_some_iff.mp l3).1 hk;rcases l2 with z|z
     ·exact .inr (by rw[O.nm];exact z)
     ·exact .inl (O.fn y z.2)
    |true=>
     cases e with
     |ListComp elt gs sc p=>
      have eg:ig=ie:=by
       rcases Kd with z|z
       ·exact z
       ·rw[z];exact yp h1 HH
      subst eg;exact Bu O.toXO hn hl h1 HH hk
     |SetComp elt gs sc p=>match n,h1 with
      | 0,h1=>exact oN h1
      |m+1,h1=>exact oN h1
     |DictComp a b gs sc p=>
      have eg:ig=ie:=by
       rcases Kd with z|z
       ·exact z
       ·rw[z];exact Cz h1
      subst eg;exact DR O.toXO hn hl h1 hk
     |_=>cases hc
   case Tuple ts k p=>
    replace h:(do
      let tg <-cTg c (.Tuple ts k p)
      let e' <-cE n c e
      if (isTup e && !j4 e)||ee e || !esc e' then none else some (.set tg e'):Option EV.S)=some ir:=h
    refine oB2 h ?_;clear h;intro tg ie h1 h2 h;split at h
    ·exact oN h
    ·rename_i hc
     have hc:((isTup e=true->j4 e=true)/\ee e=false)/\esc ie=true:=by simpa using hc
     cases h;refine t8 O.toXO (K.e O.toXO h2) (hX O.toXO h1) (ph h1) hc.2 (by simp only[swapsWithSole];exact i7 hc.1.2) ?_ rfl;exact vV hc.1.1
   case Subscript a k pk=>
    cases a
    case Name x px=>
     replace h:(do
       let i <-b7 c x
       let e' <-cE n c e
       let k' <-cE n c k
       if c.own.contains x&&esc e' && !isSlice k && !ee e && !c.frz then some (.seti i k' e')else none:Option EV.S)=some ir:=h
     refine oC3 h ?_;clear h;intro i ie ik hl h1 h2 hc e_;simp only[aQ,bR]at hc;subst e_;exact DM O.toXO hc.2 (zQ hl).1 hc.1.1.1.1 (K.e O.toXO h2) (K.e O.toXO h1) hc.1.1.1.2 hc.1.1.2 hc.1.2
    all_goals exact oN h
   all_goals exact oN h
  ·exact oN h
 case Expr e pz1=>
  replace h:(match (generalizing:=false) lh e with
    |some (x,ap,k,a,cp)=>do
     let i <-b7 c x
     let k' <-cE n c k
     let a' <-cE n c a
     if c.own.contains x&&esc a' && !isStar k && !isStar a&&ap.endLine==cp.line && !c.frz then some (.ins i k' a')else none
    |none=>match (generalizing:=false) jw e with
    |some (x,m,ap,a,cp)=>do
     let i <-b7 c x
     let a' <-cE n c a
     if m == "update" then (if c.own.contains x&&esc a' && !isStar a&&ap.endLine==cp.line && !c.frz then some (.dupd i a')else none)else
     if m == "append" && c.own.contains x&&esc a' && !isStar a&&ap.endLine==cp.line && !c.frz then some (.app i a')else none
    |none=>do
     if ee e then none else
     let e' <-cE n c e
     some (.exp e'):Option EV.S)=some ir:=h
  split at h
  ·-- x.insert(k, a)
   rename_i he
   obtain⟨p,rfl⟩:=BX he;refine oC3 h ?_;clear h;intro i ik ia hl h0 h1 hc e_;simp only[aQ,bR,beq_iff_eq]at hc;subst e_;obtain⟨⟨⟨⟨⟨c2,c3⟩,c4⟩,c5⟩,c6⟩,c7⟩:=hc;exact wB O.toXO c7 (zQ hl).1 c2 (K.e O.toXO h0) (K.e O.toXO h1) c3 c4 c5 (by simpa using c6)
  split at h
  ·-- x.append(a)
   rename_i he
   obtain⟨p,rfl⟩:=xY he;refine oB2 h ?_;clear h;intro i ia hl h1 h;split at h
   ·rename_i hm
    have hm:=eq_of_beq hm;subst hm;split at h
    ·rename_i hc
     simp only[aQ,bR]at hc;cases h;obtain⟨⟨⟨⟨c2,c3⟩,c4⟩,c5⟩,c6⟩:=hc;exact D7 O.toXO c6 (zQ hl).1 c2 (K.e O.toXO h1) c3 c4 (by simpa using c5)
    ·exact oN h
   split at h
   ·rename_i hc
    simp only[aQ,bR,beq_iff_eq]at hc;cases h;obtain⟨⟨⟨⟨⟨rfl,c2⟩,c3⟩,c4⟩,c5⟩,c6⟩:=hc;exact uw O.toXO c6 (zQ hl).1 c2 (K.e O.toXO h1) c3 c4 (by simpa using c5)
   ·exact oN h
  ·split at h
   ·exact oN h
   ·rename_i hc
    refine oK1 h ?_;clear h;intro ie h1 e_;subst e_;exact CA (K.e O.toXO h1) (by simpa using hc)
 case Return o pz1=>
  replace h:(match (generalizing:=false) o with
    |some e=>do
     let e' <-cE n c e
     if fr then (match (generalizing:=false) e with
      | .Name y _=>if c.own.contains y then (loc c y).map (λi=>.ret (.own i))else none
      |_=>if zF c e' then some (.ret e')else some (.retn e'))
     else some (.ret e')
    |none=>if fr then none else some .retN:Option EV.S)=some ir:=h
  split at h
  ·-- return e
   rename_i e
   refine oB1 h ?_;clear h;intro ie h1 h;split at h
   ·rename_i hf
    split at h
    ·rename_i y p
     split at h
     ·rename_i ho
      simp only[bF]at h;obtain⟨i,hl,rfl⟩:=h;exact vj O.toXO hl ho
     ·exact oN h
    ·split at h
     ·rename_i Hl
      cases h;exact rT (K.e O.toXO h1) λ_=>Hl
     ·cases h;exact BN (K.e O.toXO h1)
   ·rename_i hf
    cases h;exact rT (K.e O.toXO h1) λz=>absurd z hf
  ·split at h
   ·exact oN h
   ·rename_i hf
    cases h;exact we (by simpa using hf)
 case If t a b pz3=>
  replace h:(do
    let t <-cT n c t
    let a <-cSs n c fr a
    let b <-cSs n c fr b
    some (.ite t a b):Option EV.S)=some ir:=h
  refine oK3 h ?_;clear h;intro it ia ib h1 h2 h3 e_;subst e_;exact DZ (K.t O.toXO h1) (ih.ss O h2) (ih.ss O h3)
 case For tg0 it0 b0 els0 pos0=>
  replace h:(do
    if !els0.isEmpty || !c.calm || !qr it0 then none else
    let J5 <-cTg c tg0
    let it <-cI n c it0
    if !fh it tg0 then none else
    let b <-cSs n {c with frz:=c.frz||owned it} fr b0
    some (.for J5 it b):Option EV.S)=some ir:=h
  split at h
  ·exact oN h
  ·rename_i hc
   have hc:(els0=[]/\c.calm=true)/\qr it0=true:=by simpa using hc
   obtain⟨⟨rfl,Mp⟩,Fy⟩:=hc;refine oB2 h ?_;clear h;intro tg it h1 h2 h;split at h
   ·exact oN h
   ·rename_i ho
    have ho:fh it tg0=true:=by simpa using ho
    refine oK1 h ?_;clear h;intro ib h3 e_;subst e_;exact AH O.toXO (O.calm Mp) (K.i O.toXO.nox h2 ho) (hX O.toXO.nox h1) (ph h1) (ih.ss O.nox.froze h3) Fy
 case While t b els0 pz=>
  replace h:(do
    if !els0.isEmpty || !c.calm then none else
    let t <-cT n c t
    let b <-cSs n c fr b
    some (.while t b):Option EV.S)=some ir:=h
  split at h
  ·exact oN h
  ·rename_i hc
   have hc:els0=[]/\c.calm=true:=by simpa using hc
   obtain⟨rfl,hc⟩:=hc;refine oK2 h ?_;clear h;intro it ib h1 h2 e_;subst e_;exact EG (K.t O.toXO.nox h1) (ih.ss O.nox h2)
 case AugAssign=>
  unfold cS at h;dsimp only at h
  -- x += e
  split at h
  ·split at h
   ·refine oB2 h ?_;clear h;intro i ie hl h1 h;split at h
    ·exact oN h
    ·rename_i ho
     cases h;exact BS O.toXO hl (by simpa using ho) (K.e O.toXO h1)
   ·exact oN h
  ·exact oN h
 all_goals exact oN h
theorem rR:∀n,n<=100000->jf w g n
 | 0,_=>⟨λ_ _ _ _ h=>(by cases h),λ_ _ _ _ h=>by simp[cSs]at h⟩
 |n+1,h=>
  have ih:=rR n (Nat.le_of_succ_le h)
  ⟨λO _ _ _ q=>ih.s_succ (Nat.le_of_succ_le h) O q,λO _ _ _ q=>ih.ss_succ O q⟩
end
section
variable{w:W}{g:Gc}{c:Cc}{E:XK}{fr:Bool}{X:Cx}{H0:Hp}{B:Sh}{τ:Env}{σ:L2.St}{H H':Hp}{S:Sh}{n:Nat}
def kQ(g:Gc)(E:XK)(fr:Bool)(H0:Hp)(B:Sh)(D:Ends):O->Prop
 | .nx _=>∀σ' H',qf H0 H'->D.nx σ' H'
 | .rt d=>∀v H',qf H0 H'->Rep g (hid H' B) d v->(fr=true->zl d=true->Fr g H0 B H' d v)->D.rt v H'
 | .ex k=>∀H' C,qf H0 H'->g.clA k=some C->E (.ref C) none H'
 |_=>False
theorem kQ.out{D:Ends}{o:O}(h:kQ g E fr H0 B D o):cH g c E fr H0 B H S D o:=by
 cases o with
 |nx t=>exact λσ' H' S' ss _=>h σ' H' ss.same
 |rt d=>exact h
 |ex k=>exact h
 |bk t=>exact h.elim
 |ct t=>exact h.elim
 |no=>exact h.elim
def CU(w:W)(g:Gc)(c:Cc)(E:XK)(fr:Bool)(s:Ss):TS:=λD σ H=>∃H0 B τ S,SS g c H0 B τ σ H S/\kQ g E fr H0 B D (qh w s τ)
theorem vK(hn:n<=100000)(O:XS w g c E X){x:List Stmt}{ir:Ss}(h:jC n c fr x=some ir):PSs X x (CU w g c E fr ir):=
 PSs.imp ((rR n hn).ss O h) λD σ H ⟨H0,B,τ,S,ss,z⟩=>⟨H0,B,τ,S,ss,z.out⟩
end
def GM0(p:Pr)(g:Gc)(mg:Str->Option ae)(x:Str):GK->Prop
 | .fn _=>∃f,g.fnA x=some f
 | .val=>∃u v d,mg x=some u/\RelV v u/\p.glb x=some d/\∀H,Rep g H d v
 | .bi b=>mg x=none/\x=b1N b/\∃id,b1V b=.builtin id
 | .rng=>mg x=none/\x = "range"
 | .enum=>mg x=none/\x = "enumerate"
 | .zip=>mg x=none/\x = "zip"
 | .isi=>mg x=none/\x = "isinstance"
 | .ty n b=>mg x=none/\bU x=some (.type n)/\(n∈["int","bool","str","list","tuple"]\/n = "ValueError")/\∀b',b=some b'->x=b1N b'/\b1V b'=.type n
 | .exc=>∃C,mg x=some (.ref C)/\g.clA x=some C/\pq g.K C
 | .exk=>∃C,mg x=some (.ref C)/\g.clA x=some C
 | .set=>mg x=none/\bU x=some (.type "set")
 | .rvd=>mg x=none/\x = "reversed"
structure Ground(p:Pr)(g:Gc)(G GH GU:List (Str×GK))(mg:Str->Option ae):Prop where
 fn:∀x f,g.fnA x=some f->∃st own fr fd fnn,p.fns x=some fnn/\cFn G GH own fr st=some fnn/\Fun g.K x x st f fd/\Binds g.K fd (argNames (zh st)) []/\cR g.K (.ref f)=true/\mg x=some (.ref f)/\G.lookup x=some (.fn fr)
 gl:∀x k,G.lookup x=some k->GM0 p g mg x k
 gu:∀x k,GU.lookup x=some k->(∀fr,k≠.fn fr)/\k≠.exc/\GM0 p g mg x k
 gh:∀x k,GH.lookup x=some k->GU.lookup x=some k
 sub:∀k cl b,p.sub k cl=some b->∃C cv,g.clA k=some C/\l8 g.K C/\cq g.K (.ref C) cv=some b/\match cl with
  | .ty n=>n = "ValueError"/\cv=.type n
  | .ex x=>∃D,g.clA x=some D/\cv=.ref D
 cat:∀k x,p.cat k x=true->∀C D,g.clA k=some C->g.clA x=some D->PySem.W.exmOne g.K (.ref C) (.ref D)=some true
abbrev wAt(p:Pr)(k:Nat):W:=⟨qc p k,p.glb,p.sub,p.cat⟩
theorem yN{N ps:List Str}{sc:aR}(h:jE N ps sc=true):iL N ps sc:=by
 unfold jE at h;simp only[aQ,beq_iff_eq,bR,decide_eq_true_eq,bS,bG,bne_iff_ne,ne_eq]at h;obtain⟨⟨⟨⟨⟨⟨h1,h2⟩,h3⟩,h4⟩,h5⟩,h6⟩,h7⟩:=h;exact⟨h1,h2,h3,h4,h5,h6,h7⟩
theorem Ef{G GH:List (Str×GK)}{own:List Str}{fr:Bool}{st:Stmt}{fnn:Fn}(h:cFn G GH own fr st=some fnn):jE (iF (zh st) (zb st)) (argNames (zh st)) (zb st)=true/\(argNames (zh st)).any own.contains=false /\
  ∃b,jC mq ⟨(zb st).names,iF (zh st) (zb st),own,G,true,true,false,GH,[],false⟩ fr (eh st)=some b/\fnn=⟨(argNames (zh st)).length,(iF (zh st) (zb st)).length,fr,b⟩:=by
 unfold cFn at h;dsimp only at h;split at h
 ·exact oN h
 ·rename_i hc
  simp only[bG,bR,not_or,Bool.not_eq_false,Bool.not_eq_true]at hc;simp only[bQ,bE,cn]at h;obtain⟨b,h1,h2⟩:=h;exact⟨hc.1,hc.2,b,h1,h2.symm⟩
section
variable{P:aB}{w:az}{K:aA}{mg:Str->Option ae}{base:Heap}{N:List Str}{qual:Str}{scope:aR}{f:Addr}{cd:ae}{A:aD}{outer:List PySem.Env}{s₀:af}{H₀:Hp}{E:XK}
end
theorem GM0.gm{p:Pr}{g:Gc}{mg:Str->Option ae}{x:Str}{k:GK}{P:aB}{wl:az}{base:Heap}{A:aD}{calm:Bool}{n:Nat}(h:GM0 p g mg x k)(hf:∀fr,k≠.fn fr):GM (wAt p n) g P wl mg base A calm x k:=by
 cases k with
 |fn Ke=>exact absurd rfl (hf Ke)
 |exc=>obtain⟨C,h1,h2,_⟩:=h;exact⟨C,h1,h2⟩
 |val=>exact h
 |bi b=>exact h
 |rng=>exact h
 |enum=>exact h
 |zip=>exact h
 |isi=>exact h
 |ty n b=>exact h
 |exk=>exact h
 |set=>exact h
 |rvd=>exact h
theorem Ao{w:W}{g:Gc}{c:Cc}{E:XK}{X:Cx}{N ps own:List Str}{sc:aR}{fr:Bool}{body:List Stmt}{b:Ss}(K9:c.N=N)(KY:c.own=own)(Mq:c.frz=false)(FS:iL N ps sc)(c2:ps.any own.contains=false)(c3:jC mq c fr body=some b)
  (O:XS w g c E X) {vs:List V}{ds:List D}{B:Sh}{H:Hp}{Q:VK} (hB:Sub B H) (rv:qi g (hid H B) ds vs) (hl:ds.length=ps.length)
  (h:tR g E H (match qh w b (ds.map some++bY (N.length-ps.length) none)with
   | .nx _=>if fr then .no else .ok .non
   | .rt d=>.ok d
   | .ex c=>.ex c
   |_=>.no) (λd=>∀v H',qf H H'->Rep g (hid H' B) d v->(fr=true->zl d=true->Fr g H B H' d v)->Q v H')) :
  ∃t,PSs X body t/\t {nx:=λ_ H'=>Q .non H',rt:=Q} (start N vs) H:=by
 have NB:ps.length<=N.length:=by have:=congrArg List.length FS.pre;rw[dn]at this;lia
 refine⟨_,vK (by decide) O c3,H,B,ds.map some++bY (N.length-ps.length) none,⟨λ_=>false,B.h,B.z,B.y⟩,?_,?_⟩
 ·-- at the start
  have hh:hid H ⟨λ_=>false,B.h,B.z,B.y⟩=hid H B:=rfl;have NC:=rv.length;have par:∀i d,(ds.map some++bY (N.length-ps.length) none)[i]? = some (some d)->i<ps.length/\ds[i]? = some d:=λi d hi=>by
   by_cases EZ:i<ds.length
   ·rw[List.getElem?_append_left (by simpa using EZ),List.getElem?_map]at hi;refine⟨by lia,?_⟩;cases q:ds[i]? with
    |none=>rw[q]at hi;exact oN hi
    |some e=>rw[q]at hi;simpa using hi
   ·rw[List.getElem?_append_right (by simpa using EZ)]at hi;rw[List.getElem?_replicate]at hi;split at hi<;>cases hi
  have noOwn:∀i d,zc c i->(ds.map some++bY (N.length-ps.length) none)[i]? = some (some d)->False:=λi d ⟨y,h1,h2⟩ hi=>by
   obtain⟨EZ,_⟩:=par i d hi;rw[K9]at h1;rw[KY]at h2;have:N.take ps.length=ps:=FS.pre;have hy:ps[i]? = some y:=by
    rw[<-this,List.getElem?_take,if_pos EZ];exact h1
   have:=List.any_eq_false.mp c2 y (List.mem_of_getElem? hy);exact this h2
  refine⟨⟨by simp[L2.start];lia,λi d hi=>?_,λa ha=>?_⟩,by simp[K9];lia,qf.refl _,hB,(λa=>by simp),(λa ha=>by cases ha),(λi d ho hi=>(noOwn i d ho hi).elim),λi j d e a ho _ hi _ _ _=>(noOwn i d ho hi).elim,λz=>by rw[Mq]at z;cases z⟩
  ·obtain⟨EZ,hd⟩:=par i d hi;obtain⟨v,h1,h2⟩:=rv.get hd;have Ge:i<vs.length:=by lia
   refine⟨v,?_,.inl h2,λ_ _ _=>h2⟩;unfold L2.start;rw[List.getElem?_append_left (by simpa using Ge),List.getElem?_map,h1]
   rfl
  ·refine hB a ?_;rcases ha with ha|ha
   ·exact .inl ha
   ·cases ha
 ·-- at the end
  cases q:qh w b (ds.map some++bY (N.length-ps.length) none)with
  |nx τ'=>
   rw[q]at h;simp only at h;cases fr with
   |true=>exact h.elim
   |false=>exact λσ' H' hs=>h .non H' hs .non (by intro z;cases z)
  |rt d=>rw[q]at h;exact h
  |ex z=>rw[q]at h;exact h
  |bk z=>rw[q]at h;exact h.elim
  |ct z=>rw[q]at h;exact h.elim
  |no=>rw[q]at h;exact h.elim
section
variable{p:Pr}{g:Gc}{G GH GU:List (Str×GK)}{mg:Str->Option ae}{P:aB}{wl:az}{base:Heap}
theorem Ground.ok(T:Ground p g G GH GU mg):∀(k:Nat) (x:Str) (f:Addr) (st:Stmt) (own:List Str) (fr:Bool) (fd:FuncData) (fnn:Fn),p.fns x=some fnn->cFn G GH own fr st=some fnn->Fun g.K x x st f fd ->
  gj P wl g.K mg base (CX1 P wl) k f fd (argNames (zh st)) (spF (wAt p k) g x fr)
 | 0,x,f,st,own,fr,fd,fnn,_,_,_=>⟨λvs H Q E ⟨S,ds,_,_,h⟩=>h.elim,λA outer s H args us vs Q E _ _ _ _ ⟨S,ds,_,_,h⟩=>h.elim⟩
 |k+1,x,f,st,own,fr,fd,fnn,hf,hc,F=>by
  obtain⟨c1,c2,b,c3,rfl⟩:=Ef hc;have FS:=yN c1;generalize hN:iF (zh st) (zb st)=N at *;generalize ND:argNames (zh st)=ps at *;have call:∀ds,qc p (k+1) x ds=du (wAt p k) ⟨ps.length,N.length,fr,b⟩ ds:=λds=>by simp only[qc,hf]
  have lenOf:∀vs H Q E,spF (wAt p (k+1)) g x fr vs H Q E->vs.length=ps.length:=λvs H Q E ⟨S,ds,_,r,h⟩=>by
   have h:tR g E H (qc p (k+1) x ds) _:=h;rw[call]at h;unfold du at h;by_cases hl:ds.length=ps.length
   ·rw[<-r.length];exact hl
   ·rw[if_neg hl]at h;exact h.elim
  refine F.ok1 FS lenOf λcdv A outer s H vs Q E hr GI=>?_
  obtain⟨B,ds,hB,rv,h⟩:=GI;have h:tR g E H (qc p (k+1) x ds) (λd=>∀v H',qf H H'->Rep g (hid H' B) d v->(fr=true->zl d=true->Fr g H B H' d v)->Q v H'):=h;rw[call]at h;unfold du at h;by_cases hl:ds.length=ps.length
  ·rw[if_pos hl]at h
   -- the ground of the body
   have calls:∀y fy,g.fnA y=some fy->∃fry,G.lookup y=some (.fn fry)/\jU (wAt p k) g P wl mg base (A.deeper (envOfC x (zb st) s.heap.objs.size f cdv)) true y fy fry:=λy fy hy=>by
    obtain⟨Mr,Kf,fry,K_,Ms,z1,z2,z3,z4,z5,z6,z7⟩:=T.fn y fy hy;exact⟨fry,z7,z6,z5,k,K_,_,z4,.inl ⟨rfl,Ground.ok T k y fy Mr Kf fry K_ Ms z1 z2 z3,hr⟩⟩
   have O:XS (wAt p k) g ⟨(zb st).names,N,own,G,true,true,false,GH,[],false⟩ E (fD (CX1 P wl) P wl g.K mg base N x (zb st) f cdv A outer s H E):=by
    refine⟨⟨rfl,rfl,rfl,FS.nd,λ_=>rfl,hr.units,λ_ _=>rfl,FS.kind,AK,λy ky hy=>?_,λ_ y fy hy=>?_,T.sub⟩,(λz=>by cases z),λy C hy hC=>?_,T.cat,⟨rfl,rfl,rfl⟩,λy ky hy=>?_⟩
    ·have:=T.gl y ky hy;by_cases hf:∃fr,ky=.fn fr
     ·obtain⟨Ke,rfl⟩:=hf;obtain⟨fy,h1⟩:=this;obtain⟨fry,h2,h3⟩:=calls y fy h1;have hy:G.lookup y=some (.fn Ke):=hy;rw[hy]at h2;cases h2;exact⟨fy,h1,h3⟩
     ·exact this.gm λfr z=>hf ⟨fr,z⟩
    ·obtain⟨fry,_,h3⟩:=calls y fy hy;exact⟨fry,h3⟩
    ·obtain⟨C',_,h2,h3⟩:=T.gl y .exc hy;rw[h2]at hC;cases hC;exact h3
    ·obtain⟨u1,u2,u3⟩:=T.gu y ky (T.gh y ky hy);exact⟨u2,λv=>u3.gm u1⟩
   exact Ao rfl rfl rfl FS c2 c3 O hB rv hl h
  ·rw[if_neg hl]at h;exact h.elim
end
end EV
namespace WB
open PySem PySem.Spec PyProof.Rows L2
structure Dd(K:aA)(n:Str)(st:Stmt)(f:Addr):Prop where
 a:aG K aE n=some (some (.ref f))
 l:∃oc od an sl kV dc pm cd ct,K.lookup f=some ⟨oc,od,.func (cw n n (zh st) (eh st) (zb st) .none kV dc pm an cd ct),sl⟩/\PySem.W.codeIn K cd n=true
 k:cR K (.ref f)=true
theorem zd{K:aA}{n:Str}{st:Stmt}{f:Addr}{od an:Option Addr}{sl:Array (Option ae)}{oc kV dc pm cd ct:ae}(a:aG K aE n=some (some (.ref f)))
  (l:K.lookup f=some ⟨oc,od,.func (cw n n (zh st) (eh st) (zb st) .none kV dc pm an cd ct),sl⟩) (c:PySem.W.codeIn K cd n=true) (k:cR K (.ref f)=true):Dd K n st f:=
 ⟨a,⟨oc,od,an,sl,kV,dc,pm,cd,ct,l,c⟩,k⟩
theorem Dd.fn{K:aA}{n:Str}{st:Stmt}{f:Addr}(d:Dd K n st f):∃fd,Fun K n n st f fd:=by
 obtain⟨oc,od,an,sl,kV,dc,pm,cd,ct,l,c⟩:=d.l;exact⟨_,mR (st:=st) l c d.k⟩
theorem pK{us:List ae}(h:us.length=1):∃a,us=[a]:=List.length_eq_one_iff.mp h
theorem s9{n:Nat}{us:List ae}(h:us.length=n+1):∃a r,us=a::r/\r.length=n:=by
 cases us with
 |nil=>cases h
 |cons a r=>exact⟨a,r,rfl,Nat.succ.inj h⟩
theorem rZ{us:List ae}(h:us.length=2):∃a b,us=[a,b]:=by
 obtain⟨a,r,e,h⟩:=s9 h;obtain⟨b,q⟩:=pK h;subst q;exact⟨a,b,e⟩
theorem D6{us:List ae}(h:us.length=3):∃a b c,us=[a,b,c]:=by
 obtain⟨a,r,e,h⟩:=s9 h;obtain⟨b,c,q⟩:=rZ h;subst q;exact⟨a,b,c,e⟩
structure Dk(K:aA)(n:Str)(D:Addr):Prop where
 a:aG K aE n=some (some (.ref D))
 c:∃x,PySem.W.clsIn K D=some x
 t:PySem.W.typeIn K (.ref D)=some (.type "type")
end WB
namespace EV
open PySem PySem.Spec PySem.P PyProof.Rows L2
structure Ent where
 x:Str
 st:Stmt
 own:List Str
 fr:Bool
 fn:Fn
noncomputable def prT(tab:List Ent)(vals:List (Str×D))(cY:List (Str×Str))(subs:List ((Str×Cl)×Bool):=[]):Pr:=⟨λx=>(tab.find? (·.x==x)).map (·.fn),λx=>vals.lookup x,λk c=>subs.lookup (k,c),λk x=>cY.contains (k,x)⟩
noncomputable def unx:GK->GK
 | .exc=>.exk
 |k=>k
noncomputable def fB(oth:List (Str×GK)):List (Str×GK):=oth.map λy=>(y.1,unx y.2)
noncomputable def gx(us:List Ent)(oth:List (Str×GK)):List (Str×GK):=us.map (λe=>(e.x,GK.fn e.fr))++fB oth
theorem oZ{x:Str}{k:GK}:∀{oth:List (Str×GK)},(fB oth).lookup x=some k->∃k0,oth.lookup x=some k0/\k=unx k0
 | [],h=>by cases h
 | (y,k1)::r,h=>by
  have h:List.lookup x ((y,unx k1)::fB r)=some k:=h;rw[bB]at h;split at h
  ·rename_i q;cases h;exact⟨k1,by rw[bB,q],rfl⟩
  ·rename_i q
   obtain⟨k0,h1,h2⟩:=oZ h;exact⟨k0,by rw[bB,q];exact h1,h2⟩
theorem nG{x:Str}{k:GK}{oth:List (Str×GK)}:∀{us:List Ent},(gx us oth).lookup x=some k->(∃e∈us,e.x=x/\k=.fn e.fr)\/(fB oth).lookup x=some k
 | [],h=>.inr h
 |a::r,h=>by
  have h:List.lookup x ((a.x,GK.fn a.fr)::gx r oth)=some k:=h;rw[bB]at h;split at h
  ·rename_i q;cases h;exact .inl ⟨a,aL,(eq_of_beq q).symm,rfl⟩
  ·rcases nG h with ⟨e,h1,h2⟩|h1
   ·exact .inl ⟨e,aO _ h1,h2⟩
   ·exact .inr h1
noncomputable def fb(K:aA)(ns:List Str)(x:Str):Option Addr:=if ns.contains x then (match aG K aE x with
 |some (some (.ref f))=>some f
 |_=>none)else none
noncomputable def gOf(K:aA)(fns cls:List Str):Gc:=⟨K,fb K fns,fb K cls⟩
theorem jh{K:aA}{ns:List Str}{x:Str}{f:Addr}(h:aG K aE x=some (some (.ref f)))(hx:ns.contains x=true):fb K ns x=some f:=by
 unfold fb;rw[if_pos hx,h]
theorem lz{K:aA}{ns:List Str}{x:Str}{f:Addr}(h:fb K ns x=some f):ns.contains x=true/\aG K aE x=some (some (.ref f)):=by
 unfold fb at h;split at h
 ·rename_i hx
  split at h
  ·rename_i q;cases h;exact⟨hx,q⟩
  ·exact oN h
 ·exact oN h
def Bnd(e:Ent):Prop:=∀(kV doc pm:ae) (an:Option Addr) (cdv ct:ae) (us:List ae),us.length=(argNames (zh e.st)).length->bindArgs (cw e.x e.x (zh e.st) (eh e.st) (zb e.st) .none kV doc pm an cdv ct) ⟨us,[]⟩=pure ((argNames (zh e.st)).zip us)
structure jb(K:aA)(G:List (Str×GK))(e:Ent):Prop where
 dd:∃f,WB.Dd K e.x e.st f
 bnd:Bnd e
def pT(K:aA)(vals:List (Str×D))(x:Str):GK->Prop
 | .fn _=>True
 | .val=>∃u v d,aG K aE x=some (some u)/\RelV v u/\vals.lookup x=some d/\∀g H,g.K=K->Rep g H d v
 | .bi b=>aG K aE x=some none/\x=b1N b/\∃id,b1V b=.builtin id
 | .rng=>aG K aE x=some none/\x = "range"
 | .enum=>aG K aE x=some none/\x = "enumerate"
 | .zip=>aG K aE x=some none/\x = "zip"
 | .isi=>aG K aE x=some none/\x = "isinstance"
 | .ty n b=>aG K aE x=some none/\bU x=some (.type n)/\(n∈["int","bool","str","list","tuple"]\/n = "ValueError")/\∀b',b=some b'->x=b1N b'/\b1V b'=.type n
 | .exc=>∃C,aG K aE x=some (some (.ref C))/\PySem.W.excIn K C g7 "ValueError.__new__" = true
 | .exk=>∃C,aG K aE x=some (some (.ref C))
 | .set=>aG K aE x=some none/\bU x=some (.type "set")
 | .rvd=>aG K aE x=some none/\x = "reversed"
def sd(K:aA)(cls:List Str)(y:(Str×Cl)×Bool):Prop:=∃C cv,cls.contains y.1.1=true/\aG K aE y.1.1=some (some (.ref C))/\l8 K C/\cq K (.ref C) cv=some y.2/\match y.1.2 with
 | .ty n=>n = "ValueError"/\cv=.type n
 | .ex x=>∃D,cls.contains x=true/\aG K aE x=some (some (.ref D))/\cv=.ref D
theorem rh{α β:Type} [BEq α] [LawfulBEq α]{a:α}{b:β}:∀{l:List (α×β)},l.lookup a=some b->(a,b)∈l
 | (c,d)::r,h=>by
  rw[bB]at h;split at h
  ·rename_i q;cases h;rw[eq_of_beq q];exact aL
  ·exact aO _ (rh h)
theorem sW{tab:List Ent}{e:Ent}(hn:(tab.map (·.x)).Nodup)(he:e∈tab):tab.find? (·.x==e.x)=some e:=by
 induction tab with
 |nil=>simp at he
 |cons a r ih=>
  simp only[aJ,List.nodup_cons]at hn;rw[List.find?_cons];rcases aM.mp he with rfl|h
  ·simp
  ·have:(a.x==e.x)=false:=by
    cases q:a.x==e.x with
    |false=>rfl
    |true=>
     have:=eq_of_beq q;exact absurd (this▸aN.mpr ⟨e,h,rfl⟩) hn.1
   rw[this];exact ih hn.2 h
theorem u7{K:aA}{h:Heap}{mg:Str->Option ae}(X:K.In h)(N:h.Ns aE mg){tab:List Ent}{oth G:List (Str×GK)}{vals:List (Str×D)}(hG:G=tab.map (λe=>(e.x,GK.fn e.fr))++oth)
  (F4:(tab.map (·.x)).Nodup) (ho:∀x k,oth.lookup x=some k->pT K vals x k) (K':∀x fr,oth.lookup x≠some (.fn fr)) {us:List Ent} (Lb:∀e∈us,e∈tab) (Mt:∀e∈us,p7 (fB oth) e.own e.fr e.st=some e.fn) (hc:∀e∈tab,cFn G (gx us oth) e.own e.fr e.st=some e.fn) (he:∀e∈tab,jb K G e) (cls:List Str) {cY:List (Str×Str)} (Kg:∀y∈cY,∃C D,aG K aE y.1=some (some (.ref C))/\aG K aE y.2=some (some (.ref D))/\PySem.W.exmOne K (.ref C) (.ref D)=some true) (Gv:∀x,(oth.lookup x=some .exc\/oth.lookup x=some .exk)->cls.contains x=true)
  {subs:List ((Str×Cl)×Bool)} (E6:∀y∈subs,sd K cls y) :
  Ground (prT tab vals cY subs) (gOf K (tab.map (·.x)) cls) G (gx us oth) (fB oth) mg:=by
 have lk:∀x k,G.lookup x=some k->(∃e∈tab,e.x=x/\k=.fn e.fr)\/oth.lookup x=some k:=by
  subst hG;clear F4 hc he Lb
  induction tab with
  |nil=>intro x k hx;exact .inr hx
  |cons a r ih=>
   intro x k hx;simp only[aJ,List.cons_append,bB]at hx;split at hx
   ·rename_i q;cases hx;exact .inl ⟨a,aL,(eq_of_beq q).symm,rfl⟩
   ·rcases ih x k hx with ⟨e,h1,h2⟩|h1
    ·exact .inl ⟨e,aO _ h1,h2⟩
    ·exact .inr h1
 have Mu:∀e∈tab,G.lookup e.x=some (.fn e.fr):=by
  subst hG;clear hc he lk Lb
  induction tab with
  |nil=>intro e h;simp at h
  |cons a r ih=>
   intro e hm;simp only[aJ,List.nodup_cons]at F4;simp only[aJ,List.cons_append,bB];rcases aM.mp hm with rfl|hm
   ·rw[beq_self_eq_true]
   ·have:(e.x==a.x)=false:=by
     cases q:e.x==a.x with
     |false=>rfl
     |true=>exact absurd ((eq_of_beq q)▸aN.mpr ⟨e,hm,rfl⟩) F4.1
    rw[this];exact ih F4.2 e hm
 have Mv:∀k x,cY.contains (k,x)=true->∀C D,fb K cls k=some C->fb K cls x=some D->PySem.W.exmOne K (.ref C) (.ref D)=some true:=λk x z C D h1 h2=>by
  obtain⟨C',D',e1,e2,e3⟩:=Kg (k,x) (by simpa using z);have a1:=(lz h1).2;have a2:=(lz h2).2;rw[e1]at a1;rw[e2]at a2;cases a1;cases a2;exact e3
 have Lc:∀e∈tab,∃f fd,fb K (tab.map (·.x)) e.x=some f/\Fun K e.x e.x e.st f fd/\Binds K fd (argNames (zh e.st)) []/\cR K (.ref f)=true/\mg e.x=some (.ref f):=λe hm=>by
  obtain⟨⟨f',d⟩,hb⟩:=he e hm;obtain⟨fd,F⟩:=d.fn;exact⟨f',fd,jh d.a (by simpa using aN.mpr ⟨e,hm,rfl⟩),F,F.binds hb,d.k,PySem.W.mg_of X N d.a⟩
 have Mw:∀e∈tab,(prT tab vals cY subs).fns e.x=some e.fn:=λe hm=>by show (tab.find? (·.x==e.x)).map (·.fn)=_;rw[sW F4 hm];rfl
 have gl:∀x k,oth.lookup x=some k->GM0 (prT tab vals cY subs) (gOf K (tab.map (·.x)) cls) mg x k:=λx k hk=>by
  have:=ho x k hk;cases k with
  |fn fr=>exact absurd hk (K' x fr)
  |val=>obtain⟨u,v,d,h1,h2,h3,h4⟩:=this;exact⟨u,v,d,PySem.W.mg_of X N h1,h2,h3,λH=>h4 _ H rfl⟩
  |bi b=>exact⟨dj X N this.1,this.2⟩
  |rng=>exact⟨dj X N this.1,this.2⟩
  |enum=>exact⟨dj X N this.1,this.2⟩
  |zip=>exact⟨dj X N this.1,this.2⟩
  |isi=>exact⟨dj X N this.1,this.2⟩
  |ty n b=>exact⟨dj X N this.1,this.2⟩
  |exc=>obtain⟨C,h1,h2⟩:=this;exact⟨C,PySem.W.mg_of X N h1,jh h1 (Gv x (.inl hk)),h2⟩
  |exk=>obtain⟨C,h1⟩:=this;exact⟨C,PySem.W.mg_of X N h1,jh h1 (Gv x (.inr hk))⟩
  |set=>exact⟨dj X N this.1,this.2⟩
  |rvd=>exact⟨dj X N this.1,this.2⟩
 refine⟨λx f hf=>?_,λx k hx=>?_,λx k hx=>?_,λx k hx=>?_,λk cl b z=>?_,Mv⟩
 ·obtain⟨h1,h2⟩:=lz hf;obtain⟨e,hm,rfl⟩:=aN.mp (by simpa using h1:x∈tab.map (·.x));obtain⟨f',fd,z1,z2,z3,z4,z5⟩:=Lc e hm;have hf:fb K (tab.map (·.x)) e.x=some f:=hf;rw[hf]at z1;cases z1;exact⟨e.st,e.own,e.fr,fd,e.fn,Mw e hm,hc e hm,z2,z3,z4,z5,Mu e hm⟩
 ·rcases lk x k hx with ⟨e,hm,rfl,rfl⟩|hk
  ·obtain⟨f',fd,z1,_⟩:=Lc e hm;exact⟨f',z1⟩
  ·exact gl x k hk
 ·obtain⟨k0,h1,rfl⟩:=oZ hx;have:=gl x k0 h1;cases k0 with
  |fn fr=>exact absurd h1 (K' x fr)
  |exc=>obtain⟨C,z1,z2,_⟩:=this;exact⟨by simp[unx],by simp[unx],⟨C,z1,z2⟩⟩
  |_=>exact⟨by simp[unx],by simp[unx],this⟩
 ·rcases nG hx with ⟨e,hm,rfl,rfl⟩|hk
  ·have:=Mt e hm;cases this
  ·exact hk
 ·have z:subs.lookup (k,cl)=some b:=z;obtain⟨C,cv,h0,h1,h2,h3,h4⟩:=E6 _ (rh z);refine⟨C,cv,jh h1 h0,h2,h3,?_⟩;cases cl with
  |ty n=>exact h4
  |ex x=>obtain⟨D,d0,d1,d2⟩:=h4;exact⟨D,jh d1 d0,d2⟩
theorem tX{l:PySem.W.OpenLaw}{q:aB}{loose:List Str}{XP:(Str->Option ae)->Heap->Prop}{YP:az->Heap->Prop}{d:DefRec}{K:Params->aA}{tab:List Ent}{G:List (Str×GK)}{vals:List (Str×D)}{cls:List Str}{cY:List (Str×Str)}{subs:List ((Str×Cl)×Bool)}{GH GU:List (Str×GK)}{e:Ent}{k:Nat}
  (hn:l.most=some 63) (He:d.params.defaults=[]) (hd:d.name=e.x) (hr:cC k callerA) (hY:∀(w:az) (h:Heap),YP w h->(K w.params).In h) (hm:e∈tab) (F4:(tab.map (·.x)).Nodup) (hx:e.x = "law") (Hl:e.fr=false) (hp:argNames (zh e.st)=[("_law_script" : Str)])
  (hG:∀(w:az) (mg:Str->Option ae) (h:Heap),(K w.params).In h->h.Ns aE mg->Ground (prT tab vals cY subs) (gOf (K w.params) (tab.map (·.x)) cls) G GH GU mg/\jb (K w.params) G e) (hc:cFn G GH e.own e.fr e.st=some e.fn)
  (Kh:∀ns:List Int,ns.length<=63->qc (prT tab vals cY subs) k "law" [.lst (ns.map D.int)]=.ok (.bl true)) :
  PySem.W.WalkO q loose XP YP l.row.toRowW d [] (λf vs=>PySem.call f vs):=by
 refine L2.Dq (n:=63) (k:=k) (x:="_law_script") (CX:=λw=>CX1 l.prog w) (sp:=λw=>spF (wAt (prT tab vals cY subs) k) (gOf (K w.params) (tab.map (·.x)) cls) "law" false) hn (by decide) He hr hY (λw mg fa h KX N hfa=>?_) (λw H a ns hl _ hS=>?_) λw H s e s' z=>?_
 ·obtain⟨T,⟨f,dd⟩,hb⟩:=hG w mg h KX N;have e1:=hfa.symm.trans (hd▸PySem.W.mg_of KX N dd.a);cases e1;obtain⟨oc,od,an,sl,kV,dc,pm,cd,ct,lk,F5⟩:=dd.l;refine⟨cw e.x e.x (zh e.st) (eh e.st) (zb e.st) .none kV dc pm an cd ct,λs u=>.of_eq ?_,λbase _ _=>?_⟩
  ·have:=hb kV dc pm an cd ct [u] (by rw[hp];rfl);rw[hp]at this;exact this
  ·have:=T.ok (P:=l.prog) (wl:=w) (base:=base) k e.x fa e.st e.own e.fr _ e.fn (by show (tab.find? (·.x==e.x)).map (·.fn)=_;rw[sW F4 hm];rfl) hc (mR (st:=e.st) lk F5 dd.k);rw[hp,hx,Hl]at this;rw[hx];exact this
 ·refine⟨⟨λ_=>false,λ_=>false,[],λ_=>none⟩,[.lst (ns.map D.int)],(λa z=>by rcases z with z|z<;>cases z),.cons (.lst (xs:=ns.map V.int) ?_ (qi.ofInts _)) .nil,?_⟩
  ·have:hid H ⟨λ_=>false,λ_=>false,[],λ_=>none⟩=H:=by funext b;unfold hid;rw[if_neg (by simp)]
   rw[this];exact hS
  ·show tR _ _ _ (qc (prT tab vals cY subs) k "law" [.lst (ns.map D.int)]) _;rw[Kh ns hl];intro v H' _ r _;cases r;rfl
 ·obtain⟨_,_,_,_,_,_,_,_,_,z⟩:=z;exact z
end EV
namespace KG
open EV
open PySem (Str)
open L2 (atI ixN ltP)
abbrev prD:Int×Int->D:=EV.pairD
theorem zy{w:W}{f:Fn}{ds:List D}{d:D}{τ:Env}(hl:ds.length=f.ps)(hτ:ds.map some++bY (f.N-f.ps) none=τ)(h:qh w f.body τ=.rt d):du w f ds=.ok d:=by
 rw[du,if_pos hl,hτ,h]
theorem lC{w:W}{s:S}{r:Ss}{τ σ:Env}{o:O}(h:evS w s τ=.nx σ)(h':qh w r σ=o):qh w (.cons s r) τ=o:=by rw[qh,h];exact h'
theorem gF{w:W}{it:It}{cap:List (Option Nat)}{t:T}{elt:E}{τ c:Env}{ds:List D}{g:D->List D}(h:evI w it τ=.ok ds)(hz:ds.length<=SZ)(hc:dh cap τ=none::none::c)
  (hb:∀x∈ds,((evT w t (none::some x::c)).bind λr=>if r then (evE w elt (none::some x::c)).bind λd=>.ok [d]else .ok [])=.ok (g x)):evE w (.comp it cap (.nm 1) t elt) τ=.ok (.lst (ds.flatMap g)):=by
 have key:∀(l:List D) (v:Option D) (acc:List D),(∀x∈l,x∈ds)->cL (λx σ=>noEx ((store (.nm 1) x σ).bind λσ'=>(evT w t σ').bind λr=>if r then (evE w elt σ').bind λd=>.ok (σ',[d])else .ok (σ',[]))) l (none::v::c) acc=.ok (acc++l.flatMap g):=by
  intro l
  induction l with
  |nil=>intro v acc _;simp[cL]
  |cons x r ih=>
   intro v acc hm;have q:=hb x (hm x aL);rw[cL];have e:noEx ((store (.nm 1) x (none::v::c)).bind λσ'=>(evT w t σ').bind λr=>if r then (evE w elt σ').bind λd=>.ok (σ',[d])else .ok (σ',[]))=.ok (none::some x::c,g x):=by
    simp only[store,R.bind_ok,List.set_cons_succ,List.set_cons_zero];cases ht:evT w t (none::some x::c)with
    |ok b=>
     rw[ht]at q;simp only[R.bind_ok]at q ⊢;cases b
     ·simp at q ⊢;rw[<-q];rfl
     ·simp only[if_true]at q ⊢;cases he:evE w elt (none::some x::c)with
      |ok d=>rw[he]at q;simp only[R.bind_ok,R.ok.injEq]at q ⊢;rw[<-q];rfl
      |ex=>rw[he]at q;cases q
      |no=>rw[he]at q;cases q
    |ex=>rw[ht]at q;cases q
    |no=>rw[ht]at q;cases q
   rw[e];simp only[R.bind_ok];rw[ih (some x) _ λy hy=>hm y (aO _ hy),List.flatMap_cons,bw]
 rw[qx,h];simp only[R.bind_ok];rw[if_neg (by lia),hc,key ds none [] λ_ h=>h]
 rfl
theorem yT{w:W}{i:Int}:cZ w (.int i) (.ty "int")=.ok (.bl true):=rfl
theorem Bj{w:W}{i:Int}:cZ w (.int i) (.ty "bool")=.ok (.bl false):=rfl
theorem Ce{w:W}{i:List D}:cZ w (.tup i) (.ty "tuple")=.ok (.bl true):=rfl
theorem Bb{w:W}{i:List D}:cZ w (.tup i) (.ty "bool")=.ok (.bl false)/\cZ w (.tup i) (.ty "int")=.ok (.bl false)/\cZ w (.tup i) (.ty "str")=.ok (.bl false)/\cZ w (.tup i) (.ty "list")=.ok (.bl false):=⟨rfl,rfl,rfl,rfl⟩
theorem CY{w:W}{i:Bool}:cZ w (.bl i) (.ty "bool")=.ok (.bl true):=rfl
theorem lH(i:Int):(D.int i).asks=true:=rfl
theorem y8(t:Int×Int):(prD t).asks=true:=rfl
theorem l9:∀ns:List Int,plainAll (ns.map D.int)=true
 | []=>rfl
 |_::r=>l9 r
theorem kF:∀ns:List Int,dC (ns.map D.int)=0
 | []=>rfl
 |_::r=>by show max 0 (dC _)=0;rw[kF r];rfl
theorem pd(ns:List Int):(D.tup (ns.map D.int)).asks=true:=by
 simp[D.asks,D.plain,D.deep,l9,kF]
theorem lx:∀ns ms:List Int,eqvAll (ns.map D.int) (ms.map D.int)=decide (ns=ms)
 | [],[]=>rfl
 | [],_::_=>rfl
 |_::_,[]=>rfl
 |a::r,b::t=>by
  show (a==b&&eqvAll (r.map D.int) (t.map D.int))=_;rw[lx r t];simp[Bool.decide_and]
  rfl
noncomputable def mn(a b:Int):Int:=if b<a then b else a
noncomputable def mx(a b:Int):Int:=if a<b then b else a
noncomputable def eu(ts:List (Int×Int))(a b:Int):Bool:=ts.any λt=>t.1==mn a b&&t.2==mx a b
theorem yc(ts:List (Int×Int))(u v:Int):qk .isin (.tup [.int u,.int v]) (.tup (ts.map prD))=.ok (ts.any λt=>t.1==u&&t.2==v):=by
 simp only[dN,zB,zI,zC,dX,dU,dW];simp only[seq?];rw[if_pos (by simp only[aQ,bS,aN];exact⟨rfl,λx ⟨t,_,e⟩=>e▸y8 t⟩),inD,List.any_map]
 congr 2;funext t;show ((t.1==u)&&((t.2==v)&&true))=_;rw[Bool.and_true]
theorem Df(ns:List Int)(a:Int):qk .isin (.int a) (.tup (ns.map D.int))=.ok (ns.any λt=>t==a):=by
 simp only[dN,zB,zI,zC,dX,dU,dW];simp only[seq?];rw[if_pos (by simp only[aQ,bS,aN];exact⟨rfl,λx ⟨t,_,e⟩=>e▸lH t⟩),inD,List.any_map]
 rfl
structure GW(m:Int)(ts:List (Int×Int)):Prop where
 lo:1<=m
 hi:m<=8
 lt:ts.Pairwise λs t=>ltP s t=true
 ok:∀t∈ts,0<=t.1/\t.1<t.2/\t.2<m
 len:ts.length<=28
structure GS(m:Int)(s:List Int):Prop where
 lt:s.Pairwise (· < ·)
 ok:∀i∈s,0<=i/\i<m
 len:s.length<=8
abbrev wb(m:Int)(ts:List (Int×Int)):D:=.tup [.int m,.tup (ts.map prD)]
abbrev tu(s:List Int):D:=.tup (s.map D.int)
theorem iy{xs:List D}{i:Nat}(h:i<xs.length):atI xs (i:Int)=some xs[i]:=by
 rw[atI,ixN,if_pos (by lia),if_pos (by lia)];simp[h]
theorem all_true(xs:List D):bools? (xs.flatMap λ_=>[.bl true])=some (bY xs.length true):=by
 induction xs with
 |nil=>rfl
 |cons x r ih=>show (bools? (r.flatMap λ_=>[.bl true])).map (true :: ·)=_;rw[ih];rfl
theorem xV(n:Nat):(bY n true).all id=true:=by simp
theorem B4{s t:Int×Int}(h:ltP s t=true):qk .lt (prD s) (prD t)=.ok true:=by
 show R.ok (de [s.1,s.2] [t.1,t.2])=_;rw[ltP]at h;simp only[de];by_cases e:s.1=t.1
 ·rw[if_pos e]at h ⊢;by_cases e2:s.2=t.2
  ·rw[e2]at h;simp at h
  ·rw[if_neg e2,h]
 ·rw[if_neg e]at h ⊢;rw[h]
noncomputable def rng(m:Int):List Int:=(aX m.toNat).map λ(i:Nat)=>(i:Int)
theorem ft(m:Int):zA 0 m.toNat=(rng m).map D.int:=by
 rw[zA,rng,bh];simp
theorem jq(m:Int):(rng m).length=m.toNat:=by simp[rng]
theorem gJ{m i:Int}:i∈rng m↔0<=i/\i<m:=by
 simp only[rng,aN,List.mem_range];constructor
 ·rintro⟨a,h,rfl⟩;lia
 ·intro h;exact⟨i.toNat,by lia,by lia⟩
theorem sE(m:Int):(rng m).Pairwise (· < ·):=by
 rw[rng,List.pairwise_map];exact List.pairwise_lt_range.imp λh=>by lia
theorem o4(c:Int->Bool)(ns:List Int):(ns.map D.int).flatMap (λx=>match x with | .int i=>if c i then [D.int i]else []|_=>[])=(ns.filter c).map D.int:=by
 induction ns with
 |nil=>rfl
 |cons a r ih=>
  rw[aJ,List.flatMap_cons,ih,cP];show (if c a=true then [D.int a]else [])++_=_;cases c a<;>rfl
theorem uT(x y:Int)(h:0<y)(h':y<=2^64):small (x%y)=true:=by
 have a:=Int.emod_nonneg x (show y≠0 by lia);have b:=Int.emod_lt_of_pos x h;simp only[small,aQ,decide_eq_true_eq];lia
noncomputable def st(c j:Int):Int:=
 ((((c%2147483647+977 * j+1) * 48271%2147483647) * ((c%2147483647+977 * j+1) * 48271%2147483647)%2147483629+40692 * (j+3)) * 69621%2147483647)/8
theorem eq_int(a b:Int):qk .eq (.int a) (.int b)=.ok (decide (a=b)):=by
 show R.ok (a==b)=_;congr 1
theorem lt_int(a b:Int):qk .lt (.int a) (.int b)=.ok (decide (a<b)):=rfl
theorem ints_map(ns:List Int):ints? (ns.map D.int)=some ns:=by
 induction ns with
 |nil=>rfl
 |cons a r ih=>show (ints? (r.map D.int)).map (a :: ·)=_;rw[ih];rfl
theorem CI{f:Int->D}(ns:List Int):(ns.map D.int).flatMap (λx=>match x with | .int i=>[f i]|_=>[])=ns.map f:=by
 induction ns with
 |nil=>rfl
 |cons a r ih=>rw[aJ,List.flatMap_cons,ih];rfl
noncomputable instance (m:Int) (ts:List (Int×Int)):Decidable (GW m ts):=
 decidable_of_iff (1<=m/\m<=8/\ts.Pairwise (λs t=>ltP s t=true)/\(∀t∈ts,0<=t.1/\t.1<t.2/\t.2<m)/\ts.length<=28) ⟨λ⟨a,b,c,d,e⟩=>⟨a,b,c,d,e⟩,λ⟨a,b,c,d,e⟩=>⟨a,b,c,d,e⟩⟩
def Ends(J:Env->Prop)(Q:D->Prop):O->Prop
 | .nx σ=>J σ
 | .rt d=>Q d
 |_=>False
section
variable{w:W}{J K:Env->Prop}{Q:D->Prop}{s:S}{r:Ss}{τ σ:Env}
theorem zt(h:J τ):Ends J Q (qh w .nil τ):=by rw[qh];exact h
theorem qo(h:evS w s τ=.nx σ)(h':Ends J Q (qh w r σ)):Ends J Q (qh w (.cons s r) τ):=by rw[qh,h];exact h'
theorem dO(h:Ends K Q (evS w s τ))(h':∀σ,K σ->Ends J Q (qh w r σ)):Ends J Q (qh w (.cons s r) τ):=by
 rw[qh];cases q:evS w s τ with
 |nx σ=>rw[q]at h;exact h' σ h
 |rt d=>rw[q]at h;exact h
 |_=>rw[q]at h;exact h.elim
theorem eC{e:E}{d:D}(h:evE w e τ=.ok d)(hq:Q d):Ends J Q (qh w (.cons (.ret e) r) τ):=by
 rw[qh,zz,h];exact hq
theorem iu{t:T}{a b:Ss}{v:Bool}(h:evT w t τ=.ok v)(h1:v=true->Ends J Q (qh w a τ))(h2:v=false->Ends J Q (qh w b τ)):Ends J Q (evS w (.ite t a b) τ):=by
 rw[cx,h];cases v
 ·exact h2 rfl
 ·exact h1 rfl
theorem eV{tg:Tg}{it:It}{b:Ss}{ds:List D}(I:List D->Env->Prop)(h:evI w it τ=.ok ds)(h0:I ds τ)(hs:∀x t σ,I (x::t) σ->∃σ1,store tg x σ=.ok σ1/\Ends (I t) Q (qh w b σ1))(hn:∀σ,I [] σ->Ends J Q (qh w r σ)):Ends J Q (qh w (.cons (.for tg it b) r) τ):=by
 have key:∀(l:List D) (σ:Env),I l σ->Ends (I []) Q (dP tg (λσ=>qh w b σ) l σ):=by
  intro l
  induction l with
  |nil=>intro σ q;exact q
  |cons x t ih=>
   intro σ q;obtain⟨σ1,a,b'⟩:=hs x t σ q;rw[dP,a];simp only[R.out_ok];cases z:qh w b σ1 with
   |nx σ2=>rw[z]at b';exact ih σ2 b'
   |rt d=>rw[z]at b';exact b'
   |_=>rw[z]at b';exact b'.elim
 have hk:=key ds τ h0;refine dO (K:=I []) ?_ hn;rw[cJ,h];simp only[R.out_ok];cases z:dP tg (λσ=>qh w b σ) ds τ with
 |nx σ2=>rw[z]at hk;exact hk
 |rt d=>rw[z]at hk;exact hk
 |_=>rw[z]at hk;exact hk.elim
end
theorem DU{J J':Env->Prop}{Q:D->Prop}{o:O}(h:Ends J Q o)(hj:∀σ,J σ->J' σ):Ends J' Q o:=by
 cases o with
 |nx σ=>exact hj σ h
 |rt d=>exact h
 |_=>exact h.elim
noncomputable def iw(m:Int):List Int:=(aX (m-1).toNat).map λ(i:Nat)=>1+(i:Int)
noncomputable def kI(b:Int):List (Int×Int):=(rng b).map λa=>(a,b)
noncomputable def gp(m:Int):List (Int×Int):=(iw m).flatMap kI
structure Pok(n:Int):Prop where
 nd:(gp n).Nodup
 ok:∀t∈gp n,0<=t.1/\t.1<t.2/\t.2<n
 len:(gp n).length<=28
theorem pok(n:Int)(h1:1<=n)(h2:n<=8):Pok n:=by
 have:n=1\/n=2\/n=3\/n=4\/n=5\/n=6\/n=7\/n=8:=by lia
 rcases this with rfl|rfl|rfl|rfl|rfl|rfl|rfl|rfl<;>exact⟨by decide +kernel,by decide +kernel,by decide +kernel⟩
theorem DG{s t:Int×Int}(h:ltP t s=false)(hn:s≠t):ltP s t=true:=by
 simp only[ltP]at h ⊢;by_cases e:s.1=t.1
 ·rw[if_pos e.symm]at h;rw[if_pos e];have:s.2≠t.2:=λz=>hn (Prod.ext e z)
  simp at h ⊢;lia
 ·rw[if_neg (λz=>e z.symm)]at h;rw[if_neg e];simp at h ⊢;lia
theorem tI{l:List (Int×Int)}(h:l.Pairwise λa b=>ltP b a=false)(hn:l.Nodup):l.Pairwise λs t=>ltP s t=true:=
 List.Pairwise.imp₂ (λa b h1 h2=>DG h1 h2) h hn
theorem BH{n:Int}(h1:1<=n)(h2:n<=8){ts:List (Int×Int)}(s:ts.Sublist (gp n)):GW n (zR ts):=by
 have P:=pok n h1 h2;have pm:=lE ts;exact⟨by lia,by lia,tI (pC ts) (pm.nodup_iff.mpr (P.nd.sublist s)),λt ht=>P.ok t (s.subset (pm.mem_iff.mp ht)),by rw[pm.length_eq];exact a8 s.length_le P.len⟩
theorem nu:∀ts:List (Int×Int),pairs? (ts.map prD)=some ts
 | []=>rfl
 |t::r=>by show (pairs? (r.map prD)).map (t :: ·)=_;rw[nu r];rfl
theorem jx(xs:List D):b1 .sorted [.lst xs]=(if xs.length<64 then (match ints? xs with
  |some ns=>.ok (.lst ((sortI ns).map D.int))
  |none=>match pairs? xs with
   |some ps=>.ok (.lst ((zR ps).map pairD))
   |none=>cB xs)else cB xs):=rfl
theorem CT(ts:List (Int×Int))(h:ts.length<64):b1 .sorted [.lst (ts.map prD)]=.ok (.lst ((zR ts).map prD)):=by
 rw[jx,if_pos (by simpa using h)];cases ts with
 |nil=>rfl
 |cons t r=>
  have e:ints? ((t::r).map prD)=none:=rfl;rw[e];simp only;rw[nu]
noncomputable def hd(m:Int)(ts:List (Int×Int))(a:Int):List Int:=(rng m).filter λb=>b==a||eu ts a b
end KG
noncomputable def KG.Z:=aw @EV.qh.eq_1 (aw @EV.qh.eq_2 (aw @EV.zS (aw @EV.cA (aw @EV.cD (aw @EV.zz (aw @EV.cG (aw @EV.cx (aw @EV.qz (aw @EV.qX (aw @EV.itr?.eq_1 (aw @EV.itr?.eq_2 (aw @EV.itr?.eq_3 (aw @EV.ze (aw @EV.zj (aw @EV.qV (aw @EV.zk (aw @EV.qF (aw @EV.qH (aw @EV.qI (aw @EV.qC (aw @EV.qE (aw @EV.qJ (aw @EV.qD (aw @EV.qw (aw @EV.qG (aw @EV.qB (aw @EV.qu (aw @EV.qK (aw @EV.qA.eq_1 (aw @EV.qA.eq_2 (aw @EV.fO (aw @EV.fW (aw @EV.gi (aw @EV.gr (aw @EV.fV (aw @EV.fQ (aw @EV.fZ (aw @EV.evI.eq_1 (aw @EV.evI.eq_2 (aw @EV.evI.eq_3 (aw @EV.evI.eq_4 (aw @EV.evI.eq_5 (aw @EV.evO.eq_1 (aw @EV.evO.eq_2 (aw @EV.opI.eq_1 (aw @EV.opI.eq_2 (aw @EV.opI.eq_3 (aw @EV.opI.eq_4 (aw @EV.opI.eq_5 (aw @EV.opI.eq_6 (aw @EV.opI.eq_7 (aw @EV.opI.eq_8 (aw @EV.opI.eq_9 (aw @EV.opI.eq_10 (aw @EV.opI.eq_11 (aw @EV.b11.eq_1 (aw @EV.b11.eq_2 (aw @EV.b11.eq_3 (aw @EV.b11.eq_4 (aw @EV.b11.eq_5 (aw @EV.b11.eq_6 (aw @EV.b11.eq_7 (aw @EV.b11.eq_8 (aw @EV.b11.eq_9 (aw @EV.b11.eq_10 (aw @EV.b11.eq_11 (aw @EV.b11.eq_12 (aw @EV.b11.eq_13 (aw @EV.b11.eq_14 (aw @EV.b12.eq_1 (aw @EV.b12.eq_2 (aw @EV.b12.eq_3 (aw @EV.cy.eq_1 (aw @EV.cy.eq_2 (aw @EV.eE.eq_1 (aw @EV.eE.eq_2 (aw @EV.iiR.eq_1 (aw @EV.iiR.eq_2 (aw @EV.zo.eq_1 (aw @EV.store.eq_1 (aw @EV.store.eq_2 (aw @EV.store.eq_3 (aw @EV.setAll.eq_1 (aw @EV.setAll.eq_2 (aw @EV.setAll.eq_3 (aw @EV.truth.eq_1 (aw @EV.truth.eq_2 (aw @EV.truth.eq_3 (aw @EV.truth.eq_4 (aw @EV.truth.eq_5 (aw @EV.truth.eq_6 (aw @KG.yT (aw @KG.Bj (aw @KG.Ce (aw @KG.Bb (@KG.CY))))))))))))))))))))))))))))))))))))))))))))))))))))))))))))))))))))))))))))))))))))))))))))))))
namespace KG
open EV
open PySem (Str)
open L2 (atI ixN ltP)
noncomputable def jK:Fn:=⟨1,1,false,(.cons (.ret (.and (.isi (.var 0) (.ty "int")) (.not (.isi (.var 0) (.ty "bool"))))) .nil)⟩
noncomputable def i3:Fn:=⟨3,3,false,(.cons (.ret (.and (.call "is_whole" (.cons (.var 0) .nil)) (.cmp2 .le .le (.var 1) (.var 0) (.var 2)))) .nil)⟩
noncomputable def i5:Fn:=⟨1,1,false,(.cons (.ret (.and (.isi (.var 0) (.ty "tuple")) (.cmp .eq (.bi .len (.cons (.var 0) .nil)) (.con (.int 2))))) .nil)⟩
noncomputable def i9:Fn:=⟨1,1,false,(.cons (.ret (.bi .all (.cons (.comp (.rng (.op .sub (.bi .len (.cons (.var 0) .nil)) (.con (.int 1)))) [none,none,some 0] (.nm 1) .yes (.cmp .lt (.ix (.var 2) (.var 1)) (.ix (.var 2) (.op .add (.var 1) (.con (.int 1)))))) .nil))) .nil)⟩
noncomputable def iW:Fn:=⟨1,3,false,(.cons (.ite (.not (.val (.call "is_pair" (.cons (.var 0) .nil)))) (.cons (.ret (.con (.bl false))) .nil) .nil) (.cons (.set (.tp [1,2]) (.var 0)) (.cons (.ite (.or (.not (.val (.call "is_between" (.cons (.var 1) (.cons (.con (.int 1)) (.cons (.glb "MOST") .nil)))))) (.not (.val (.isi (.var 2) (.ty "tuple"))))) (.cons (.ret (.con (.bl false))) .nil) .nil) (.cons (.ret (.and (.bi .all (.cons (.comp (.seq (.var 2)) [none,none,some 1] (.nm 1) .yes (.call "is_tie" (.cons (.var 1) (.cons (.var 2) .nil)))) .nil)) (.call "rises" (.cons (.var 2) .nil)))) .nil))))⟩
noncomputable def i0:Fn:=⟨2,4,false,(.cons (.ite (.not (.val (.call "is_pair" (.cons (.var 0) .nil)))) (.cons (.ret (.con (.bl false))) .nil) .nil) (.cons (.set (.tp [2,3]) (.var 0)) (.cons (.ret (.and (.call "is_whole" (.cons (.var 2) .nil)) (.and (.call "is_whole" (.cons (.var 3) .nil)) (.cmp3 .le .lt .lt (.con (.int 0)) (.var 2) (.var 3) (.var 1))))) .nil)))⟩
noncomputable def iU:Fn:=⟨1,1,false,(.cons (.ite (.not (.val (.call "is_web" (.cons (.var 0) .nil)))) (.cons .unk .nil) .nil) .nil)⟩
noncomputable def iE:Fn:=⟨1,1,false,(.cons (.exp (.call "need_web" (.cons (.var 0) .nil))) (.cons (.ret (.bi .tuple (.cons (.comp (.rng (.ix (.var 0) (.con (.int 0)))) [none,none,some 0] (.nm 1) .yes (.call "hood_of" (.cons (.var 2) (.cons (.var 1) .nil)))) .nil))) .nil))⟩
noncomputable def gS:Fn:=⟨2,4,false,(.cons (.set (.tp [2,3]) (.var 0)) (.cons (.ret (.bi .tuple (.cons (.comp (.rng (.var 2)) [none,none,some 1,some 3] (.nm 1) (.or (.cmp .eq (.var 1) (.var 2)) (.val (.call "are_tied" (.cons (.var 3) (.cons (.var 2) (.cons (.var 1) .nil)))))) (.var 1)) .nil))) .nil))⟩
noncomputable def gE:Fn:=⟨3,3,false,(.cons (.ret (.cmp .isin (.tup (.cons (.bi .min (.cons (.var 1) (.cons (.var 2) .nil))) (.cons (.bi .max (.cons (.var 1) (.cons (.var 2) .nil))) .nil))) (.var 0))) .nil)⟩
noncomputable def iK:Fn:=⟨2,2,false,(.cons (.ret (.bi .tuple (.cons (.comp (.seq (.var 1)) [none,none,some 0] (.nm 1) (.cmp .isin (.var 1) (.var 2)) (.var 1)) .nil))) .nil)⟩
noncomputable def iX:Fn:=⟨1,3,false,(.cons (.set (.nm 1) (.lst (.cons (.tup .nil) .nil))) (.cons (.for (.nm 2) (.rng (.ix (.var 0) (.con (.int 0)))) (.cons (.set (.nm 1) (.op .add (.var 1) (.comp (.seq (.var 1)) [none,none,some 2] (.nm 1) .yes (.op .add (.var 1) (.tup (.cons (.var 2) .nil)))))) .nil)) (.cons (.ret (.bi .sorted (.cons (.var 1) .nil))) .nil)))⟩
noncomputable def zN:Fn:=⟨2,2,false,(.cons (.ite (.cmp .lt (.var 1) (.bi .len (.cons (.var 0) .nil))) (.cons (.ret (.ix (.var 0) (.var 1))) .nil) .nil) (.cons (.ret (.con (.int 0))) .nil))⟩
noncomputable def iq:Fn:=⟨2,3,false,(.cons (.set (.nm 2) (.op .mod (.op .mul (.op .add (.op .add (.op .mod (.var 0) (.con (.int 2147483647))) (.op .mul (.con (.int 977)) (.var 1))) (.con (.int 1))) (.con (.int 48271))) (.con (.int 2147483647)))) (.cons (.set (.nm 2) (.op .mod (.op .mul (.var 2) (.var 2)) (.con (.int 2147483629)))) (.cons (.set (.nm 2) (.op .mod (.op .mul (.op .add (.var 2) (.op .mul (.con (.int 40692)) (.op .add (.var 1) (.con (.int 3))))) (.con (.int 69621))) (.con (.int 2147483647)))) (.cons (.ret (.op .fdiv (.var 2) (.con (.int 8)))) .nil))))⟩
noncomputable def gR:Fn:=⟨1,1,false,(.cons (.ret (.and (.isi (.var 0) (.ty "int")) (.not (.isi (.var 0) (.ty "bool"))))) .nil)⟩
noncomputable def ka:Fn:=⟨2,10,false,(.cons (.set (.nm 2) (.op .add (.con (.int 1)) (.op .mod (.var 0) (.var 1)))) (.cons (.set (.nm 3) (.op .fdiv (.var 0) (.var 1))) (.cons (.set (.nm 4) (.op .mod (.var 3) (.con (.int 6)))) (.cons (.set (.nm 5) (.lst .nil)) (.cons (.for (.nm 6) (.rng2 (.con (.int 1)) (.var 2)) (.cons (.for (.nm 7) (.rng (.var 6)) (.cons (.set (.nm 8) (.op .band (.op .shr (.op .fdiv (.var 3) (.con (.int 6))) (.op .add (.op .fdiv (.op .mul (.var 6) (.op .sub (.var 6) (.con (.int 1)))) (.con (.int 2))) (.var 7))) (.con (.int 1)))) (.cons (.ite (.cmp .eq (.var 4) (.con (.int 3))) (.cons (.set (.nm 8) (.op .fdiv (.op .mod (.call "_law_stir" (.cons (.var 0) (.cons (.op .add (.op .mul (.con (.int 8)) (.var 7)) (.var 6)) .nil))) (.con (.int 3))) (.con (.int 2)))) .nil) .nil) (.cons (.ite (.cmp .eq (.var 4) (.con (.int 4))) (.cons (.set (.nm 8) (.op .fdiv (.op .add (.op .mod (.call "_law_stir" (.cons (.var 0) (.cons (.op .add (.op .mul (.con (.int 8)) (.var 7)) (.var 6)) .nil))) (.con (.int 4))) (.con (.int 2))) (.con (.int 3)))) .nil) .nil) (.cons (.ite (.cmp .eq (.var 4) (.con (.int 5))) (.cons (.set (.nm 9) (.lst (.cons (.cmp .eq (.var 6) (.op .add (.var 7) (.con (.int 1)))) (.cons (.or (.cmp .eq (.var 6) (.op .add (.var 7) (.con (.int 1)))) (.cmp .eq (.op .sub (.var 6) (.var 7)) (.op .sub (.var 2) (.con (.int 1))))) (.cons (.cmp .eq (.var 7) (.con (.int 0))) (.cons (.con (.bl true)) (.cons (.and (.cmp .eq (.var 6) (.op .add (.var 7) (.con (.int 1)))) (.cmp .lt (.op .mod (.var 7) (.con (.int 3))) (.con (.int 2)))) .nil))))))) (.cons (.set (.nm 8) (.bi .int (.cons (.ix (.var 9) (.op .mod (.op .fdiv (.var 3) (.con (.int 6))) (.con (.int 5)))) .nil))) .nil)) .nil) (.cons (.ite (.cmp .eq (.var 8) (.con (.int 1))) (.cons (.app 5 (.tup (.cons (.var 7) (.cons (.var 6) .nil)))) .nil) .nil) .nil)))))) .nil)) (.cons (.ret (.tup (.cons (.var 2) (.cons (.bi .tuple (.cons (.bi .sorted (.cons (.own 5) .nil)) .nil)) .nil)))) .nil))))))⟩
noncomputable def jd:Fn:=⟨1,4,false,(.cons (.set (.nm 1) (.comp (.rng (.ix (.var 0) (.con (.int 0)))) [none,none] (.nm 1) .yes (.op .shl (.con (.int 1)) (.var 1)))) (.cons (.for (.tp [2,3]) (.seq (.ix (.var 0) (.con (.int 1)))) (.cons (.seti 1 (.var 2) (.op .bor (.ix (.own 1) (.var 2)) (.op .shl (.con (.int 1)) (.var 3)))) (.cons (.seti 1 (.var 3) (.op .bor (.ix (.own 1) (.var 3)) (.op .shl (.con (.int 1)) (.var 2)))) .nil))) (.cons (.ret (.own 1)) .nil)))⟩
noncomputable def gO:Fn:=⟨2,2,false,(.cons (.ret (.bi .tuple (.cons (.comp (.rng (.var 0)) [none,none,some 1] (.nm 1) (.cmp .eq (.op .band (.op .shr (.var 2) (.var 1)) (.con (.int 1))) (.con (.int 1))) (.var 1)) .nil))) .nil)⟩
structure Web(p:Pr):Prop where
 is_whole:p.fns "is_whole" = some jK
 is_between:p.fns "is_between" = some i3
 is_pair:p.fns "is_pair" = some i5
 rises:p.fns "rises" = some i9
 is_web:p.fns "is_web" = some iW
 is_tie:p.fns "is_tie" = some i0
 need_web:p.fns "need_web" = some iU
 MOST:p.glb "MOST" = some (.int 8)
structure jc(p:Pr):Prop where
 _law_cell_at:p.fns "_law_cell_at" = some zN
 _law_stir:p.fns "_law_stir" = some iq
 _law_web:p.fns "_law_web" = some ka
structure Hds(p:Pr):Prop where
 hoods:p.fns "hoods" = some iE
 hood_of:p.fns "hood_of" = some gS
 are_tied:p.fns "are_tied" = some gE
section
variable{p:Pr}
theorem qL{k:Nat}{x:Str}{f:Fn}{ds:List D}(h:p.fns x=some f):qc p (k+1) x ds=du ⟨qc p k,p.glb,p.sub,p.cat⟩ f ds:=by
 rw[qc,h]
theorem fE{k:Nat}{x:Str}{f:Fn}{ds:List D}{τ:Env}{Q:D->Prop}(hf:p.fns x=some f)(hl:ds.length=f.ps)(hτ:ds.map some++bY (f.N-f.ps) none=τ)(h:Ends (λ_=>False) Q (qh (wAt p k) f.body τ)):∃d,qc p (k+1) x ds=.ok d/\Q d:=by
 rw[qL hf,du,if_pos hl,hτ];cases z:qh ⟨qc p k,p.glb,p.sub,p.cat⟩ f.body τ with
 |rt d=>rw[z]at h;exact⟨d,rfl,h⟩
 |nx _=>rw[z]at h;exact h.elim
 |_=>rw[z]at h;exact h.elim
section
variable(B:Web p)
include B
theorem is_whole{k:Nat}(i:Int):qc p (k+1) "is_whole" [.int i]=.ok (.bl true):=by rw[qL B.is_whole];rfl
theorem is_between{k:Nat}(i a b:Int)(h:a<=i/\i<=b):qc p (k+2) "is_between" [.int i,.int a,.int b]=.ok (.bl true):=by
 rw[qL B.is_between];refine zy rfl rfl ?_;simp[KG.Z,i3,is_whole B,qk,lG,h.1,h.2]
theorem is_pair{k:Nat}(a b:D):qc p (k+1) "is_pair" [.tup [a,b]]=.ok (.bl true):=by
 rw[qL B.is_pair];refine zy rfl rfl ?_;simp[KG.Z,i5,b1,seq?,qk,D.asks,D.plain,D.deep,D.eqv]
theorem is_tie{k:Nat}(a b m:Int)(h:0<=a/\a<b/\b<m):qc p (k+2) "is_tie" [.tup [.int a,.int b],.int m]=.ok (.bl true):=by
 rw[qL B.is_tie];refine zy rfl rfl ?_;simp[KG.Z,i0,is_pair B,is_whole B,qk,lG,h.1,h.2.1,h.2.2]
theorem rises{k:Nat}(xs:List D)(hz:xs.length<=28)(h:∀(i:Nat) (q:i+1<xs.length),qk .lt xs[i] xs[i+1]=.ok true):qc p (k+1) "rises" [.tup xs]=.ok (.bl true):=by
 rw[qL B.rises];refine zy rfl rfl ?_;have hr:qy ((xs.length:Int)-1)=true:=by simp[qy];lia
 have hc:evE ⟨qc p k,p.glb,p.sub,p.cat⟩ (.comp (.rng (.op .sub (.bi .len (.cons (.var 0) .nil)) (.con (.int 1)))) [none,none,some 0] (.nm 1) .yes (.cmp .lt (.ix (.var 2) (.var 1)) (.ix (.var 2) (.op .add (.var 1) (.con (.int 1)))))) [some (.tup xs)]=.ok (.lst ((zA 0 ((xs.length:Int)-1).toNat).flatMap λ_=>[.bl true])):=by
  refine gF (c:=[some (.tup xs)]) ?_ ?_ rfl ?_
  ·simp[KG.Z,b1,seq?,op2,hr]
  ·simp[zA,SZ];lia
  ·intro x hx;simp only[zA,aN,List.mem_range]at hx;obtain⟨i,hi,rfl⟩:=hx;have e1:atI xs ((0:Int)+(i:Int))=some xs[i]:=by rw[Int.zero_add];exact iy (by lia)
   have e2:atI xs ((0:Int)+(i:Int)+1)=some xs[i+1]:=by rw[Int.zero_add];exact iy (i:=i+1) (by lia)
   have e3:=h i (by lia);simp only[Int.zero_add]at e1 e2;simp[KG.Z,ixD,op2,e1,e2,e3]
 simp[KG.Z,i9,hc,b1,all_true,xV]
theorem is_web{k:Nat}{m:Int}{ts:List (Int×Int)}(h:GW m ts):qc p (k+3) "is_web" [wb m ts]=.ok (.bl true):=by
 rw[qL B.is_web];refine zy rfl rfl ?_;have hr:=rises B (k:=k+1) (ts.map prD) (by simpa using h.len) (λi q=>by
  rw[List.getElem_map,List.getElem_map];exact B4 (List.pairwise_iff_getElem.mp h.lt i (i+1) (by simp at q;lia) (by simpa using q) (by lia)))
 have hc:evE ⟨qc p (k+2),p.glb,p.sub,p.cat⟩ (.comp (.seq (.var 2)) [none,none,some 1] (.nm 1) .yes (.call "is_tie" (.cons (.var 1) (.cons (.var 2) .nil)))) [some (wb m ts),some (.int m),some (.tup (ts.map prD))]=.ok (.lst ((ts.map prD).flatMap λ_=>[.bl true])):=by
  refine gF (c:=[some (.int m)]) ?_ ?_ rfl ?_
  ·simp[KG.Z,seq?]
  ·simp[SZ];have:=h.len;lia
  ·intro x hx;rw[aN]at hx;obtain⟨t,ht,rfl⟩:=hx;have e:=is_tie B (k:=k) t.1 t.2 m (h.ok t ht);have e':qc p (k+2) "is_tie" [prD t,.int m]=.ok (.bl true):=e;simp[KG.Z,e']
 simp[KG.Z,iW,is_pair B,is_between B m 1 8 ⟨h.lo,h.hi⟩,B.MOST,hc,b1,all_true,hr]
theorem need_web{k:Nat}{m:Int}{ts:List (Int×Int)}(h:GW m ts):qc p (k+4) "need_web" [wb m ts]=.ok .non:=by
 rw[qL B.need_web];simp only[du];simp[KG.Z,iU,is_web B h]
end
theorem mQ(hf:p.fns "_law_stir" = some iq){k:Nat}(c j:Int):qc p (k+1) "_law_stir" [.int c,.int j]=.ok (.int (st c j)):=by
 have s1:small 977=true:=by decide
 have s2:small 48271=true:=by decide
 have s3:small 40692=true:=by decide
 have s4:small 69621=true:=by decide
 have s5:=uT ((c%2147483647+977 * j+1) * 48271) 2147483647 (by decide) (by decide);rw[qL hf];refine zy rfl rfl ?_;simp[KG.Z,iq,op2,s1,s2,s3,s4,s5,st]
theorem yl(hf:p.fns "_law_cell_at" = some zN){k:Nat}(ns:List Int):∃x:Int,qc p (k+1) "_law_cell_at" [.lst (ns.map D.int),.int 0]=.ok (.int x):=by
 cases ns with
 |nil=>
  refine⟨0,?_⟩;have e1:b1 .len [.lst []]=.ok (.int 0):=rfl;have e3:qk .lt (.int 0) (.int 0)=.ok false:=rfl;rw[qL hf];refine zy rfl rfl ?_;simp[KG.Z,zN,e1,e3]
 |cons x r=>
  refine⟨x,?_⟩;have e1:b1 .len [.lst ((x::r).map D.int)]=.ok (.int (r.length+1:Nat)):=by
   show R.ok (D.int ((x::r).map D.int).length)=_;simp
  have e2:ixD (.lst ((x::r).map D.int)) (.int 0)=.ok (.int x):=by
   have:=iy (xs:=(x::r).map D.int) (i:=0) (by simp);simp only[ixD];rw[show (0:Int)=((0:Nat):Int)from rfl,this];rfl
  simp only[aJ]at e1 e2;have h0:(0:Int)<((r.length+1:Nat):Int):=by lia
  have e3:qk .lt (.int 0) (.int ((r.length+1:Nat):Int))=.ok true:=by rw[lt_int,decide_eq_true h0]
  generalize ((r.length+1:Nat):Int)=N at *;rw[qL hf];refine zy rfl rfl ?_;simp[KG.Z,zN,e1,e2,e3]
section
end
section
end
theorem EB(hA:p.fns "are_tied" = some gE){k:Nat}(ts:List (Int×Int))(a b:Int):qc p (k+1) "are_tied" [.tup (ts.map prD),.int a,.int b]=.ok (.bl (eu ts a b)):=by
 rw[qL hA];refine zy rfl rfl ?_;simp[KG.Z,gE,b1,yc,eu,mn,mx]
theorem A'(hH:p.fns "hood_of" = some gS)(hA:p.fns "are_tied" = some gE){k:Nat}{m:Int}{ts:List (Int×Int)}(h:GW m ts)(a:Int):qc p (k+2) "hood_of" [wb m ts,.int a]=.ok (tu (hd m ts a)):=by
 rw[qL hH];refine zy rfl rfl ?_;have h1:=h.lo;have h2:=h.hi;have hc:evE ⟨qc p (k+1),p.glb,p.sub,p.cat⟩ (.comp (.rng (.var 2)) [none,none,some 1,some 3] (.nm 1) (.or (.cmp .eq (.var 1) (.var 2)) (.val (.call "are_tied" (.cons (.var 3) (.cons (.var 2) (.cons (.var 1) .nil)))))) (.var 1)) [some (wb m ts),some (.int a),some (.int m),some (.tup (ts.map prD))]=.ok (.lst ((hd m ts a).map D.int)):=by
  rw[hd,<-o4,<-ft];refine gF (c:=[some (.int a),some (.tup (ts.map prD))]) ?_ ?_ rfl ?_
  ·have:qy m=true:=by simp[qy];lia
   simp[KG.Z,this]
  ·simp[zA,SZ];lia
  ·intro x hx;rw[ft,aN]at hx;obtain⟨b,hb,rfl⟩:=hx;have e:qk .eq (.int b) (.int a)=.ok (b==a):=rfl;simp[KG.Z,e,EB hA];by_cases q:b=a
   ·simp[q]
   ·simp[q];cases eu ts a b<;>simp
 simp[KG.Z,gS,hc,b1,seq?]
section
variable(B:Web p)(O:Hds p)
include O
theorem hood_of{k:Nat}{m:Int}{ts:List (Int×Int)}(h:GW m ts)(a:Int):qc p (k+2) "hood_of" [wb m ts,.int a]=.ok (tu (hd m ts a)):=A' O.hood_of O.are_tied h a
include B
theorem hoods{k:Nat}{m:Int}{ts:List (Int×Int)}(h:GW m ts):qc p (k+5) "hoods" [wb m ts]=.ok (.tup ((rng m).map λa=>tu (hd m ts a))):=by
 rw[qL O.hoods];refine zy rfl rfl ?_;have h1:=h.lo;have h2:=h.hi;have hc:evE ⟨qc p (k+4),p.glb,p.sub,p.cat⟩ (.comp (.rng (.ix (.var 0) (.con (.int 0)))) [none,none,some 0] (.nm 1) .yes (.call "hood_of" (.cons (.var 2) (.cons (.var 1) .nil)))) [some (wb m ts)]=.ok (.lst ((rng m).map λa=>tu (hd m ts a))):=by
  rw[<-CI,<-ft];refine gF (c:=[some (wb m ts)]) ?_ ?_ rfl ?_
  ·have:qy m=true:=by simp[qy];lia
   simp[KG.Z,this,ixD,atI,ixN]
  ·simp[zA,SZ];lia
  ·intro x hx;rw[ft,aN]at hx;obtain⟨b,hb,rfl⟩:=hx;simp[KG.Z,hood_of O h]
 simp[KG.Z,iE,need_web B h,hc,b1,seq?]
end
section
end
end
abbrev L(M c:Int)(m:Int)(ts:List (Int×Int))(b a dr ro:Option D):Env:=[some (.int c),some (.int M),some (.int m),some (.int (c/M)),some (.int (c/M%6)),some (.lst (ts.map prD)),b,a,dr,ro]
noncomputable def mC:S:=(.set (.nm 8) (.op .band (.op .shr (.op .fdiv (.var 3) (.con (.int 6))) (.op .add (.op .fdiv (.op .mul (.var 6) (.op .sub (.var 6) (.con (.int 1)))) (.con (.int 2))) (.var 7))) (.con (.int 1))))
noncomputable def pJ:S:=(.ite (.cmp .eq (.var 4) (.con (.int 3))) (.cons (.set (.nm 8) (.op .fdiv (.op .mod (.call "_law_stir" (.cons (.var 0) (.cons (.op .add (.op .mul (.con (.int 8)) (.var 7)) (.var 6)) .nil))) (.con (.int 3))) (.con (.int 2)))) .nil) .nil)
noncomputable def oh:S:=(.ite (.cmp .eq (.var 4) (.con (.int 4))) (.cons (.set (.nm 8) (.op .fdiv (.op .add (.op .mod (.call "_law_stir" (.cons (.var 0) (.cons (.op .add (.op .mul (.con (.int 8)) (.var 7)) (.var 6)) .nil))) (.con (.int 4))) (.con (.int 2))) (.con (.int 3)))) .nil) .nil)
noncomputable def oQ:S:=(.ite (.cmp .eq (.var 4) (.con (.int 5))) (.cons (.set (.nm 9) (.lst (.cons (.cmp .eq (.var 6) (.op .add (.var 7) (.con (.int 1)))) (.cons (.or (.cmp .eq (.var 6) (.op .add (.var 7) (.con (.int 1)))) (.cmp .eq (.op .sub (.var 6) (.var 7)) (.op .sub (.var 2) (.con (.int 1))))) (.cons (.cmp .eq (.var 7) (.con (.int 0))) (.cons (.con (.bl true)) (.cons (.and (.cmp .eq (.var 6) (.op .add (.var 7) (.con (.int 1)))) (.cmp .lt (.op .mod (.var 7) (.con (.int 3))) (.con (.int 2)))) .nil))))))) (.cons (.set (.nm 8) (.bi .int (.cons (.ix (.var 9) (.op .mod (.op .fdiv (.var 3) (.con (.int 6))) (.con (.int 5)))) .nil))) .nil)) .nil)
noncomputable def nC:S:=(.ite (.cmp .eq (.var 8) (.con (.int 1))) (.cons (.app 5 (.tup (.cons (.var 7) (.cons (.var 6) .nil)))) .nil) .nil)
noncomputable def win:Ss:=(.cons mC (.cons pJ (.cons oh (.cons oQ (.cons nC .nil)))))
abbrev LQ(M c:Int)(n:Int)(ts:List (Int×Int))(b a:Int):Env->Prop:=λσ=>∃(i:Int) (v4:Option D),σ=L M c n ts (some (.int b)) (some (.int a)) (some (.int i)) v4
section
variable{p:Pr}{k:Nat}{M c:Int}{n:Int}{ts:List (Int×Int)}{a b:Int}{i:Int}{v3 v4:Option D}{Q:D->Prop}
theorem w0(ha:0<=a)(IZ:0<=b)(hb:b<8):Ends (LQ M c n ts b a) Q (evS (wAt p (k+1)) mC (L M c n ts (some (.int b)) (some (.int a)) v3 v4)):=by
 have Ki:small b=true:=by simp[small];lia
 have JH:0<=b * (b-1)/2+a:=by
  have:0<=b * (b-1):=by
   by_cases q:b=0
   ·rw[q];decide
   ·exact Int.mul_nonneg (by lia) (by lia)
  lia
 rw[mC];simp[KG.Z,op2,Ki,JH];exact⟨_,_,rfl⟩
theorem w1(B:jc p):Ends (LQ M c n ts b a) Q (evS (wAt p (k+1)) pJ (L M c n ts (some (.int b)) (some (.int a)) (some (.int i)) v4)):=by
 have s8:small 8=true:=by decide
 refine iu (v:=decide (c/M%6=3)) (by simp[KG.Z,eq_int]) (λ_=>dO (K:=LQ M c n ts b a) ?_ λ_ h=>zt h) λ_=>zt ⟨_,_,rfl⟩
 simp[KG.Z,op2,s8,mQ B._law_stir];exact⟨_,_,rfl⟩
theorem w2(B:jc p):Ends (LQ M c n ts b a) Q (evS (wAt p (k+1)) oh (L M c n ts (some (.int b)) (some (.int a)) (some (.int i)) v4)):=by
 have s8:small 8=true:=by decide
 refine iu (v:=decide (c/M%6=4)) (by simp[KG.Z,eq_int]) (λ_=>dO (K:=LQ M c n ts b a) ?_ λ_ h=>zt h) λ_=>zt ⟨_,_,rfl⟩
 simp[KG.Z,op2,s8,mQ B._law_stir];exact⟨_,_,rfl⟩
theorem w3:Ends (LQ M c n ts b a) Q (evS (wAt p (k+1)) oQ (L M c n ts (some (.int b)) (some (.int a)) (some (.int i)) v4)):=by
 have Hz:∃b1 b2 b3 b5:Bool,evE (wAt p (k+1)) (.lst (.cons (.cmp .eq (.var 6) (.op .add (.var 7) (.con (.int 1)))) (.cons (.or (.cmp .eq (.var 6) (.op .add (.var 7) (.con (.int 1)))) (.cmp .eq (.op .sub (.var 6) (.var 7)) (.op .sub (.var 2) (.con (.int 1))))) (.cons (.cmp .eq (.var 7) (.con (.int 0))) (.cons (.con (.bl true)) (.cons (.and (.cmp .eq (.var 6) (.op .add (.var 7) (.con (.int 1)))) (.cmp .lt (.op .mod (.var 7) (.con (.int 3))) (.con (.int 2)))) .nil)))))) (L M c n ts (some (.int b)) (some (.int a)) (some (.int i)) v4)=.ok (.lst [.bl b1,.bl b2,.bl b3,.bl true,.bl b5]):=by
  by_cases q1:b=a+1
  ·exact⟨true,true,decide (a=0),decide (a%3<2),by simp[KG.Z,op2,eq_int,lt_int,q1]⟩
  ·exact⟨false,decide (b-a=n-1),decide (a=0),false,by simp[KG.Z,op2,eq_int,lt_int,q1]⟩
 obtain⟨b1,b2,b3,b5,Hz⟩:=Hz;have F9:∃z:Bool,ixD (.lst [.bl b1,.bl b2,.bl b3,.bl true,.bl b5]) (.int (c/M/6%5))=.ok (.bl z):=by
  have:c/M/6%5=0\/c/M/6%5=1\/c/M/6%5=2\/c/M/6%5=3\/c/M/6%5=4:=by lia
  rcases this with h|h|h|h|h<;>rw[h]
  ·exact⟨b1,rfl⟩
  ·exact⟨b2,rfl⟩
  ·exact⟨b3,rfl⟩
  ·exact⟨true,rfl⟩
  ·exact⟨b5,rfl⟩
 obtain⟨z,F9⟩:=F9;have hint:EV.b1 .int [.bl z]=.ok (.int (if z then 1 else 0)):=rfl;refine iu (v:=decide (c/M%6=5)) (by simp[KG.Z,eq_int]) (λ_=>?_) λ_=>zt ⟨_,_,rfl⟩
 refine qo (σ:=L M c n ts (some (.int b)) (some (.int a)) (some (.int i)) (some (.lst [.bl b1,.bl b2,.bl b3,.bl true,.bl b5]))) (by rw[zS,Hz];rfl) ?_;refine dO (K:=LQ M c n ts b a) ?_ λ_ h=>zt h
 simp[KG.Z,op2,F9,hint];exact⟨_,_,rfl⟩
theorem w4(hl:ts.length<SZ):Ends (λσ=>∃(us:List (Int×Int)) (v4:Option D),(us=ts\/us=ts++[(a,b)])/\σ=L M c n us (some (.int b)) (some (.int a)) (some (.int i)) v4) Q (evS (wAt p (k+1)) nC (L M c n ts (some (.int b)) (some (.int a)) (some (.int i)) v4)):=by
 refine iu (v:=decide (i=1)) (by simp[KG.Z,eq_int]) (λ_=>?_) λ_=>zt ⟨ts,_,.inl rfl,rfl⟩
 refine qo (σ:=L M c n (ts++[(a,b)]) (some (.int b)) (some (.int a)) (some (.int i)) v4) ?_ (zt ⟨_,_,.inr rfl,rfl⟩);simp[KG.Z,hl]
 rfl
theorem Bk(B:jc p)(ha:0<=a)(IZ:0<=b)(hb:b<8)(hl:ts.length<SZ):Ends (λσ=>∃(us:List (Int×Int)) (v3 v4:Option D),(us=ts\/us=ts++[(a,b)])/\σ=L M c n us (some (.int b)) (some (.int a)) v3 v4) Q (qh (wAt p (k+1)) win (L M c n ts (some (.int b)) (some (.int a)) v3 v4)):=by
 refine dO (w0 ha IZ hb) ?_;rintro _ ⟨i,v4,rfl⟩;refine dO (w1 B) ?_;rintro _ ⟨i,v4,rfl⟩;refine dO (w2 B) ?_;rintro _ ⟨i,v4,rfl⟩;refine dO w3 ?_;rintro _ ⟨i,v4,rfl⟩;refine dO (w4 hl) ?_;rintro _ ⟨us,v4,h,rfl⟩;exact zt ⟨us,_,_,h,rfl⟩
end
theorem yV{p:Pr}(B:jc p){k:Nat}(M c:Int)(hM:1<=M/\M<=8):∃ts,GW (1+c%M) ts/\qc p (k+2) "_law_web" [.int c,.int M]=.ok (wb (1+c%M) ts):=by
 have q1:=Int.emod_nonneg c (show M≠0 by lia);have q2:=Int.emod_lt_of_pos c (show 0<M by lia);have h1:1<=1+c%M:=by lia
 have h2:1+c%M<=8:=by lia
 have p0:0<M:=by lia
 have p1:M<1000000000000000000000000000000:=by lia
 generalize hn:1+c%M=n at h1 h2 ⊢;have P:=pok n h1 h2
 suffices h:∃d,qc p (k+2) "_law_web" [.int c,.int M]=.ok d/\∃ts,GW n ts/\d=wb n ts by
  obtain⟨d,e,ts,g,rfl⟩:=h;exact⟨ts,g,e⟩
 refine fE (k:=k+1) (τ:=[some (.int c),some (.int M),none,none,none,none,none,none,none,none]) B._law_web rfl rfl ?_;refine qo (σ:=[some (.int c),some (.int M),some (.int n),none,none,none,none,none,none,none]) (by simp[KG.Z,op2,hn,p0]) ?_;refine qo (σ:=[some (.int c),some (.int M),some (.int n),some (.int (c/M)),none,none,none,none,none,none]) (by simp[KG.Z,op2,p0,p1]) ?_;refine qo (σ:=[some (.int c),some (.int M),some (.int n),some (.int (c/M)),some (.int (c/M%6)),none,none,none,none,none]) (by simp[KG.Z,op2,p0,p1]) ?_;refine qo (σ:=L M c n [] none none none none) (by simp[KG.Z]) ?_;have hm:qy n=true:=by simp[qy];lia
 have s1:qy 1=true:=by decide
 have hr:zA 1 (n-1).toNat=(iw n).map D.int:=by
  rw[zA,iw,bh];rfl
 have m1:∀b∈iw n,0<=b/\b<8:=by
  intro b hb;simp only[iw,aN,List.mem_range]at hb;obtain⟨i,hi,rfl⟩:=hb;lia
 refine eV (ds:=(iw n).map D.int) (λr σ=>∃(bs:List Int) (ts:List (Int×Int)) (v1 v2 v3 v4:Option D),r=bs.map D.int/\(∀b∈bs,0<=b/\b<8)/\(ts++bs.flatMap kI).Sublist (gp n)/\σ=L M c n ts v1 v2 v3 v4) (by rw[<-hr];simp[KG.Z,hm,s1]) ⟨_,[],none,none,none,none,rfl,m1,(by rw[gp];simp),rfl⟩ ?_ ?_
 ·rintro x t σ ⟨bs,ts,v1,v2,v3,v4,e,hb,hs,rfl⟩;cases bs with
  |nil=>cases e
  |cons b bs=>
   rw[aJ]at e;injection e with e1 e2
   subst e1 e2;obtain⟨IZ,Mx⟩:=hb b aL;refine⟨L M c n ts (some (.int b)) v2 v3 v4,rfl,?_⟩;have My:qy b=true:=by simp[qy];lia
   refine eV (ds:=(rng b).map D.int) (λr σ=>∃(as:List Int) (ts:List (Int×Int)) (v2 v3 v4:Option D),r=as.map D.int/\(∀a∈as,0<=a)/\(ts++(as.map λa=>(a,b))++bs.flatMap kI).Sublist (gp n)/\σ=L M c n ts (some (.int b)) v2 v3 v4) (by rw[<-ft];simp[KG.Z,My]) ⟨_,ts,_,_,_,rfl,(λa ha=>(gJ.mp ha).1),(by rw[List.flatMap_cons,<-bw]at hs;exact hs),rfl⟩ ?_ ?_
   ·rintro x t σ ⟨as,ts,v2,v3,v4,e,ha,hs,rfl⟩;cases as with
    |nil=>cases e
    |cons a as=>
     rw[aJ]at e;injection e with e1 e2
     subst e1 e2;refine⟨L M c n ts (some (.int b)) (some (.int a)) v3 v4,rfl,?_⟩;have hlen:ts.length<SZ:=by
      have h1:=hs.length_le;have h2:=P.len;simp only[di]at h1;simp only[SZ];lia
     have W:=Bk B (k:=k) (M:=M) (c:=c) (n:=n) (ts:=ts) (v3:=v3) (v4:=v4) (Q:=λd=>∃ts,GW n ts/\d=wb n ts) (ha a aL) IZ Mx hlen;refine DU W ?_;rintro _ ⟨us,v3,v4,h,rfl⟩;refine⟨as,us,_,v3,v4,rfl,λa' q=>ha a' (aO _ q),?_,rfl⟩;rcases h with rfl|rfl
     ·refine List.Sublist.trans ?_ hs;simp
     ·simpa using hs
   ·rintro σ ⟨as,ts,v2,v3,v4,e,ha,hs,rfl⟩;cases as with
    |cons a as=>cases e
    |nil=>exact zt ⟨bs,ts,_,_,_,_,rfl,λb' q=>hb b' (aO _ q),by simpa using hs,rfl⟩
 ·rintro σ ⟨bs,ts,v1,v2,v3,v4,e,hb,hs,rfl⟩;cases bs with
  |cons b bs=>cases e
  |nil=>
   have hs:ts.Sublist (gp n):=by simpa using hs
   have hl:ts.length<64:=by have:=hs.length_le;have:=P.len;lia
   refine eC (d:=wb n (zR ts)) ?_ ⟨_,BH h1 h2 hs,rfl⟩;have e1:=CT ts hl;have e2:b1 .tuple [.lst ((zR ts).map prD)]=.ok (.tup ((zR ts).map prD)):=rfl;simp[KG.Z,e1,e2]
end KG
namespace KG
open EV
open PySem (Str Builtin.bitAnd Builtin.bitOr)
open L2 (atI ixN ltP)
theorem rK(a b:Nat):cM (a:Int) (b:Int)=((a &&& b:Nat):Int):=by
 simp[cM]
theorem mK(a b:Nat):PySem.Builtin.bitOr (a:Int) (b:Int)=((a |||b:Nat):Int):=by
 have h:∀n:Nat,¬ (0<=b4 (n:Int)):=λn=>by simp[b4];lia
 have e:∀n:Nat,b4 (b4 (n:Int))=n:=λn=>by simp[b4];lia
 unfold PySem.Builtin.bitOr;have:cM (b4 (a:Int)) (b4 (b:Int))=b4 (((b4 (b4 (a:Int))).toNat ||| (b4 (b4 (b:Int))).toNat:Nat):Int):=by
  simp[cM,h a,h b]
 rw[this,e,e,e];simp
theorem jV(n:Nat)(i:Nat):cM ((n:Int)/2^i) 1=if n.testBit i then 1 else 0:=by
 have e:((n:Int)/2^i)=((n/2^i:Nat):Int):=by simp
 rw[e,show (1:Int)=((1:Nat):Int)from rfl,rK,Nat.and_one_is_mod,Nat.testBit_eq_decide_div_mod_eq];by_cases h:n/2^i%2=1
 ·simp[h]
 ·have:n/2^i%2=0:=by lia
  simp[this]
noncomputable def bs(m:Int)(n:Nat):List Int:=(rng m).filter λi=>n.testBit i.toNat
theorem iD{m:Int}(h:m<=8)(n:Nat):GS m (bs m n):=
 ⟨(sE m).sublist List.filter_sublist,λi hi=>gJ.mp (aS.mp hi).1,a8 (List.length_filter_le _ _) (by rw[jq];lia)⟩
theorem fo{m:Int}{n:Nat}{i:Int}:i∈bs m n↔(0<=i/\i<m)/\n.testBit i.toNat=true:=by
 rw[bs,aS,gJ]
noncomputable def subs:Nat->List (List Int)
 | 0=>[[]]
 |j+1=>subs j++(subs j).map (· ++ [(j:Int)])
theorem kG(m:Int)(h1:1<=m)(h2:m<=8):subs m.toNat=(aX (2^m.toNat)).map (bs m):=by
 have:m=1\/m=2\/m=3\/m=4\/m=5\/m=6\/m=7\/m=8:=by lia
 rcases this with rfl|rfl|rfl|rfl|rfl|rfl|rfl|rfl<;>decide +kernel
theorem ko:∀j,(subs j).length=2^j
 | 0=>rfl
 |j+1=>by rw[subs,di,aV,ko j,Nat.pow_succ];lia
theorem gI:∀ts:List (List Int),tups? (ts.map tu)=some ts
 | []=>rfl
 |t::r=>by
  show (ints? (t.map D.int)).bind (λn=>(tups? (r.map tu)).map (n :: ·))=_;rw[ints_map,gI r];rfl
theorem k7:∀j,1<=j->∃b r,subs j=[]::b::r
 | 1,_=>⟨_,_,rfl⟩
 |j+2,_=>by
  obtain⟨b,r,e⟩:=k7 (j+1) (by lia);rw[subs,e];exact⟨_,_,rfl⟩
theorem BY(j:Nat)(h:1<=j):dz (subs j)=true:=by
 obtain⟨b,r,e⟩:=k7 j h;rw[e];rfl
theorem jo{m:Nat}(h:m<=8):2^m<=256:=Nat.pow_le_pow_right (by decide) h
theorem v_{j:Nat}(h1:1<=j):b1 .sorted [.lst ((subs j).map tu)]=.ok (.lst ((zL (subs j)).map tu)):=by
 have hT:cB ((subs j).map tu)=.ok (.lst ((zL (subs j)).map tu)):=by
  rw[cB,gI];show (if dz (subs j)=true then _ else _)=_;rw[BY j h1];rfl
 rw[jx];obtain⟨b,r,e⟩:=k7 j h1;have hi:ints? ((subs j).map tu)=none:=by rw[e];rfl
 have hp:pairs? ((subs j).map tu)=none:=by rw[e];rfl
 rw[hi,hp];simp only;rw[hT];split<;>rfl
theorem El{p:Pr}(hf:p.fns "all_some" = some iX){k:Nat}{m:Int}{t:D}(h1:1<=m)(h2:m<=8):qc p (k+1) "all_some" [.tup [.int m,t]]=.ok (.lst ((zL (subs m.toNat)).map tu)):=by
 obtain⟨d,e,rfl⟩:∃d,qc p (k+1) "all_some" [.tup [.int m,t]]=.ok d/\d=.lst ((zL (subs m.toNat)).map tu):=by
  refine fE (k:=k) (τ:=[some (.tup [.int m,t]),none,none]) hf rfl rfl ?_;refine qo (σ:=[some (.tup [.int m,t]),some (.lst ((subs 0).map tu)),none]) (by simp[KG.Z];rfl) ?_;have hm:qy m=true:=by simp[qy];lia
  have hx:ixD (.tup [.int m,t]) (.int 0)=.ok (.int m):=rfl;refine eV (ds:=(rng m).map D.int) (λr σ=>∃(j:Nat) (v2:Option D),j<=m.toNat/\r=((List.range' j (m.toNat-j)).map λ(i:Nat)=>(i:Int)).map D.int/\σ=[some (.tup [.int m,t]),some (.lst ((subs j).map tu)),v2]) (by rw[<-ft];simp[KG.Z,hm,hx]) ⟨0,none,by lia,by rw[rng,List.range_eq_range'];rfl,rfl⟩ ?_ ?_
  ·rintro x r σ ⟨j,v2,hj,e,rfl⟩;by_cases Kj:j=m.toNat
   ·subst Kj;simp at e
   ·have ej:m.toNat-j=(m.toNat-(j+1))+1:=by lia
    rw[ej,List.range'_succ,aJ,aJ]at e;injection e with e1 e2
    subst e1 e2;refine⟨[some (.tup [.int m,t]),some (.lst ((subs j).map tu)),some (.int j)],rfl,?_⟩;have hl:=ko j;have hp:=jo (m:=j) (by lia);have hc:evE (wAt p k) (.comp (.seq (.var 1)) [none,none,some 2] (.nm 1) .yes (.op .add (.var 1) (.tup (.cons (.var 2) .nil)))) [some (.tup [.int m,t]),some (.lst ((subs j).map tu)),some (.int j)]=.ok (.lst (((subs j).map (· ++ [(j:Int)])).map tu)):=by
     have he:((subs j).map tu).flatMap (λx=>match x with | .tup xs=>[D.tup (xs++[.int j])]|_=>[])=((subs j).map (· ++ [(j:Int)])).map tu:=by
      generalize subs j=l
      induction l with
      |nil=>rfl
      |cons a r ih=>rw[aJ,List.flatMap_cons,ih];simp[tu]
     rw[<-he];refine gF (c:=[some (.int j)]) ?_ ?_ rfl ?_
     ·simp[KG.Z,seq?]
     ·simp[SZ];lia
     ·intro x hx;rw[aN]at hx;obtain⟨s,hs,rfl⟩:=hx;have IX:s.length<=j:=by
       have:∀(n:Nat) (s:List Int),s∈subs n->s.length<=n:=by
        intro n
        induction n with
        |zero=>intro s hs;simp[subs]at hs;subst hs;simp
        |succ n ih=>
         intro s hs;rw[subs,List.mem_append,aN]at hs;rcases hs with hs|⟨u,hu,rfl⟩
         ·have:=ih s hs;lia
         ·have:=ih u hu;simp;lia
       exact this j s hs
      have e:op2 .add (tu s) (.tup [.int j])=.ok (.tup (s.map D.int++[.int j])):=by
       rw[op2,if_pos (by simp[SZ];lia)]
      simp[KG.Z,e]
    have e3:op2 .add (.lst ((subs j).map tu)) (.lst (((subs j).map (· ++ [(j:Int)])).map tu))=.ok (.lst ((subs (j+1)).map tu)):=by
     rw[op2,if_pos (by simp[SZ];lia),subs,List.map_append]
    refine qo (σ:=[some (.tup [.int m,t]),some (.lst ((subs (j+1)).map tu)),some (.int j)]) (by rw[zS,qV,hc,qz];simp only[zo,List.getElem?_cons_succ,List.getElem?_cons_zero,R.bind_ok];rw[e3];rfl) (zt ⟨j+1,_,by lia,rfl,rfl⟩)
  ·rintro σ ⟨j,v2,hj,e,rfl⟩;have:j=m.toNat:=by
    have:=congrArg List.length e;simp at this;lia
   subst this;exact eC (d:=.lst ((zL (subs m.toNat)).map tu)) (by simp[KG.Z,v_ (j:=m.toNat) (by lia)]) rfl
 exact e
section
end
end KG
namespace KG
open EV
open PySem (Str)
open L2 (atI ixN ltP)
theorem kE(m:Int)(h1:1<=m)(h2:m<=8)(n:Nat)(h:n<2^m.toNat):((bs m n).map λi=>(1:Int) * 2^i.toNat).sum=n:=by
 have:m=1\/m=2\/m=3\/m=4\/m=5\/m=6\/m=7\/m=8:=by lia
 have key:∀m:Fin 9,1<=m.val->∀n,n<2^m.val->((bs (m.val:Int) n).map λi=>(1:Int) * 2^i.toNat).sum=n:=by decide +kernel
 have:=key ⟨m.toNat,by lia⟩ (by show 1<=m.toNat;lia) n h;rw[show ((⟨m.toNat,by lia⟩:Fin 9).val:Int)=m by show (m.toNat:Int)=m;lia]at this;exact this
theorem iI(i:Int)(h:0<=i)(h':i<=8):opI .shl 1 i=.ok (.int (1 * 2^i.toNat)):=by
 rw[opI,if_pos ⟨h,by lia,by decide⟩]
theorem ja(i:Int):(1:Int) * 2^i.toNat=((2^i.toNat:Nat):Int):=by simp
section
end
noncomputable def near(ts:List (Int×Int))(q i:Nat):Bool:=q==i||ts.any λt=>(t.1==(q:Int)&&t.2==(i:Int))||(t.1==(i:Int)&&t.2==(q:Int))
abbrev ln(N:List Nat):D:=.lst (N.map λ(x:Nat)=>D.int (x:Int))
structure gy(m:Int)(ts:List (Int×Int))(N:List Nat):Prop where
 len:N.length=m.toNat
 bit:∀(q:Nat) (h:q<N.length) (i:Nat),N[q].testBit i=near ts q i
theorem C3(q i:Nat):near [] q i=(q==i):=by simp[near]
theorem Dt(ts:List (Int×Int))(t:Int×Int)(q i:Nat):near (ts++[t]) q i=(near ts q i||((t.1==(q:Int)&&t.2==(i:Int))||(t.1==(i:Int)&&t.2==(q:Int)))):=by
 simp[near,List.any_append,Bool.or_assoc]
theorem Aq{m:Int}{ts:List (Int×Int)}{N:List Nat}(h:gy m ts N){a b:Nat}(Iq:a≠b)(ha:a<N.length)(hb:b<N.length):gy m (ts++[((a:Int),(b:Int))]) ((N.set a (N[a] ||| 2^b)).set b (N[b] ||| 2^a)):=by
 refine⟨by simp[h.len],λq hq i=>?_⟩;have Mz:q<N.length:=by simpa using hq
 rw[Dt];by_cases qb:q=b
 ·subst qb;have e:((N.set a (N[a] ||| 2^q)).set q (N[q] ||| 2^a))[q]=N[q] ||| 2^a:=by simp
  rw[e,Nat.testBit_or,h.bit q hb i,Nat.testBit_two_pow]
  congr 1
  by_cases z:a=i
  ·subst z;simp
  ·have:((a:Int)==(q:Int))=false:=by simp;lia
   have z2:((a:Int)==(i:Int))=false:=by simp;lia
   simp[z,this,z2]
 ·by_cases qa:q=a
  ·subst qa;have e:((N.set q (N[q] ||| 2^b)).set b (N[b] ||| 2^q))[q]=N[q] ||| 2^b:=by simp[List.getElem_set,Ne.symm qb]
   rw[e,Nat.testBit_or,h.bit q ha i,Nat.testBit_two_pow]
   congr 1
   by_cases z:b=i
   ·subst z;simp
   ·have z2:((b:Int)==(i:Int))=false:=by simp;lia
    have z3:((b:Int)==(q:Int))=false:=by simp;lia
    simp[z,z2,z3]
  ·have e:((N.set a (N[a] ||| 2^b)).set b (N[b] ||| 2^a))[q]=N[q]:=by simp[List.getElem_set,Ne.symm qb,Ne.symm qa]
   have z1:((a:Int)==(q:Int))=false:=by simp;lia
   have z2:((b:Int)==(q:Int))=false:=by simp;lia
   rw[e,h.bit q Mz i];simp[z1,z2]
theorem nJ{N:List Nat}{a:Nat}(h:a<N.length):ixD (ln N) (.int (a:Int))=.ok (.int (N[a]:Nat)):=by
 have:=iy (xs:=N.map λ(x:Nat)=>D.int (x:Int)) (i:=a) (by simpa using h);simp only[ixD];rw[this];simp
theorem oA{N:List Nat}{a:Nat}(h:a<N.length):ixN (N.map λ(x:Nat)=>D.int (x:Int)).length (a:Int)=some a:=by
 rw[ixN,if_pos (by lia),if_pos (by simp;lia)];simp
theorem nF(N:List Nat)(a v:Nat):(N.map λ(x:Nat)=>D.int (x:Int)).set a (.int (v:Int))=(N.set a v).map λ(x:Nat)=>D.int (x:Int):=by
 rw[List.map_set]
theorem vE{p:Pr}(hf:p.fns "_law_masks" = some jd){k:Nat}{m:Int}{ts:List (Int×Int)}(h:GW m ts):∃N,gy m ts N/\qc p (k+1) "_law_masks" [wb m ts]=.ok (ln N):=by
 have h1:=h.lo;have h2:=h.hi
 suffices hs:∃d,qc p (k+1) "_law_masks" [wb m ts]=.ok d/\∃N,gy m ts N/\d=ln N by
  obtain⟨d,e,N,g,rfl⟩:=hs;exact⟨N,g,e⟩
 refine fE (k:=k) (τ:=[some (wb m ts),none,none,none]) hf rfl rfl ?_;have hm:qy m=true:=by simp[qy];lia
 have hx:ixD (wb m ts) (.int 0)=.ok (.int m):=rfl;have hy:ixD (wb m ts) (.int 1)=.ok (.tup (ts.map prD)):=rfl;have hc:evE (wAt p k) (.comp (.rng (.ix (.var 0) (.con (.int 0)))) [none,none] (.nm 1) .yes (.op .shl (.con (.int 1)) (.var 1))) [some (wb m ts),none,none,none]=.ok (ln ((aX m.toNat).map λi=>2^i)):=by
  have he:((rng m).map D.int).flatMap (λx=>match x with | .int i=>[D.int ((2^i.toNat:Nat):Int)]|_=>[])=((aX m.toNat).map λi=>2^i).map λ(x:Nat)=>D.int (x:Int):=by
   rw[rng,bh,bh,List.flatMap_map];generalize aX m.toNat=l
   induction l with
   |nil=>rfl
   |cons a r ih=>rw[List.flatMap_cons,ih,aJ];simp
  rw[ln,<-he];refine gF (c:=[]) ?_ ?_ rfl ?_
  ·rw[<-ft];simp[KG.Z,hm,hx]
  ·simp[jq,SZ];lia
  ·intro x hx;rw[aN]at hx;obtain⟨b,hb,rfl⟩:=hx;have Ff:=gJ.mp hb;have e2:op2 .shl (.int 1) (.int b)=.ok (.int ((2^b.toNat:Nat):Int)):=by
    show opI .shl 1 b=_;rw[iI b Ff.1 (by lia),ja]
   simp[KG.Z,e2]
 refine qo (σ:=[some (wb m ts),some (ln ((aX m.toNat).map λi=>2^i)),none,none]) (by rw[zS,hc];rfl) ?_;refine eV (ds:=ts.map prD) (λr σ=>∃(us vs:List (Int×Int)) (N:List Nat) (v2 v3:Option D),us++vs=ts/\r=vs.map prD/\gy m us N/\σ=[some (wb m ts),some (ln N),v2,v3]) (by simp[KG.Z,hy,seq?]) ⟨[],ts,_,none,none,rfl,rfl,⟨by simp,λq hq i=>by rw[C3];simp[Nat.testBit_two_pow];rfl⟩,rfl⟩ ?_ ?_
 ·rintro x r σ ⟨us,vs,N,v2,v3,e,er,hN,rfl⟩;cases vs with
  |nil=>cases er
  |cons t vs=>
   rw[aJ]at er;injection er with e1 e2
   subst e1 e2;have ht:=h.ok t (by rw[<-e];simp);obtain⟨a,ha⟩:∃a:Nat,t.1=a:=⟨t.1.toNat,by lia⟩
   obtain⟨b,hb⟩:∃b:Nat,t.2=b:=⟨t.2.toNat,by lia⟩
   have et:t=((a:Int),(b:Int)):=Prod.ext ha hb;subst et;have la:a<N.length:=by rw[hN.len];lia
   have lb:b<N.length:=by rw[hN.len];lia
   have Iq:a≠b:=by lia
   refine⟨[some (wb m ts),some (ln N),some (.int a),some (.int b)],rfl,?_⟩;have sh:∀i:Nat,i<=8->op2 .shl (.int 1) (.int i)=.ok (.int ((2^i:Nat):Int)):=λi hi=>by
    show opI .shl 1 (i:Int)=_;rw[iI i (by lia) (by lia),ja];simp
   have bo:∀x y:Nat,op2 .bor (.int x) (.int y)=.ok (.int ((x |||y:Nat):Int)):=λx y=>by
    show R.ok (D.int (PySem.Builtin.bitOr (x:Int) (y:Int)))=_;rw[mK]
   have s1:evS (wAt p k) (.seti 1 (.var 2) (.op .bor (.ix (.own 1) (.var 2)) (.op .shl (.con (.int 1)) (.var 3)))) [some (wb m ts),some (ln N),some (.int a),some (.int b)]=.nx [some (wb m ts),some (ln (N.set a (N[a] ||| 2^b))),some (.int a),some (.int b)]:=by
    have e0:evE (wAt p k) (.op .bor (.ix (.own 1) (.var 2)) (.op .shl (.con (.int 1)) (.var 3))) [some (wb m ts),some (ln N),some (.int a),some (.int b)]=.ok (.int ((N[a] ||| 2^b:Nat):Int)):=by
     rw[qV,qV,qw,qz,qz,qX,ze];simp only[zo,List.getElem?_cons_succ,List.getElem?_cons_zero,R.bind_ok];rw[nJ la,sh b (by lia)];exact bo _ _
    rw[cz,e0];simp only[R.out_ok,zo,qz,List.getElem?_cons_succ,List.getElem?_cons_zero];rw[oA la];simp only[List.set_cons_succ,List.set_cons_zero];rw[nF]
   have NF:a<(N.set a (N[a] ||| 2^b)).length:=by simpa using la
   have Ld:b<(N.set a (N[a] ||| 2^b)).length:=by simpa using lb
   have eb:(N.set a (N[a] ||| 2^b))[b]=N[b]:=by simp[List.getElem_set,Iq]
   have s2:evS (wAt p k) (.seti 1 (.var 3) (.op .bor (.ix (.own 1) (.var 3)) (.op .shl (.con (.int 1)) (.var 2)))) [some (wb m ts),some (ln (N.set a (N[a] ||| 2^b))),some (.int a),some (.int b)]=.nx [some (wb m ts),some (ln ((N.set a (N[a] ||| 2^b)).set b (N[b] ||| 2^a))),some (.int a),some (.int b)]:=by
    have e0:evE (wAt p k) (.op .bor (.ix (.own 1) (.var 3)) (.op .shl (.con (.int 1)) (.var 2))) [some (wb m ts),some (ln (N.set a (N[a] ||| 2^b))),some (.int a),some (.int b)]=.ok (.int ((N[b] ||| 2^a:Nat):Int)):=by
     rw[qV,qV,qw,qz,qz,qX,ze];simp only[zo,List.getElem?_cons_succ,List.getElem?_cons_zero,R.bind_ok];rw[nJ Ld,eb,sh a (by lia)];exact bo _ _
    rw[cz,e0];simp only[R.out_ok,zo,qz,List.getElem?_cons_succ,List.getElem?_cons_zero];rw[oA Ld];simp only[List.set_cons_succ,List.set_cons_zero];rw[nF]
   exact qo s1 (qo s2 (zt ⟨us++[((a:Int),(b:Int))],vs,_,_,_,by simpa using e,rfl,Aq hN Iq la lb,rfl⟩))
 ·rintro σ ⟨us,vs,N,v2,v3,e,er,hN,rfl⟩;have:vs=[]:=by cases vs with|nil=>rfl|cons _ _=>cases er
  subst this;rw[cb]at e;subst e;exact eC (d:=ln N) (by simp[KG.Z]) ⟨N,hN,rfl⟩
theorem vR(N:List Nat):∀j:Nat,eJ j (N.map λ(x:Nat)=>D.int (x:Int))=(List.range' j N.length).map λ(q:Nat)=>.tup [.int (q:Int),.int ((N.getD (q-j) 0:Nat):Int)]:=by
 induction N with
 |nil=>intro j;rfl
 |cons a r ih=>
  intro j;rw[aJ,eJ,ih (j+1),b_,List.range'_succ,aJ]
  congr 1
  ·simp
  ·refine List.map_congr_left λq hq=>?_
   have:=(List.mem_range'_1.mp hq).1;have e:q-j=(q-(j+1))+1:=by lia
   rw[e,List.getD_cons_succ]
theorem tw(a b:Int)(t:Int×Int)(ht:t.1<t.2):(t.1==mn a b&&t.2==mx a b)=((t.1==a&&t.2==b)||(t.1==b&&t.2==a)):=by
 rw[Bool.eq_iff_iff];simp only[mn,mx,aQ,bG,beq_iff_eq];split<;>split<;>lia
theorem rH{m:Int}{ts:List (Int×Int)}(h:GW m ts)(q i:Nat):near ts q i=(q==i||eu ts q i):=by
 rw[near,eu]
 congr 1
 rw[Bool.eq_iff_iff,bK,bK];constructor
 ·rintro⟨t,ht,e⟩;exact⟨t,ht,by rw[tw _ _ t (h.ok t ht).2.1];exact e⟩
 ·rintro⟨t,ht,e⟩;exact⟨t,ht,by rw[tw _ _ t (h.ok t ht).2.1]at e;exact e⟩
theorem nj(ts:List (Int×Int))(a b:Int):eu ts a b=eu ts b a:=by
 rw[eu,eu]
 congr 1;funext t
 rw[Bool.eq_iff_iff];simp only[mn,mx,aQ,beq_iff_eq];split<;>split<;>lia
theorem Ba{m:Int}{ts:List (Int×Int)}{a b:Int}:b∈hd m ts a↔(0<=b/\b<m)/\(b=a\/eu ts a b=true):=by
 rw[hd,aS,gJ];simp
theorem eB{α:Type}{w:W}{it:It}{cap:List (Option Nat)}{t:T}{elt:E}{τ c:Env}{l:List α}{f:α->D}(q:α->Bool)(g:α->D)(h:evI w it τ=.ok (l.map f))(hz:l.length<=SZ)(hc:dh cap τ=none::none::c)
  (hb:∀a∈l,evT w t (none::some (f a)::c)=.ok (q a)/\(q a=true->evE w elt (none::some (f a)::c)=.ok (g a))):evE w (.comp it cap (.nm 1) t elt) τ=.ok (.lst ((l.filter q).map g)):=by
 have key:∀(r:List α) (v:Option D) (acc:List D),(∀x∈r,x∈l)->cL (λx σ=>noEx ((store (.nm 1) x σ).bind λσ'=>(evT w t σ').bind λr=>if r then (evE w elt σ').bind λd=>.ok (σ',[d])else .ok (σ',[]))) (r.map f) (none::v::c) acc=.ok (acc++(r.filter q).map g):=by
  intro r
  induction r with
  |nil=>intro v acc _;simp[cL]
  |cons x r ih=>
   intro v acc hm;obtain⟨h1,h2⟩:=hb x (hm x aL);rw[aJ,cL];have e:noEx ((store (.nm 1) (f x) (none::v::c)).bind λσ'=>(evT w t σ').bind λr=>if r then (evE w elt σ').bind λd=>.ok (σ',[d])else .ok (σ',[]))=.ok (none::some (f x)::c,if q x then [g x]else []):=by
    simp only[store,R.bind_ok,List.set_cons_succ,List.set_cons_zero,h1];cases hq:q x with
    |false=>rfl
    |true=>simp only[if_true,h2 hq,R.bind_ok];rfl
   rw[e];simp only[R.bind_ok];rw[ih (some (f x)) _ λy hy=>hm y (aO _ hy),cP,bw];cases q x<;>simp
 rw[qx,h];simp only[R.bind_ok];rw[if_neg (by simp;lia),hc,key l none [] λ_ h=>h]
 rfl
theorem gW{α:Type}{w:W}{it:It}{cap:List (Option Nat)}{elt:E}{τ c:Env}{l:List α}{f:α->D}(g:α->D)(h:evI w it τ=.ok (l.map f))(hz:l.length<=SZ)(hc:dh cap τ=none::none::c)
  (hb:∀a∈l,evE w elt (none::some (f a)::c)=.ok (g a)):evE w (.comp it cap (.nm 1) .yes elt) τ=.ok (.lst (l.map g)):=by
 have:=eB (t:=.yes) (elt:=elt) (f:=f) (λ_=>true) g h hz hc λa ha=>⟨rfl,λ_=>hb a ha⟩
 rwa[List.filter_eq_self.mpr (λ_ _=>rfl)]at this
theorem dw{w:W}{e:E}{τ:Env}{xs:List D}(h:evE w e τ=.ok (.lst xs)):evI w (.seq e) τ=.ok xs:=by rw[evI.eq_1,h];rfl
theorem lZ{w:W}{e:E}{τ:Env}{xs:List D}(h:evE w e τ=.ok (.tup xs)):evI w (.seq e) τ=.ok xs:=by rw[evI.eq_1,h];rfl
theorem oy{α:Type}(l:List α)(f:α->Bool):bools? (l.map λa=>D.bl (f a))=some (l.map f):=by
 induction l with
 |nil=>rfl
 |cons a r ih=>rw[aJ,bools?,ih];rfl
theorem m3{α:Type}(l:List α)(f:α->Bool):b1 .all [.lst (l.map λa=>D.bl (f a))]=.ok (.bl (l.all f)):=by
 rw[b1,b11];simp only[eE];rw[oy];simp only[cy];rw[List.all_map];rfl
theorem lY(s:List Int):b1 .len [tu s]=.ok (.int s.length):=by
 show R.ok (D.int ((s.map D.int).length:Nat))=_;rw[aV]
theorem p_:∀L:List (List Int),plainAll (L.map tu)=true
 | []=>rfl
 |t::r=>by
  show (D.plain (tu t)&&plainAll (r.map tu))=true;rw[p_ r,show D.plain (tu t)=plainAll (t.map D.int)from by simp[D.plain],l9];rfl
theorem pX:∀L:List (List Int),dC (L.map tu)<=1
 | []=>by decide
 |t::r=>by
  have h:=pX r;have e:D.deep (tu t)=1:=by
   show D.deep (.tup (t.map D.int))=1;rw[D.deep,kF]
  show max (D.deep (tu t)) (dC (r.map tu))<=1;rw[e];lia
theorem rL(L:List (List Int)):(D.lst (L.map tu)).asks=true:=by
 have h:=pX L;simp only[D.asks,D.plain,p_,Bool.true_and,decide_eq_true_eq];show dC (L.map tu)+1<=20;lia
theorem o6:∀L M:List (List Int),eqvAll (L.map tu) (M.map tu)=decide (L=M)
 | [],[]=>rfl
 | [],_::_=>rfl
 |_::_,[]=>rfl
 |a::r,b::t=>by
  show (D.eqv (tu a) (tu b)&&eqvAll (r.map tu) (t.map tu))=_;rw[o6 r t,show D.eqv (tu a) (tu b)=eqvAll (a.map D.int) (b.map D.int)from rfl,lx];simp[Bool.decide_and]
theorem l4(L M:List (List Int)):qk .ne (.lst (L.map tu)) (.lst (M.map tu))=.ok (!decide (L=M)):=by
 simp only[dN,zB,zI,zC,dX,dU,dW]
 ·rw[if_pos (by rw[rL,rL];rfl)];show R.ok (!D.eqv (.lst _) (.lst _))=_;rw[show D.eqv (.lst (L.map tu)) (.lst (M.map tu))=eqvAll (L.map tu) (M.map tu)from rfl,o6]
 all_goals (intros;rintro⟨⟩)
theorem Bw(s t:List Int):qk .ne (tu s) (tu t)=.ok (!decide (s=t)):=by
 simp only[dN,zB,zI,zC,dX,dU,dW]
 ·rw[if_pos (by rw[pd,pd];rfl)];show R.ok (!D.eqv (.tup _) (.tup _))=_;rw[show D.eqv (.tup (s.map D.int)) (.tup (t.map D.int))=eqvAll (s.map D.int) (t.map D.int)from rfl,lx]
 all_goals (intros;rintro⟨⟩)
theorem ne_int(a b:Int):qk .ne (.int a) (.int b)=.ok (!decide (a=b)):=by
 show R.ok (!(a==b))=_
 congr 1
theorem ix0{α:Type}(f:α->D)(a:α)(r:List α):ixD (.lst ((a::r).map f)) (.int 0)=.ok (f a):=by
 have:=iy (xs:=(a::r).map f) (i:=0) (by simp);simp only[ixD];rw[show (0:Int)=((0:Nat):Int)from rfl,this];rfl
theorem yb(ns:List Int)(lo hi:Option Int):∃cs:List Int,cutD (ns.map D.int) lo hi=cs.map D.int/\cs.length<=ns.length:=by
 refine⟨(ns.drop _).take _,by rw[cutD,<-List.map_drop,<-List.map_take],by simp;lia⟩
theorem Be{p:Pr}(hf:p.fns "_law_whole" = some gR){k:Nat}(i:Int):qc p (k+1) "_law_whole" [.int i]=.ok (.bl true):=by
 rw[qL hf];refine zy rfl rfl ?_;simp[KG.Z,gR]
theorem fx{α:Type}{f:α->D}{r:List D}{x:D}{l:List α}(e:x::r=l.map f):∃a l',l=a::l'/\x=f a/\r=l'.map f:=by
 cases l with
 |nil=>cases e
 |cons a l'=>rw[aJ]at e;injection e with e1 e2;exact⟨a,l',rfl,e1,e2⟩
theorem w9{w:W}{f:Fn}{ds:List D}{τ:Env}{Q:D->Prop}(hl:ds.length=f.ps)(hτ:ds.map some++bY (f.N-f.ps) none=τ)(h:Ends (λ_=>False) Q (qh w f.body τ)):∃d,du w f ds=.ok d/\Q d:=by
 rw[du,if_pos hl,hτ];cases z:qh w f.body τ with
 |rt d=>rw[z]at h;exact⟨d,rfl,h⟩
 |nx _=>rw[z]at h;exact h.elim
 |_=>rw[z]at h;exact h.elim
theorem Ai{m:Int}(h1:1<=m)(h2:m<=8){s:List Int}(hs:s∈zL (subs m.toNat)):∃n,n<2^m.toNat/\s=bs m n:=by
 have:=(f_ _).mem_iff.mp hs;rw[kG m h1 h2,aN]at this;obtain⟨n,hn,rfl⟩:=this;exact⟨n,List.mem_range.mp hn,rfl⟩
theorem xI{m:Int}(h1:1<=m)(h2:m<=8){n:Nat}(hn:n<2^m.toNat):bs m n∈zL (subs m.toNat):=by
 refine(f_ _).mem_iff.mpr ?_;rw[kG m h1 h2,aN];exact⟨n,List.mem_range.mpr hn,rfl⟩
theorem sub_len{m:Int}(h2:m<=8):(zL (subs m.toNat)).length<=256:=by
 rw[(f_ _).length_eq,ko];exact jo (by lia)
section
end
theorem nT{p:Pr}(hf:p.fns "_law_some" = some gO){k:Nat}{m:Int}(h1:0<=m)(h2:m<=8)(n:Nat):qc p (k+1) "_law_some" [.int m,.int n]=.ok (tu (bs m n)):=by
 rw[qL hf];refine zy rfl rfl ?_;have hc:evE ⟨qc p k,p.glb,p.sub,p.cat⟩ (.comp (.rng (.var 0)) [none,none,some 1] (.nm 1) (.cmp .eq (.op .band (.op .shr (.var 2) (.var 1)) (.con (.int 1))) (.con (.int 1))) (.var 1)) [some (.int m),some (.int n)]=.ok (.lst ((bs m n).map D.int)):=by
  rw[bs,<-o4,<-ft];refine gF (c:=[some (.int n)]) ?_ ?_ rfl ?_
  ·have:qy m=true:=by simp[qy];lia
   simp[KG.Z,this]
  ·simp[zA,SZ];lia
  ·intro x hx;rw[ft,aN]at hx;obtain⟨b,hb,rfl⟩:=hx;obtain⟨b0,b1⟩:=gJ.mp hb;have e:=jV n b.toNat;have e2:qk .eq (.int (cM ((n:Int)/2^b.toNat) 1)) (.int 1)=.ok (n.testBit b.toNat):=by
    rw[e,eq_int];cases n.testBit b.toNat<;>rfl
   simp[KG.Z,op2,b0,e2];cases n.testBit b.toNat<;>simp
 simp[KG.Z,gO,hc,b1,seq?]
section
variable{p:Pr}
theorem rQ{i x:Int}{l:List Int}:x∈insI i l↔x=i\/x∈l:=by
 induction l with
 |nil=>simp[insI]
 |cons a r ih=>
  rw[insI];split
  ·simp
  ·simp only[aM,ih];constructor<;>rintro(h|h|h)<;>simp[h]
theorem mT{x:Int}{l:List Int}:x∈sortI l↔x∈l:=by
 induction l with
 |nil=>simp[sortI]
 |cons a r ih=>rw[sortI,rQ,ih,aM]
theorem uN{i:Int}{l:List Int}(h:l.Pairwise (· < ·))(hn:i∉l):(insI i l).Pairwise (· < ·):=by
 induction l with
 |nil=>simp[insI]
 |cons a r ih=>
  rw[List.pairwise_cons]at h;have h0:i≠a:=λe=>hn (e▸aL)
  rw[insI];split
  ·rename_i q
   rw[List.pairwise_cons];refine⟨λb hb=>?_,List.pairwise_cons.mpr h⟩;rcases aM.mp hb with rfl|hb
   ·lia
   ·have:=h.1 b hb;lia
  ·rename_i q
   rw[List.pairwise_cons];refine⟨λb hb=>?_,ih h.2 λe=>hn (aO _ e)⟩;rcases rQ.mp hb with rfl|hb
   ·lia
   ·exact h.1 b hb
theorem vU{l:List Int}(h:l.Nodup):(sortI l).Pairwise (· < ·):=by
 induction l with
 |nil=>simp[sortI]
 |cons a r ih=>
  rw[List.nodup_cons]at h;rw[sortI];exact uN (ih h.2) λe=>h.1 (mT.mp e)
theorem kh:∀{a b:List Int},a.Pairwise (· < ·)->b.Pairwise (· < ·)->(∀x,x∈a↔x∈b)->a=b
 | [],[],_,_,_=>rfl
 | [],y::_,_,_,h=>absurd ((h y).mpr aL) (by simp)
 |x::_,[],_,_,h=>absurd ((h x).mp aL) (by simp)
 |x::r,y::t,ha,hb,h=>by
  rw[List.pairwise_cons]at ha hb;have e:x=y:=by
   rcases aM.mp ((h x).mp aL)with q|q
   ·exact q
   ·rcases aM.mp ((h y).mpr aL)with q'|q'
    ·exact q'.symm
    ·have:=hb.1 x q;have:=ha.1 y q';lia
  subst e;rw[kh ha.2 hb.2 λz=>⟨λq=>by
   rcases aM.mp ((h z).mp (aO _ q))with e|e
   ·subst e;have:=ha.1 z q;lia
   ·exact e,λq=>by
   rcases aM.mp ((h z).mpr (aO _ q))with e|e
   ·subst e;have:=hb.1 z q;lia
   ·exact e⟩]
end
section
variable{p:Pr}(B:Web p)
include B
end
end KG
namespace K72
open PySem PySem.Spec PyProof.Rows L2 EV
noncomputable def top(i:Nat):Stmt:=PySem.Challenge.pw_holdplaces_k72_families_of_guards.main.body.getD i (.Pass ⟨0,0,0,0⟩)
abbrev jK:Fn:=KG.jK
abbrev i3:Fn:=KG.i3
noncomputable def fS:Fn:=⟨3,3,false,(.cons (.ite (.not (.val (.call "is_between" (.cons (.var 0) (.cons (.var 1) (.cons (.var 2) .nil)))))) (.cons .unk .nil) .nil) .nil)⟩
abbrev i5:Fn:=KG.i5
abbrev i9:Fn:=KG.i9
abbrev iW:Fn:=KG.iW
abbrev i0:Fn:=KG.i0
abbrev iU:Fn:=KG.iU
abbrev iE:Fn:=KG.iE
abbrev gS:Fn:=KG.gS
abbrev gE:Fn:=KG.gE
abbrev iK:Fn:=KG.iK
abbrev iX:Fn:=KG.iX
noncomputable def ki:Fn:=⟨2,2,false,(.cons (.ret (.bi .tuple (.cons (.comp (.seq (.var 0)) [none,none,some 1] (.nm 1) (.cmp .ne (.var 1) (.var 2)) (.var 1)) .nil))) .nil)⟩
noncomputable def rM:Fn:=⟨2,3,true,(.cons (.exp (.call "need_web" (.cons (.var 0) .nil))) (.cons (.exp (.call "need_between" (.cons (.var 1) (.cons (.con (.int 0)) (.cons (.ix (.var 0) (.con (.int 0))) .nil))))) (.cons (.set (.nm 2) (.call "days_of_ending" (.cons (.var 0) (.cons (.var 1) .nil)))) (.cons (.ret (.comp (.seq (.call "somes_of" (.cons (.var 0) (.cons (.var 1) .nil)))) [none,none,some 2] (.nm 1) (.cmp .notin (.var 1) (.var 2)) (.var 1))) .nil))))⟩
noncomputable def kT:Fn:=⟨1,1,false,(.cons (.ret (.bi .len (.cons (.call "first_guards" (.cons (.var 0) .nil)) .nil))) .nil)⟩
noncomputable def nc:Fn:=⟨1,3,false,(.cons (.set (.nm 1) (.lst .nil)) (.cons (.set (.nm 2) (.con (.int 0))) (.cons (.while (.not (.val (.var 1))) (.cons (.set (.nm 1) (.call "family_of" (.cons (.var 0) (.cons (.var 2) .nil)))) (.cons (.aug 2 (.con (.int 1))) .nil))) (.cons (.ret (.ix (.var 1) (.con (.int 0)))) .nil))))⟩
noncomputable def kP:Fn:=⟨2,2,false,(.cons (.ret (.comp (.seq (.call "all_some" (.cons (.var 0) .nil))) [none,none,some 1] (.nm 1) (.cmp .eq (.bi .len (.cons (.var 1) .nil)) (.var 2)) (.var 1))) .nil)⟩
noncomputable def lB:Fn:=⟨2,2,false,(.cons (.ret (.comp (.rng (.bi .len (.cons (.var 0) .nil))) [none,none,some 1] (.nm 1) (.cmp .notin (.var 1) (.var 2)) (.var 1))) .nil)⟩
noncomputable def lI:Fn:=⟨3,3,false,(.cons (.ret (.bi .sorted (.cons (.comp (.seq (.call "mark_of" (.cons (.var 0) (.cons (.var 1) .nil)))) [none,none,some 2,some 1] (.nm 1) .yes (.bi .tuple (.cons (.bi .sorted (.cons (.op .add (.call "without" (.cons (.var 3) (.cons (.var 1) .nil))) (.tup (.cons (.var 2) .nil))) .nil)) .nil))) .nil))) .nil)⟩
noncomputable def mf:Fn:=⟨2,2,false,(.cons (.ret (.comp (.seq (.call "unguarded" (.cons (.var 0) (.cons (.var 1) .nil)))) [none,none,some 0,some 1] (.nm 1) .yes (.call "moves_to" (.cons (.ix (.var 2) (.var 1)) (.cons (.var 3) (.cons (.var 1) .nil)))))) .nil)⟩
noncomputable def md:Fn:=⟨2,7,true,(.cons (.set (.nm 2) (.call "hoods" (.cons (.var 0) .nil))) (.cons (.set (.nm 3) (.dcm (.seq (.call "somes_of" (.cons (.var 0) (.cons (.var 1) .nil)))) [none,none,some 2] (.nm 1) .yes (.var 1) (.call "askings" (.cons (.var 2) (.cons (.var 1) .nil))))) (.cons (.set (.nm 4) .dic) (.cons (.set (.nm 5) (.con (.int 0))) (.cons (.set (.nm 6) (.callf "ending_now" (.cons (.var 3) (.cons (.own 4) .nil)))) (.cons (.while (.val (.var 6)) (.cons (.dupd 4 (.dcm (.seq (.var 6)) [none,none,some 5] (.nm 1) .yes (.var 1) (.var 2))) (.cons (.aug 5 (.con (.int 1))) (.cons (.set (.nm 6) (.callf "ending_now" (.cons (.var 3) (.cons (.own 4) .nil)))) .nil)))) (.cons (.ret (.own 4)) .nil)))))))⟩
noncomputable def lN:Fn:=⟨2,2,true,(.cons (.ret (.comp (.seq (.var 0)) [none,none,some 0,some 1] (.nm 1) (.and (.cmp .notin (.var 1) (.var 3)) (.val (.bi .any (.cons (.comp (.seq (.ix (.var 2) (.var 1))) [none,none,some 3] (.nm 1) .yes (.bi .all (.cons (.comp (.seq (.var 1)) [none,none,some 2] (.nm 1) .yes (.cmp .isin (.var 1) (.var 2))) .nil))) .nil)))) (.var 1))) .nil)⟩
abbrev zN:Fn:=KG.zN
abbrev iq:Fn:=KG.iq
abbrev gR:Fn:=KG.gR
abbrev ka:Fn:=KG.ka
abbrev jd:Fn:=KG.jd
abbrev gO:Fn:=KG.gO
noncomputable def jt:Fn:=⟨3,6,false,(.cons (.set (.nm 3) (.lst .nil)) (.cons (.for (.tp [4,5]) (.enum (.var 0)) (.cons (.ite (.and (.cmp .eq (.op .band (.op .shr (.var 1) (.var 4)) (.con (.int 1))) (.con (.int 1))) (.cmp .eq (.op .band (.op .shr (.var 5) (.var 2)) (.con (.int 1))) (.con (.int 1)))) (.cons (.app 3 (.op .bor (.op .bxor (.var 1) (.op .shl (.con (.int 1)) (.var 4))) (.op .shl (.con (.int 1)) (.var 2)))) .nil) .nil) .nil)) (.cons (.ret (.own 3)) .nil)))⟩
noncomputable def mj:Fn:=⟨3,4,false,(.cons (.for (.nm 3) (.rng (.bi .len (.cons (.var 0) .nil))) (.cons (.ite (.and (.cmp .eq (.op .band (.op .shr (.var 1) (.var 3)) (.con (.int 1))) (.con (.int 0))) (.not (.val (.bi .any (.cons (.comp (.seq (.call "_law_moves" (.cons (.var 0) (.cons (.var 1) (.cons (.var 3) .nil))))) [none,none,some 2] (.nm 1) .yes (.cmp .isin (.var 1) (.var 2))) .nil))))) (.cons (.ret (.con (.bl false))) .nil) .nil) .nil)) (.cons (.ret (.con (.bl true))) .nil))⟩
noncomputable def lS:Fn:=⟨2,8,true,(.cons (.set (.nm 2) (.call "_law_masks" (.cons (.var 0) .nil))) (.cons (.set (.nm 4) (.comp (.rng (.op .shl (.con (.int 1)) (.ix (.var 0) (.con (.int 0))))) [none,none,some 1,some 0] (.nm 1) (.cmp .eq (.bi .len (.cons (.call "_law_some" (.cons (.ix (.var 3) (.con (.int 0))) (.cons (.var 1) .nil))) .nil)) (.var 2)) (.var 1))) (.cons (.set (.nm 5) .dic) (.cons (.set (.nm 6) (.comp (.seq (.var 4)) [none,none,some 4,some 2] (.nm 1) (.not (.val (.call "_law_answers" (.cons (.var 3) (.cons (.var 1) (.cons (.var 2) .nil)))))) (.var 1))) (.cons (.set (.nm 7) (.con (.int 0))) (.cons (.while (.cmp .ne (.var 6) (.lst .nil)) (.cons (.for (.nm 3) (.seq (.var 6)) (.cons (.seti 5 (.var 3) (.var 7)) .nil)) (.cons (.set (.nm 4) (.comp (.seq (.var 4)) [none,none,some 5] (.nm 1) (.cmp .notin (.var 1) (.own 2)) (.var 1))) (.cons (.set (.nm 6) (.comp (.seq (.var 4)) [none,none,some 4,some 2] (.nm 1) (.not (.val (.call "_law_answers" (.cons (.var 3) (.cons (.var 1) (.cons (.var 2) .nil)))))) (.var 1))) (.cons (.set (.nm 7) (.op .add (.var 7) (.con (.int 1)))) .nil))))) (.cons (.for (.nm 3) (.seq (.var 4)) (.cons (.seti 5 (.var 3) (.neg (.con (.int 1)))) .nil)) (.cons (.ret (.own 5)) .nil))))))))⟩
noncomputable def nU:Fn:=⟨1,8,false,(.cons (.set (.nm 1) (.ix (.var 0) (.con (.int 0)))) (.cons (.set (.nm 2) (.con .non)) (.cons (.for (.nm 3) (.rng (.op .add (.var 1) (.con (.int 1)))) (.cons (.set (.nm 4) (.call "_law_days" (.cons (.var 0) (.cons (.var 3) .nil)))) (.cons (.set (.nm 5) (.bi .sorted (.cons (.comp (.seq (.var 4)) [none,none,some 4,some 1] (.nm 1) (.cmp .lt (.ix (.var 2) (.var 1)) (.con (.int 0))) (.call "_law_some" (.cons (.var 3) (.cons (.var 1) .nil)))) .nil))) (.cons (.for (.nm 6) (.rng (.con (.int 2))) (.cons (.set (.nm 7) (.call "family_of" (.cons (.var 0) (.cons (.var 3) .nil)))) (.cons (.ite (.or (.not (.val (.isi (.own 7) (.ty "list")))) (.or (.cmp .ne (.own 7) (.var 5)) (.not (.val (.bi .all (.cons (.comp (.seq (.own 7)) [none,none] (.nm 1) .yes (.isi (.var 1) (.ty "tuple"))) .nil)))))) (.cons (.ret (.con (.bl false))) .nil) .nil) (.cons (.app 7 (.tup .nil)) .nil)))) (.cons (.ite (.and (.cmp .ne (.var 5) (.lst .nil)) (.cmp .is (.var 2) (.con .non))) (.cons (.set (.nm 2) (.var 3)) (.cons (.ite (.or (.cmp .ne (.call "first_guards" (.cons (.var 0) .nil)) (.ix (.var 5) (.con (.int 0)))) (.not (.val (.isi (.call "first_guards" (.cons (.var 0) .nil)) (.ty "tuple"))))) (.cons (.ret (.con (.bl false))) .nil) .nil) .nil)) .nil) .nil))))) (.cons (.ret (.and (.call "_law_whole" (.cons (.call "fewest_guards" (.cons (.var 0) .nil)) .nil)) (.cmp .eq (.call "fewest_guards" (.cons (.var 0) .nil)) (.var 2)))) .nil))))⟩
noncomputable def ji:Fn:=⟨1,2,false,(.cons (.ite (.or (.not (.val (.call "_law_right" (.cons (.tup (.cons (.con (.int 1)) (.cons (.tup .nil) .nil))) .nil)))) (.not (.val (.call "_law_right" (.cons (.tup (.cons (.con (.int 3)) (.cons (.tup (.cons (.tup (.cons (.con (.int 0)) (.cons (.con (.int 1)) .nil))) (.cons (.tup (.cons (.con (.int 1)) (.cons (.con (.int 2)) .nil))) .nil))) .nil))) .nil))))) (.cons (.ret (.con (.bl false))) .nil) .nil) (.cons (.ite (.not (.val (.call "_law_right" (.cons (.tup (.cons (.con (.int 5)) (.cons (.tup (.cons (.tup (.cons (.con (.int 0)) (.cons (.con (.int 1)) .nil))) (.cons (.tup (.cons (.con (.int 0)) (.cons (.con (.int 4)) .nil))) (.cons (.tup (.cons (.con (.int 1)) (.cons (.con (.int 2)) .nil))) (.cons (.tup (.cons (.con (.int 2)) (.cons (.con (.int 3)) .nil))) (.cons (.tup (.cons (.con (.int 3)) (.cons (.con (.int 4)) .nil))) .nil)))))) .nil))) .nil)))) (.cons (.ret (.con (.bl false))) .nil) .nil) (.cons (.for (.nm 1) (.seq (.op .add (.lst (.cons (.call "_law_cell_at" (.cons (.var 0) (.cons (.con (.int 0)) .nil))) .nil)) (.sl (.var 0) (.some (.con (.int 1))) (.some (.con (.int 3)))))) (.cons (.ite (.not (.val (.call "_law_right" (.cons (.call "_law_web" (.cons (.var 1) (.cons (.con (.int 8)) .nil))) .nil)))) (.cons (.ret (.con (.bl false))) .nil) .nil) .nil)) (.cons (.ret (.con (.bl true))) .nil))))⟩
abbrev BP:Ent:=⟨"is_whole",top 5,[],false,jK⟩
abbrev DV:Ent:=⟨"is_between",top 6,[],false,i3⟩
abbrev uZ:Ent:=⟨"need_between",top 7,[],false,fS⟩
abbrev CV:Ent:=⟨"is_pair",top 8,[],false,i5⟩
abbrev vC:Ent:=⟨"rises",top 9,[],false,i9⟩
abbrev Av:Ent:=⟨"is_web",top 12,[],false,iW⟩
abbrev CZ:Ent:=⟨"is_tie",top 13,[],false,i0⟩
abbrev yi:Ent:=⟨"need_web",top 14,[],false,iU⟩
abbrev Cb:Ent:=⟨"hoods",top 15,[],false,iE⟩
abbrev ya:Ent:=⟨"hood_of",top 16,[],false,gS⟩
abbrev Bo:Ent:=⟨"are_tied",top 17,[],false,gE⟩
abbrev Et:Ent:=⟨"mark_of",top 19,[],false,iK⟩
abbrev BJ:Ent:=⟨"all_some",top 20,[],false,iX⟩
abbrev wx:Ent:=⟨"without",top 22,[],false,ki⟩
abbrev ue:Ent:=⟨"family_of",top 24,[],true,rM⟩
abbrev DC:Ent:=⟨"fewest_guards",top 25,[],false,kT⟩
abbrev xq:Ent:=⟨"first_guards",top 26,[],false,nc⟩
abbrev Cp:Ent:=⟨"somes_of",top 27,[],false,kP⟩
abbrev EI:Ent:=⟨"unguarded",top 28,[],false,lB⟩
abbrev xj:Ent:=⟨"moves_to",top 29,[],false,lI⟩
abbrev xP:Ent:=⟨"askings",top 30,[],false,mf⟩
abbrev uV:Ent:=⟨"days_of_ending",top 31,[a9 "ended"],true,md⟩
abbrev yt:Ent:=⟨"ending_now",top 32,[],true,lN⟩
abbrev Ax:Ent:=⟨"_law_cell_at",top 34,[],false,zN⟩
abbrev wN:Ent:=⟨"_law_stir",top 35,[],false,iq⟩
abbrev Aj:Ent:=⟨"_law_whole",top 36,[],false,gR⟩
abbrev xX:Ent:=⟨"_law_web",top 37,[a9 "_law_ties"],false,ka⟩
abbrev DD:Ent:=⟨"_law_masks",top 38,[a9 "_law_found"],false,jd⟩
abbrev Ag:Ent:=⟨"_law_some",top 39,[],false,gO⟩
abbrev tJ:Ent:=⟨"_law_moves",top 40,[a9 "_law_found"],false,jt⟩
abbrev Eg:Ent:=⟨"_law_answers",top 41,[],false,mj⟩
abbrev CF:Ent:=⟨"_law_days",top 42,[a9 "_law_found"],true,lS⟩
abbrev DB:Ent:=⟨"_law_right",top 43,[a9 "_law_found"],false,nU⟩
abbrev g6:Ent:=⟨"law",top 44,[],false,ji⟩
abbrev tab:List Ent:=[BP,DV,uZ,CV,vC,Av,CZ,yi,Cb,ya,Bo,Et,BJ,wx,ue,DC,xq,Cp,EI,xj,xP,uV,yt,Ax,wN,Aj,xX,DD,Ag,tJ,Eg,CF,DB,g6]
abbrev oth:List (Str×GK):=[(a9 "NoWeb",GK.exc),(a9 "NoNumber",GK.exc),(a9 "MOST",GK.val),(a9 "len",GK.bi .len),(a9 "tuple",GK.ty "tuple" (some .tuple)),(a9 "list",GK.ty "list" (some .list)),(a9 "int",GK.ty "int" (some .int)),(a9 "bool",GK.ty "bool" (some .bool)),(a9 "sorted",GK.bi .sorted),(a9 "all",GK.bi .all),(a9 "any",GK.bi .any),(a9 "min",GK.bi .min),(a9 "max",GK.bi .max),(a9 "range",GK.rng),(a9 "enumerate",GK.enum),(a9 "isinstance",GK.isi)]
abbrev vals:List (Str×D):=[(a9 "MOST",(.int 8))]
abbrev G:List (Str×GK):=tab.map (λe=>(e.x,GK.fn e.fr))++oth
abbrev cY:List (Str×Str):=[]
abbrev us:List Ent:=[]
abbrev subs:List ((Str×Cl)×Bool):=[]
abbrev p:Pr:=prT tab vals cY subs
theorem DL:p.fns "need_between" = some fS:=by kernel_rfl
theorem Cr:p.fns "family_of" = some rM:=by kernel_rfl
theorem uh:p.fns "fewest_guards" = some kT:=by kernel_rfl
theorem xR:p.fns "first_guards" = some nc:=by kernel_rfl
theorem An:p.fns "_law_whole" = some gR:=by kernel_rfl
theorem Dv:p.fns "_law_right" = some nU:=by kernel_rfl
theorem wU:p.fns "law" = some ji:=by kernel_rfl
end K72
namespace KG
open EV
open PySem (Str)
open L2 (atI ixN ltP atK b9)
noncomputable def ki:Fn:=⟨2,2,false,(.cons (.ret (.bi .tuple (.cons (.comp (.seq (.var 0)) [none,none,some 1] (.nm 1) (.cmp .ne (.var 1) (.var 2)) (.var 1)) .nil))) .nil)⟩
noncomputable def lI:Fn:=⟨3,3,false,(.cons (.ret (.bi .sorted (.cons (.comp (.seq (.call "mark_of" (.cons (.var 0) (.cons (.var 1) .nil)))) [none,none,some 2,some 1] (.nm 1) .yes (.bi .tuple (.cons (.bi .sorted (.cons (.op .add (.call "without" (.cons (.var 3) (.cons (.var 1) .nil))) (.tup (.cons (.var 2) .nil))) .nil)) .nil))) .nil))) .nil)⟩
noncomputable def kP:Fn:=⟨2,2,false,(.cons (.ret (.comp (.seq (.call "all_some" (.cons (.var 0) .nil))) [none,none,some 1] (.nm 1) (.cmp .eq (.bi .len (.cons (.var 1) .nil)) (.var 2)) (.var 1))) .nil)⟩
noncomputable def lB:Fn:=⟨2,2,false,(.cons (.ret (.comp (.rng (.bi .len (.cons (.var 0) .nil))) [none,none,some 1] (.nm 1) (.cmp .notin (.var 1) (.var 2)) (.var 1))) .nil)⟩
noncomputable def mf:Fn:=⟨2,2,false,(.cons (.ret (.comp (.seq (.call "unguarded" (.cons (.var 0) (.cons (.var 1) .nil)))) [none,none,some 0,some 1] (.nm 1) .yes (.call "moves_to" (.cons (.ix (.var 2) (.var 1)) (.cons (.var 3) (.cons (.var 1) .nil)))))) .nil)⟩
noncomputable def lN:Fn:=⟨2,2,true,(.cons (.ret (.comp (.seq (.var 0)) [none,none,some 0,some 1] (.nm 1) (.and (.cmp .notin (.var 1) (.var 3)) (.val (.bi .any (.cons (.comp (.seq (.ix (.var 2) (.var 1))) [none,none,some 3] (.nm 1) .yes (.bi .all (.cons (.comp (.seq (.var 1)) [none,none,some 2] (.nm 1) .yes (.cmp .isin (.var 1) (.var 2))) .nil))) .nil)))) (.var 1))) .nil)⟩
noncomputable def md:Fn:=⟨2,7,true,(.cons (.set (.nm 2) (.call "hoods" (.cons (.var 0) .nil))) (.cons (.set (.nm 3) (.dcm (.seq (.call "somes_of" (.cons (.var 0) (.cons (.var 1) .nil)))) [none,none,some 2] (.nm 1) .yes (.var 1) (.call "askings" (.cons (.var 2) (.cons (.var 1) .nil))))) (.cons (.set (.nm 4) .dic) (.cons (.set (.nm 5) (.con (.int 0))) (.cons (.set (.nm 6) (.callf "ending_now" (.cons (.var 3) (.cons (.own 4) .nil)))) (.cons (.while (.val (.var 6)) (.cons (.dupd 4 (.dcm (.seq (.var 6)) [none,none,some 5] (.nm 1) .yes (.var 1) (.var 2))) (.cons (.aug 5 (.con (.int 1))) (.cons (.set (.nm 6) (.callf "ending_now" (.cons (.var 3) (.cons (.own 4) .nil)))) .nil)))) (.cons (.ret (.own 4)) .nil)))))))⟩
noncomputable def jt:Fn:=⟨3,6,false,(.cons (.set (.nm 3) (.lst .nil)) (.cons (.for (.tp [4,5]) (.enum (.var 0)) (.cons (.ite (.and (.cmp .eq (.op .band (.op .shr (.var 1) (.var 4)) (.con (.int 1))) (.con (.int 1))) (.cmp .eq (.op .band (.op .shr (.var 5) (.var 2)) (.con (.int 1))) (.con (.int 1)))) (.cons (.app 3 (.op .bor (.op .bxor (.var 1) (.op .shl (.con (.int 1)) (.var 4))) (.op .shl (.con (.int 1)) (.var 2)))) .nil) .nil) .nil)) (.cons (.ret (.own 3)) .nil)))⟩
noncomputable def mj:Fn:=⟨3,4,false,(.cons (.for (.nm 3) (.rng (.bi .len (.cons (.var 0) .nil))) (.cons (.ite (.and (.cmp .eq (.op .band (.op .shr (.var 1) (.var 3)) (.con (.int 1))) (.con (.int 0))) (.not (.val (.bi .any (.cons (.comp (.seq (.call "_law_moves" (.cons (.var 0) (.cons (.var 1) (.cons (.var 3) .nil))))) [none,none,some 2] (.nm 1) .yes (.cmp .isin (.var 1) (.var 2))) .nil))))) (.cons (.ret (.con (.bl false))) .nil) .nil) .nil)) (.cons (.ret (.con (.bl true))) .nil))⟩
noncomputable def lS:Fn:=⟨2,8,true,(.cons (.set (.nm 2) (.call "_law_masks" (.cons (.var 0) .nil))) (.cons (.set (.nm 4) (.comp (.rng (.op .shl (.con (.int 1)) (.ix (.var 0) (.con (.int 0))))) [none,none,some 1,some 0] (.nm 1) (.cmp .eq (.bi .len (.cons (.call "_law_some" (.cons (.ix (.var 3) (.con (.int 0))) (.cons (.var 1) .nil))) .nil)) (.var 2)) (.var 1))) (.cons (.set (.nm 5) .dic) (.cons (.set (.nm 6) (.comp (.seq (.var 4)) [none,none,some 4,some 2] (.nm 1) (.not (.val (.call "_law_answers" (.cons (.var 3) (.cons (.var 1) (.cons (.var 2) .nil)))))) (.var 1))) (.cons (.set (.nm 7) (.con (.int 0))) (.cons (.while (.cmp .ne (.var 6) (.lst .nil)) (.cons (.for (.nm 3) (.seq (.var 6)) (.cons (.seti 5 (.var 3) (.var 7)) .nil)) (.cons (.set (.nm 4) (.comp (.seq (.var 4)) [none,none,some 5] (.nm 1) (.cmp .notin (.var 1) (.own 2)) (.var 1))) (.cons (.set (.nm 6) (.comp (.seq (.var 4)) [none,none,some 4,some 2] (.nm 1) (.not (.val (.call "_law_answers" (.cons (.var 3) (.cons (.var 1) (.cons (.var 2) .nil)))))) (.var 1))) (.cons (.set (.nm 7) (.op .add (.var 7) (.con (.int 1)))) .nil))))) (.cons (.for (.nm 3) (.seq (.var 4)) (.cons (.seti 5 (.var 3) (.neg (.con (.int 1)))) .nil)) (.cons (.ret (.own 5)) .nil))))))))⟩
structure Gua(p:Pr):Prop where
 all_some:p.fns "all_some" = some iX
 mark_of:p.fns "mark_of" = some iK
 without:p.fns "without" = some ki
 moves_to:p.fns "moves_to" = some lI
 somes_of:p.fns "somes_of" = some kP
 unguarded:p.fns "unguarded" = some lB
 askings:p.fns "askings" = some mf
 ending_now:p.fns "ending_now" = some lN
 days_of_ending:p.fns "days_of_ending" = some md
structure Lwd(p:Pr):Prop where
 _law_masks:p.fns "_law_masks" = some jd
 _law_some:p.fns "_law_some" = some gO
 _law_moves:p.fns "_law_moves" = some jt
 _law_answers:p.fns "_law_answers" = some mj
 _law_days:p.fns "_law_days" = some lS
section
variable{p:Pr}
theorem v8(hf:p.fns "mark_of" = some iK){k:Nat}(n s:List Int)(hz:s.length<=8):qc p (k+1) "mark_of" [tu n,tu s]=.ok (tu (s.filter λx=>n.any λt=>t==x)):=by
 rw[qL hf];refine zy (τ:=[some (tu n),some (tu s)]) rfl rfl ?_;have hc:evE ⟨qc p k,p.glb,p.sub,p.cat⟩ (.comp (.seq (.var 1)) [none,none,some 0] (.nm 1) (.cmp .isin (.var 1) (.var 2)) (.var 1)) [some (tu n),some (tu s)]=.ok (.lst ((s.filter λx=>n.any λt=>t==x).map D.int)):=
  eB (f:=D.int) (c:=[some (tu n)]) (λx=>n.any λt=>t==x) D.int (lZ rfl) (by simp[SZ];lia) rfl λy _=>⟨Df n y,λ_=>rfl⟩
 show qh _ (.cons (.ret (.bi .tuple (.cons _ .nil))) .nil) _=_;rw[qh,zz,qu,qA,hc];simp only[R.bind_ok,qA]
 rfl
theorem AZ(hf:p.fns "without" = some ki){k:Nat}(s:List Int)(hl:s.length<=8)(x:Int):qc p (k+1) "without" [tu s,.int x]=.ok (tu (s.filter λy=>!decide (y=x))):=by
 rw[qL hf];refine zy (τ:=[some (tu s),some (.int x)]) rfl rfl ?_;have hc:evE ⟨qc p k,p.glb,p.sub,p.cat⟩ (.comp (.seq (.var 0)) [none,none,some 1] (.nm 1) (.cmp .ne (.var 1) (.var 2)) (.var 1)) [some (tu s),some (.int x)]=.ok (.lst ((s.filter λy=>!decide (y=x)).map D.int)):=
  eB (f:=D.int) (c:=[some (.int x)]) (λy=>!decide (y=x)) D.int (lZ rfl) (by simp[SZ];lia) rfl λy _=>⟨KG.ne_int y x,λ_=>rfl⟩
 show qh _ (.cons (.ret (.bi .tuple (.cons _ .nil))) .nil) _=_;rw[qh,zz,qu,qA,hc];simp only[R.bind_ok,qA]
 rfl
noncomputable def mv(n g q:Nat):Nat:=(n ^^^ 2^g) ||| 2^q
noncomputable def gd(m:Int)(ts:List (Int×Int))(n q:Nat):List Nat:=(aX m.toNat).filter λg=>n.testBit g&&near ts g q
theorem lg(m:Int)(hm:m<=8)(ts:List (Int×Int))(n q:Nat):(gd m ts n q).length<=8:=a8 (List.length_filter_le _ _) (by simp;lia)
theorem xO{m:Int}{ts:List (Int×Int)}(h:GW m ts)(n q:Nat):((bs m n).filter λx=>(hd m ts q).any λt=>t==x)=(gd m ts n q).map λ(g:Nat)=>(g:Int):=by
 refine kh ((iD h.hi n).lt.sublist List.filter_sublist) ?_ λx=>?_
 ·rw[List.pairwise_map];exact(List.pairwise_lt_range.sublist List.filter_sublist).imp λh=>by lia
 ·simp only[aS,bK,beq_iff_eq,exists_eq_right,Ba,fo,gd,aN,List.mem_range,aQ];constructor
  ·rintro⟨⟨⟨x0,xm⟩,xb⟩,_,hz⟩;refine⟨x.toNat,⟨by lia,xb,?_⟩,by lia⟩;rw[rH h,show ((x.toNat:Nat):Int)=x by lia];simp only[bG,beq_iff_eq];rcases hz with hz|hz
   ·left;lia
   ·right;rw[nj];exact hz
  ·rintro⟨g,⟨gm,gb,gn⟩,rfl⟩;rw[rH h]at gn;simp only[bG,beq_iff_eq]at gn;refine⟨⟨⟨by lia,by lia⟩,by simpa using gb⟩,⟨by lia,by lia⟩,?_⟩;rcases gn with z|z
   ·left;lia
   ·right;rw[nj];exact z
theorem m9{m:Int}(hm:m<=8){n g q:Nat}(hq:(q:Int)<m)(hg:n.testBit g=true)(hf:n.testBit q=false):sortI (((bs m n).filter λy=>!decide (y=(g:Int)))++[(q:Int)])=bs m (mv n g q):=by
 have nq:(q:Int)∉bs m n:=λz=>by
  have:=(fo.mp z).2;simp[hf]at this
 refine kh (vU ?_) (iD hm _).lt λx=>?_
 ·rw[List.nodup_append];refine⟨((iD hm n).lt.imp λh=>by lia).filter _,by simp,λa ha b hb z=>?_⟩;simp at hb;subst hb z;exact nq (aS.mp ha).1
 ·rw[mT,List.mem_append,aS,fo,fo,List.mem_singleton,mv,Nat.testBit_or,Nat.testBit_xor,Nat.testBit_two_pow,Nat.testBit_two_pow];constructor
  ·rintro(⟨⟨⟨x0,xm⟩,xb⟩,hx⟩|rfl)
   ·refine⟨⟨x0,xm⟩,?_⟩;have:g≠x.toNat:=λz=>by simp at hx;lia
    simp[xb,this]
   ·exact⟨⟨by lia,hq⟩,by simp⟩
  ·rintro⟨⟨x0,xm⟩,hb⟩;by_cases e:q=x.toNat
   ·right;lia
   ·left;by_cases e2:g=x.toNat
    ·subst e2;simp[hg,e]at hb
    ·simp[e,e2]at hb;exact⟨⟨⟨x0,xm⟩,hb⟩,by simp;lia⟩
theorem yS(ns:List Int)(h:ns.length<64):b1 .sorted [.tup (ns.map D.int)]=.ok (.lst ((sortI ns).map D.int)):=by
 show (if (ns.map D.int).length<64 then cy (ints? (ns.map D.int)) λns=>R.ok (D.lst ((sortI ns).map D.int))else .no)=_;rw[if_pos (by simpa using h),ints_map];rfl
theorem srt(L:List (List Int))(h:L.length<64)(h0:∀t∈L,t≠[]):∃M:List (List Int),b1 .sorted [.lst (L.map tu)]=.ok (.lst (M.map tu))/\M.Perm L:=by
 rw[jx,if_pos (by simpa using h)];cases L with
 |nil=>exact⟨[],rfl,.refl _⟩
 |cons a r=>
  have e1:ints? ((a::r).map tu)=none:=rfl;rw[e1];dsimp only;cases e2:pairs? ((a::r).map tu)with
  |some ps=>
   have e3:=jz e2;rw[gI]at e3;injection e3 with e3
   refine⟨(zR ps).map λp=>[p.1,p.2],by rw[bh];rfl,?_⟩;rw[e3];exact(lE ps).map _
  |none=>
   refine⟨zL (a::r),?_,f_ _⟩;have e4:dz (a::r)=true:=by
    cases r with
    |nil=>rfl
    |cons b r=>
     rw[dz,bG];right;rw[bS];intro t ht;have:=h0 t ht;cases t with
     |nil=>exact absurd rfl this
     |cons _ _=>rfl
   show cB _=_;rw[cB,gI];show (if dz (a::r)=true then _ else _)=_;rw[e4];rfl
noncomputable def ml(m:Int)(ts:List (Int×Int))(n q:Nat):List (List Int):=(gd m ts n q).map λg=>bs m (mv n g q)
theorem iM(m:Int)(hm:m<=8)(ts:List (Int×Int))(n q:Nat):(ml m ts n q).length<=8:=by rw[ml,aV];exact lg m hm ts n q
theorem j8{m:Int}{ts:List (Int×Int)}{n q:Nat}(hq:(q:Int)<m):∀t∈ml m ts n q,t≠[]:=by
 intro t ht z;subst z;obtain⟨g,_,e⟩:=aN.mp ht;have:(q:Int)∈bs m (mv n g q):=fo.mpr ⟨⟨by lia,hq⟩,by rw[mv,Nat.testBit_or,Nat.testBit_two_pow];simp⟩;rw[e]at this;cases this
theorem moves_to(G:Gua p){k:Nat}{m:Int}{ts:List (Int×Int)}(h:GW m ts){n q:Nat}(hq:(q:Int)<m)(hf:n.testBit q=false){M:List (List Int)}(hM:b1 .sorted [.lst ((ml m ts n q).map tu)]=.ok (.lst (M.map tu))):qc p (k+2) "moves_to" [tu (hd m ts q),tu (bs m n),.int q]=.ok (.lst (M.map tu)):=by
 have hl:=(iD h.hi n).len;have hm:=h.hi;rw[qL G.moves_to];refine zy (τ:=[some (tu (hd m ts q)),some (tu (bs m n)),some (.int q)]) rfl rfl ?_;have e1:=v8 G.mark_of (k:=k) (hd m ts q) (bs m n) hl;rw[xO h]at e1;have hc:evE ⟨qc p (k+1),p.glb,p.sub,p.cat⟩ (.comp (.seq (.call "mark_of" (.cons (.var 0) (.cons (.var 1) .nil)))) [none,none,some 2,some 1] (.nm 1) .yes (.bi .tuple (.cons (.bi .sorted (.cons (.op .add (.call "without" (.cons (.var 3) (.cons (.var 1) .nil))) (.tup (.cons (.var 2) .nil))) .nil)) .nil))) [some (tu (hd m ts q)),some (tu (bs m n)),some (.int q)]=.ok (.lst ((ml m ts n q).map tu)):=by
  rw[ml,bh];refine gW (f:=λ(g:Nat)=>D.int (g:Int)) (c:=[some (.int q),some (tu (bs m n))]) _ (lZ (xs:=(gd m ts n q).map λ(g:Nat)=>D.int (g:Int)) ?_) (by have:=lg m hm ts n q;simp[SZ];lia) rfl ?_
  ·have Hq:qc p (k+1) "mark_of" [tu (hd m ts q),tu (bs m n)]=.ok (.tup ((gd m ts n q).map λ(g:Nat)=>D.int (g:Int))):=by rw[e1,tu,bh];rfl
   generalize tu (hd m ts q)=U1 at *;generalize tu (bs m n)=U2 at *;simp[KG.Z,Hq]
  ·intro g hg;have KL:n.testBit g=true:=by
    have:=(aS.mp hg).2;simp only[aQ]at this;exact this.1
   have a1:=AZ G.without (k:=k) (bs m n) hl (g:Int);have a2:op2 .add (tu ((bs m n).filter λy=>!decide (y=(g:Int)))) (.tup [.int q])=.ok (tu (((bs m n).filter λy=>!decide (y=(g:Int)))++[(q:Int)])):=by
    have:=List.length_filter_le (λy=>!decide (y=(g:Int))) (bs m n);rw[op2,if_pos ⟨rfl,by simp[SZ];lia⟩,tu,List.map_append];rfl
   have a3:=yS (((bs m n).filter λy=>!decide (y=(g:Int)))++[(q:Int)]) (by have:=List.length_filter_le (λy=>!decide (y=(g:Int))) (bs m n);simp;lia);rw[m9 hm hq KL hf]at a3;have a3:b1 .sorted [tu (((bs m n).filter λy=>!decide (y=(g:Int)))++[(q:Int)])]=.ok (.lst ((bs m (mv n g q)).map D.int)):=a3;have a4:b1 .tuple [.lst ((bs m (mv n g q)).map D.int)]=.ok (tu (bs m (mv n g q))):=rfl;show evE _ _ [none,some (.int (g:Int)),some (.int q),some (tu (bs m n))]=.ok (tu (bs m (mv n g q)));generalize tu (((bs m n).filter λy=>!decide (y=(g:Int)))++[(q:Int)])=U2 at *;generalize tu ((bs m n).filter λy=>!decide (y=(g:Int)))=U1 at *;generalize tu (bs m n)=U0 at *;generalize (bs m (mv n g q)).map D.int=U3 at *;simp[KG.Z,a1,a2,a3,a4]
 show qh _ (.cons (.ret (.bi .sorted (.cons _ .nil))) .nil) _=_;rw[qh,zz,qu,qA,hc];simp only[R.bind_ok,qA,hM,R.out_ok]
theorem yF:∀n:Fin 256,∀g:Fin 8,((n.val ||| 2^g.val:Nat):Int)-((n.val &&& 2^g.val:Nat):Int)=((n.val ^^^ 2^g.val:Nat):Int):=by decide +kernel
theorem Dp{n g:Nat}(hn:n<256)(hg:g<8):PySem.Builtin.bitXor (n:Int) ((2^g:Nat):Int)=((n ^^^ 2^g:Nat):Int):=by
 rw[PySem.Builtin.bitXor,mK,rK];exact yF ⟨n,hn⟩ ⟨g,hg⟩
theorem Az(ts:List (Int×Int))(n q j:Nat):((aX (j+1)).filter λg=>n.testBit g&&near ts g q)=((aX j).filter λg=>n.testBit g&&near ts g q)++(if n.testBit j&&near ts j q then [j]else []):=by
 rw[List.range_succ,List.filter_append]
 congr 1
 rw[cP];split<;>rfl
abbrev LM(N:List Nat)(n q:Nat)(L:List Nat)(v4 v5:Option D):Env:=[some (ln N),some (.int (n:Int)),some (.int (q:Int)),some (.lst (L.map λg=>D.int ((mv n g q:Nat):Int))),v4,v5]
theorem vN(hf:p.fns "_law_moves" = some jt){k:Nat}{m:Int}{ts:List (Int×Int)}(h2:m<=8){N:List Nat}(hN:gy m ts N){n q:Nat}(hn:n<256)(hq:q<8):qc p (k+1) "_law_moves" [ln N,.int n,.int q]=.ok (.lst ((gd m ts n q).map λg=>D.int ((mv n g q:Nat):Int))):=by
 obtain⟨d,e,rfl⟩:∃d,qc p (k+1) "_law_moves" [ln N,.int n,.int q]=.ok d/\d=.lst ((gd m ts n q).map λg=>D.int ((mv n g q:Nat):Int)):=by
  refine fE (k:=k) (τ:=[some (ln N),some (.int n),some (.int q),none,none,none]) hf rfl rfl ?_;refine qo (σ:=LM N n q [] none none) (by rfl) ?_;have hl:=hN.len;refine eV (ds:=(List.range' 0 N.length).map λ(g:Nat)=>.tup [.int (g:Int),.int ((N.getD g 0:Nat):Int)]) (λr σ=>∃(j:Nat) (v4 v5:Option D),j<=N.length/\(r=(List.range' j (N.length-j)).map λ(g:Nat)=>.tup [.int (g:Int),.int ((N.getD g 0:Nat):Int)])/\σ=LM N n q ((aX j).filter λg=>n.testBit g&&near ts g q) v4 v5) (by have:=vR N 0;simp only[Nat.sub_zero]at this;simp[KG.Z,LM,this]) ⟨0,none,none,by lia,rfl,rfl⟩ ?_ ?_
  ·rintro x r σ ⟨j,v4,v5,hj,er,rfl⟩;by_cases Kj:j=N.length
   ·subst Kj;simp at er
   ·have ej:N.length-j=(N.length-(j+1))+1:=by lia
    have G7:j<N.length:=by lia
    rw[ej,List.range'_succ,aJ]at er;injection er with e1 e2
    subst e1 e2;have eg:N.getD j 0=N[j]:=by simp[G7]
    rw[eg];have I0:=hN.bit j G7 q;generalize N[j]=J at *;generalize Le:ln N=LN at *;have hlen:(((aX j).filter λg=>n.testBit g&&near ts g q).map λg=>D.int ((mv n g q:Nat):Int)).length<SZ:=by
     have:=List.length_filter_le (λg=>n.testBit g&&near ts g q) (aX j);simp only[aV,SZ];simp at this;lia
    have hR:=Az ts n q j;generalize hA:(aX j).filter (λg=>n.testBit g&&near ts g q)=A at *;refine⟨[some LN,some (.int n),some (.int q),some (.lst (A.map λg=>D.int ((mv n g q:Nat):Int))),some (.int (j:Int)),some (.int (J:Nat))],by rw[<-Le];rfl,?_⟩;have e2:qk .eq (.int (cM ((n:Int)/2^j) 1)) (.int 1)=.ok (n.testBit j):=by
     rw[jV n j,eq_int];cases n.testBit j<;>rfl
    have e3:qk .eq (.int (cM ((J:Int)/2^q) 1)) (.int 1)=.ok (J.testBit q):=by
     rw[jV J q,eq_int];cases J.testBit q<;>rfl
    refine dO (K:=λσ=>σ=[some LN,some (.int n),some (.int q),some (.lst (((aX (j+1)).filter λg=>n.testBit g&&near ts g q).map λg=>D.int ((mv n g q:Nat):Int))),some (.int (j:Int)),some (.int (J:Nat))]) ?_ ?_
    ·refine iu (v:=n.testBit j&&J.testBit q) ?_ (λz=>?_) λz=>zt ?_
     ·generalize J.testBit q=Z2 at *;generalize n.testBit j=Z1 at *;generalize A.map (λg=>D.int ((mv n g q:Nat):Int))=AA at *;cases Z1<;>simp[KG.Z,op2,e2,e3]
     ·rw[hR,<-I0,z,if_pos rfl,List.map_append];have s1:op2 .shl (.int 1) (.int (j:Int))=.ok (.int ((2^j:Nat):Int)):=by
       show opI .shl 1 (j:Int)=_;rw[iI j (by lia) (by lia),ja];simp
      have s2:op2 .shl (.int 1) (.int (q:Int))=.ok (.int ((2^q:Nat):Int)):=by
       show opI .shl 1 (q:Int)=_;rw[iI q (by lia) (by lia),ja];simp
      have s3:op2 .bxor (.int (n:Int)) (.int ((2^j:Nat):Int))=.ok (.int ((n ^^^ 2^j:Nat):Int)):=by
       show R.ok (D.int (PySem.Builtin.bitXor _ _))=_;rw[Dp hn (by lia)]
      have s4:op2 .bor (.int ((n ^^^ 2^j:Nat):Int)) (.int ((2^q:Nat):Int))=.ok (.int ((mv n j q:Nat):Int)):=by
       show R.ok (D.int (PySem.Builtin.bitOr _ _))=_;rw[mK];rfl
      have e5:evE (wAt p k) (.op .bor (.op .bxor (.var 1) (.op .shl (.con (.int 1)) (.var 4))) (.op .shl (.con (.int 1)) (.var 2))) [some LN,some (.int n),some (.int q),some (.lst (A.map λg=>D.int ((mv n g q:Nat):Int))),some (.int (j:Int)),some (.int (J:Nat))]=.ok (.int ((mv n j q:Nat):Int)):=by
       generalize A.map (λg=>D.int ((mv n g q:Nat):Int))=AA at *;generalize ((mv n j q:Nat):Int)=Z4 at *;generalize ((n ^^^ 2^j:Nat):Int)=Z3 at *;generalize ((2^j:Nat):Int)=Z1 at *;generalize ((2^q:Nat):Int)=Z2 at *;simp[KG.Z,s1,s2,s3,s4]
      refine qo (σ:=[some LN,some (.int n),some (.int q),some (.lst ((A.map λg=>D.int ((mv n g q:Nat):Int))++[D.int ((mv n j q:Nat):Int)])),some (.int (j:Int)),some (.int (J:Nat))]) ?_ (zt rfl);rw[cA];show (R.out (evE _ _ _) _)=_;rw[e5];simp only[R.out_ok];rw[if_pos hlen];rfl
     ·rw[hR,<-I0,z];simp
    ·rintro _ rfl;refine zt ⟨j+1,some (.int (j:Int)),some (.int (J:Nat)),by lia,rfl,?_⟩;rw[<-Le]
  ·rintro σ ⟨j,v4,v5,hj,er,rfl⟩;have:j=N.length:=by
    have:=congrArg List.length er;simp at this;lia
   subst this;rw[hl];exact eC (d:=.lst ((gd m ts n q).map λg=>D.int ((mv n g q:Nat):Int))) (by rw[qX];rfl) rfl
 exact e
noncomputable def isU(m:Int)(j n:Nat):Bool:=decide (n<2^m.toNat)&&decide ((bs m n).length=j)
theorem bW{m:Int}{j n:Nat}:isU m j n=true↔n<2^m.toNat/\(bs m n).length=j:=by simp[isU]
noncomputable def fr(m:Int)(n:Nat):List Nat:=(aX m.toNat).filter λq=>!n.testBit q
theorem i6{m:Int}{n q:Nat}:q∈fr m n↔q<m.toNat/\n.testBit q=false:=by simp[fr]
theorem um{m:Int}{ts:List (Int×Int)}{n q g:Nat}:g∈gd m ts n q↔g<m.toNat/\n.testBit g=true/\near ts g q=true:=by simp[gd]
theorem oW{α:Type} [DecidableEq α]{x:α}:∀{l:List α},l.Nodup->x∈l->(l.filter λy=>!decide (y=x)).length+1=l.length
 | [],_,h=>by cases h
 |a::l,hn,h=>by
  rw[List.nodup_cons]at hn;rw[cP];by_cases e:a=x
  ·subst e;have:(l.filter λy=>!decide (y=a))=l:=List.filter_eq_self.mpr λy hy=>by simpa using λz:y=a=>hn.1 (z▸hy)
   simp[this]
  ·have hx:x∈l:=(aM.mp h).resolve_left λz=>e z.symm
   have:=oW hn.2 hx;simp only[e,decide_false,Bool.not_false,if_true,b_];rw[this]
theorem vM(m:Int)(n:Nat):(bs m n).Nodup:=((sE m).imp λh=>by lia).filter _
theorem Cq{m:Int}{n g q:Nat}(hn:n<2^m.toNat)(hg:g<m.toNat)(hq:q<m.toNat):mv n g q<2^m.toNat:=by
 have h1:2^g<2^m.toNat:=Nat.pow_lt_pow_right (by decide) hg;have h2:2^q<2^m.toNat:=Nat.pow_lt_pow_right (by decide) hq;exact Nat.or_lt_two_pow (Nat.xor_lt_two_pow hn h1) h2
theorem jO{m:Int}(hm:m<=8){ts:List (Int×Int)}{j n g q:Nat}(hn:isU m j n=true)(hq:q∈fr m n)(hg:g∈gd m ts n q):isU m j (mv n g q)=true:=by
 obtain⟨n1,n2⟩:=bW.mp hn;obtain⟨q1,q2⟩:=i6.mp hq;obtain⟨g1,g2,_⟩:=um.mp hg;refine bW.mpr ⟨Cq n1 g1 q1,?_⟩;have e:=oW (vM m n) (x:=(g:Int)) (fo.mpr ⟨⟨by lia,by lia⟩,by simpa using g2⟩);rw[<-m9 hm (by lia) g2 q2,(sortI_perm _).length_eq,di,List.length_singleton,e,n2]
noncomputable def bad(m:Int)(ts:List (Int×Int))(E:Nat->Bool)(n:Nat):Bool:=(fr m n).any λq=>(gd m ts n q).all λg=>E (mv n g q)
theorem vy{m:Int}(hm:m<=8){ts:List (Int×Int)}{j n:Nat}{E E':Nat->Bool}(hn:isU m j n=true)(h:∀x,isU m j x=true->E x=E' x):bad m ts E n=bad m ts E' n:=by
 unfold bad;rw[Bool.eq_iff_iff,bK,bK];have key:∀q∈fr m n,((gd m ts n q).all λg=>E (mv n g q))=(gd m ts n q).all λg=>E' (mv n g q):=λq hq=>by
  rw[Bool.eq_iff_iff,bS,bS];exact⟨λz g hg=>h _ (jO hm hn hq hg)▸z g hg,λz g hg=>(h _ (jO hm hn hq hg)).symm▸z g hg⟩
 exact⟨λ⟨q,hq,z⟩=>⟨q,hq,key q hq▸z⟩,λ⟨q,hq,z⟩=>⟨q,hq,(key q hq).symm▸z⟩⟩
noncomputable def dy(m:Int)(ts:List (Int×Int))(j:Nat):Nat->Nat->Option Nat
 | 0,_=>none
 |r+1,n=>match dy m ts j r n with
  |some d=>some d
  |none=>if isU m j n&&bad m ts (λx=>(dy m ts j r x).isSome) n then some r else none
noncomputable def nw(m:Int)(ts:List (Int×Int))(j r n:Nat):Bool:=(dy m ts j r n).isNone&&bad m ts (λx=>(dy m ts j r x).isSome) n
theorem fP{m:Int}{ts:List (Int×Int)}{j r n:Nat}(h:isU m j n=true):dy m ts j (r+1) n=if nw m ts j r n then some r else dy m ts j r n:=by
 rw[dy,nw,h];cases dy m ts j r n<;>simp
def Stop(m:Int)(ts:List (Int×Int))(j r:Nat):Prop:=∀n,isU m j n=true->nw m ts j r n=false
structure Last(m:Int)(ts:List (Int×Int))(j R:Nat):Prop where
 stop:Stop m ts j R
 go:∀s,s<R->¬ Stop m ts j s
theorem Last.uniq{m:Int}{ts:List (Int×Int)}{j R R':Nat}(a:Last m ts j R)(b:Last m ts j R'):R=R':=by
 rcases Nat.lt_trichotomy R R' with h|h|h
 ·exact absurd a.stop (b.go _ h)
 ·exact h
 ·exact absurd b.stop (a.go _ h)
structure ck(m:Int)(L:List Nat):Prop where
 eq:zL (subs m.toNat)=L.map (bs m)
 mem:∀n,n∈L↔n<2^m.toNat
 nd:L.Nodup
theorem fR{α β:Type}{f:α->β}:∀{l:List α},(∀a∈l,∀b∈l,f a=f b->a=b)->l.Nodup->(l.map f).Nodup
 | [],_,_=>.nil
 |a::l,h,hn=>by
  rw[List.nodup_cons]at hn;rw[aJ,List.nodup_cons];refine⟨λz=>?_,fR (λx hx y hy=>h x (aO _ hx) y (aO _ hy)) hn.2⟩;obtain⟨b,hb,e⟩:=aN.mp z;exact hn.1 (h b (aO _ hb) a aL e▸hb)
theorem o7{α β:Type}{f:α->β}:∀{l:List α},(l.map f).Nodup->l.Nodup
 | [],_=>.nil
 |a::l,h=>by
  rw[aJ,List.nodup_cons]at h;exact List.nodup_cons.mpr ⟨λz=>h.1 (aN.mpr ⟨a,z,rfl⟩),o7 h.2⟩
theorem fH{m:Int}(h1:1<=m)(h2:m<=8){n n':Nat}(h:n<2^m.toNat)(h':n'<2^m.toNat)(e:bs m n=bs m n'):n=n':=by
 have a:=kE m h1 h2 n h;have b:=kE m h1 h2 n' h';rw[e,b]at a;lia
theorem sZ{m:Int}(h1:1<=m)(h2:m<=8):∃L,ck m L:=by
 have key:∀l:List (List Int),(∀s∈l,∃n,n<2^m.toNat/\s=bs m n)->∃L:List Nat,l=L.map (bs m)/\∀n∈L,n<2^m.toNat:=by
  intro l
  induction l with
  |nil=>intro _;exact⟨[],rfl,by simp⟩
  |cons a r ih=>
   intro h;obtain⟨n,hn,rfl⟩:=h a aL;obtain⟨L,e,hL⟩:=ih λs hs=>h s (aO _ hs)
   exact⟨n::L,by rw[e];rfl,λx hx=>(aM.mp hx).elim (λz=>z▸hn) (hL x)⟩
 obtain⟨L,e,hL⟩:=key _ λs hs=>Ai h1 h2 hs
 have MA:(subs m.toNat).Nodup:=by
  rw[kG m h1 h2];refine fR (λa ha b hb z=>fH h1 h2 (List.mem_range.mp ha) (List.mem_range.mp hb) z) List.nodup_range
 have HI:(L.map (bs m)).Nodup:=by rw[<-e];exact(f_ _).nodup_iff.mpr MA
 refine⟨L,e,λn=>⟨hL n,λhn=>?_⟩,o7 HI⟩;have:=xI h1 h2 hn;rw[e,aN]at this;obtain⟨x,hx,z⟩:=this;exact fH h1 h2 (hL x hx) hn z▸hx
theorem ck.len{m:Int}(h2:m<=8){L:List Nat}(O:ck m L):L.length<=256:=by
 have:=sub_len h2 (m:=m)
 rwa[O.eq,aV]at this
noncomputable def ks(m:Int)(L:List Nat)(j:Nat):List Nat:=L.filter λn=>decide (((bs m n).length:Int)=(j:Int))
theorem ck.ks{m:Int}{L:List Nat}(O:ck m L){j n:Nat}:n∈ks m L j↔isU m j n=true:=by
 rw[KG.ks,aS,O.mem,bW,decide_eq_true_eq];lia
noncomputable def sL(L:List (List Int)):List (List Int):=match b1 .sorted [.lst (L.map tu)]with
 | .ok (.lst xs)=>(tups? xs).getD []
 |_=>[]
theorem jB(L:List (List Int))(h:L.length<64)(h0:∀t∈L,t≠[]):b1 .sorted [.lst (L.map tu)]=.ok (.lst ((sL L).map tu))/\(sL L).Perm L:=by
 obtain⟨M,e,pm⟩:=srt L h h0;have:sL L=M:=by rw[sL,e];simp[gI]
 rw[this];exact⟨e,pm⟩
theorem Ct(ns:List Int)(a:Int):qk .notin (.int a) (.tup (ns.map D.int))=.ok (!ns.any λt=>t==a):=by
 rw[qk];simp only[seq?];rw[if_pos (by simp only[aQ,bS,aN];exact⟨rfl,λx ⟨t,_,e⟩=>e▸lH t⟩),inD,List.any_map]
 rfl
theorem oE{α:Type}(l:List α)(f:α->Bool):b1 .any [.lst (l.map λa=>D.bl (f a))]=.ok (.bl (l.any f)):=by
 rw[b1,b11];simp only[eE];rw[oy];simp only[cy];rw[List.any_map];rfl
noncomputable def hoD(m:Int)(ts:List (Int×Int)):D:=.tup ((rng m).map λa=>tu (hd m ts a))
noncomputable def ak(m:Int)(ts:List (Int×Int))(n:Nat):D:=.lst ((fr m n).map λq=>.lst ((sL (ml m ts n q)).map tu))
theorem wy{m:Int}{n q:Nat}(hq:q<m.toNat):((bs m n).any λt=>t==(q:Int))=n.testBit q:=by
 rw[Bool.eq_iff_iff,bK];simp only[beq_iff_eq,exists_eq_right,fo,Int.toNat_natCast];exact⟨λz=>z.2,λz=>⟨⟨by lia,by lia⟩,z⟩⟩
theorem j_(M:Nat):zA 0 M=(aX M).map λ(q:Nat)=>D.int (q:Int):=by simp[zA]
theorem unguarded(G:Gua p){k:Nat}{m:Int}{ts:List (Int×Int)}(h:GW m ts)(n:Nat):qc p (k+1) "unguarded" [hoD m ts,tu (bs m n)]=.ok (.lst ((fr m n).map λ(q:Nat)=>D.int (q:Int))):=by
 rw[qL G.unguarded];refine zy (τ:=[some (hoD m ts),some (tu (bs m n))]) rfl rfl ?_;have h2:=h.hi;have e1:b1 .len [hoD m ts]=.ok (.int (m.toNat:Int)):=by
  show R.ok (D.int ((((rng m).map _).length:Nat):Int))=_;rw[aV,jq]
 have hc:evE ⟨qc p k,p.glb,p.sub,p.cat⟩ (.comp (.rng (.bi .len (.cons (.var 0) .nil))) [none,none,some 1] (.nm 1) (.cmp .notin (.var 1) (.var 2)) (.var 1)) [some (hoD m ts),some (tu (bs m n))]=.ok (.lst ((fr m n).map λ(q:Nat)=>D.int (q:Int))):=by
  refine eB (l:=aX m.toNat) (f:=λ(q:Nat)=>D.int (q:Int)) (c:=[some (tu (bs m n))]) (λq=>!n.testBit q) (λ(q:Nat)=>D.int (q:Int)) ?_ (by simp[SZ];lia) rfl λq hq=>⟨?_,λ_=>rfl⟩
  ·have s1:qy (m.toNat:Int)=true:=by simp[qy];lia
   have hr:zA 0 ((m.toNat:Nat):Int).toNat=(aX m.toNat).map λ(q:Nat)=>D.int (q:Int):=by rw[Int.toNat_natCast];exact j_ _
   generalize hoD m ts=U at *;generalize tu (bs m n)=V at *;generalize ((m.toNat:Nat):Int)=Z at *;simp[KG.Z,e1,s1,hr]
  ·have e2:=Ct (bs m n) q;rw[wy (List.mem_range.mp hq)]at e2;have e2:qk .notin (.int q) (tu (bs m n))=.ok (!n.testBit q):=e2;generalize tu (bs m n)=V at *;simp[KG.Z,e2]
 show qh _ (.cons (.ret _) .nil) _=_;rw[qh,zz,hc];rfl
theorem yR{m:Int}{ts:List (Int×Int)}{q:Nat}(hq:q<m.toNat):ixD (hoD m ts) (.int (q:Int))=.ok (tu (hd m ts q)):=by
 have hl:q<((rng m).map λa=>tu (hd m ts a)).length:=by rw[aV,jq];exact hq
 show (match atI ((rng m).map λa=>tu (hd m ts a)) (q:Int)with|some d=>R.ok d|none=>.no)=_;rw[iy hl,List.getElem_map];simp[rng]
theorem askings(G:Gua p){k:Nat}{m:Int}{ts:List (Int×Int)}(h:GW m ts)(n:Nat):qc p (k+3) "askings" [hoD m ts,tu (bs m n)]=.ok (ak m ts n):=by
 rw[qL G.askings];refine zy (τ:=[some (hoD m ts),some (tu (bs m n))]) rfl rfl ?_;have h2:=h.hi;have e1:=unguarded G (k:=k+1) h n;have hc:evE ⟨qc p (k+2),p.glb,p.sub,p.cat⟩ (.comp (.seq (.call "unguarded" (.cons (.var 0) (.cons (.var 1) .nil)))) [none,none,some 0,some 1] (.nm 1) .yes (.call "moves_to" (.cons (.ix (.var 2) (.var 1)) (.cons (.var 3) (.cons (.var 1) .nil))))) [some (hoD m ts),some (tu (bs m n))]=.ok (ak m ts n):=by
  rw[ak];refine gW (f:=λ(q:Nat)=>D.int (q:Int)) (c:=[some (hoD m ts),some (tu (bs m n))]) _ (dw ?_) ?_ rfl λq hq=>?_
  ·generalize hoD m ts=U at *;generalize tu (bs m n)=V at *;generalize (fr m n).map (λ(q:Nat)=>D.int (q:Int))=X at *;simp[KG.Z,e1]
  ·have:(fr m n).length<=m.toNat:=a8 (List.length_filter_le _ _) (by simp);simp[SZ];lia
  ·obtain⟨q1,q2⟩:=i6.mp hq;have GN:((q:Nat):Int)<m:=by lia
   have e3:=yR (ts:=ts) q1;have e4:=moves_to G (k:=k) h GN q2 (jB _ (by have:=iM m h2 ts n q;lia) (j8 GN)).1;show evE _ _ [none,some (.int (q:Int)),some (hoD m ts),some (tu (bs m n))]=.ok (.lst ((sL (ml m ts n q)).map tu));generalize hoD m ts=U at *;generalize tu (bs m n)=V at *;generalize tu (hd m ts q)=X at *;generalize (sL (ml m ts n q)).map tu=Y at *;simp[KG.Z,e3,e4]
 show qh _ (.cons (.ret _) .nil) _=_;rw[qh,zz,hc];rfl
theorem somes_of(G:Gua p){k:Nat}{m:Int}{t:D}(h1:1<=m)(h2:m<=8){L:List Nat}(O:ck m L)(j:Nat):qc p (k+2) "somes_of" [.tup [.int m,t],.int (j:Int)]=.ok (.lst ((ks m L j).map λn=>tu (bs m n))):=by
 rw[qL G.somes_of];refine zy (τ:=[some (.tup [.int m,t]),some (.int j)]) rfl rfl ?_;have e1:=El G.all_some (k:=k) (t:=t) h1 h2;have hc:evE ⟨qc p (k+1),p.glb,p.sub,p.cat⟩ (.comp (.seq (.call "all_some" (.cons (.var 0) .nil))) [none,none,some 1] (.nm 1) (.cmp .eq (.bi .len (.cons (.var 1) .nil)) (.var 2)) (.var 1)) [some (.tup [.int m,t]),some (.int j)]=.ok (.lst ((ks m L j).map λn=>tu (bs m n))):=by
  refine eB (l:=L) (f:=λn=>tu (bs m n)) (c:=[some (.int j)]) (λn=>decide (((bs m n).length:Int)=(j:Int))) (λn=>tu (bs m n)) (dw ?_) (by have:=O.len h2;simp[SZ];lia) rfl λn hn=>⟨?_,λ_=>rfl⟩
  ·rw[O.eq,bh]at e1;have e1:qc p (k+1) "all_some" [.tup [.int m,t]]=.ok (.lst (L.map λn=>tu (bs m n))):=e1;generalize D.tup [.int m,t]=U at *;generalize L.map (λn=>tu (bs m n))=X at *;simp[KG.Z,e1]
  ·have e2:=lY (bs m n);have e3:=eq_int ((bs m n).length:Int) (j:Int);generalize ((bs m n).length:Int)=Z at *;generalize tu (bs m n)=V at *;simp[KG.Z,e2,e3]
 show qh _ (.cons (.ret _) .nil) _=_;rw[qh,zz,hc];rfl
theorem rj{α:Type}{w:W}{it:It}{cap:List (Option Nat)}{ke ve:E}{τ c:Env}{l:List α}{f:α->D}(kf:α->List Int)(g:α->D)(h:evI w it τ=.ok (l.map f))(hz:l.length<=SZ)(hc:dh cap τ=none::none::c)
  (hb:∀a∈l,evE w ke (none::some (f a)::c)=.ok (tu (kf a))/\evE w ve (none::some (f a)::c)=.ok (g a)) (nd:(l.map kf).Nodup):evE w (.dcm it cap (.nm 1) .yes ke ve) τ=.ok (.dct (l.map kf) (l.map g)):=by
 have key:∀(r pr:List α) (v:Option D),pr++r=l->dt (λx σ=>noEx ((store (.nm 1) x σ).bind λσ'=>(evT w .yes σ').bind λr=>if r then (evE w ke σ').bind λy=>(evE w ve σ').bind λd=>fm y λq=>.ok (σ',[(q,d)])else .ok (σ',[]))) (r.map f) (none::v::c) (pr.map kf) (pr.map g)=.ok (l.map kf,l.map g):=by
  intro r
  induction r with
  |nil=>intro pr v e;rw[cb]at e;subst e;rfl
  |cons x r ih=>
   intro pr v e;have hx:x∈l:=by rw[<-e];simp
   obtain⟨h1,h2⟩:=hb x hx;rw[aJ,dt];have e1:noEx ((store (.nm 1) (f x) (none::v::c)).bind λσ'=>(evT w .yes σ').bind λr=>if r then (evE w ke σ').bind λy=>(evE w ve σ').bind λd=>fm y λq=>.ok (σ',[(q,d)])else .ok (σ',[]))=.ok (none::some (f x)::c,[(kf x,g x)]):=by
    show noEx ((evE w ke (none::some (f x)::c)).bind λy=>(evE w ve (none::some (f x)::c)).bind λd=>fm y λq=>R.ok ((none::some (f x)::c,[(q,d)]):Env×List (List Int×D)))=_;rw[h1,h2];simp only[R.bind_ok,fm,ints_map,cy,noEx]
   rw[e1];simp only[R.bind_ok,WD.zH,WD.zE];have hn:((pr.map kf).any λy=>decide (y=kf x))=false:=by
    rw[List.any_eq_false];intro y hy z;have z:y=kf x:=of_decide_eq_true z;rw[<-e,List.map_append,aJ,List.nodup_append]at nd;exact nd.2.2 y hy (kf x) aL z
   rw[WD.zK,WD.zT,hn];simp only[bp,if_false];have:=ih (pr++[x]) (some (f x)) (by rw[<-e];simp);rw[List.map_append,List.map_append]at this;exact this
 show ((evI w it τ).bind _)=_;rw[h];simp only[R.bind_ok];rw[if_neg (by simp;lia),hc];have:=key l [] none rfl;show (R.bind (dt _ (l.map f) (none::none::c) ([].map kf) ([].map g)) _)=_;rw[this]
 rfl
theorem o_{α:Type}{f:Nat->List Int}{g:Nat->α}:∀{l:List Nat}{a:Nat},a∈l->(∀b∈l,f b=f a->b=a)->WD.atT (l.map f) (l.map g) (f a)=some (g a)
 | [],_,h,_=>by cases h
 |b::l,a,h,hi=>by
  rw[aJ,aJ,WD.atT];by_cases e:f b=f a
  ·rw[if_pos e,hi b aL e]
  ·rw[if_neg e];exact o_ ((aM.mp h).resolve_left λz=>e (by rw[z])) λx hx=>hi x (aO _ hx)
theorem lj{α:Type}{k q:List Int}{y:α}:∀{ks:List (List Int)}{ds:List α},ks.length=ds.length->(ks.any λx=>decide (x=k))=true->WD.atT ks (WD.cK ks ds k y) q=if k=q then some y else WD.atT ks ds q
 | [],_,_,h=>by cases h
 |a::ks,[],h,_=>by cases h
 |a::ks,d::ds,hl,h=>by
  rw[WD.cK,WD.atT,WD.atT];by_cases e:a=q
  ·subst e;by_cases e2:a=k
   ·subst e2;simp
   ·have:¬ k=a:=λz=>e2 z.symm
    simp[e2,this]
  ·rw[if_neg e,if_neg e];by_cases e2:a=k
   ·subst e2;rw[if_neg e];by_cases e3:(ks.any λx=>decide (x=a))=true
    ·rw[lj (by simpa using hl) e3,if_neg e]
    ·clear h hl
     induction ks generalizing ds with
     |nil=>cases ds<;>rfl
     |cons b r ih=>
      cases ds with
      |nil=>rfl
      |cons d' ds=>
       rw[List.any_cons,bG,not_or]at e3;have hb:¬ b=a:=λz=>e3.1 (by simp[z])
       rw[WD.cK,WD.atT,WD.atT,if_neg hb,ih _ e3.2]
   ·rw[List.any_cons,bG]at h;exact lj (by simpa using hl) (h.resolve_left λz=>e2 (of_decide_eq_true z))
theorem nY{α:Type}{k q:List Int}{y:α}:∀{ks:List (List Int)}{ds:List α},ks.length=ds.length->(ks.any λx=>decide (x=k))=false->WD.atT (ks++[k]) (ds++[y]) q=if k=q then some y else WD.atT ks ds q
 | [],[],_,_=>by simp[WD.atT]
 | [],_::_,h,_=>by cases h
 |a::ks,[],h,_=>by cases h
 |a::ks,d::ds,hl,h=>by
  rw[List.any_cons,Bool.or_eq_false_iff]at h;rw[List.cons_append,List.cons_append,WD.atT,WD.atT,nY (by simpa using hl) h.2];by_cases e:a=q
  ·subst e;have:¬ k=a:=λz=>by simp[z]at h
   simp[this]
  ·simp[e]
theorem Am{α:Type}{ks:List (List Int)}{ds:List α}(hl:ks.length=ds.length)(k q:List Int)(y:α):WD.atT (WD.zK ks k) (WD.zT ks ds k y) q=if k=q then some y else WD.atT ks ds q:=by
 unfold WD.zK WD.zT;cases h:ks.any λx=>decide (x=k)with
 |true=>exact lj hl h
 |false=>exact nY hl h
theorem iR{α:Type}{k:List Int}{y:α}:∀{ks:List (List Int)}{vs:List α},(WD.cK ks vs k y).length=vs.length
 | [],_=>by simp only[WD.cK]
 |_::_,[]=>rfl
 |_::ks,_::vs=>by simp only[WD.cK,b_];rw[iR]
theorem uK{α:Type}{ks:List (List Int)}{vs:List α}{k:List Int}{y:α}(h:ks.length=vs.length):(WD.zK ks k).length=(WD.zT ks vs k y).length:=by
 unfold WD.zK WD.zT;split
 ·rw[h,iR]
 ·simp[h]
theorem jS{α:Type}{y:α}{q:List Int}:∀{ms ks:List (List Int)}{ds:List α},ks.length=ds.length ->
  (WD.zH ks (ms.zip (ms.map λ_=>y))).length=(WD.zE ks ds (ms.zip (ms.map λ_=>y))).length/\(WD.zH ks (ms.zip (ms.map λ_=>y))).length<=ks.length+ms.length /\
  WD.atT (WD.zH ks (ms.zip (ms.map λ_=>y))) (WD.zE ks ds (ms.zip (ms.map λ_=>y))) q=if q∈ms then some y else WD.atT ks ds q
 | [],ks,ds,h=>⟨h,aF _,by simp[WD.zH,WD.zE]⟩
 |m::ms,ks,ds,h=>by
  obtain⟨a,b,c⟩:=jS (y:=y) (q:=q) (ms:=ms) (uK (k:=m) (y:=y) h);have:=WD.o8 ks m;refine⟨a,a8 b (by simp;lia),?_⟩;show WD.atT (WD.zH (WD.zK ks m) (ms.zip (ms.map λ_=>y))) (WD.zE (WD.zK ks m) (WD.zT ks ds m y) (ms.zip (ms.map λ_=>y))) q=_;rw[c,Am h];by_cases e:q∈ms
  ·simp[e]
  ·by_cases e2:m=q
   ·simp[e2]
   ·have:¬ q=m:=λz=>e2 z.symm
    simp[e,e2,this]
theorem B':((aX 256).map λn=>WD.fv (bs 8 n)).Nodup:=by decide +kernel
theorem bs8{m:Int}(h1:1<=m)(h2:m<=8){n:Nat}(hn:n<2^m.toNat):bs m n=bs 8 n:=by
 refine kh (iD h2 n).lt (iD (by decide) n).lt λx=>?_
 rw[fo,fo];refine⟨λz=>⟨by lia,z.2⟩,λz=>⟨⟨z.1.1,?_⟩,z.2⟩⟩;by_cases q:x<m
 ·exact q
 ·have:n<2^x.toNat:=bA hn (Nat.pow_le_pow_right (by decide) (by lia));rw[Nat.testBit_lt_two_pow this]at z;simp at z
theorem ua{m:Int}(h1:1<=m)(h2:m<=8){l:List Nat}(nd:l.Nodup)(hl:∀n∈l,n<2^m.toNat):((l.map (bs m)).map WD.fv).Nodup:=by
 rw[bh];refine fR (λa ha b hb z=>?_) nd;have pw:=jo (m:=m.toNat) (by lia);have a1:=hl a ha;have b1:=hl b hb;have z:WD.fv (bs m a)=WD.fv (bs m b):=z;rw[bs8 h1 h2 a1,bs8 h1 h2 b1]at z;have e:∀i:Nat,i<256->((aX 256).map λn=>WD.fv (bs 8 n))[i]? = some (WD.fv (bs 8 i)):=λi hi=>by
  rw[List.getElem?_map,List.getElem?_range hi];rfl
 have e1:=e a (by lia);have e2:=e b (by lia);rw[<-z]at e2;exact(List.getElem?_inj (by simp;lia) B').mp (e1.trans e2.symm)
inductive ED(m:Int)(ts:List (Int×Int))(j r:Nat):D->Prop
 |nil:r=0->ED m ts j r (.dic [])
 |dct {kk:List (List Int)}{ds:List D}:kk.length=ds.length->kk.length<=256 * r->(∀n,isU m j n=true->WD.atT kk ds (bs m n)=(dy m ts j r n).map λ(d:Nat)=>D.int (d:Int))->ED m ts j r (.dct kk ds)
theorem ED.mem{m:Int}{ts:List (Int×Int)}{j r:Nat}{d:D}(h:ED m ts j r d){n:Nat}(hn:isU m j n=true):cW (tu (bs m n)) d=.ok (dy m ts j r n).isSome:=by
 cases h with
 |nil e=>
  subst e;show eQ (tu (bs m n)) []=_;simp only[eQ,ints_map];rfl
 |dct a b c=>
  show eQ (tu (bs m n)) _=_;simp only[eQ,ints_map];rw[<-WD.sR a,c n hn,Option.isSome_map]
noncomputable def eG(t:List Int):Nat:=((t.map λ(i:Int)=>(1:Int) * 2^i.toNat).sum).toNat
theorem pN{m:Int}(h1:1<=m)(h2:m<=8){n:Nat}(h:n<2^m.toNat):eG (bs m n)=n:=by
 rw[eG,kE m h1 h2 n h];rfl
theorem yB{α:Type}{l l':List α}(h:l.Perm l')(f:α->Bool):l.all f=l'.all f:=by
 rw[Bool.eq_iff_iff,bS,bS];exact⟨λz x hx=>z x (h.mem_iff.mpr hx),λz x hx=>z x (h.mem_iff.mp hx)⟩
theorem any_congr{α:Type}{f g:α->Bool}:∀{l:List α},(∀a∈l,f a=g a)->l.any f=l.any g
 | [],_=>rfl
 |a::l,h=>by rw[List.any_cons,List.any_cons,h a aL,any_congr λx hx=>h x (aO _ hx)]
theorem all_congr{α:Type}{f g:α->Bool}:∀{l:List α},(∀a∈l,f a=g a)->l.all f=l.all g
 | [],_=>rfl
 |a::l,h=>by rw[List.all_cons,List.all_cons,h a aL,all_congr λx hx=>h x (aO _ hx)]
theorem vH{m:Int}{ts:List (Int×Int)}{j n q:Nat}(h1:1<=m)(h2:m<=8)(hn:isU m j n=true)(hq:q∈fr m n)(E:Nat->Bool):((sL (ml m ts n q)).all λt=>E (eG t))=(gd m ts n q).all λg=>E (mv n g q):=by
 have GN:((q:Nat):Int)<m:=by have:=(i6.mp hq).1;lia
 rw[yB (jB _ (by have:=iM m h2 ts n q;lia) (j8 GN)).2,ml,List.all_map];exact all_congr λg hg=>by
  show E (eG (bs m (mv n g q)))=_;rw[pN h1 h2 (bW.mp (jO h2 hn hq hg)).1]
theorem Bg{m:Int}{ts:List (Int×Int)}{j n q:Nat}(h2:m<=8)(hn:isU m j n=true)(hq:q∈fr m n){t:List Int}(ht:t∈sL (ml m ts n q)):∃x,isU m j x=true/\t=bs m x:=by
 have GN:((q:Nat):Int)<m:=by have:=(i6.mp hq).1;lia
 have:=(jB _ (by have:=iM m h2 ts n q;lia) (j8 GN)).2.mem_iff.mp ht;rw[ml,aN]at this;obtain⟨g,hg,rfl⟩:=this;exact⟨_,jO h2 hn hq hg,rfl⟩
noncomputable def asD(m:Int)(ts:List (Int×Int))(L:List Nat)(j:Nat):D:=.dct ((ks m L j).map (bs m)) ((ks m L j).map (ak m ts))
theorem vZ{m:Int}(h1:1<=m)(h2:m<=8){ts:List (Int×Int)}{L:List Nat}(O:ck m L){j n:Nat}(hn:n∈ks m L j):ixD (asD m ts L j) (tu (bs m n))=.ok (ak m ts n):=by
 show (match ints? ((bs m n).map D.int)with
  |some k=>(match WD.atT ((ks m L j).map (bs m)) ((ks m L j).map (ak m ts)) k with|some d=>R.ok d|none=>.no)
  |none=>.no)=_
 rw[ints_map];simp only;rw[o_ hn λb hb e=>fH h1 h2 (bW.mp (O.ks.mp hb)).1 (bW.mp (O.ks.mp hn)).1 e]
theorem ending_now(G:Gua p){k:Nat}{m:Int}{ts:List (Int×Int)}(h:GW m ts){L:List Nat}(O:ck m L){j r:Nat}{d:D}(hd:ED m ts j r d):qc p (k+1) "ending_now" [asD m ts L j,d]=.ok (.lst (((ks m L j).filter (nw m ts j r)).map λn=>tu (bs m n))):=by
 rw[qL G.ending_now];refine zy (τ:=[some (asD m ts L j),some d]) rfl rfl ?_;have h1:=h.lo;have h2:=h.hi;have hc:evE ⟨qc p k,p.glb,p.sub,p.cat⟩ (.comp (.seq (.var 0)) [none,none,some 0,some 1] (.nm 1) (.and (.cmp .notin (.var 1) (.var 3)) (.val (.bi .any (.cons (.comp (.seq (.ix (.var 2) (.var 1))) [none,none,some 3] (.nm 1) .yes (.bi .all (.cons (.comp (.seq (.var 1)) [none,none,some 2] (.nm 1) .yes (.cmp .isin (.var 1) (.var 2))) .nil))) .nil)))) (.var 1)) [some (asD m ts L j),some d]=.ok (.lst (((ks m L j).filter (nw m ts j r)).map λn=>tu (bs m n))):=by
  refine eB (f:=λn=>tu (bs m n)) (c:=[some (asD m ts L j),some d]) (nw m ts j r) (λn=>tu (bs m n)) ?_ ?_ rfl λn hn=>⟨?_,λ_=>rfl⟩
  ·show R.ok (((ks m L j).map (bs m)).map λk=>D.tup (k.map D.int))=_;rw[bh];rfl
  ·have:(ks m L j).length<=256:=a8 (List.length_filter_le _ _) (O.len h2);simp only[SZ];lia
  ·have hU:=O.ks.mp hn;have e1:qk .notin (tu (bs m n)) d=.ok (!(dy m ts j r n).isSome):=by
    have:=hd.mem hU;cases hd with
    |nil e=>show ((cW _ _).bind λr=>R.ok (!r))=_;rw[this];rfl
    |dct a b c=>show ((cW _ _).bind λr=>R.ok (!r))=_;rw[this];rfl
   have e2:=vZ h1 h2 (ts:=ts) O hn;have e3:evE ⟨qc p k,p.glb,p.sub,p.cat⟩ (.bi .any (.cons (.comp (.seq (.ix (.var 2) (.var 1))) [none,none,some 3] (.nm 1) .yes (.bi .all (.cons (.comp (.seq (.var 1)) [none,none,some 2] (.nm 1) .yes (.cmp .isin (.var 1) (.var 2))) .nil))) .nil)) [none,some (tu (bs m n)),some (asD m ts L j),some d]=.ok (.bl (bad m ts (λx=>(dy m ts j r x).isSome) n)):=by
    have Fy:evE ⟨qc p k,p.glb,p.sub,p.cat⟩ (.comp (.seq (.ix (.var 2) (.var 1))) [none,none,some 3] (.nm 1) .yes (.bi .all (.cons (.comp (.seq (.var 1)) [none,none,some 2] (.nm 1) .yes (.cmp .isin (.var 1) (.var 2))) .nil))) [none,some (tu (bs m n)),some (asD m ts L j),some d]=.ok (.lst ((fr m n).map λq=>D.bl ((sL (ml m ts n q)).all λt=>(dy m ts j r (eG t)).isSome))):=by
     refine gW (f:=λq=>D.lst ((sL (ml m ts n q)).map tu)) (c:=[some d]) _ (dw ?_) ?_ rfl λq hq=>?_
     ·rw[ak]at e2;generalize asD m ts L j=A at *;generalize tu (bs m n)=V at *;generalize (fr m n).map (λq=>D.lst ((sL (ml m ts n q)).map tu))=X at *;simp[KG.Z,e2]
     ·have:(fr m n).length<=m.toNat:=a8 (List.length_filter_le _ _) (by simp);simp[SZ];lia
     ·have MC:evE ⟨qc p k,p.glb,p.sub,p.cat⟩ (.comp (.seq (.var 1)) [none,none,some 2] (.nm 1) .yes (.cmp .isin (.var 1) (.var 2))) [none,some (.lst ((sL (ml m ts n q)).map tu)),some d]=.ok (.lst ((sL (ml m ts n q)).map λt=>D.bl ((dy m ts j r (eG t)).isSome))):=by
       refine gW (f:=tu) (c:=[some d]) _ (dw rfl) ?_ rfl λt ht=>?_
       ·have GN:((q:Nat):Int)<m:=by have:=(i6.mp hq).1;lia
        rw[(jB _ (by have:=iM m h2 ts n q;lia) (j8 GN)).2.length_eq];have:=iM m h2 ts n q;simp only[SZ];lia
       ·obtain⟨x,hx,rfl⟩:=Bg h2 hU hq ht;have e4:qk .isin (tu (bs m x)) d=.ok (dy m ts j r x).isSome:=by
         have:=hd.mem hx;cases hd with
         |nil e=>exact this
         |dct a b c=>exact this
        rw[pN h1 h2 (bW.mp hx).1];generalize tu (bs m x)=V2 at *;simp[KG.Z,e4]
      have e5:=m3 (sL (ml m ts n q)) λt=>(dy m ts j r (eG t)).isSome
      generalize (sL (ml m ts n q)).map (λt=>D.bl ((dy m ts j r (eG t)).isSome))=Y at *;show (R.bind (qA _ (.cons _ .nil) _) _)=_;rw[qA,MC];simp only[R.bind_ok,qA,e5]
    have e6:=oE (fr m n) λq=>(sL (ml m ts n q)).all λt=>(dy m ts j r (eG t)).isSome
    have e7:((fr m n).any λq=>(sL (ml m ts n q)).all λt=>(dy m ts j r (eG t)).isSome)=bad m ts (λx=>(dy m ts j r x).isSome) n:=any_congr λq hq=>vH h1 h2 hU hq λx=>(dy m ts j r x).isSome
    rw[e7]at e6;generalize (fr m n).map (λq=>D.bl ((sL (ml m ts n q)).all λt=>(dy m ts j r (eG t)).isSome))=Y at *;show (R.bind (qA _ (.cons _ .nil) _) _)=_;rw[qA,Fy];simp only[R.bind_ok,qA,e6]
   rw[nw];generalize bad m ts (λx=>(dy m ts j r x).isSome) n=B at *;have e8:evT ⟨qc p k,p.glb,p.sub,p.cat⟩ (.cmp .notin (.var 1) (.var 3)) [none,some (tu (bs m n)),some (asD m ts L j),some d]=.ok (!(dy m ts j r n).isSome):=by
    generalize tu (bs m n)=V at *;generalize asD m ts L j=A at *;simp[KG.Z,e1]
   show (R.bind (evT _ _ _) _)=_;rw[e8];simp only[R.bind_ok];cases dy m ts j r n with
   |none=>
    simp only[Option.isSome_none,Bool.not_false,if_true,Option.isNone_none,Bool.true_and];show (R.bind (evE _ _ _) _)=_;rw[e3];rfl
   |some x=>rfl
 show qh _ (.cons (.ret _) .nil) _=_;rw[qh,zz,hc];rfl
theorem pU:∀l:List Nat,∀m:Int,d_ (l.map λn=>tu (bs m n))=true
 | [],_=>rfl
 |a::l,m=>by
  have e:∀s:List Int,d_ (s.map D.int)=true:=λs=>by
   induction s with
   |nil=>rfl
   |cons x r ih=>rw[aJ,d_,ih];rfl
  rw[aJ,d_,pU l m];show (d_ ((bs m a).map D.int)&&true)=true;rw[e];rfl
theorem filter_lt{α:Type}{f g:α->Bool}{x:α}:∀{l:List α},(∀a∈l,f a=true->g a=true)->x∈l->f x=false->g x=true->(l.filter f).length<(l.filter g).length
 | [],_,h,_,_=>by cases h
 |a::l,h,hx,hf,hg=>by
  have le:∀l:List α,(∀a∈l,f a=true->g a=true)->(l.filter f).length<=(l.filter g).length:=by
   intro l
   induction l with
   |nil=>intro _;exact aF _
   |cons b r ih=>
    intro h;have:=ih λx hx=>h x (aO _ hx)
    rw[cP,cP];cases e:f b with
    |true=>rw[h b aL e];simp;exact this
    |false=>cases g b<;>simp<;>lia
  have h':∀a∈l,f a=true->g a=true:=λx hx=>h x (aO _ hx)
  rw[cP,cP];rcases aM.mp hx with rfl|hx
  ·have:=le l h';rw[hf,hg];simp;lia
  ·have:=filter_lt h' hx hf hg;cases e:f a with
   |true=>rw[h a aL e];simp;exact this
   |false=>cases g a<;>simp<;>lia
theorem mh{w:W}{τ:Env}{J K:Env->Prop}{Q:D->Prop}{t:T}{b r:Ss}(I:Nat->Env->Prop){n:Nat}(h0:I n τ)(hn:n<fF)
  (ht:∀n σ,I n σ->∃v,evT w t σ=.ok v/\(v=true->∃k,n=k+1/\Ends (I k) Q (qh w b σ))/\(v=false->K σ)) (hr:∀σ,K σ->Ends J Q (qh w r σ)):Ends J Q (qh w (.cons (.while t b) r) τ):=by
 have key:∀(f n:Nat) (σ:Env),I n σ->n<f->Ends K Q (dF (λσ=>evT w t σ) (λσ=>qh w b σ) f σ):=by
  intro f
  induction f with
  |zero=>intro n σ _ h;lia
  |succ f ih=>
   intro n σ hi hf;obtain⟨v,e,a1,a2⟩:=ht n σ hi;rw[dF,e];simp only[R.out_ok];cases v with
   |false=>simp only[bp,if_false];exact a2 rfl
   |true=>
    obtain⟨k,rfl,hb⟩:=a1 rfl;simp only[if_true];cases z:qh w b σ with
    |nx σ2=>rw[z]at hb;exact ih k σ2 hb (by lia)
    |rt d=>rw[z]at hb;exact hb
    |_=>rw[z]at hb;exact hb.elim
 refine dO (K:=K) ?_ hr;have hk:=key fF n τ h0 hn;show Ends K Q (dF (λσ=>evT w t σ) (λσ=>qh w b σ) fF τ).noEx;cases z:dF (λσ=>evT w t σ) (λσ=>qh w b σ) fF τ with
 |nx σ2=>rw[z]at hk;exact hk
 |rt d=>rw[z]at hk;exact hk
 |_=>rw[z]at hk;exact hk.elim
noncomputable def cnt(m:Int)(ts:List (Int×Int))(L:List Nat)(j r:Nat):Nat:=((ks m L j).filter λn=>(dy m ts j r n).isNone).length
theorem A8{m:Int}{ts:List (Int×Int)}{L:List Nat}(O:ck m L){j r:Nat}(h:(ks m L j).filter (nw m ts j r)≠[]):cnt m ts L j (r+1)<cnt m ts L j r:=by
 obtain⟨x,hx⟩:=List.exists_mem_of_ne_nil _ h;obtain⟨x1,x2⟩:=aS.mp hx;refine filter_lt (x:=x) (λa ha z=>?_) x1 ?_ ?_
 ·rw[fP (O.ks.mp ha)]at z;split at z
  ·cases z
  ·exact z
 ·rw[fP (O.ks.mp x1),x2];rfl
 ·simp only[nw,aQ]at x2;exact x2.1
theorem tH{m:Int}{ts:List (Int×Int)}{L:List Nat}(O:ck m L){j r:Nat}(h:(ks m L j).filter (nw m ts j r)=[]):Stop m ts j r:=λn hn=>by
 have:=List.filter_eq_nil_iff.mp h n (O.ks.mpr hn)
 simpa using this
theorem uk{m:Int}{ts:List (Int×Int)}{L:List Nat}(O:ck m L){j r:Nat}(h:(ks m L j).filter (nw m ts j r)≠[]):¬ Stop m ts j r:=λz=>by
 obtain⟨x,hx⟩:=List.exists_mem_of_ne_nil _ h;obtain⟨x1,x2⟩:=aS.mp hx;rw[z x (O.ks.mp x1)]at x2;cases x2
theorem ED.upd{m:Int}(h1:1<=m)(h2:m<=8){ts:List (Int×Int)}{L:List Nat}(O:ck m L){j r:Nat}(hr:r<256){d:D}(hd:ED m ts j r d)(E8:(ks m L j).filter (nw m ts j r)≠[]){w:W}{e:E}{i:Nat}{τ:Env}(hi:zo τ i=.ok d)
  (he:evE w e τ=.ok (.dct (((ks m L j).filter (nw m ts j r)).map (bs m)) (((ks m L j).filter (nw m ts j r)).map λ_=>D.int (r:Int)))):∃d',evS w (.dupd i e) τ=.nx (τ.set i (some d'))/\ED m ts j (r+1) d':=by
 have hl:((ks m L j).filter (nw m ts j r)).length<=256:=a8 (List.length_filter_le _ _) (a8 (List.length_filter_le _ _) (O.len h2));have F4:((((ks m L j).filter (nw m ts j r)).map (bs m)).map WD.fv).Nodup:=ua h1 h2 ((O.nd.filter _).filter _) λn hn=>(bW.mp (O.ks.mp (aS.mp hn).1)).1
 have IW:(((ks m L j).filter (nw m ts j r)).map (bs m)).isEmpty=false:=by
  cases q:(ks m L j).filter (nw m ts j r)with
  |nil=>exact absurd q E8
  |cons a b=>rfl
 have IF:∀n,isU m j n=true->(bs m n∈((ks m L j).filter (nw m ts j r)).map (bs m)↔nw m ts j r n=true):=λn hn=>by
  rw[aN];constructor
  ·rintro⟨x,hx,e⟩;obtain⟨x1,x2⟩:=aS.mp hx;exact fH h1 h2 (bW.mp (O.ks.mp x1)).1 (bW.mp hn).1 e▸x2
  ·intro z;exact⟨n,aS.mpr ⟨O.ks.mpr hn,z⟩,rfl⟩
 have Gf:(((ks m L j).filter (nw m ts j r)).map λ_=>D.int (r:Int))=(((ks m L j).filter (nw m ts j r)).map (bs m)).map λ_=>D.int (r:Int):=by rw[bh];rfl
 rw[Gf]at he;have L3:(((ks m L j).filter (nw m ts j r)).map (bs m)).length<=256:=by rw[aV];exact hl
 generalize ((ks m L j).filter (nw m ts j r)).map (bs m)=ms at *;have fin:∀{kk:List (List Int)}{ds:List D},kk.length=ds.length->kk.length<=256 * r->(∀n,isU m j n=true->WD.atT kk ds (bs m n)=(dy m ts j r n).map λ(d:Nat)=>D.int (d:Int))->ED m ts j (r+1) (.dct (WD.zH kk (ms.zip (ms.map λ_=>D.int (r:Int)))) (WD.zE kk ds (ms.zip (ms.map λ_=>D.int (r:Int))))):=λ{kk ds} a b c=>by
  refine .dct (jS (q:=[]) a).1 ?_ λn hn=>?_
  ·have:=(jS (y:=D.int (r:Int)) (q:=[]) (ms:=ms) a).2.1;lia
  ·rw[(jS a).2.2,c n hn,fP hn];by_cases z:nw m ts j r n=true
   ·rw[if_pos ((IF n hn).mpr z),if_pos z];rfl
   ·rw[if_neg λy=>z ((IF n hn).mp y),if_neg z]
 cases hd with
 |nil e0=>
  subst e0;refine⟨_,?_,fin (kk:=[]) (ds:=[]) rfl (by simp) λn _=>rfl⟩;show ((zo τ i).out _)=_;rw[hi];simp only[R.out_ok];rw[he];show eX [] [] ms _ i τ=_;rw[eX,if_pos ⟨IW,λ_=>F4,by simp[SZ];lia⟩]
 | @dct kk ds a b c=>
  refine⟨_,?_,fin a b c⟩;show ((zo τ i).out _)=_;rw[hi];simp only[R.out_ok];rw[he];show eX kk ds ms _ i τ=_;rw[eX,if_pos ⟨IW,λ_=>F4,by simp only[SZ];lia⟩]
abbrev DE(m:Int)(ts:List (Int×Int))(L:List Nat)(j:Nat)(d:D)(r:Nat)(e:List Nat):Env:=[some (wb m ts),some (.int (j:Int)),some (hoD m ts),some (asD m ts L j),some d,some (.int (r:Int)),some (.lst (e.map λn=>tu (bs m n)))]
theorem days_of_ending(W:Web p)(H:Hds p)(G:Gua p){k:Nat}{m:Int}{ts:List (Int×Int)}(h:GW m ts)(j:Nat):∃R d,Last m ts j R/\ED m ts j R d/\qc p (k+6) "days_of_ending" [wb m ts,.int (j:Int)]=.ok d:=by
 have h1:=h.lo;have h2:=h.hi;obtain⟨L,O⟩:=sZ h1 h2;obtain⟨d,e,R,hR,hd⟩:∃d,qc p (k+6) "days_of_ending" [wb m ts,.int (j:Int)]=.ok d/\∃R,Last m ts j R/\ED m ts j R d:=by
  refine fE (k:=k+5) (τ:=[some (wb m ts),some (.int (j:Int)),none,none,none,none,none]) G.days_of_ending rfl rfl ?_;refine qo (σ:=[some (wb m ts),some (.int (j:Int)),some (hoD m ts),none,none,none,none]) ?_ ?_
  ·have e1:qc p (k+5) "hoods" [wb m ts]=.ok (hoD m ts):=hoods W H (k:=k) h;generalize hoD m ts=U at *;generalize wb m ts=V at *;simp[KG.Z,e1]
  have hl:(ks m L j).length<=256:=a8 (List.length_filter_le _ _) (O.len h2);refine qo (σ:=[some (wb m ts),some (.int (j:Int)),some (hoD m ts),some (asD m ts L j),none,none,none]) ?_ ?_
  ·have hc:evE (wAt p (k+5)) (.dcm (.seq (.call "somes_of" (.cons (.var 0) (.cons (.var 1) .nil)))) [none,none,some 2] (.nm 1) .yes (.var 1) (.call "askings" (.cons (.var 2) (.cons (.var 1) .nil)))) [some (wb m ts),some (.int (j:Int)),some (hoD m ts),none,none,none,none]=.ok (asD m ts L j):=by
    refine rj (f:=λn=>tu (bs m n)) (c:=[some (hoD m ts)]) (bs m) (ak m ts) (dw ?_) (by simp only[SZ];lia) rfl (λn hn=>⟨rfl,?_⟩) (fR (λa ha b hb=>fH h1 h2 (bW.mp (O.ks.mp ha)).1 (bW.mp (O.ks.mp hb)).1) (O.nd.filter _))
    ·have e1:=somes_of G (k:=k+3) (t:=.tup (ts.map prD)) h1 h2 O j;generalize hoD m ts=U at *;have e1:qc p (k+5) "somes_of" [wb m ts,.int (j:Int)]=.ok (.lst ((ks m L j).map λn=>tu (bs m n))):=e1;generalize wb m ts=V at *;generalize (ks m L j).map (λn=>tu (bs m n))=X at *;simp[KG.Z,e1]
    ·have e1:=askings G (k:=k+2) h n;generalize hoD m ts=U at *;generalize tu (bs m n)=V at *;generalize ak m ts n=X at *;simp[KG.Z,e1]
   show ((evE _ _ _).out _)=_;rw[hc];rfl
  refine qo (σ:=[some (wb m ts),some (.int (j:Int)),some (hoD m ts),some (asD m ts L j),some (.dic []),none,none]) rfl ?_;refine qo (σ:=[some (wb m ts),some (.int (j:Int)),some (hoD m ts),some (asD m ts L j),some (.dic []),some (.int ((0:Nat):Int)),none]) rfl ?_;have now:∀{r:Nat}{d:D}{v6:Option D},ED m ts j r d->evS (wAt p (k+5)) (.set (.nm 6) (.callf "ending_now" (.cons (.var 3) (.cons (.own 4) .nil)))) [some (wb m ts),some (.int (j:Int)),some (hoD m ts),some (asD m ts L j),some d,some (.int (r:Int)),v6]=.nx (DE m ts L j d r ((ks m L j).filter (nw m ts j r))):=λ{r d v6} hd=>by
   have e1:=ending_now G (k:=k+4) h O hd;have e2:=pU ((ks m L j).filter (nw m ts j r)) m;dsimp only[DE];generalize ((ks m L j).filter (nw m ts j r)).map (λn=>tu (bs m n))=X at *;generalize asD m ts L j=A at *;generalize hoD m ts=U at *;generalize wb m ts=V at *;have e3:evE (wAt p (k+5)) (.callf "ending_now" (.cons (.var 3) (.cons (.own 4) .nil))) [some V,some (.int (j:Int)),some U,some A,some d,some (.int (r:Int)),v6]=.ok (.lst X):=by
    show (R.bind (R.ok [A,d]) λds=>((wAt p (k+5)).call "ending_now" ds).bind g_)=_;simp only[R.bind_ok];rw[e1];simp only[R.bind_ok,g_,e2,if_true]
   show ((evE _ _ _).out _)=_;rw[e3];rfl
  refine qo (σ:=DE m ts L j (.dic []) 0 ((ks m L j).filter (nw m ts j 0))) (now (.nil rfl)) ?_;refine mh (K:=λσ=>∃R d,Last m ts j R/\ED m ts j R d/\σ=DE m ts L j d R []) (λx σ=>∃r d,cnt m ts L j r<=x/\r+x<=256/\ED m ts j r d/\(∀s,s<r->¬ Stop m ts j s)/\σ=DE m ts L j d r ((ks m L j).filter (nw m ts j r))) (n:=256)
   ⟨0,.dic [],a8 (List.length_filter_le _ _) hl,by lia,.nil rfl,λs hs=>by lia,rfl⟩ (by decide) ?_ ?_
  ·rintro x σ ⟨r,d,hx,MD,hd,hs,rfl⟩;by_cases E8:(ks m L j).filter (nw m ts j r)=[]
   ·refine⟨false,by rw[E8];rfl,λz=>(by cases z),λ_=>⟨r,d,⟨tH O E8,hs⟩,hd,by rw[E8]⟩⟩
   ·refine⟨true,?_,λ_=>?_,λz=>(by cases z)⟩
    ·have:((ks m L j).filter (nw m ts j r)).map (λn=>tu (bs m n))≠[]:=λz=>E8 (List.map_eq_nil_iff.mp z)
     show (R.ok (!(((ks m L j).filter (nw m ts j r)).map λn=>tu (bs m n)).isEmpty):R Bool)=_;cases q:((ks m L j).filter (nw m ts j r)).map λn=>tu (bs m n)with
     |nil=>exact absurd q this
     |cons a b=>rfl
    ·have hc:=A8 O E8;have NG:((ks m L j).filter (nw m ts j r)).length<=256:=a8 (List.length_filter_le _ _) hl;refine⟨x-1,by lia,?_⟩;obtain⟨d',u1,u2⟩:=hd.upd h1 h2 O (by lia) E8 (w:=wAt p (k+5)) (i:=4) (τ:=DE m ts L j d r ((ks m L j).filter (nw m ts j r))) (e:=.dcm (.seq (.var 6)) [none,none,some 5] (.nm 1) .yes (.var 1) (.var 2)) rfl
      (rj (f:=λn=>tu (bs m n)) (c:=[some (.int (r:Int))]) (bs m) (λ_=>D.int (r:Int)) (dw rfl) (by simp only[SZ];lia) rfl (λn hn=>⟨rfl,rfl⟩) (fR (λa ha b hb=>fH h1 h2 (bW.mp (O.ks.mp (aS.mp ha).1)).1 (bW.mp (O.ks.mp (aS.mp hb).1)).1) ((O.nd.filter _).filter _)))
     refine qo u1 ?_;refine qo (σ:=DE m ts L j d' (r+1) ((ks m L j).filter (nw m ts j r))) rfl ?_;refine qo (now u2) (zt ⟨r+1,d',by lia,by lia,u2,λs Fh=>?_,rfl⟩);by_cases e:s<r
     ·exact hs s e
     ·have:s=r:=by lia
      subst this;exact uk O E8
  ·rintro σ ⟨R,d,hR,hd,rfl⟩;exact eC rfl ⟨R,hR,hd⟩
 exact⟨R,d,hR,hd,e⟩
end
section
variable{p:Pr}
theorem v9(ns:List Int)(a:Int):qk .isin (.int a) (.lst (ns.map D.int))=.ok (ns.any λt=>t==a):=by
 rw[qk];simp only[seq?];rw[if_pos (by simp only[aQ,bS,aN];exact⟨rfl,λx ⟨t,_,e⟩=>e▸lH t⟩),inD,List.any_map]
 rfl
theorem Ac(ns:List Nat)(a:Nat):qk .isin (.int (a:Int)) (ln ns)=.ok (ns.contains a):=by
 have:=v9 (ns.map λ(x:Nat)=>(x:Int)) (a:Int);rw[bh]at this;have this:qk .isin (.int (a:Int)) (ln ns)=_:=this;rw[this]
 congr 1
 rw[Bool.eq_iff_iff,bK,List.contains_iff_mem];simp only[aN,beq_iff_eq];exact⟨λ⟨x,⟨y,hy,e⟩,e2⟩=>(show y=a by lia)▸hy,λh=>⟨_,⟨a,h,rfl⟩,rfl⟩⟩
noncomputable def hit(m:Int)(ts:List (Int×Int))(F:List Nat)(n q:Nat):Bool:=!n.testBit q&&(gd m ts n q).all λg=>!F.contains (mv n g q)
theorem yh{m:Int}{ts:List (Int×Int)}{F:List Nat}{n:Nat}:bad m ts (λx=>!F.contains x) n=(aX m.toNat).any (hit m ts F n):=by
 rw[bad,fr,List.any_filter];rfl
theorem xo(A:Lwd p){k:Nat}{m:Int}{ts:List (Int×Int)}(h1:1<=m)(h2:m<=8){N:List Nat}(hN:gy m ts N){n:Nat}(hn:n<256)(F:List Nat):qc p (k+2) "_law_answers" [ln N,.int (n:Int),ln F]=.ok (.bl (!bad m ts (λx=>!F.contains x) n)):=by
 rw[yh];obtain⟨d,e,rfl⟩:∃d,qc p (k+2) "_law_answers" [ln N,.int (n:Int),ln F]=.ok d/\d=.bl (!(aX m.toNat).any (hit m ts F n)):=by
  refine fE (k:=k+1) (τ:=[some (ln N),some (.int (n:Int)),some (ln F),none]) A._law_answers rfl rfl ?_;have e1:b1 .len [ln N]=.ok (.int (m.toNat:Int)):=by
   show R.ok (D.int (((N.map _).length:Nat):Int))=_;rw[aV,hN.len]
  refine eV (ds:=(List.range' 0 m.toNat).map λ(q:Nat)=>D.int (q:Int)) (λr σ=>∃(q0:Nat) (v3:Option D),q0<=m.toNat/\r=(List.range' q0 (m.toNat-q0)).map (λ(q:Nat)=>D.int (q:Int))/\(∀q,q<q0->hit m ts F n q=false)/\σ=[some (ln N),some (.int (n:Int)),some (ln F),v3]) ?_ ⟨0,none,bz _,rfl,λq hq=>by lia,rfl⟩ ?_ ?_
  ·have s1:qy (m.toNat:Int)=true:=by simp[qy];lia
   have hr:zA 0 ((m.toNat:Nat):Int).toNat=(List.range' 0 m.toNat).map λ(q:Nat)=>D.int (q:Int):=by rw[Int.toNat_natCast,j_,List.range_eq_range']
   generalize ln N=U at *;generalize ln F=V at *;generalize ((m.toNat:Nat):Int)=Z at *;simp[KG.Z,e1,s1,hr]
  ·rintro x r σ ⟨q0,v3,Kk,er,hh,rfl⟩;by_cases Kl:q0=m.toNat
   ·subst Kl;simp at er
   ·have ej:m.toNat-q0=(m.toNat-(q0+1))+1:=by lia
    rw[ej,List.range'_succ,aJ]at er;injection er with e3 e4
    subst e3 e4;refine⟨[some (ln N),some (.int (n:Int)),some (ln F),some (.int (q0:Int))],rfl,?_⟩;have I0:qk .eq (.int (cM ((n:Int)/2^q0) 1)) (.int 0)=.ok (!n.testBit q0):=by
     rw[jV n q0,eq_int];cases n.testBit q0<;>rfl
    have eM:=vN A._law_moves (k:=k) h2 hN (n:=n) (q:=q0) hn (by lia);have hc:evE (wAt p (k+1)) (.comp (.seq (.call "_law_moves" (.cons (.var 0) (.cons (.var 1) (.cons (.var 3) .nil))))) [none,none,some 2] (.nm 1) .yes (.cmp .isin (.var 1) (.var 2))) [some (ln N),some (.int (n:Int)),some (ln F),some (.int (q0:Int))]=.ok (.lst ((gd m ts n q0).map λg=>D.bl (F.contains (mv n g q0)))):=by
     refine gW (f:=λ(g:Nat)=>D.int ((mv n g q0:Nat):Int)) (c:=[some (ln F)]) _ (dw ?_) (by have:=lg m h2 ts n q0;simp only[SZ];lia) rfl λg _=>?_
     ·generalize ln N=U at *;generalize ln F=V at *;generalize (gd m ts n q0).map (λg=>D.int ((mv n g q0:Nat):Int))=X at *;simp[KG.Z,eM]
     ·have e5:=Ac F (mv n g q0);generalize ln F=V at *;generalize ((mv n g q0:Nat):Int)=Z at *;simp[KG.Z,e5]
    have e6:=oE (gd m ts n q0) λg=>F.contains (mv n g q0)
    have e7:evE (wAt p (k+1)) (.bi .any (.cons (.comp (.seq (.call "_law_moves" (.cons (.var 0) (.cons (.var 1) (.cons (.var 3) .nil))))) [none,none,some 2] (.nm 1) .yes (.cmp .isin (.var 1) (.var 2))) .nil)) [some (ln N),some (.int (n:Int)),some (ln F),some (.int (q0:Int))]=.ok (.bl ((gd m ts n q0).any λg=>F.contains (mv n g q0))):=by
     show (R.bind (qA _ (.cons _ .nil) _) _)=_;rw[qA,hc];simp only[R.bind_ok,qA,e6]
    have e8:hit m ts F n q0=(!n.testBit q0 && !((gd m ts n q0).any λg=>F.contains (mv n g q0))):=by
     rw[hit];congr 1;rw[Bool.eq_iff_iff];simp
    have eT:evT (wAt p (k+1)) (.and (.cmp .eq (.op .band (.op .shr (.var 1) (.var 3)) (.con (.int 1))) (.con (.int 0))) (.not (.val (.bi .any (.cons (.comp (.seq (.call "_law_moves" (.cons (.var 0) (.cons (.var 1) (.cons (.var 3) .nil))))) [none,none,some 2] (.nm 1) .yes (.cmp .isin (.var 1) (.var 2))) .nil))))) [some (ln N),some (.int (n:Int)),some (ln F),some (.int (q0:Int))]=.ok (hit m ts F n q0):=by
     rw[e8];generalize ((gd m ts n q0).any λg=>F.contains (mv n g q0))=Z2 at *;have e9:evT (wAt p (k+1)) (.cmp .eq (.op .band (.op .shr (.var 1) (.var 3)) (.con (.int 1))) (.con (.int 0))) [some (ln N),some (.int (n:Int)),some (ln F),some (.int (q0:Int))]=.ok (!n.testBit q0):=by
      generalize n.testBit q0=Z1 at *;generalize ln N=U at *;generalize ln F=V at *;simp[KG.Z,op2,I0]
     show (R.bind (evT _ _ _) _)=_;rw[e9];simp only[R.bind_ok];cases n.testBit q0 with
     |true=>rfl
     |false=>
      simp only[Bool.not_false,if_true,Bool.true_and];show (R.bind (R.bind (evE _ _ _) _) _)=_;rw[e7];rfl
    refine dO (K:=λσ=>hit m ts F n q0=false/\σ=[some (ln N),some (.int (n:Int)),some (ln F),some (.int (q0:Int))]) (iu eT (λz=>?_) λz=>zt ⟨z,rfl⟩) ?_
    ·refine eC (d:=.bl false) rfl ?_;have:(aX m.toNat).any (hit m ts F n)=true:=bK.mpr ⟨q0,List.mem_range.mpr (by lia),z⟩;rw[this];rfl
    ·rintro _ ⟨z,rfl⟩;refine zt ⟨q0+1,_,by lia,rfl,λq hq=>?_,rfl⟩;by_cases e:q<q0
     ·exact hh q e
     ·have:q=q0:=by lia
      subst this;exact z
  ·rintro σ ⟨q0,v3,Kk,er,hh,rfl⟩;have:q0=m.toNat:=by
    have:=congrArg List.length er;simp at this;lia
   subst this;refine eC (d:=.bl true) rfl ?_;have:(aX m.toNat).any (hit m ts F n)=false:=List.any_eq_false.mpr λq hq=>by rw[hh q (List.mem_range.mp hq)];simp
   rw[this];rfl
 exact e
noncomputable def us(m:Int)(j:Nat):List Nat:=(aX (2^m.toNat)).filter λn=>isU m j n
theorem dM{m:Int}{j n:Nat}:n∈us m j↔isU m j n=true:=by
 rw[us,aS,List.mem_range];exact⟨λh=>h.2,λh=>⟨(bW.mp h).1,h⟩⟩
theorem xE(kvs:List (Int×Int))(i v q:Int):atK (b9 kvs i v) q=if i=q then some v else atK kvs q:=by
 unfold b9;cases h:kvs.any λp=>decide (p.1=i)with
 |true=>
  simp only[if_true]
  induction kvs with
  |nil=>cases h
  |cons p r ih=>
   have up:∀l:List (Int×Int),atK (p::l) q=if p.1=q then some p.2 else atK l q:=λl=>by
    unfold atK;rw[List.find?_cons];by_cases e:p.1=q<;>simp[e]
   have Lf:∀l:List (Int×Int),atK ((p.1,v)::l) q=if p.1=q then some v else atK l q:=λl=>by
    unfold atK;rw[List.find?_cons];by_cases e:p.1=q<;>simp[e]
   rw[aJ];by_cases e:p.1=i
   ·rw[if_pos e,Lf,up];subst e;by_cases e2:p.1=q
    ·simp[e2]
    ·simp only[e2,if_false];by_cases e3:(r.any λx=>decide (x.1=p.1))=true
     ·rw[ih e3,if_neg e2]
     ·clear ih up Lf h
      induction r with
      |nil=>rfl
      |cons a r ih=>
       rw[List.any_cons,bG,not_or]at e3;have ha:¬ a.1=p.1:=λz=>e3.1 (by simp[z])
       rw[aJ,if_neg ha];unfold atK at ih ⊢;rw[List.find?_cons,List.find?_cons];by_cases e4:a.1=q
       ·simp[e4]
       ·simp only[e4,decide_false];exact ih e3.2
   ·rw[List.any_cons,bG]at h;rw[if_neg e,up,up,ih (h.resolve_left λz=>e (of_decide_eq_true z))];by_cases e2:p.1=q
    ·have:¬ i=q:=λz=>e (by rw[e2,z])
     simp[e2,this]
    ·simp[e2]
 |false=>
  simp only[bp,if_false];unfold atK;rw[List.find?_append];by_cases e:i=q
  ·subst e;have:kvs.find? (λp=>decide (p.1=i))=none:=List.find?_eq_none.mpr λx hx=>by
    have:=List.any_eq_false.mp h x hx;simpa using this
   rw[this];simp
  ·cases kvs.find? (λp=>decide (p.1=q))<;>simp[e]
theorem tV{kvs:List (Int×Int)}{i v:Int}{x:Int×Int}(h:x∈b9 kvs i v):x.1=i\/∃y∈kvs,x.1=y.1:=by
 unfold b9 at h;split at h
 ·obtain⟨y,hy,e⟩:=aN.mp h;split at e
  ·subst e;exact .inr ⟨y,hy,rfl⟩
  ·subst e;exact .inr ⟨y,hy,rfl⟩
 ·rcases List.mem_append.mp h with h|h
  ·exact .inr ⟨x,h,rfl⟩
  ·simp at h;exact .inl (by rw[h])
theorem CC{kvs:List (Int×Int)}{i v:Int}(h:(kvs.map (·.1)).Nodup):((b9 kvs i v).map (·.1)).Nodup:=by
 unfold b9;split
 ·have:(kvs.map λx=>if x.1=i then (x.1,v)else x).map (·.1)=kvs.map (·.1):=by
   rw[bh];exact List.map_congr_left λx _=>by simp only[Function.comp];split<;>rfl
  rw[this];exact h
 ·rename_i e
  rw[List.map_append,List.nodup_append];refine⟨h,by simp,λa ha b hb z=>?_⟩;obtain⟨x,hx,rfl⟩:=aN.mp ha;simp at hb;exact e (bK.mpr ⟨x,hx,by simp[z,hb]⟩)
theorem C7(kvs:List (Int×Int))(i v:Int):(b9 kvs i v).length<=kvs.length+1:=by
 unfold b9;split<;>simp
structure LD(m:Int)(j:Nat)(f:Nat->Option Int)(kvs:List (Int×Int)):Prop where
 get:∀n:Nat,isU m j n=true->atK kvs (n:Int)=f n
 key:∀x∈kvs,∃n:Nat,isU m j n=true/\x.1=(n:Int)
 nd:(kvs.map (·.1)).Nodup
theorem LD.put{m:Int}{j:Nat}{f:Nat->Option Int}{kvs:List (Int×Int)}(h:LD m j f kvs){n:Nat}(hn:isU m j n=true)(v:Int):LD m j (λx=>if n=x then some v else f x) (b9 kvs (n:Int) v):=
 ⟨λx hx=>by
  rw[xE,h.get x hx];by_cases e:n=x
  ·simp[e]
  ·have:¬ (n:Int)=(x:Int):=by lia
   simp[e,this],
  λx hx=>(tV hx).elim (λe=>⟨n,hn,e⟩) λ⟨y,hy,e⟩=>e▸h.key y hy,CC h.nd⟩
theorem LD.congr{m:Int}{j:Nat}{f g:Nat->Option Int}{kvs:List (Int×Int)}(h:LD m j f kvs)(e:∀n,isU m j n=true->f n=g n):LD m j g kvs:=⟨λn hn=>(h.get n hn).trans (e n hn),h.key,h.nd⟩
theorem LD.any{m:Int}{j:Nat}{f:Nat->Option Int}{kvs:List (Int×Int)}(h:LD m j f kvs){n:Nat}(hn:isU m j n=true):(kvs.any λx=>decide (x.1=(n:Int)))=(f n).isSome:=by
 rw[<-h.get n hn,atK,Option.isSome_map];rw[Bool.eq_iff_iff,List.find?_isSome,bK]
noncomputable def after(l:List Nat)(v:Int)(f:Nat->Option Int)(n:Nat):Option Int:=if n∈l then some v else f n
theorem rX{w:W}{kvs:List (Int×Int)}{m:Int}{j:Nat}{f:Nat->Option Int}{J:Env->Prop}{Q:D->Prop}{b r:Ss}{v0 v1 v2 v3 v6 v7 v4:Option D}{l:List Nat}{v:Int}{it:It}(hl:∀n∈l,isU m j n=true)(h:LD m j f kvs){B:Nat}(hB:kvs.length<=B)(hz:B+l.length<=500000)
  (hi:evI w it [v0,v1,v2,v3,v4,some (.dic kvs),v6,v7]=.ok (l.map λ(n:Nat)=>D.int (n:Int)))
  (hs:∀(kvs:List (Int×Int)) (n:Nat),kvs.length<SZ->qh w b [v0,v1,v2,some (.int (n:Int)),v4,some (.dic kvs),v6,v7]=.nx [v0,v1,v2,some (.int (n:Int)),v4,some (.dic (b9 kvs (n:Int) v)),v6,v7])
  (hr:∀kvs v3,LD m j (after l v f) kvs->kvs.length<=B+l.length->Ends J Q (qh w r [v0,v1,v2,v3,v4,some (.dic kvs),v6,v7])):Ends J Q (qh w (.cons (.for (.nm 3) it b) r) [v0,v1,v2,v3,v4,some (.dic kvs),v6,v7]):=by
 refine eV (ds:=l.map λ(n:Nat)=>D.int (n:Int)) (λrr σ=>∃(pr l2:List Nat) (kvs:List (Int×Int)) (v3:Option D),pr++l2=l/\rr=l2.map (λ(n:Nat)=>D.int (n:Int))/\LD m j (after pr v f) kvs/\kvs.length<=B+pr.length/\σ=[v0,v1,v2,v3,v4,some (.dic kvs),v6,v7]) hi ⟨[],l,kvs,v3,rfl,rfl,h.congr λn _=>by simp[after],by simpa using hB,rfl⟩ ?_ ?_
 ·rintro x t σ ⟨pr,l2,kvs,v3,el,er,hL,hK,rfl⟩;cases l2 with
  |nil=>cases er
  |cons n l2=>
   rw[aJ]at er;injection er with e1 e2
   subst e1 e2;refine⟨[v0,v1,v2,some (.int (n:Int)),v4,some (.dic kvs),v6,v7],rfl,?_⟩;have hlen:pr.length<=l.length:=by rw[<-el];simp
   rw[hs kvs n (by simp only[SZ];lia)];have hU:=hl n (by rw[<-el];simp);refine⟨pr++[n],l2,_,_,by rw[<-el];simp,rfl,(hL.put hU v).congr λx _=>?_,?_,rfl⟩
   ·simp only[after,List.mem_append,List.mem_singleton];by_cases e:n=x
    ·subst e;simp
    ·have:¬ x=n:=λz=>e z.symm
     simp[e,this]
   ·have:=C7 kvs (n:Int) v;simp;lia
 ·rintro σ ⟨pr,l2,kvs,v3,el,er,hL,hK,rfl⟩;cases l2 with
  |cons _ _=>cases er
  |nil=>
   rw[cb]at el;subst el;exact hr kvs v3 hL hK
theorem ne_nil(l:List Nat):qk .ne (ln l) (.lst [])=.ok (!l.isEmpty):=by
 have h1:∀l:List Nat,plainAll (l.map λ(x:Nat)=>D.int (x:Int))=true:=λl=>by
  induction l with
  |nil=>rfl
  |cons a r ih=>rw[aJ,plainAll,ih];rfl
 have h2:∀l:List Nat,dC (l.map λ(x:Nat)=>D.int (x:Int))=0:=λl=>by
  induction l with
  |nil=>rfl
  |cons a r ih=>rw[aJ,dC,ih];rfl
 have h3:(ln l).asks=true:=by
  show (plainAll _&&decide (dC _+1<=20))=true;rw[h1,h2];rfl
 show (if ((ln l).asks&&(D.lst []).asks)=true then R.ok (!(ln l).eqv (.lst []))else .no)=_;rw[h3];cases l<;>rfl
noncomputable def lf(m:Int)(ts:List (Int×Int))(j r:Nat):List Nat:=(us m j).filter λn=>(dy m ts j r n).isNone
theorem C9{m:Int}{ts:List (Int×Int)}{j r n:Nat}(hn:isU m j n=true):(!(lf m ts j r).contains n)=(dy m ts j r n).isSome:=by
 rw[Bool.eq_iff_iff];simp only[bR,List.contains_eq_mem,decide_eq_false_iff_not,lf,aS,dM,hn,true_and];cases dy m ts j r n<;>simp
theorem yf{m:Int}(h2:m<=8){ts:List (Int×Int)}{j r n:Nat}(hn:isU m j n=true):bad m ts (λx=>!(lf m ts j r).contains x) n=bad m ts (λx=>(dy m ts j r x).isSome) n:=vy h2 hn λ_ hx=>C9 hx
noncomputable def gn(m:Int)(ts:List (Int×Int))(j r:Nat):List Nat:=(us m j).filter (nw m ts j r)
theorem xi(m:Int)(ts:List (Int×Int))(j r:Nat):(lf m ts j r).filter (λn=>bad m ts (λx=>(dy m ts j r x).isSome) n)=gn m ts j r:=by
 rw[lf,gn,List.filter_filter]
 congr 1
 funext n;rw[nw,Bool.and_comm]
theorem EH{m:Int}(h2:m<=8)(j:Nat):(us m j).length<=256:=a8 (List.length_filter_le _ _) (by rw[List.length_range];exact jo (by lia))
noncomputable def dI(m:Int)(ts:List (Int×Int))(j r n:Nat):Option Int:=(dy m ts j r n).map λ(d:Nat)=>(d:Int)
theorem Ck{m:Int}{ts:List (Int×Int)}{j r n:Nat}(h:isU m j n=true):after (gn m ts j r) (r:Int) (dI m ts j r) n=dI m ts j (r+1) n:=by
 have e:n∈gn m ts j r↔nw m ts j r n=true:=by rw[gn,aS,dM];exact⟨λz=>z.2,λz=>⟨h,z⟩⟩
 rw[after,dI,dI,fP h];by_cases z:nw m ts j r n=true
 ·rw[if_pos (e.mpr z),if_pos z];rfl
 ·rw[if_neg λy=>z (e.mp y),if_neg z]
abbrev YE(m:Int)(ts:List (Int×Int))(j:Nat)(N:List Nat)(v3:Option D)(F:List Nat)(kvs:List (Int×Int))(g:List Nat)(r:Nat):Env:=[some (wb m ts),some (.int (j:Int)),some (ln N),v3,some (ln F),some (.dic kvs),some (ln g),some (.int (r:Int))]
noncomputable def dvo:Option Nat->Int
 |some d=>d
 |none=>-1
noncomputable def dv(m:Int)(ts:List (Int×Int))(j R n:Nat):Int:=dvo (dy m ts j R n)
theorem nD{m:Int}{ts:List (Int×Int)}{j r:Nat}:gn m ts j r=[]↔Stop m ts j r:=by
 rw[gn,List.filter_eq_nil_iff];exact⟨λh n hn=>by simpa using h n (dM.mpr hn),λh n hn=>by rw[h n (dM.mp hn)];simp⟩
theorem Ds{m:Int}{ts:List (Int×Int)}{j r:Nat}(h:gn m ts j r≠[]):(lf m ts j (r+1)).length<(lf m ts j r).length:=by
 obtain⟨x,hx⟩:=List.exists_mem_of_ne_nil _ h;obtain⟨x1,x2⟩:=aS.mp hx;refine filter_lt (x:=x) (λa ha z=>?_) x1 ?_ ?_
 ·rw[fP (dM.mp ha)]at z;split at z
  ·cases z
  ·exact z
 ·rw[fP (dM.mp x1),x2];rfl
 ·simp only[nw,aQ]at x2;exact x2.1
theorem vq(A:Lwd p){k:Nat}{m:Int}{ts:List (Int×Int)}(h:GW m ts)(j:Nat):∃R kvs,Last m ts j R/\LD m j (λn=>some (dv m ts j R n)) kvs/\kvs.length<=70000/\qc p (k+3) "_law_days" [wb m ts,.int (j:Int)]=.ok (.dic kvs):=by
 have h1:=h.lo;have h2:=h.hi;obtain⟨N,hN,eN⟩:=vE A._law_masks (k:=k+1) h;have Lg:=EH h2 j;have pw:=jo (m:=m.toNat) (by lia);obtain⟨d,e,R,kvs,hR,hK,hz,rfl⟩:∃d,qc p (k+3) "_law_days" [wb m ts,.int (j:Int)]=.ok d/\∃R kvs,Last m ts j R/\LD m j (λn=>some (dv m ts j R n)) kvs/\kvs.length<=70000/\d=.dic kvs:=by
  refine fE (k:=k+2) (τ:=[some (wb m ts),some (.int (j:Int)),none,none,none,none,none,none]) A._law_days rfl rfl ?_;refine qo (σ:=[some (wb m ts),some (.int (j:Int)),some (ln N),none,none,none,none,none]) ?_ ?_
  ·generalize ln N=U at *;generalize wb m ts=V at *;simp[KG.Z,eN]
  have Km:lf m ts j 0=us m j:=List.filter_eq_self.mpr λ_ _=>rfl
  refine qo (σ:=[some (wb m ts),some (.int (j:Int)),some (ln N),none,some (ln (lf m ts j 0)),none,none,none]) ?_ ?_
  ·rw[Km];have hc:evE (wAt p (k+2)) (.comp (.rng (.op .shl (.con (.int 1)) (.ix (.var 0) (.con (.int 0))))) [none,none,some 1,some 0] (.nm 1) (.cmp .eq (.bi .len (.cons (.call "_law_some" (.cons (.ix (.var 3) (.con (.int 0))) (.cons (.var 1) .nil))) .nil)) (.var 2)) (.var 1)) [some (wb m ts),some (.int (j:Int)),some (ln N),none,none,none,none,none]=.ok (ln (us m j)):=by
    refine eB (l:=aX (2^m.toNat)) (f:=λ(n:Nat)=>D.int (n:Int)) (c:=[some (.int (j:Int)),some (wb m ts)]) (λn=>isU m j n) (λ(n:Nat)=>D.int (n:Int)) ?_ (by rw[List.length_range];simp only[SZ];lia) rfl λn hn=>⟨?_,λ_=>rfl⟩
    ·have ME:op2 .shl (.int 1) (.int m)=.ok (.int ((2^m.toNat:Nat):Int)):=by
      show opI .shl 1 m=_;rw[iI m (by lia) (by lia),ja]
     have ex:ixD (wb m ts) (.int 0)=.ok (.int m):=rfl;have s1:qy ((2^m.toNat:Nat):Int)=true:=by simp only[qy,aQ,decide_eq_true_eq];lia
     have hr:zA 0 ((2^m.toNat:Nat):Int).toNat=(aX (2^m.toNat)).map λ(q:Nat)=>D.int (q:Int):=by rw[Int.toNat_natCast,j_]
     generalize ((2^m.toNat:Nat):Int)=Z at *;generalize (aX (2^m.toNat)).map (λ(q:Nat)=>D.int (q:Int))=X at *;generalize wb m ts=V at *;generalize ln N=U at *;simp[KG.Z,ME,ex,s1,hr]
    ·have e1:=nT A._law_some (k:=k+1) (m:=m) (by lia) h2 n;have e2:=lY (bs m n);have e3:=eq_int ((bs m n).length:Int) (j:Int);have ex:ixD (wb m ts) (.int 0)=.ok (.int m):=rfl;have e4:isU m j n=decide (((bs m n).length:Int)=(j:Int)):=by
      rw[Bool.eq_iff_iff,bW,decide_eq_true_eq];exact⟨λz=>by rw[z.2],λz=>⟨List.mem_range.mp hn,by lia⟩⟩
     rw[e4];generalize ((bs m n).length:Int)=Z at *;generalize tu (bs m n)=V2 at *;generalize wb m ts=V at *;simp[KG.Z,e1,e2,e3,ex]
   show ((evE _ _ _).out _)=_;rw[hc];rfl
  refine qo (σ:=[some (wb m ts),some (.int (j:Int)),some (ln N),none,some (ln (lf m ts j 0)),some (.dic []),none,none]) rfl ?_;have GG:∀r,(lf m ts j r).length<=256:=λr=>a8 (List.length_filter_le _ _) Lg
  have gone:∀{r:Nat}{v3 v5 v6 v7:Option D},evS (wAt p (k+2)) (.set (.nm 6) (.comp (.seq (.var 4)) [none,none,some 4,some 2] (.nm 1) (.not (.val (.call "_law_answers" (.cons (.var 3) (.cons (.var 1) (.cons (.var 2) .nil)))))) (.var 1))) [some (wb m ts),some (.int (j:Int)),some (ln N),v3,some (ln (lf m ts j r)),v5,v6,v7]=.nx [some (wb m ts),some (.int (j:Int)),some (ln N),v3,some (ln (lf m ts j r)),v5,some (ln (gn m ts j r)),v7]:=λ{r v3 v5 v6 v7}=>by
   have hc:evE (wAt p (k+2)) (.comp (.seq (.var 4)) [none,none,some 4,some 2] (.nm 1) (.not (.val (.call "_law_answers" (.cons (.var 3) (.cons (.var 1) (.cons (.var 2) .nil)))))) (.var 1)) [some (wb m ts),some (.int (j:Int)),some (ln N),v3,some (ln (lf m ts j r)),v5,v6,v7]=.ok (ln (gn m ts j r)):=by
    rw[<-xi];refine eB (l:=lf m ts j r) (f:=λ(n:Nat)=>D.int (n:Int)) (c:=[some (ln (lf m ts j r)),some (ln N)]) (λn=>bad m ts (λx=>(dy m ts j r x).isSome) n) (λ(n:Nat)=>D.int (n:Int)) (dw rfl) (by have:=GG r;simp only[SZ];lia) rfl λn hn=>⟨?_,λ_=>rfl⟩
    have hU:=dM.mp (aS.mp hn).1;have e1:=xo A (k:=k) h1 h2 hN (n:=n) (bA (bW.mp hU).1 pw) (lf m ts j r);rw[yf h2 hU]at e1;show evT _ _ [none,some (.int (n:Int)),some (ln (lf m ts j r)),some (ln N)]=_;generalize bad m ts (λx=>(dy m ts j r x).isSome) n=B at *;generalize ln (lf m ts j r)=F at *;generalize ln N=U at *;simp[KG.Z,e1]
   show ((evE _ _ _).out _)=_;rw[hc];rfl
  refine qo gone ?_;refine qo (σ:=YE m ts j N none (lf m ts j 0) [] (gn m ts j 0) 0) rfl ?_;refine mh (K:=λσ=>∃R v3 kvs,Last m ts j R/\LD m j (dI m ts j R) kvs/\kvs.length<=65536/\σ=YE m ts j N v3 (lf m ts j R) kvs [] R) (λx σ=>∃r v3 kvs,(lf m ts j r).length<=x/\r+x<=256/\LD m j (dI m ts j r) kvs/\kvs.length<=256 * r/\(∀s,s<r->¬ Stop m ts j s)/\σ=YE m ts j N v3 (lf m ts j r) kvs (gn m ts j r) r) (n:=256)
   ⟨0,none,[],GG 0,by lia,⟨λn _=>rfl,λx hx=>(by cases hx),List.nodup_nil⟩,by simp,λs hs=>by lia,rfl⟩ (by decide) ?_ ?_
  ·rintro x σ ⟨r,v3,kvs,hx,MD,hL,hK,hs,rfl⟩;have eT:evT (wAt p (k+2)) (.cmp .ne (.var 6) (.lst .nil)) (YE m ts j N v3 (lf m ts j r) kvs (gn m ts j r) r)=.ok (!(gn m ts j r).isEmpty):=ne_nil _;refine⟨_,eT,λz=>?_,λz=>?_⟩
   ·have E8:gn m ts j r≠[]:=λy=>by rw[y]at z;cases z
    have EZ:=Ds E8;refine⟨x-1,by lia,?_⟩;have NH:(gn m ts j r).length<=256:=a8 (List.length_filter_le _ _) Lg;refine rX (l:=gn m ts j r) (v:=(r:Int)) (B:=256 * r) (λn hn=>dM.mp (aS.mp hn).1) hL hK (by lia) (dw rfl) (λkvs n hz=>?_) λFI v3 HJ hK2=>?_
    ·show (match evS _ (.seti 5 (.var 3) (.var 7)) _ with | .nx σ=>qh _ .nil σ|o=>o)=_;have:evS (wAt p (k+2)) (.seti 5 (.var 3) (.var 7)) [some (wb m ts),some (.int (j:Int)),some (ln N),some (.int (n:Int)),some (ln (lf m ts j r)),some (.dic kvs),some (ln (gn m ts j r)),some (.int (r:Int))]=.nx [some (wb m ts),some (.int (j:Int)),some (ln N),some (.int (n:Int)),some (ln (lf m ts j r)),some (.dic (b9 kvs (n:Int) (r:Int))),some (ln (gn m ts j r)),some (.int (r:Int))]:=by
      show (if kvs.length<SZ then _ else _)=_;rw[if_pos hz];rfl
     rw[this];rfl
    ·have HJ:=HJ.congr λn hn=>Ck (ts:=ts) (r:=r) hn
     refine qo (σ:=YE m ts j N v3 (lf m ts j (r+1)) FI (gn m ts j r) r) ?_ ?_
     ·have hc:evE (wAt p (k+2)) (.comp (.seq (.var 4)) [none,none,some 5] (.nm 1) (.cmp .notin (.var 1) (.own 2)) (.var 1)) (YE m ts j N v3 (lf m ts j r) FI (gn m ts j r) r)=.ok (ln (lf m ts j (r+1))):=by
       have e0:lf m ts j (r+1)=(lf m ts j r).filter λn=>(dy m ts j (r+1) n).isNone:=by
        rw[lf,lf,List.filter_filter];refine List.filter_congr λn hn=>?_
        rw[fP (dM.mp hn)];split
        ·rfl
        ·cases dy m ts j r n<;>rfl
       rw[e0];refine eB (l:=lf m ts j r) (f:=λ(n:Nat)=>D.int (n:Int)) (c:=[some (.dic FI)]) (λn=>(dy m ts j (r+1) n).isNone) (λ(n:Nat)=>D.int (n:Int)) (dw rfl) (by have:=GG r;simp only[SZ];lia) rfl λn hn=>⟨?_,λ_=>rfl⟩
       have hU:=dM.mp (aS.mp hn).1;have e1:=HJ.any hU;rw[dI,Option.isSome_map]at e1;show R.ok (!(FI.any λp=>decide (p.1=(n:Int))))=_;rw[e1];cases dy m ts j (r+1) n<;>rfl
      show ((evE _ _ _).out _)=_;rw[hc];rfl
     refine qo gone ?_;refine qo (σ:=YE m ts j N v3 (lf m ts j (r+1)) FI (gn m ts j (r+1)) (r+1)) rfl (zt ⟨r+1,v3,FI,by lia,by lia,HJ,by lia,λs Fh=>?_,rfl⟩);by_cases e:s<r
     ·exact hs s e
     ·have:s=r:=by lia
      subst this;exact λy=>E8 (nD.mpr y)
   ·have he:gn m ts j r=[]:=by
     cases q:gn m ts j r with
     |nil=>rfl
     |cons a b=>rw[q]at z;cases z
    exact⟨r,v3,kvs,⟨nD.mp he,hs⟩,hL,by lia,by rw[he]⟩
  ·rintro σ ⟨R,v3,kvs,hR,hL,hK,rfl⟩;refine rX (l:=lf m ts j R) (v:=-1) (B:=65536) (λn hn=>dM.mp (aS.mp hn).1) hL hK (by have:=GG R;lia) (dw rfl) (λkvs n hz=>?_) λFI v3 HJ hK2=>?_
   ·show (match evS _ (.seti 5 (.var 3) (.neg (.con (.int 1)))) _ with | .nx σ=>qh _ .nil σ|o=>o)=_;have:evS (wAt p (k+2)) (.seti 5 (.var 3) (.neg (.con (.int 1)))) [some (wb m ts),some (.int (j:Int)),some (ln N),some (.int (n:Int)),some (ln (lf m ts j R)),some (.dic kvs),some (ln []),some (.int (R:Int))]=.nx [some (wb m ts),some (.int (j:Int)),some (ln N),some (.int (n:Int)),some (ln (lf m ts j R)),some (.dic (b9 kvs (n:Int) (-1))),some (ln []),some (.int (R:Int))]:=by
     show (if kvs.length<SZ then _ else _)=_;rw[if_pos hz];rfl
    rw[this];rfl
   ·refine eC rfl ⟨R,FI,hR,HJ.congr λn hn=>?_,by have:=GG R;lia,rfl⟩;have e:n∈lf m ts j R↔dy m ts j R n=none:=by
     rw[lf,aS,dM,Option.isNone_iff_eq_none];exact⟨λz=>z.2,λz=>⟨hn,z⟩⟩
    rw[after,dv,dI];cases q:dy m ts j R n with
    |none=>rw[if_pos (e.mpr q)];rfl
    |some x=>rw[if_neg (λz=>by rw[e.mp z]at q;cases q)];rfl
 exact⟨R,kvs,hR,hK,hz,e⟩
end
end KG
namespace K72
open EV KG
open PySem (Str)
open L2 (atI ixN ltP atK b9)
theorem Wb:Web p:=⟨by kernel_rfl,by kernel_rfl,by kernel_rfl,by kernel_rfl,by kernel_rfl,by kernel_rfl,by kernel_rfl,by kernel_rfl⟩
theorem Dr:jc p:=⟨by kernel_rfl,by kernel_rfl,by kernel_rfl⟩
theorem Ho:Hds p:=⟨by kernel_rfl,by kernel_rfl,by kernel_rfl⟩
theorem Gu:Gua p:=⟨by kernel_rfl,by kernel_rfl,by kernel_rfl,by kernel_rfl,by kernel_rfl,by kernel_rfl,by kernel_rfl,by kernel_rfl,by kernel_rfl⟩
theorem La:Lwd p:=⟨by kernel_rfl,by kernel_rfl,by kernel_rfl,by kernel_rfl,by kernel_rfl⟩
theorem xN(L:List (List Int))(h0:(∀t∈L,t≠[])\/L.length<=1):b1 .sorted [.lst (L.map tu)]=.ok (.lst ((zL L).map tu)):=by
 have big:L≠[]->cB (L.map tu)=.ok (.lst ((zL L).map tu)):=λE8=>by
  have e4:dz L=true:=by
   match L,h0 with
   | [],_=>exact absurd rfl E8
   | [_],_=>rfl
   |a::b::r,h0=>
    rcases h0 with h0|h0
    ·rw[dz,bG];right;rw[bS];intro t ht;have:=h0 t ht;cases t with
     |nil=>exact absurd rfl this
     |cons _ _=>rfl
    ·simp at h0
  rw[cB,gI];show (if dz L=true then _ else _)=_;rw[if_pos e4];rfl
 rw[jx];by_cases h:(L.map tu).length<64
 ·rw[if_pos h];cases L with
  |nil=>rfl
  |cons a r=>
   have e1:ints? ((a::r).map tu)=none:=rfl;rw[e1];dsimp only;cases e2:pairs? ((a::r).map tu)with
   |some ps=>
    have e3:=jz e2;rw[gI]at e3;injection e3 with e3
    dsimp only;rw[e3,lA,bh]
    rfl
   |none=>exact big (by simp)
 ·rw[if_neg h];exact big λz=>h (by rw[z];decide)
noncomputable def fam(m:Int)(ts:List (Int×Int))(L:List Nat)(j R:Nat):List (List Int):=((ks m L j).filter λn=>(dy m ts j R n).isNone).map (bs m)
theorem nI{m:Int}{ts:List (Int×Int)}{L:List Nat}{j R:Nat}:(fam m ts L j R).Sublist (L.map (bs m)):=(List.filter_sublist.trans List.filter_sublist).map _
theorem AN{m:Int}(h2:m<=8){ts:List (Int×Int)}{L:List Nat}(O:ck m L){j R:Nat}:(fam m ts L j R).length<=256:=a8 nI.length_le (by rw[aV];exact O.len h2)
theorem l7{m:Int}{ts:List (Int×Int)}{L:List Nat}(O:ck m L){j R:Nat}:∀s∈fam m ts L j R,s.length=j:=λs hs=>by
 obtain⟨n,hn,rfl⟩:=aN.mp hs;exact(bW.mp (O.ks.mp (aS.mp hn).1)).2
theorem wC{k:Nat}{i a b:Int}(h:a<=i/\i<=b):qc p (k+3) "need_between" [.int i,.int a,.int b]=.ok .non:=by
 have e:=is_between Wb (k:=k) i a b h;rw[qL DL];have MF:[D.int i,D.int a,D.int b].length=fS.ps:=rfl;rw[du,if_pos MF];have:qh ⟨qc p (k+2),p.glb,p.sub,p.cat⟩ fS.body ([D.int i,.int a,.int b].map some++bY (fS.N-fS.ps) none)=.nx [some (.int i),some (.int a),some (.int b)]:=by
  show qh _ fS.body [some (.int i),some (.int a),some (.int b)]=_;simp[KG.Z,fS,e]
 rw[this];rfl
theorem oM{k:Nat}{m:Int}{ts:List (Int×Int)}(h:GW m ts){L:List Nat}(O:ck m L){j R:Nat}(hj:(j:Int)<=m)(hR:Last m ts j R):qc p (k+7) "family_of" [wb m ts,.int (j:Int)]=.ok (.lst ((fam m ts L j R).map tu)):=by
 have h1:=h.lo;have h2:=h.hi;have e1:=need_web Wb (k:=k+2) h;have e2:=wC (k:=k+3) (i:=(j:Int)) (a:=0) (b:=m) ⟨by lia,hj⟩;have ex:ixD (wb m ts) (.int 0)=.ok (.int m):=rfl;obtain⟨R',d,HK,hd,e3⟩:=days_of_ending Wb Ho Gu (k:=k) h j;obtain rfl:=hR.uniq HK;have e4:=somes_of Gu (k:=k+4) (t:=.tup (ts.map prD)) h1 h2 O j;have hl:(ks m L j).length<=256:=a8 (List.length_filter_le _ _) (O.len h2);rw[qL Cr];refine zy (τ:=[some (wb m ts),some (.int (j:Int)),none]) rfl rfl ?_;have e4:qc p (k+6) "somes_of" [wb m ts,.int (j:Int)]=.ok (.lst ((ks m L j).map λn=>tu (bs m n))):=e4;refine lC (σ:=[some (wb m ts),some (.int (j:Int)),none]) (by generalize wb m ts=U at *;simp[KG.Z,e1]) ?_;refine lC (σ:=[some (wb m ts),some (.int (j:Int)),none]) (by generalize wb m ts=U at *;simp[KG.Z,e2,ex]) ?_;refine lC (σ:=[some (wb m ts),some (.int (j:Int)),some d]) (by generalize wb m ts=U at *;simp[KG.Z,e3]) ?_;have hc:evE ⟨qc p (k+6),p.glb,p.sub,p.cat⟩ (.comp (.seq (.call "somes_of" (.cons (.var 0) (.cons (.var 1) .nil)))) [none,none,some 2] (.nm 1) (.cmp .notin (.var 1) (.var 2)) (.var 1)) [some (wb m ts),some (.int (j:Int)),some d]=.ok (.lst ((fam m ts L j R).map tu)):=by
  rw[fam,bh];refine eB (f:=λn=>tu (bs m n)) (c:=[some d]) (λn=>(dy m ts j R n).isNone) (λn=>tu (bs m n)) (dw ?_) (by simp only[SZ];lia) rfl λn hn=>⟨?_,λ_=>rfl⟩
  ·generalize (ks m L j).map (λn=>tu (bs m n))=X at *;generalize wb m ts=U at *;simp[KG.Z,e4]
  ·have hU:=O.ks.mp hn;have e5:qk .notin (tu (bs m n)) d=.ok (!(dy m ts j R n).isSome):=by
    have:=hd.mem hU;cases hd with
    |nil e=>show ((cW _ _).bind λr=>EV.R.ok (!r))=_;rw[this];rfl
    |dct a b c=>show ((cW _ _).bind λr=>EV.R.ok (!r))=_;rw[this];rfl
   have e6:(dy m ts j R n).isNone = !(dy m ts j R n).isSome:=by cases dy m ts j R n<;>rfl
   rw[e6];generalize tu (bs m n)=V at *;simp[KG.Z,e5]
 rw[qh,zz,hc];rfl
theorem iV{m:Int}{ts:List (Int×Int)}(h:GW m ts)(j:Nat):∃R,Last m ts j R:=let ⟨R,_,hR,_⟩:=days_of_ending Wb Ho Gu (k:=0) h j;⟨R,hR⟩
theorem xT{m:Int}{ts:List (Int×Int)}(h:GW m ts){L:List Nat}(O:ck m L)(R:Nat):fam m ts L m.toNat R≠[]:=by
 have h1:=h.lo;have h2:=h.hi;have full:∀q,q<m.toNat->(2^m.toNat-1).testBit q=true:=λq hq=>by rw[Nat.testBit_two_pow_sub_one];simpa using hq
 have Ki:bs m (2^m.toNat-1)=rng m:=List.filter_eq_self.mpr λi hi=>full _ (by have:=gJ.mp hi;lia)
 have hU:isU m m.toNat (2^m.toNat-1)=true:=bW.mpr ⟨by have:=Nat.two_pow_pos m.toNat;lia,by rw[Ki,jq]⟩;have Hl:fr m (2^m.toNat-1)=[]:=List.filter_eq_nil_iff.mpr λq hq=>by rw[full q (List.mem_range.mp hq)];simp
 have MG:dy m ts m.toNat R (2^m.toNat-1)=none:=by
  induction R with
  |zero=>rfl
  |succ r ih=>
   rw[fP hU,nw,bad,Hl];simp[ih]
 intro z;have:bs m (2^m.toNat-1)∈fam m ts L m.toNat R:=aN.mpr ⟨_,aS.mpr ⟨O.ks.mpr hU,by rw[MG];rfl⟩,rfl⟩;rw[z]at this;cases this
structure Few(m:Int)(ts:List (Int×Int))(L:List Nat)(J:Nat)(s:List Int):Prop where
 le:(J:Int)<=m
 at_:∀R,Last m ts J R->∃r,fam m ts L J R=s::r
 no:∀j,j<J->∀R,Last m ts j R->fam m ts L j R=[]
theorem Few.len{m:Int}{ts:List (Int×Int)}(h:GW m ts){L:List Nat}(O:ck m L){J:Nat}{s:List Int}(F:Few m ts L J s):s.length=J:=by
 obtain⟨R,hR⟩:=iV h J;obtain⟨r,e⟩:=F.at_ R hR;exact l7 O s (by rw[e];exact aL)
theorem m6{k:Nat}{m:Int}{ts:List (Int×Int)}(h:GW m ts){L:List Nat}(O:ck m L):∃J s,Few m ts L J s/\qc p (k+8) "first_guards" [wb m ts]=.ok (tu s):=by
 have h1:=h.lo;have h2:=h.hi;obtain⟨d,e,J,s,F,rfl⟩:∃d,qc p (k+8) "first_guards" [wb m ts]=.ok d/\∃J s,Few m ts L J s/\d=tu s:=by
  refine fE (k:=k+7) (τ:=[some (wb m ts),none,none]) xR rfl rfl ?_;refine qo (σ:=[some (wb m ts),some (.lst []),none]) rfl ?_;refine qo (σ:=[some (wb m ts),some (.lst []),some (.int ((0:Nat):Int))]) rfl ?_;refine mh (K:=λσ=>∃J s r,Few m ts L J s/\σ=[some (wb m ts),some (.lst ((s::r).map tu)),some (.int ((J+1:Nat):Int))]) (λx σ=>(∃j,j+x=m.toNat+2/\(j:Int)<=m/\(∀i,i<j->∀R,Last m ts i R->fam m ts L i R=[])/\σ=[some (wb m ts),some (.lst []),some (.int (j:Int))])\/∃J s r,Few m ts L J s/\σ=[some (wb m ts),some (.lst ((s::r).map tu)),some (.int ((J+1:Nat):Int))]) (n:=m.toNat+2)
   (.inl ⟨0,by lia,by lia,λi hi=>by lia,rfl⟩) (by simp only[fF];lia) ?_ ?_
  ·rintro x σ (⟨j,hx,hj,hn,rfl⟩|⟨J,s,r,F,rfl⟩)
   ·refine⟨true,rfl,λ_=>⟨x-1,by lia,?_⟩,λz=>(by cases z)⟩;obtain⟨R,hR⟩:=iV h j;have e1:=oM (k:=k) h O hj hR;refine qo (σ:=[some (wb m ts),some (.lst ((fam m ts L j R).map tu)),some (.int (j:Int))]) (by generalize wb m ts=U at *;generalize (fam m ts L j R).map tu=X at *;simp[KG.Z,e1]) ?_;refine qo (σ:=[some (wb m ts),some (.lst ((fam m ts L j R).map tu)),some (.int ((j+1:Nat):Int))]) rfl (zt ?_);cases q:fam m ts L j R with
    |nil=>
     refine .inl ⟨j+1,by lia,?_,λi hi R' HK=>?_,rfl⟩
     ·by_cases z:(j:Int)=m
      ·exact absurd q (by rw[show j=m.toNat by lia];exact xT h O R)
      ·lia
     ·by_cases z:i<j
      ·exact hn i z R' HK
      ·have:i=j:=by lia
       subst this;rw[<-hR.uniq HK];exact q
    |cons s r=>exact .inr ⟨j,s,r,⟨hj,λR' HK=>⟨r,by rw[<-hR.uniq HK];exact q⟩,hn⟩,rfl⟩
   ·exact⟨false,rfl,λz=>(by cases z),λ_=>⟨J,s,r,F,rfl⟩⟩
  ·rintro σ ⟨J,s,r,F,rfl⟩;exact eC (ix0 tu s r) ⟨J,s,F,rfl⟩
 exact⟨J,s,F,e⟩
theorem Few.uniq{m:Int}{ts:List (Int×Int)}(h:GW m ts){L:List Nat}{J J':Nat}{s s':List Int}(a:Few m ts L J s)(b:Few m ts L J' s'):J=J'/\s=s':=by
 have e:J=J':=by
  rcases Nat.lt_trichotomy J J' with z|z|z
  ·obtain⟨R,hR⟩:=iV h J;obtain⟨r,q⟩:=a.at_ R hR;rw[b.no J z R hR]at q;cases q
  ·exact z
  ·obtain⟨R,hR⟩:=iV h J';obtain⟨r,q⟩:=b.at_ R hR;rw[a.no J' z R hR]at q;cases q
 subst e;obtain⟨R,hR⟩:=iV h J;obtain⟨r,q⟩:=a.at_ R hR;obtain⟨r',q'⟩:=b.at_ R hR;rw[q]at q';exact⟨rfl,(List.cons.inj q').1⟩
theorem xr{m:Int}{ts:List (Int×Int)}(h:GW m ts){L:List Nat}(O:ck m L){j R:Nat}{kvs:List (Int×Int)}(hK:LD m j (λn=>some (dv m ts j R n)) kvs)(nd:(kvs.map (·.1)).Nodup) :
  zL (((kvs.map (·.1)).filter λx=>decide ((atK kvs x).getD 0<0)).map λx=>bs m x.toNat)=fam m ts L j R:=by
 have h1:=h.lo;have h2:=h.hi;have hp:(fam m ts L j R).Perm (((kvs.map (·.1)).filter λx=>decide ((atK kvs x).getD 0<0)).map λx=>bs m x.toNat):=by
  have HI:(fam m ts L j R).Nodup:=fR (λa ha b hb=>fH h1 h2 (bW.mp (O.ks.mp (aS.mp ha).1)).1 (bW.mp (O.ks.mp (aS.mp hb).1)).1) ((O.nd.filter _).filter _);have key:∀x∈kvs.map (·.1),∃n:Nat,isU m j n=true/\x=(n:Int):=λx hx=>by
   obtain⟨y,hy,rfl⟩:=aN.mp hx;exact hK.key y hy
  have MJ:(((kvs.map (·.1)).filter λx=>decide ((atK kvs x).getD 0<0)).map λx=>bs m x.toNat).Nodup:=fR (λa ha b hb e=>by
   obtain⟨n,hn,rfl⟩:=key a (aS.mp ha).1;obtain⟨n',Ha,rfl⟩:=key b (aS.mp hb).1;rw[Int.toNat_natCast,Int.toNat_natCast]at e;rw[fH h1 h2 (bW.mp hn).1 (bW.mp Ha).1 e]) (nd.filter _)
  refine(List.perm_ext_iff_of_nodup HI MJ).mpr λs=>?_
  rw[fam,aN,aN];constructor
  ·rintro⟨n,hn,rfl⟩;obtain⟨n1,n2⟩:=aS.mp hn;have hU:=O.ks.mp n1;have hg:=hK.get n hU;refine⟨(n:Int),aS.mpr ⟨?_,?_⟩,by rw[Int.toNat_natCast]⟩
   ·have:=hK.any hU;rw[Option.isSome_some,bK]at this;obtain⟨x,hx,e⟩:=this;exact aN.mpr ⟨x,hx,of_decide_eq_true e⟩
   ·rw[hg,Option.getD_some,dv,Option.isNone_iff_eq_none.mp n2];decide
  ·rintro⟨x,hx,rfl⟩;obtain⟨x1,x2⟩:=aS.mp hx;obtain⟨n,hn,rfl⟩:=key x x1;rw[hK.get n hn,Option.getD_some,dv]at x2;refine⟨n,aS.mpr ⟨O.ks.mpr hn,?_⟩,by rw[Int.toNat_natCast]⟩;cases q:dy m ts j R n with
   |none=>rfl
   |some d=>
    rw[q]at x2;have:=of_decide_eq_true x2;have:((d:Nat):Int)<0:=this;lia
 refine(rm hp ?_).symm;have:=lP (KG.subs m.toNat);rw[O.eq]at this;exact this.sublist nI
abbrev RS(m:Int)(ts:List (Int×Int))(v2 v3 v4 v5 v6 v7:Option D):Env:=[some (wb m ts),some (.int m),v2,v3,v4,v5,v6,v7]
theorem C4(l:List (List Int)){w:W}{τ:Env}(hz:l.length<=1000){e:E}(he:evE w e τ=.ok (.lst (l.map tu))):evE w (.bi .all (.cons (.comp (.seq e) [none,none] (.nm 1) .yes (.isi (.var 1) (.ty "tuple"))) .nil)) τ=.ok (.bl true):=by
 have hc:evE w (.comp (.seq e) [none,none] (.nm 1) .yes (.isi (.var 1) (.ty "tuple"))) τ=.ok (.lst (l.map λ_=>D.bl true)):=
  gW (f:=tu) (c:=[]) _ (dw he) (by simp only[SZ];lia) rfl λs _=>rfl
 have h2:=m3 l λ_=>true
 show (EV.R.bind (qA _ (.cons _ .nil) _) _)=_;rw[qA,hc];simp only[R.bind_ok,qA,h2];simp
theorem xc{k:Nat}{m:Int}{ts:List (Int×Int)}(h:GW m ts):qc p (k+10) "_law_right" [wb m ts]=.ok (.bl true):=by
 have h1:=h.lo;have h2:=h.hi;obtain⟨L,O⟩:=sZ h1 h2;obtain⟨J,s,F,eF⟩:=m6 (k:=k+1) h O;obtain⟨J2,s2,F2,MK⟩:=m6 (k:=k) h O;obtain⟨rfl,rfl⟩:=F.uniq h F2;have IX:=F.len h O;have eW:qc p (k+9) "fewest_guards" [wb m ts]=.ok (.int (J:Int)):=by
  have e5:=lY s;rw[IX]at e5;rw[qL uh];refine zy (τ:=[some (wb m ts)]) rfl rfl ?_;generalize tu s=V at *;generalize wb m ts=U at *;simp[KG.Z,kT,MK,e5]
 have eI:cZ (wAt p (k+9)) (tu s) (.ty "tuple")=.ok (.bl true):=rfl;obtain⟨d,e,rfl⟩:∃d,qc p (k+10) "_law_right" [wb m ts]=.ok d/\d=.bl true:=by
  refine fE (k:=k+9) (τ:=[some (wb m ts),none,none,none,none,none,none,none]) Dv rfl rfl ?_;refine qo (σ:=RS m ts none none none none none none) rfl ?_;refine qo (σ:=RS m ts (some .non) none none none none none) rfl ?_;refine eV (ds:=(List.range' 0 (m.toNat+1)).map λ(q:Nat)=>D.int (q:Int)) (λr σ=>∃(q0:Nat) (v3 v4 v5 v6 v7:Option D),q0<=m.toNat+1/\r=(List.range' q0 (m.toNat+1-q0)).map (λ(q:Nat)=>D.int (q:Int))/\σ=RS m ts (some (if J<q0 then .int (J:Int)else .non)) v3 v4 v5 v6 v7) ?_ ⟨0,none,none,none,none,none,bz _,rfl,rfl⟩ ?_ ?_
  ·have s1:qy (m+1)=true:=by simp[qy];lia
   have ad:op2 .add (.int m) (.int 1)=.ok (.int (m+1)):=rfl;have hr:zA 0 (m+1).toNat=(List.range' 0 (m.toNat+1)).map λ(q:Nat)=>D.int (q:Int):=by rw[j_,List.range_eq_range',show (m+1).toNat=m.toNat+1 by lia]
   dsimp only[RS];generalize wb m ts=U at *;generalize m+1=Z at *;simp[KG.Z,ad,s1,hr]
  ·rintro x r σ ⟨j,v3,v4,v5,v6,v7,Kk,er,rfl⟩;by_cases Kl:j=m.toNat+1
   ·subst Kl;simp at er
   ·have ej:m.toNat+1-j=(m.toNat+1-(j+1))+1:=by lia
    rw[ej,List.range'_succ,aJ]at er;injection er with e3 e4
    subst e3 e4;have hj:(j:Int)<=m:=by lia
    refine⟨RS m ts (some (if J<j then .int (J:Int)else .non)) (some (.int (j:Int))) v4 v5 v6 v7,rfl,?_⟩;obtain⟨R,kvs,hR,hK,hz,eD⟩:=vq La (k:=k+6) h j;have nd:=hK.nd;have NI:=AN h2 (ts:=ts) O (j:=j) (R:=R);refine qo (σ:=RS m ts (some (if J<j then .int (J:Int)else .non)) (some (.int (j:Int))) (some (.dic kvs)) v5 v6 v7) ?_ ?_
    ·dsimp only[RS];generalize wb m ts=U at *;generalize D.dic kvs=KK at *;simp[KG.Z,eD]
    have eS:b1 .sorted [.lst ((((kvs.map (·.1)).filter λx=>decide ((atK kvs x).getD 0<0)).map λx=>bs m x.toNat).map tu)]=.ok (.lst ((fam m ts L j R).map tu)):=by
     have hd:=xr h O hK nd;rw[xN _ ?_,hd];by_cases Lh:j=0
     ·right;have e0:=(f_ (((kvs.map (·.1)).filter λx=>decide ((atK kvs x).getD 0<0)).map λx=>bs m x.toNat)).length_eq;rw[<-e0,hd];subst Lh
      match q:fam m ts L 0 R with
      | []=>simp
      | [_]=>simp
      |a::b::r=>
       have ha:=l7 O a (by rw[q];exact aL);have hb:=l7 O b (by rw[q];exact aO _ aL);have HI:(fam m ts L 0 R).Nodup:=fR (λa ha b hb=>fH h1 h2 (bW.mp (O.ks.mp (aS.mp ha).1)).1 (bW.mp (O.ks.mp (aS.mp hb).1)).1) ((O.nd.filter _).filter _);rw[q,List.nodup_cons]at HI;exact absurd (by rw[List.length_eq_zero_iff.mp ha,List.length_eq_zero_iff.mp hb];exact aL) HI.1
     ·left;intro t ht z;obtain⟨x,hx,e⟩:=aN.mp ht;obtain⟨y,hy,e2⟩:=aN.mp (aS.mp hx).1;obtain⟨n,hn,e3⟩:=hK.key y hy;have:=(bW.mp hn).2;rw[<-e2,e3,Int.toNat_natCast]at e;rw[e,z]at this;exact Lh (by simpa using this.symm)
    refine qo (σ:=RS m ts (some (if J<j then .int (J:Int)else .non)) (some (.int (j:Int))) (some (.dic kvs)) (some (.lst ((fam m ts L j R).map tu))) v6 v7) ?_ ?_
    ·have hc:evE (wAt p (k+9)) (.comp (.seq (.var 4)) [none,none,some 4,some 1] (.nm 1) (.cmp .lt (.ix (.var 2) (.var 1)) (.con (.int 0))) (.call "_law_some" (.cons (.var 3) (.cons (.var 1) .nil)))) (RS m ts (some (if J<j then .int (J:Int)else .non)) (some (.int (j:Int))) (some (.dic kvs)) v5 v6 v7)=.ok (.lst ((((kvs.map (·.1)).filter λx=>decide ((atK kvs x).getD 0<0)).map λx=>bs m x.toNat).map tu)):=by
      rw[bh];show evE _ _ _=EV.R.ok (.lst (((kvs.map (·.1)).filter λx=>decide ((atK kvs x).getD 0<0)).map λx=>tu (bs m x.toNat)));dsimp only[RS];refine eB (α:=Int) (w:=wAt p (k+9)) (cap:=[none,none,some 4,some 1]) (τ:=[some (wb m ts),some (.int m),some (if J<j then .int (J:Int)else .non),some (.int (j:Int)),some (.dic kvs),v5,v6,v7]) (l:=kvs.map (·.1)) (f:=D.int) (c:=[some (.dic kvs),some (.int m)]) (λx=>decide ((atK kvs x).getD 0<0)) (λx=>tu (bs m x.toNat)) ?_ (by rw[aV];simp only[SZ];lia) rfl λx hx=>?_
      ·show EV.R.ok (kvs.map λp=>D.int p.1)=_;rw[bh];rfl
      ·obtain⟨y,hy,rfl⟩:=aN.mp hx;obtain⟨n,hn,e3⟩:=hK.key y hy;have hg:=hK.get n hn;rw[e3];rw[hg];have a3:ixD (.dic kvs) (.int (n:Int))=.ok (.int (dv m ts j R n)):=by
        show (match atK kvs (n:Int)with|some v=>EV.R.ok (D.int v)|none=>.no)=_;rw[hg]
       have a4:qk .lt (.int (dv m ts j R n)) (.int 0)=.ok (decide (dv m ts j R n<0)):=rfl;have a5:=nT La._law_some (k:=k+8) (m:=m) (by lia) h2 n;generalize dv m ts j R n=Z at *;generalize D.dic kvs=KK at *;refine⟨?_,λ_=>?_⟩
       ·show evT _ _ [none,some (.int (n:Int)),some KK,some (.int m)]=.ok (decide (Z<0));generalize decide (Z<0)=B1 at *;simp[KG.Z,a3,a4]
       ·show evE _ _ [none,some (.int (n:Int)),some KK,some (.int m)]=.ok (tu (bs m ((n:Int)).toNat));rw[Int.toNat_natCast];generalize tu (bs m n)=V at *;simp[KG.Z,a5]
     have e2:evE (wAt p (k+9)) (.bi .sorted (.cons (.comp (.seq (.var 4)) [none,none,some 4,some 1] (.nm 1) (.cmp .lt (.ix (.var 2) (.var 1)) (.con (.int 0))) (.call "_law_some" (.cons (.var 3) (.cons (.var 1) .nil)))) .nil)) (RS m ts (some (if J<j then .int (J:Int)else .non)) (some (.int (j:Int))) (some (.dic kvs)) v5 v6 v7)=.ok (.lst ((fam m ts L j R).map tu)):=by
      show (EV.R.bind (qA _ (.cons _ .nil) _) _)=_;rw[qA,hc];simp only[EV.R.bind_ok,qA,eS]
     show ((evE _ _ _).out _)=_;rw[e2];rfl
    have Kn:=oM (k:=k+2) h O hj hR;generalize I9:fam m ts L j R=FM at *;refine eV (ds:=(rng 2).map D.int) (λr σ=>∃(l:List Int) (v6 v7:Option D),r=l.map D.int/\σ=RS m ts (some (if J<j then .int (J:Int)else .non)) (some (.int (j:Int))) (some (.dic kvs)) (some (.lst (FM.map tu))) v6 v7) rfl ⟨_,v6,v7,rfl,rfl⟩ ?_ ?_
    ·rintro x t σ ⟨l,v6,v7,e,rfl⟩;obtain⟨i,l,rfl,rfl,rfl⟩:=fx e;refine⟨RS m ts (some (if J<j then .int (J:Int)else .non)) (some (.int (j:Int))) (some (.dic kvs)) (some (.lst (FM.map tu))) (some (.int i)) v7,rfl,?_⟩;generalize (if J<j then D.int (J:Int)else .non)=Few0 at *;dsimp only[RS];generalize D.dic kvs=KK at *;refine qo (σ:=RS m ts (some Few0) (some (.int (j:Int))) (some KK) (some (.lst (FM.map tu))) (some (.int i)) (some (.lst (FM.map tu)))) ?_ ?_
     ·dsimp only[RS];generalize wb m ts=U at *;generalize D.lst (FM.map tu)=X at *;simp[KG.Z,Kn]
     refine qo (σ:=RS m ts (some Few0) (some (.int (j:Int))) (some KK) (some (.lst (FM.map tu))) (some (.int i)) (some (.lst (FM.map tu)))) ?_ ?_
     ·have eA:=C4 FM (w:=wAt p (k+9)) (τ:=RS m ts (some Few0) (some (.int (j:Int))) (some KK) (some (.lst (FM.map tu))) (some (.int i)) (some (.lst (FM.map tu)))) (by lia) (e:=.own 7) rfl;have eN:=l4 FM FM;rw[decide_eq_true rfl]at eN;have eL:cZ (wAt p (k+9)) (.lst (FM.map tu)) (.ty "list")=.ok (.bl true):=rfl;dsimp only[RS]at *;generalize wb m ts=U at *;generalize D.lst (FM.map tu)=X at *;simp[KG.Z,eN,eL,eA]
     ·refine qo (σ:=RS m ts (some Few0) (some (.int (j:Int))) (some KK) (some (.lst (FM.map tu))) (some (.int i)) (some (.lst (FM.map tu++[.tup []])))) ?_ (zt ⟨l,_,_,rfl,rfl⟩);show (if (FM.map tu).length<SZ then EV.O.nx _ else _)=_;rw[if_pos (by rw[aV];simp only[SZ];lia)];rfl
    ·rintro σ ⟨l,v6,v7,e,rfl⟩;have eN:=l4 FM [];have ML:decide (FM=[])=decide (j<J\/(J<j/\FM=[])):=by
      rw[decide_eq_decide];constructor
      ·intro z;by_cases q:j<J
       ·exact .inl q
       ·by_cases q2:J<j
        ·exact .inr ⟨q2,z⟩
        ·have:j=J:=by lia
         subst this;obtain⟨r,q3⟩:=F.at_ R hR;rw[<-I9,q3]at z;cases z
      ·rintro(q|⟨_,z⟩)
       ·rw[<-I9];exact F.no j q R hR
       ·exact z
     by_cases hJ:j=J
     ·-- the first of all
      subst hJ;obtain⟨r,q3⟩:=F.at_ R hR;rw[I9]at q3;subst q3;refine qo (σ:=RS m ts (some (.int (j:Int))) (some (.int (j:Int))) (some (.dic kvs)) (some (.lst ((s::r).map tu))) v6 v7) ?_ (zt ⟨j+1,_,_,_,_,_,by lia,rfl,by rw[if_pos (by lia)]⟩);rw[if_neg (by lia)];have e6:qk .ne (.lst ((s::r).map tu)) (.lst [])=.ok true:=by
       have:=l4 (s::r) [];rw[decide_eq_false (by simp)]at this;exact this
      have e7:ixD (.lst ((s::r).map tu)) (.int 0)=.ok (tu s):=ix0 tu s r;have e8:=Bw s s;rw[decide_eq_true rfl]at e8;have e9:qk .is .non .non=.ok true:=rfl;dsimp only[RS];generalize D.dic kvs=KK at *;generalize D.lst ((s::r).map tu)=X at *;generalize tu s=V at *;generalize wb m ts=U at *;simp[KG.Z,e6,e7,e8,e9,eF,eI]
     ·refine qo (σ:=RS m ts (some (if J<j then .int (J:Int)else .non)) (some (.int (j:Int))) (some (.dic kvs)) (some (.lst (FM.map tu))) v6 v7) ?_ (zt ⟨j+1,some (.int (j:Int)),some (.dic kvs),some (.lst (FM.map tu)),v6,v7,by lia,rfl,?_⟩)
      ·have eN:qk .ne (.lst (FM.map tu)) (.lst [])=.ok (!decide (FM=[])):=eN;by_cases q:J<j
       ·rw[if_pos q];have e9:qk .is (.int (J:Int)) .non=.ok false:=rfl;generalize (!decide (FM=[]))=B1 at *;dsimp only[RS];generalize D.dic kvs=KK at *;generalize D.lst (FM.map tu)=X at *;generalize wb m ts=U at *;cases B1<;>simp[KG.Z,eN,e9]
       ·have hF:FM=[]:=by rw[<-I9];exact F.no j (by lia) R hR
        rw[if_neg q];rw[hF,decide_eq_true rfl]at eN;rw[hF];dsimp only[RS];generalize D.dic kvs=KK at *;generalize D.lst (([]:List (List Int)).map tu)=X at *;generalize wb m ts=U at *;simp[KG.Z,eN]
      ·by_cases q:J<j
       ·rw[if_pos q,if_pos (by lia)]
       ·rw[if_neg q,if_neg (by lia)]
  ·rintro σ ⟨j,v3,v4,v5,v6,v7,Kk,er,rfl⟩;have:j=m.toNat+1:=by
    have:=congrArg List.length er;simp at this;lia
   subst this;rw[if_pos (by have:=F.le;lia)];have w1:=Be (p:=p) An (k:=k+8) (J:Int);have e9:=eq_int (J:Int) (J:Int);rw[decide_eq_true rfl]at e9;refine eC (d:=.bl true) ?_ rfl;dsimp only[RS];generalize wb m ts=U at *;generalize ((J:Nat):Int)=Z at *;simp[KG.Z,eW,w1,e9]
 exact e
noncomputable def depth:Nat:=11
structure Hyp(F:Str->List D->R D):Prop where
 hw:∀c:Int,∃ts,GW (1+c%8) ts/\F "_law_web" [.int c,.int 8]=.ok (wb (1+c%8) ts)
 hr:∀(m:Int) (ts:List (Int×Int)),GW m ts->F "_law_right" [wb m ts]=.ok (.bl true)
theorem yU{w:W}(ns:List Int)(hn:ns.length<=63)(hc:∃x:Int,w.call "_law_cell_at" [.lst (ns.map D.int),.int 0]=.ok (.int x))(H:Hyp w.call):Ends (λ_=>False) (λd=>d=.bl true) (qh w ji.body [some (.lst (ns.map D.int)),none]):=by
 have r0:w.call "_law_right" [.tup [.int 1,.tup []]]=.ok (.bl true):=H.hr 1 [] (by decide +kernel);have r1:w.call "_law_right" [.tup [.int 3,.tup [.tup [.int 0,.int 1],.tup [.int 1,.int 2]]]]=.ok (.bl true):=H.hr 3 [(0,1),(1,2)] (by decide +kernel);have r2:w.call "_law_right" [.tup [.int 5,.tup [.tup [.int 0,.int 1],.tup [.int 0,.int 4],.tup [.int 1,.int 2],.tup [.int 2,.int 3],.tup [.int 3,.int 4]]]]=.ok (.bl true):=H.hr 5 [(0,1),(0,4),(1,2),(2,3),(3,4)] (by decide +kernel);refine qo (σ:=[some (.lst (ns.map D.int)),none]) (by simp[KG.Z,r0,r1]) ?_;refine qo (σ:=[some (.lst (ns.map D.int)),none]) (by simp[KG.Z,r2]) ?_;obtain⟨cs,GQ,Gv⟩:=yb ns (some 1) (some 3);obtain⟨x,hx⟩:=hc;refine eV (ds:=(x::cs).map D.int) (λr σ=>∃(ms:List Int) (v1:Option D),r=ms.map D.int/\σ=[some (.lst (ns.map D.int)),v1]) ?_ ⟨_,none,rfl,rfl⟩ ?_ ?_
 ·have e:op2 .add (.lst [.int x]) (.lst (cs.map D.int))=.ok (.lst ((x::cs).map D.int)):=by
   rw[op2,if_pos (by simp[SZ];lia)];simp
  simp[KG.Z,slD,GQ,hx,e,seq?]
 ·rintro y t σ ⟨ms,v1,e,rfl⟩;obtain⟨c,ms,rfl,rfl,rfl⟩:=fx e;refine⟨[some (.lst (ns.map D.int)),some (.int c)],rfl,?_⟩;obtain⟨ts,g,MM⟩:=H.hw c;have hr:=H.hr _ ts g;generalize wb (1+c%8) ts=U at *;exact qo (σ:=[some (.lst (ns.map D.int)),some (.int c)]) (by simp[KG.Z,MM,hr]) (zt ⟨ms,_,rfl,rfl⟩)
 ·rintro σ ⟨ms,v1,e,rfl⟩;exact eC (d:=.bl true) (by rfl) rfl
theorem vg{F:Str->List D->R D}(ns:List Int)(hn:ns.length<=63)(hc:∃x:Int,F "_law_cell_at" [.lst (ns.map D.int),.int 0]=.ok (.int x))(H:Hyp F):du ⟨F,p.glb,p.sub,p.cat⟩ ji [.lst (ns.map D.int)]=.ok (.bl true):=by
 obtain⟨d,e,rfl⟩:=w9 (w:=⟨F,p.glb,p.sub,p.cat⟩) (f:=ji) (ds:=[.lst (ns.map D.int)]) rfl rfl (yU (w:=⟨F,p.glb,p.sub,p.cat⟩) ns hn hc H);exact e
theorem Cf:∀ns:List Int,ns.length<=63->qc p depth "law" [.lst (ns.map D.int)]=.ok (.bl true):=by
 intro ns hn;rw[show depth=10+1 from rfl,qL wU];exact vg ns hn (yl Dr._law_cell_at (k:=9) ns) ⟨λc=>yV Dr (k:=8) 8 c (by decide),λm ts g=>xc (k:=0) g⟩
end K72
namespace K72
open PySem PySem.Spec PyProof.Rows L2 EV
theorem rY:∀e∈tab,cFn G (gx us oth) e.own e.fr e.st=some e.fn:=by
 intro e he;simp only[tab,aM,dH,or_false]at he;rcases he with rfl|rfl|rfl|rfl|rfl|rfl|rfl|rfl|rfl|rfl|rfl|rfl|rfl|rfl|rfl|rfl|rfl|rfl|rfl|rfl|rfl|rfl|rfl|rfl|rfl|rfl|rfl|rfl|rfl|rfl|rfl|rfl|rfl|rfl<;>kernel_rfl
theorem vY:∀e∈us,e∈tab:=by
 intro e he;cases he
theorem Em:∀e∈us,p7 (fB oth) e.own e.fr e.st=some e.fn:=by
 intro e he;cases he
theorem nd:(tab.map (·.x)).Nodup:=by decide +kernel
section
variable{K:aA}{h:Heap}{mg:Str->Option ae}{f0:Addr}(d0:WB.Dd K "is_whole" (top 5) f0){f1:Addr}(d1:WB.Dd K "is_between" (top 6) f1){f2:Addr}(d2:WB.Dd K "need_between" (top 7) f2){f3:Addr}(d3:WB.Dd K "is_pair" (top 8) f3){f4:Addr}(d4:WB.Dd K "rises" (top 9) f4){f5:Addr}(d5:WB.Dd K "is_web" (top 12) f5){f6:Addr}(d6:WB.Dd K "is_tie" (top 13) f6){f7:Addr}(d7:WB.Dd K "need_web" (top 14) f7){f8:Addr}(d8:WB.Dd K "hoods" (top 15) f8){f9:Addr}(d9:WB.Dd K "hood_of" (top 16) f9){HF:Addr}(I_:WB.Dd K "are_tied" (top 17) HF){MN:Addr}(Ja:WB.Dd K "mark_of" (top 19) MN){MO:Addr}(Jb:WB.Dd K "all_some" (top 20) MO){MP:Addr}(Jc:WB.Dd K "without" (top 22) MP){MQ:Addr}(Jd:WB.Dd K "family_of" (top 24) MQ){MR:Addr}(Je:WB.Dd K "fewest_guards" (top 25) MR){MT:Addr}(Jf:WB.Dd K "first_guards" (top 26) MT){MU:Addr}(Jg:WB.Dd K "somes_of" (top 27) MU){MV:Addr}(Jh:WB.Dd K "unguarded" (top 28) MV){MW:Addr}(Ji:WB.Dd K "moves_to" (top 29) MW){MX:Addr}(Jj:WB.Dd K "askings" (top 30) MX){MY:Addr}(Jk:WB.Dd K "days_of_ending" (top 31) MY){MZ:Addr}(Jl:WB.Dd K "ending_now" (top 32) MZ){M6:Addr}(Jm:WB.Dd K "_law_cell_at" (top 34) M6){M7:Addr}(Jn:WB.Dd K "_law_stir" (top 35) M7){M8:Addr}(Jo:WB.Dd K "_law_whole" (top 36) M8){M9:Addr}(Jp:WB.Dd K "_law_web" (top 37) M9){M_:Addr}(Jq:WB.Dd K "_law_masks" (top 38) M_){M':Addr}(Jr:WB.Dd K "_law_some" (top 39) M'){Na:Addr}(Js:WB.Dd K "_law_moves" (top 40) Na){Nb:Addr}(Jt:WB.Dd K "_law_answers" (top 41) Nb){Nc:Addr}(Ju:WB.Dd K "_law_days" (top 42) Nc){Nd:Addr}(Jv:WB.Dd K "_law_right" (top 43) Nd){Nf:Addr}(Jw:WB.Dd K "law" (top 44) Nf)
include d0 d1 d2 d3 d4 d5 d6 d7 d8 d9 I_ Ja Jb Jc Jd Je Jf Jg Jh Ji Jj Jk Jl Jm Jn Jo Jp Jq Jr Js Jt Ju Jv Jw
theorem xl:∀e∈tab,jb K G e:=by
 intro e he;simp only[tab,aM,dH,or_false]at he;rcases he with rfl|rfl|rfl|rfl|rfl|rfl|rfl|rfl|rfl|rfl|rfl|rfl|rfl|rfl|rfl|rfl|rfl|rfl|rfl|rfl|rfl|rfl|rfl|rfl|rfl|rfl|rfl|rfl|rfl|rfl|rfl|rfl|rfl|rfl<;>refine⟨⟨_,by assumption⟩,λ_ _ _ _ _ _ us hl=>?_⟩<;>first|(obtain⟨_,rfl⟩:=WB.pK hl;rfl)|(obtain⟨_,_,rfl⟩:=WB.rZ hl;rfl)|(obtain⟨_,_,_,rfl⟩:=WB.D6 hl;rfl)
omit d0 d1 d2 d3 d4 d5 d6 d7 d8 d9 I_ Ja Jb Jc Jd Je Jf Jg Jh Ji Jj Jk Jl Jm Jn Jo Jp Jq Jr Js Jt Ju Jv Jw
theorem mL{x:Str}{k:GK}(h:oth.lookup x=some k):∃y∈oth,x=y.1/\k=y.2:=by
 generalize oth=l at h ⊢
 induction l with
 |nil=>cases h
 |cons a r ih=>
  rw[bB]at h;split at h
  ·rename_i q;cases h;exact⟨a,aL,eq_of_beq q,rfl⟩
  ·obtain⟨y,h1,h2⟩:=ih h;exact⟨y,aO _ h1,h2⟩
theorem Bn{K:aA}{C0:Addr}(k0:aG K aE "NoWeb" = some (some (.ref C0)))(x0:PySem.W.excIn K C0 g7 "ValueError.__new__" = true){C1:Addr}(k1:aG K aE "NoNumber" = some (some (.ref C1)))(x1:PySem.W.excIn K C1 g7 "ValueError.__new__" = true){Ko:Tok}(u0:aG K aE "MOST" = some (some (.int 8 Ko)))(z0:aG K aE "len" = some none)(z1:aG K aE "tuple" = some none)(z2:aG K aE "list" = some none)(z3:aG K aE "int" = some none)(z4:aG K aE "bool" = some none)(z5:aG K aE "sorted" = some none)(z6:aG K aE "all" = some none)(z7:aG K aE "any" = some none)(z8:aG K aE "min" = some none)(z9:aG K aE "max" = some none)(Kp:aG K aE "range" = some none)(Kq:aG K aE "enumerate" = some none)(Ks:aG K aE "isinstance" = some none):∀x k,oth.lookup x=some k->pT K vals x k:=by
 intro x k h;obtain⟨y,h1,rfl,rfl⟩:=mL h;simp only[oth,aM,dH,or_false]at h1;rcases h1 with rfl|rfl|rfl|rfl|rfl|rfl|rfl|rfl|rfl|rfl|rfl|rfl|rfl|rfl|rfl|rfl
 ·exact⟨_,k0,x0⟩
 ·exact⟨_,k1,x1⟩
 ·exact⟨_,.int 8,.int 8,u0,⟨_,rfl⟩,rfl,λg H _=>.int _⟩
 ·exact⟨z0,rfl,_,rfl⟩
 ·exact⟨z1,by decide +kernel,by simp,by simp[b1N,b1V]⟩
 ·exact⟨z2,by decide +kernel,by simp,by simp[b1N,b1V]⟩
 ·exact⟨z3,by decide +kernel,by simp,by simp[b1N,b1V]⟩
 ·exact⟨z4,by decide +kernel,by simp,by simp[b1N,b1V]⟩
 ·exact⟨z5,rfl,_,rfl⟩
 ·exact⟨z6,rfl,_,rfl⟩
 ·exact⟨z7,rfl,_,rfl⟩
 ·exact⟨z8,rfl,_,rfl⟩
 ·exact⟨z9,rfl,_,rfl⟩
 ·exact⟨Kp,rfl⟩
 ·exact⟨Kq,rfl⟩
 ·exact⟨Ks,rfl⟩
theorem yy:∀x fr,oth.lookup x≠some (.fn fr):=by
 intro x fr h;obtain⟨y,h1,rfl,h2⟩:=mL h;simp only[oth,aM,dH,or_false]at h1;rcases h1 with rfl|rfl|rfl|rfl|rfl|rfl|rfl|rfl|rfl|rfl|rfl|rfl|rfl|rfl|rfl|rfl<;>cases h2
theorem Bl:∀x,(oth.lookup x=some .exc\/oth.lookup x=some .exk)->([a9 "NoWeb",a9 "NoNumber"]:List Str).contains x=true:=by
 intro x h;rcases h with h|h<;>obtain⟨y,h1,rfl,h2⟩:=mL h<;>simp only[oth,aM,dH,or_false]at h1<;>rcases h1 with rfl|rfl|rfl|rfl|rfl|rfl|rfl|rfl|rfl|rfl|rfl|rfl|rfl|rfl|rfl|rfl<;>first|(cases h2;done)|decide +kernel
theorem ux{K:aA}{C0:Addr}(k0:aG K aE "NoWeb" = some (some (.ref C0))){C1:Addr}(k1:aG K aE "NoNumber" = some (some (.ref C1)))  : ∀y∈cY,∃C D,aG K aE y.1=some (some (.ref C))/\aG K aE y.2=some (some (.ref D))/\PySem.W.exmOne K (.ref C) (.ref D)=some true:=by
 intro y h1;simp only[cY,aM,dH,or_false]at h1
 skip
theorem vh{K:aA}{C0:Addr}(k0:aG K aE "NoWeb" = some (some (.ref C0))){C1:Addr}(k1:aG K aE "NoNumber" = some (some (.ref C1)))  : ∀y∈subs,sd K [a9 "NoWeb",a9 "NoNumber"] y:=by
 intro y h1;cases h1
include d0 d1 d2 d3 d4 d5 d6 d7 d8 d9 I_ Ja Jb Jc Jd Je Jf Jg Jh Ji Jj Jk Jl Jm Jn Jo Jp Jq Jr Js Jt Ju Jv Jw
theorem all_mk(X:K.In h)(N:h.Ns aE mg){C0:Addr}(k0:aG K aE "NoWeb" = some (some (.ref C0)))(x0:PySem.W.excIn K C0 g7 "ValueError.__new__" = true){C1:Addr}(k1:aG K aE "NoNumber" = some (some (.ref C1)))(x1:PySem.W.excIn K C1 g7 "ValueError.__new__" = true){Ko:Tok}(u0:aG K aE "MOST" = some (some (.int 8 Ko)))(z0:aG K aE "len" = some none)(z1:aG K aE "tuple" = some none)(z2:aG K aE "list" = some none)(z3:aG K aE "int" = some none)(z4:aG K aE "bool" = some none)(z5:aG K aE "sorted" = some none)(z6:aG K aE "all" = some none)(z7:aG K aE "any" = some none)(z8:aG K aE "min" = some none)(z9:aG K aE "max" = some none)(Kp:aG K aE "range" = some none)(Kq:aG K aE "enumerate" = some none)(Ks:aG K aE "isinstance" = some none)    : Ground p (gOf K (tab.map (·.x)) [a9 "NoWeb",a9 "NoNumber"]) G (gx us oth) (fB oth) mg/\jb K G g6:=
 have A:=xl d0 d1 d2 d3 d4 d5 d6 d7 d8 d9 I_ Ja Jb Jc Jd Je Jf Jg Jh Ji Jj Jk Jl Jm Jn Jo Jp Jq Jr Js Jt Ju Jv Jw
 ⟨u7 X N rfl nd (Bn k0 x0 k1 x1 u0 z0 z1 z2 z3 z4 z5 z6 z7 z8 z9 Kp Kq Ks) yy vY Em rY A _ (ux k0 k1) Bl (vh k0 k1 ),A g6 (by simp[tab])⟩
end
theorem walk{l:PySem.W.OpenLaw}{q:aB}{loose:List Str}{XP:(Str->Option ae)->Heap->Prop}{YP:az->Heap->Prop}{d:DefRec}{K:Params->aA}(hn:l.most=some 63)(He:d.params.defaults=[])(hd:d.name = "law")(hY:∀(w:az) (h:Heap),YP w h->(K w.params).In h)
  (hG:∀(w:az) (mg:Str->Option ae) (h:Heap),(K w.params).In h->h.Ns aE mg->Ground p (gOf (K w.params) (tab.map (·.x)) [a9 "NoWeb",a9 "NoNumber"]) G (gx us oth) (fB oth) mg/\jb (K w.params) G g6):PySem.W.WalkO q loose XP YP l.row.toRowW d [] (λf vs=>PySem.call f vs):=
 tX (e:=g6) (k:=depth) hn He hd ⟨rfl,by decide,by decide⟩ hY (by simp[tab]) nd rfl rfl (by kernel_rfl) hG (rY g6 (by simp[tab])) Cf
end K72
end
open PySem PySem.W PyProof.Rows
namespace PySem.W.Fast
def t0:Nat:=0
theorem te10028680058439465096:t0=0:=rfl
theorem te909293067643761032:t0=0:=rfl
theorem te7527603973550334464:t0=0:=rfl
theorem te12162104187435017992:t0=0:=rfl
theorem te10464520281240594466:t0=0:=rfl
theorem te17295281454016400145:t0=0:=rfl
theorem te18165029183713009615:t0=0:=rfl
theorem te8207400639738984667:t0=0:=rfl
theorem te15781627764453810947:t0=0:=rfl
theorem te2408612216944348150:t0=0:=rfl
theorem te10066770439062209935:t0=0:=rfl
theorem te9726079256192249734:t0=0:=rfl
theorem te455186701211716151:t0=0:=rfl
theorem te9014883928679963740:t0=0:=rfl
theorem te17997634945681569680:t0=0:=rfl
theorem te5380176640010482026:t0=0:=rfl
theorem te5518787415334621647:t0=0:=rfl
theorem te202946722111402114:t0=0:=rfl
theorem te7937322845404577281:t0=0:=rfl
theorem te15403906108893211700:t0=0:=rfl
theorem te5718415560944653600:t0=0:=rfl
theorem te7154444294166957975:t0=0:=rfl
theorem te196634877128094896:t0=0:=rfl
theorem te2950338320087548723:t0=0:=rfl
theorem te7788042177217573240:t0=0:=rfl
theorem te18176545635140550261:t0=0:=rfl
theorem te15755298444470513720:t0=0:=rfl
theorem te15256523949994622424:t0=0:=rfl
theorem te16842468916945414459:t0=0:=rfl
theorem te531672849639462742:t0=0:=rfl
theorem te6209809863750077732:t0=0:=rfl
theorem te8762065595975694238:t0=0:=rfl
theorem te16722623117604740206:t0=0:=rfl
theorem te4100959484367615170:t0=0:=rfl
theorem te2072303816863641412:t0=0:=rfl
theorem te6741273229598095315:t0=0:=rfl
theorem te15539294807873245327:t0=0:=rfl
theorem te14653666790818057004:t0=0:=rfl
theorem te2121510637947671611:t0=0:=rfl
theorem te18054116983045293094:t0=0:=rfl
theorem te7837130202129127801:t0=0:=rfl
theorem te3537907799742177432:t0=0:=rfl
theorem te5389321874492000016:t0=0:=rfl
theorem te7275536470561521943:t0=0:=rfl
theorem te3768798404206823948:t0=0:=rfl
theorem te15306143280168463534:t0=0:=rfl
theorem te18405980617948775722:t0=0:=rfl
theorem te10806687570414346387:t0=0:=rfl
theorem te6707367256649299582:t0=0:=rfl
theorem te2539316075018086375:t0=0:=rfl
theorem te17276180034276622852:t0=0:=rfl
theorem te14388378564619085423:t0=0:=rfl
theorem te1573217025913312536:t0=0:=rfl
theorem te10521456145440363560:t0=0:=rfl
theorem te4638328092588048686:t0=0:=rfl
theorem te16485442884524220914:t0=0:=rfl
theorem te12671478250474030690:t0=0:=rfl
theorem te13294774502407814926:t0=0:=rfl
theorem te12181140264943029118:t0=0:=rfl
theorem te936948212941032927:t0=0:=rfl
theorem te619489191218467891:t0=0:=rfl
theorem te9652555482809139759:t0=0:=rfl
theorem te7611505265756648982:t0=0:=rfl
theorem te10461347066172793863:t0=0:=rfl
theorem te17588355730151104073:t0=0:=rfl
theorem te17953836176256916116:t0=0:=rfl
theorem te15584941109624225009:t0=0:=rfl
theorem te16147718692060072464:t0=0:=rfl
theorem te6623852557146374686:t0=0:=rfl
theorem te3672310343886815205:t0=0:=rfl
theorem te14402613986042026428:t0=0:=rfl
theorem te8994252154196526901:t0=0:=rfl
theorem te4162259828939097508:t0=0:=rfl
theorem te12017169913409450243:t0=0:=rfl
theorem te17127916730919993364:t0=0:=rfl
theorem te682318245466029510:t0=0:=rfl
theorem te7695878307707905432:t0=0:=rfl
theorem te2341690235444473083:t0=0:=rfl
theorem te1960497353118247538:t0=0:=rfl
theorem te3537256258159703468:t0=0:=rfl
theorem te7233062955637306011:t0=0:=rfl
theorem te1746993106865517626:t0=0:=rfl
theorem te4718466730961699003:t0=0:=rfl
theorem te8890398791801304795:t0=0:=rfl
theorem te3652481630489154770:t0=0:=rfl
theorem te14731165603055951965:t0=0:=rfl
theorem te11665017940600913384:t0=0:=rfl
theorem te13306235481576244989:t0=0:=rfl
theorem te1730085326449873484:t0=0:=rfl
theorem te3107708403537687040:t0=0:=rfl
theorem te14199569053864488405:t0=0:=rfl
theorem te17745048545418360077:t0=0:=rfl
theorem te14228386615947152752:t0=0:=rfl
theorem te17620341678306055947:t0=0:=rfl
theorem te10627006013080745832:t0=0:=rfl
theorem te12043913474463103874:t0=0:=rfl
theorem te16819848175762112466:t0=0:=rfl
theorem te8580461577817019649:t0=0:=rfl
theorem te5827233344042290969:t0=0:=rfl
theorem te3906330821987795944:t0=0:=rfl
theorem te7463928699018815616:t0=0:=rfl
theorem te16834639253747893924:t0=0:=rfl
theorem te13832193290687627718:t0=0:=rfl
theorem te2571823976293517959:t0=0:=rfl
theorem te18359682665478651401:t0=0:=rfl
theorem te5926591510272516897:t0=0:=rfl
theorem te8091204994133570330:t0=0:=rfl
theorem te18247511326251264660:t0=0:=rfl
theorem te10449236157907969914:t0=0:=rfl
theorem te11285745223911650085:t0=0:=rfl
theorem te4007952080398433129:t0=0:=rfl
theorem te2340472970149736680:t0=0:=rfl
theorem te13731354659824591060:t0=0:=rfl
theorem te5312864874203994597:t0=0:=rfl
theorem te12132379975179082795:t0=0:=rfl
theorem te7140287222003560482:t0=0:=rfl
theorem te3083282493707124642:t0=0:=rfl
theorem te3822168786378756839:t0=0:=rfl
theorem te6123311972860949186:t0=0:=rfl
theorem te14843850479435529101:t0=0:=rfl
theorem te5892969658284977014:t0=0:=rfl
theorem te16553930383431919404:t0=0:=rfl
theorem te17051923271873350623:t0=0:=rfl
theorem te15396346069779133204:t0=0:=rfl
theorem te16266797785700003050:t0=0:=rfl
theorem te17932512625685611817:t0=0:=rfl
theorem te9526059605587235857:t0=0:=rfl
theorem te16534510559662305942:t0=0:=rfl
theorem te13305114919215807881:t0=0:=rfl
theorem te4178467837791154062:t0=0:=rfl
theorem te4910441819802006235:t0=0:=rfl
theorem te4774525459076165212:t0=0:=rfl
theorem te10087963742158707383:t0=0:=rfl
theorem te14329980711980647796:t0=0:=rfl
theorem te18131267213724821544:t0=0:=rfl
theorem te17241695967126177924:t0=0:=rfl
theorem te8993965624103795857:t0=0:=rfl
theorem te4164584863334331863:t0=0:=rfl
theorem te1647816092673857315:t0=0:=rfl
theorem te17757304068565332340:t0=0:=rfl
theorem te1738571392074103757:t0=0:=rfl
theorem te12190379599644673559:t0=0:=rfl
theorem te11772058549200497964:t0=0:=rfl
theorem te9590514295225767416:t0=0:=rfl
theorem te6308273378038021206:t0=0:=rfl
end PySem.W.Fast
set_option maxRecDepth 100000 in
set_option maxHeartbeats 0 in
theorem PySem.Challenge.cw_holdplaces_k72_families_of_guards_holds : PySem.Challenge.rw_holdplaces_k72_families_of_guards.Holds := by
 w_on;o_law;k_head;(case hw=>w_witness2)
 k_fill
 refine K72.walk (l:=PySem.Challenge.rw_holdplaces_k72_families_of_guards) rfl rfl rfl (λw h Y=>PySem.W.kIn_of Y) ?F
 case F=>
  intro w mg h KX N
  refine' K72.all_mk (WB.zd ?_ ?_ ?_ ?_) (WB.zd ?_ ?_ ?_ ?_) (WB.zd ?_ ?_ ?_ ?_) (WB.zd ?_ ?_ ?_ ?_) (WB.zd ?_ ?_ ?_ ?_) (WB.zd ?_ ?_ ?_ ?_) (WB.zd ?_ ?_ ?_ ?_) (WB.zd ?_ ?_ ?_ ?_) (WB.zd ?_ ?_ ?_ ?_) (WB.zd ?_ ?_ ?_ ?_) (WB.zd ?_ ?_ ?_ ?_) (WB.zd ?_ ?_ ?_ ?_) (WB.zd ?_ ?_ ?_ ?_) (WB.zd ?_ ?_ ?_ ?_) (WB.zd ?_ ?_ ?_ ?_) (WB.zd ?_ ?_ ?_ ?_) (WB.zd ?_ ?_ ?_ ?_) (WB.zd ?_ ?_ ?_ ?_) (WB.zd ?_ ?_ ?_ ?_) (WB.zd ?_ ?_ ?_ ?_) (WB.zd ?_ ?_ ?_ ?_) (WB.zd ?_ ?_ ?_ ?_) (WB.zd ?_ ?_ ?_ ?_) (WB.zd ?_ ?_ ?_ ?_) (WB.zd ?_ ?_ ?_ ?_) (WB.zd ?_ ?_ ?_ ?_) (WB.zd ?_ ?_ ?_ ?_) (WB.zd ?_ ?_ ?_ ?_) (WB.zd ?_ ?_ ?_ ?_) (WB.zd ?_ ?_ ?_ ?_) (WB.zd ?_ ?_ ?_ ?_) (WB.zd ?_ ?_ ?_ ?_) (WB.zd ?_ ?_ ?_ ?_) (WB.zd ?_ ?_ ?_ ?_) KX N ?_ ?_ ?_ ?_ ?_ ?_ ?_ ?_ ?_ ?_ ?_ ?_ ?_ ?_ ?_ ?_ ?_ ?_
  any_goals k_is
  any_goals k_exc
#print axioms PySem.Challenge.cw_holdplaces_k72_families_of_guards_holds
