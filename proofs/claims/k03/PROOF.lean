import PyProof.Rows.All
import Wide.All
import OpenK.AllK
import Wide.FinOn
import Lean
import PyProof.EqAt
import PyProof.EqKinds
import PyProof.TupleCall
import PyProof.Rows.Range3
import PyProof.Rows.FStr
import KE.KDictSum
import PyProof.DictUpdate
import PyProof.Rows.ListMulArg
import KE.KSortTup
import KE.LcSums
import PyProof.SeqI3
import KE.KMinBuiltin
import PyProof.ListRange
import PyProof.TupleOfSeq
import PySem.Challenge.RW_holdplaces_k03_far_and_pieces
set_option Elab.async false
set_option bootstrap.genMatcherCode false
set_option maxHeartbeats 8000000
set_option maxRecDepth 100000
set_option linter.all false
noncomputable section
open PyProof.Rows renaming callWith_type1→eR,IntsAre→a8,seqObj→aY,Keyed→aB
open PySem.Builtin.SmallTypes renaming nextOf→cK
open Option renaming bind_eq_some_iff→aA,map_eq_some_iff→bu,bind_eq_bind→aC
open List renaming mem_append_right→cx,mem_cons_of_mem→aK,mem_cons_self→aJ,length_append→bL,size_toArray→aO,lookup_cons→ba,length_cons→br,not_mem_nil→bM,any_eq_true→cz,length_map→aI,replicate→bN,mem_cons→aE,map_cons→aS,mem_map→aN,map_map→b7,range→aW
open PySem renaming mem_of_lookup→cy,wpAny_truthy_bool→bF,wpAny_newObj_type→cY,wpAny_call_entry→cL,Comprehension→cB,wpAny_holding→cM,bootBuiltins→bB,mainGlobals→ak,sizeLine_eq→aZ,wpAny_field→bC,wpAny_bind→ah,wpAny_pure→ax,wpAny_mono→bI,compareOp→aR,cellsFrom→aX,sizeLine→aF,starEach→aL,NameKind→aM,FuncData→bz,Program→av,Shared→af,Around→aw,Value→ae,wpAny→ai,model→aj,World→au,Scope→aP
open PySem.W renaming hideAll_get→dw,mg_none_of→dA,kas_desc→bc,kas_rev→bp,kia_one→bH,kitOne→bf,exmOne→bO,keepIn→cA,subIn→ay,nsIn→ao,Frag→aq,fnOf→bS
open Nat renaming lt_of_lt_of_le→a_,lt_irrefl→bx,ne_of_lt→aV,le_trans→bg,le_refl→aD,zero_le→b8
open Bool renaming false_ne_true→bQ,false_eq_true→bZ,not_eq_true'→bj,and_eq_true→aG,not_eq_true→dB,or_eq_true→bG
open Option.some renaming injEq→b5,inj→bA
open ForInStep renaming yield→cZ
open PySem.Heap renaming size_push→b6,lt_size→aH
open PySem.NameKind renaming free→bR
open PySem.Str renaming ofString→ag
open False renaming elim→aQ
open PySem.Value renaming bool→bt,ref→aU
open PySem.Obj renaming mapSeq→bD
open And renaming intro→ar
set_option Elab.async false
namespace L2
open PySem PySem.Spec PyProof.Rows
abbrev Key:=Sum Int Str
noncomputable def gx:Key->ae->Bool
 | .inl k,v=>ae.isInt k v
 | .inr x,v=>ae.isStrOf x v
noncomputable def sx(w:au):Key->Int
 | .inl k=>hashInt k
 | .inr x=>hashStr w x
theorem eG:∀{k:Key}{v:ae},gx k v=true->(∃i t,k=Sum.inl i/\v=ae.int i t)\/(∃x t,k=Sum.inr x/\v=ae.str x t)
 | .inl i,v,h=>by
  obtain⟨t,e⟩:=ae.isInt_shape (k:=i) (v:=v) h;exact .inl ⟨i,t,rfl,e⟩
 | .inr x,v,h=>by
  obtain⟨t,e⟩:=ae.isStrOf_shape (x:=x) (v:=v) h;exact .inr ⟨x,t,rfl,e⟩
theorem AI(i:Int)(t:Tok):gx (.inl i) (.int i t)=true:=by simp[gx,ae.isInt]
theorem vm(x:Str)(t:Tok):gx (.inr x) (.str x t)=true:=by simp[gx,ae.isStrOf]
theorem w6(a b:Int):decide ((Sum.inl a:Key)=Sum.inl b)=(a==b):=by
 by_cases e:a=b
 ·subst e;simp
 ·have h:¬ (Sum.inl a:Key)=Sum.inl b:=λq=>e (Sum.inl.inj q)
  rw[decide_eq_false h];exact(beq_eq_false_iff_ne.mpr e).symm
theorem uG(a b:Str):decide ((Sum.inr a:Key)=Sum.inr b)=decide (a=b):=by
 by_cases e:a=b
 ·subst e;simp
 ·have h:¬ (Sum.inr a:Key)=Sum.inr b:=λq=>e (Sum.inr.inj q)
  rw[decide_eq_false h,decide_eq_false e]
theorem x2(a:Int)(b:Str):decide ((Sum.inl a:Key)=Sum.inr b)=false:=decide_eq_false (λq=>nomatch q)
theorem Ee(a:Str)(b:Int):decide ((Sum.inr a:Key)=Sum.inl b)=false:=decide_eq_false (λq=>nomatch q)
noncomputable def zu(prog:av)(w:au):PySem.KeyKind prog w Key where
 is:=gx
 hash:=sx w
 inj:=λv a b ha hb=>by
  rcases eG ha with ⟨i,t,rfl,rfl⟩|⟨x,t,rfl,rfl⟩
  ·rcases eG hb with ⟨j,u,rfl,e⟩|⟨y,u,rfl,e⟩
   ·injection e with e1 _;rw[e1]
   ·exact nomatch e
  ·rcases eG hb with ⟨j,u,rfl,e⟩|⟨y,u,rfl,e⟩
   ·exact nomatch e
   ·injection e with e1 _;rw[e1]
 byValue:=λk v h=>by
  rcases eG h with ⟨i,t,rfl,rfl⟩|⟨x,t,rfl,rfl⟩<;>rfl
 pyHash:=λhv h=>by
  rcases eG hv with ⟨i,t,rfl,rfl⟩|⟨x,t,rfl,rfl⟩
  ·exact wpAny_pyHash_int h
  ·exact wpAny_pyHash_str h
 eqBool:=λhu hv h=>by
  rcases eG hu with ⟨i,t,rfl,rfl⟩|⟨x,t,rfl,rfl⟩
  ·rcases eG hv with ⟨j,u,rfl,rfl⟩|⟨y,u,rfl,rfl⟩
   ·rw[w6]at h;exact wpAny_eqBool_int h
   ·rw[x2]at h;exact SeqAt.EqAt.int_str i t y u _ _ _ _ h
  ·rcases eG hv with ⟨j,u,rfl,rfl⟩|⟨y,u,rfl,rfl⟩
   ·rw[Ee]at h;exact SeqAt.EqAt.str_int x t j u _ _ _ _ h
   ·rw[uG]at h;exact wpAny_eqBool_str h
 «strs»:=λk x t v h=>by
  rcases eG h with ⟨i,u,rfl,e⟩|⟨y,u,rfl,e⟩
  ·exact nomatch e
  ·injection e with e1 _
   subst e1;cases v<;>rfl
theorem yW(prog:av)(w:au)(i:Int)(t:Tok):(zu prog w).is (.inl i) (.int i t)=true:=AI i t
theorem uB(prog:av)(w:au)(x:Str)(t:Tok):(zu prog w).is (.inr x) (.str x t)=true:=vm x t
inductive V where
 |non|bl (b:Bool)|int (i:Int)|str (x:Str)|byt (b:Array UInt8)|flt (b:UInt64)|ref (a:Addr)|ty (n:String)
 deriving DecidableEq
noncomputable def RelV:V->ae->Prop
 | .non,u=>u=ae.none
 | .bl b,u=>u=bt b
 | .int i,u=>∃t,u=ae.int i t
 | .str x,u=>∃t,u=ae.str x t
 | .byt b,u=>∃t,u=ae.bytes b t
 | .flt b,u=>∃t,u=ae.float b t
 | .ref a,u=>u=aU a
 | .ty n,u=>u=ae.type n
abbrev Vals:List V->List ae->Prop:=Paired RelV
theorem Vals.length{xs:List V}{us:List ae}(r:Vals xs us):xs.length=us.length:=Paired.length r
theorem Vals.get:∀{xs:List V}{us:List ae}{i:Nat}{x:V},Vals xs us->xs[i]? = some x->∃u,us[i]? = some u/\RelV x u
 |_,_,_,_,.nil,e=>by simp at e
 |_,_,0,_,.cons r _,e=>by simp at e;subst e;exact⟨_,rfl,r⟩
 |_,_,i+1,x,.cons _ t,e=>by
  obtain⟨u,h1,h2⟩:=Vals.get (i:=i) (x:=x) t (by simpa using e);exact⟨u,by simpa using h1,h2⟩
theorem Vals.set{x:V}{u:ae}(r:RelV x u):∀{xs:List V}{us:List ae} (i:Nat),Vals xs us->Vals (xs.set i x) (us.set i u)
 |_,_,_,.nil=>.nil
 |_,_,0,.cons _ t=>.cons r t
 |_,_,i+1,.cons q t=>.cons q (Vals.set r i t)
theorem Vals.append:∀{xs ys:List V}{us ws:List ae},Vals xs us->Vals ys ws->Vals (xs++ys) (us++ws)
 |_,_,_,_,.nil,s=>s
 |_,_,_,_,.cons r t,s=>.cons r (Vals.append t s)
theorem Vals.take:∀{xs:List V}{us:List ae} (n:Nat),Vals xs us->Vals (xs.take n) (us.take n)
 |_,_,0,_=>.nil
 |_,_,_+1,.nil=>.nil
 |_,_,n+1,.cons r t=>.cons r (Vals.take n t)
theorem Vals.drop:∀{xs:List V}{us:List ae} (n:Nat),Vals xs us->Vals (xs.drop n) (us.drop n)
 |_,_,0,r=>r
 |_,_,_+1,.nil=>.nil
 |_,_,n+1,.cons _ t=>Vals.drop n t
noncomputable def dm:Option V->Option ae->Prop
 |some v,some u=>RelV v u
 |none,none=>True
 |_,_=>False
noncomputable def KV{κ:Type}:List (κ×V)->List (κ×ae)->Prop:=Paired λ(p:κ×V) (q:κ×ae)=>p.1=q.1/\RelV p.2 q.2
noncomputable def kV:Key->V
 | .inl i=>.int i
 | .inr x=>.str x
inductive HO where
 |lst (xs:List V)
 |tup (xs:List V)
 |dK (kvs:List (Key×V))|dT (kvs:List (List Key×V))
 |set (S:Int->Bool) (n:Nat)
 |ins (C dx:Addr) (fs:List (Str×V))
 |own (x:Addr)
 |xd (fs:List (Str×V))
 |met (f x:Addr)
 |rng (lo hi:Int)
 |frz (o:Obj) (u:HO)
 |tbl (ps:Array ae)
 |ext (φ:Heap->Prop)
abbrev Hp:=Addr->Option HO
noncomputable def upd(H:Hp)(a:Addr)(o:HO):Hp:=λb=>if b=a then some o else H b
theorem zx{H:Hp}{a:Addr}{o:HO}:upd H a o a=some o:=by unfold upd;rw[if_pos rfl]
theorem qg{H:Hp}{a b:Addr}{o:HO}(h:b≠a):upd H a o b=H b:=by unfold upd;rw[if_neg h]
theorem yo{H:Hp}{a b:Addr}{o u:HO}(h:H a=some o)(h':H b=some u)(d:o≠u):a≠b:=by
 intro e;subst e;rw[h]at h';exact d (bA h')
theorem iu{H:Hp}{a b:Addr}{o:HO}(h:H a=some o)(h':H b=none):a≠b:=by
 intro e;subst e;rw[h]at h';cases h'
section
variable(P:av)(w:au)
noncomputable def zC(H:Hp)(h:Heap)(a:Addr):HO->Prop
 | .lst xs=>xs.length<=aF/\∃(its:List ae) (n:Nat),Vals xs its/\h.get? a=some {cls:=.type "list",data:=.seq its.toArray n}
 | .tup xs=>xs.length<=aF/\∃its:List ae,Vals xs its/\IsTup h a its.toArray
 | .dK kvs=>kvs.length<=aF/\(a==sysModules)=false/\∃vs,KV kvs vs/\h.DictOf (zu P w) a vs
 | .dT kvs=>kvs.length<=aF/\(a==sysModules)=false/\∃xs:List (List Key×Addr×ae),
   Paired (λ(p:List Key×V) (q:List Key×Addr×ae)=>p.1=q.1/\H q.2.1=some (.tup (p.1.map kV))/\RelV p.2 q.2.2) kvs xs /\
   ∃o es ep,h.get? a=some o/\o.ExactDict/\o.data=.dict es ep/\es.toList=xs.map (entryOfKey (tupleKind (zu P w)))/\(xs.map (·.1)).Nodup
 | .set S n=>h.SetOf (intKind P w) a S n
 | .ins C dx fs=>H dx=some (.own a)/\fs.length<=1000/\dx≠a/\h.get? a=some (PySem.W.instObj C dx) /\
   ∃mA,h.Ns1 dx mA/\(∀f,dm (fs.lookup f) (mA f))/\PySem.Within mA (fs.map (·.1))
 | .own _=>∃o,h.get? a=some o
 | .xd fs=>∃mA,h.Ns1 a mA/\∀f,dm (fs.lookup f) (mA f)
 | .rng lo hi=>∃t u v,h.get? a=some {cls:=.type "range",data:=.fields #[.int lo t,.int hi u,.int 1 v]}
 | .frz o u=>h.get? a=some o/\zC H h a u
 | .tbl ps=>h.get? a=some {cls:=.none,data:=.fields ps}
 | .met f x=>h.get? a=some (PySem.W.methodObj (.ref f) (.ref x))
 | .ext φ=>φ h/\(∃o,h.get? a=some o)/\∀h1 h2:Heap,φ h1->(∀o,h1.get? a=some o->h2.get? a=some o)->φ h2
noncomputable def HOk(H:Hp)(h:Heap):Prop:=∀a o,H a=some o->zC P w H h a o
end
section
variable{P:av}{w:au}{H H':Hp}{h h':Heap}{a:Addr}{o:HO}
theorem zC.lt(x:zC P w H h a o):a<h.objs.size:=by
 cases o with
 |lst xs=>obtain⟨_,_,_,_,e⟩:=x;exact aH e
 |tup xs=>obtain⟨_,_,_,p⟩:=x;exact p.lt
 |dK kvs=>obtain⟨_,_,_,_,o,_,_,e,_⟩:=x;exact aH e
 |dT kvs=>obtain⟨_,_,_,_,o,_,_,e,_⟩:=x;exact aH e
 |set S n=>obtain⟨o,_,_,_,e,_⟩:=x;exact aH e
 |ins C dx fs=>obtain⟨_,_,_,e,_⟩:=x;exact aH e
 |own y=>obtain⟨_,e⟩:=x;exact aH e
 |xd fs=>obtain⟨_,⟨_,_,_,e,_⟩,_⟩:=x;exact aH e
 |rng lo hi=>obtain⟨_,_,_,e⟩:=x;exact aH e
 |frz ob u=>obtain⟨e,_⟩:=x;exact aH e
 |tbl ps=>exact aH (show h.get? a=some _ from x)
 |met f y=>exact aH (show h.get? a=some _ from x)
 |ext φ=>obtain⟨_,⟨_,e⟩,_⟩:=x;exact aH e
theorem Paired.mapP{α β:Type}{F G:α->β->Prop}:∀{l₁:List α}{l₂:List β},Paired F l₁ l₂->(∀a b,F a b->G a b)->Paired G l₁ l₂
 |_,_,.nil,_=>.nil
 |_,_,.cons r t,f=>.cons (f _ _ r) (Paired.mapP t f)
theorem zC.stay(x:zC P w H h a o)(k:∀b u,(b=a\/H b=some (.own a))->h.get? b=some u->h'.get? b=some u)
  (ho:∀b,H b=some (.own a)->H' b=some (.own a)) (ht:∀b xs,H b=some (.tup xs)->H' b=some (.tup xs)):zC P w H' h' a o:=by
 induction o with
 |lst xs=>obtain⟨z,its,n,r,e⟩:=x;exact⟨z,its,n,r,k _ _ (.inl rfl) e⟩
 |tup xs=>obtain⟨z,its,r,ob,e,c⟩:=x;exact⟨z,its,r,ob,k _ _ (.inl rfl) e,c⟩
 |dK kvs=>obtain⟨z,y,vs,r,ob,es,ep,e,c⟩:=x;exact⟨z,y,vs,r,ob,es,ep,k _ _ (.inl rfl) e,c⟩
 |dT kvs=>
  obtain⟨z,y,xs,r,ob,es,ep,e,c⟩:=x;exact⟨z,y,xs,Paired.mapP r λp q z=>⟨z.1,ht _ _ z.2.1,z.2.2⟩,ob,es,ep,k _ _ (.inl rfl) e,c⟩
 |set S n=>obtain⟨ob,es,ep,t,e,c⟩:=x;exact⟨ob,es,ep,t,k _ _ (.inl rfl) e,c⟩
 |ins C dx fs=>
  obtain⟨d,z,ne,e,mA,⟨od,es,ep,e2,c⟩,r⟩:=x;exact⟨ho _ d,z,ne,k _ _ (.inl rfl) e,mA,⟨od,es,ep,k _ _ (.inr d) e2,c⟩,r⟩
 |own y=>obtain⟨ob,e⟩:=x;exact⟨ob,k _ _ (.inl rfl) e⟩
 |xd fs=>obtain⟨mA,⟨od,es,ep,e,c⟩,r⟩:=x;exact⟨mA,⟨od,es,ep,k _ _ (.inl rfl) e,c⟩,r⟩
 |rng lo hi=>obtain⟨t,u,v,e⟩:=x;exact⟨t,u,v,k _ _ (.inl rfl) e⟩
 |frz ob u ih=>obtain⟨e,q⟩:=x;exact⟨k _ _ (.inl rfl) e,ih q⟩
 |tbl ps=>
  have e:h.get? a=some {cls:=.none,data:=.fields ps}:=x;show h'.get? a=some {cls:=.none,data:=.fields ps};exact k a _ (.inl rfl) e
 |met f y=>
  have e:h.get? a=some (PySem.W.methodObj (.ref f) (.ref y)):=x;show h'.get? a=some (PySem.W.methodObj (.ref f) (.ref y));exact k a _ (.inl rfl) e
 |ext φ=>obtain⟨p,⟨o,e⟩,st⟩:=x;exact⟨st _ _ p λo q=>k _ _ (.inl rfl) q,⟨o,k _ _ (.inl rfl) e⟩,st⟩
theorem HOk.lt(x:HOk P w H h)(e:H a=some o):a<h.objs.size:=(x a o e).lt
theorem HOk.fresh(x:HOk P w H h)(e:h.objs.size<=a):H a=none:=by
 cases q:H a with
 |none=>rfl
 |some u=>exact absurd (a_ (x.lt q) e) (bx _)
theorem HOk.kept(x:HOk P w H h)(k:∀b u,h.get? b=some u->h'.get? b=some u):HOk P w H h':=λa o e=>
 (x a o e).stay (λb u _ q=>k b u q) (λ_ q=>q) λ_ _ q=>q
theorem HOk.laid(x:HOk P w H h)(k:∀b u,h.get? b=some u->h'.get? b=some u)(hp:h.objs.size<=a)(new:zC P w (upd H a o) h' a o):HOk P w (upd H a o) h':=λb u e=>by
 have hn:=x.fresh hp;by_cases hb:b=a
 ·subst hb;rw[zx]at e;cases e;exact new
 ·rw[qg hb]at e;exact(x b u e).stay (λc v _ q=>k c v q) (λc q=>by rw[qg (iu q hn)];exact q) λc xs q=>by rw[qg (iu q hn)];exact q
end
noncomputable def Rd(H:Hp)(a:Addr)(u:HO):Prop:=H a=some u\/∃o,H a=some (.frz o u)
theorem Rd.of{H:Hp}{a:Addr}{u:HO}(h:H a=some u):Rd H a u:=.inl h
theorem Rd.ok{P:av}{w:au}{H:Hp}{h:Heap}{a:Addr}{u:HO}(r:Rd H a u)(x:HOk P w H h):zC P w H h a u:=by
 rcases r with r|⟨o,r⟩
 ·exact x a u r
 ·obtain⟨_,q⟩:=x a _ r;exact q
noncomputable def Mut:Option HO->Prop
 |some (.lst _)=>True
 |some (.dK _)=>True
 |some (.dT _)=>True
 |some (.set _ _)=>True
 |some (.ins _ _ _)=>True
 |some (.ext _)=>True
 |_=>False
section
variable{P:av}{w:au}{H:Hp}{h h':Heap}{x e:Addr}{o':HO}
theorem HOk.write(ok:HOk P w H h)(mu:Mut (H x))(he:e=x\/H e=some (.own x))(k:∀b u,b≠e->h.get? b=some u->h'.get? b=some u)(heo:∃u,h'.get? e=some u)
  (new:zC P w (upd H x o') h' x o'):HOk P w (upd H x o') h':=λb u q=>by
 have nown:∀c y,H c=some (.own y)->c≠x:=λc y r z=>by subst z;rw[r]at mu;exact mu
 have ntup:∀c xs,H c=some (.tup xs)->c≠x:=λc xs r z=>by subst z;rw[r]at mu;exact mu
 by_cases hb:b=x
 ·subst hb;rw[zx]at q;cases q;exact new
 ·rw[qg hb]at q;by_cases hbe:b=e
  ·have q':H b=some (.own x):=by
    rcases he with z|z
    ·exact absurd (hbe.trans z) hb
    ·rw[hbe];exact z
   rw[q]at q';cases q';obtain⟨v,hv⟩:=heo;exact⟨v,by rw[hbe];exact hv⟩
  ·refine(ok b u q).stay (λc v hc r=>k c v ?_ r) (λc r=>by rw[qg (nown c b r)];exact r) λc xs r=>by rw[qg (ntup c xs r)];exact r
   rcases hc with rfl|hc
   ·exact hbe
   ·rintro rfl;rcases he with z|z
    ·exact nown c b hc z
    ·rw[hc]at z;cases z;exact hb rfl
end
structure Un(fs ex:List Addr)(H H':Hp)(h h':Heap):Prop where
 keep:∀b o,h.get? b=some o->H b=none->b∉fs->b∉ex->h'.get? b=some o
 slot:∀b o,h.get? b=some o->H b=none->b∈fs->b∉ex->∃sl,h'.get? b=some {o with slots:=sl}
 free:∀b o,h.get? b=some o->H b=none->b∉ex->H' b=none
 there:∀b o,h.get? b=some o->b∉ex->∃o',h'.get? b=some o'
 tups:∀b xs,H b=some (.tup xs)->H' b=some (.tup xs)
 frzs:∀b o u,H b=some (.frz o u)->H' b=some (.frz o u)
 tbls:∀b ps,H b=some (.tbl ps)->∃more,H' b=some (.tbl (ps++more))
section
variable{fs fs' ex ex':List Addr}{H H1 H2:Hp}{h h1 h2 h':Heap}{a x e:Addr}{o:HO}
theorem Un.any(u:Un fs ex H H1 h h1){b:Addr}{ob:Obj}(q:h.get? b=some ob)(n:H b=none)(hx:b∉ex):∃sl,h1.get? b=some {ob with slots:=sl}:=by
 by_cases hb:b∈fs
 ·exact u.slot b ob q n hb hx
 ·exact⟨ob.slots,u.keep b ob q n hb hx⟩
theorem Un.kept(k:∀b u,h.get? b=some u->h'.get? b=some u):Un fs ex H H h h':=
 ⟨λb ob q _ _ _=>k b ob q,λb ob q _ _ _=>⟨ob.slots,k b ob q⟩,λ_ _ _ n _=>n,λb ob q _=>⟨ob,k b ob q⟩,λ_ _ q=>q,λ_ _ _ q=>q,λ_ ps q=>⟨#[],by rw[q];simp⟩⟩
theorem Un.refl:Un fs ex H H h h:=Un.kept λ_ _ q=>q
theorem Un.laid(k:∀b u,h.get? b=some u->h'.get? b=some u)(hp:h.objs.size<=a)(hn:H a=none):Un fs ex H (upd H a o) h h' where
 keep:=λb u q _ _ _=>k b u q
 slot:=λb u q _ _ _=>⟨u.slots,k b u q⟩
 free:=λb u q n _=>by rw[qg (aV (a_ (aH q) hp))];exact n
 there:=λb u q _=>⟨u,k b u q⟩
 tups:=λb xs q=>by rw[qg (iu q hn)];exact q
 frzs:=λb u xs q=>by rw[qg (iu q hn)];exact q
 tbls:=λb ps q=>⟨#[],by rw[qg (iu q hn),q];simp⟩
theorem Un.write(mu:Mut (H x))(he:e=x\/H e=some (.own x))(k:∀b u,b≠e->h.get? b=some u->h'.get? b=some u)(heo:∃u,h'.get? e=some u):Un fs ex H (upd H x o) h h':=by
 have hx:∀b,H b=none->b≠x:=λb n z=>by subst z;rw[n]at mu;exact mu
 have hb:∀b,H b=none->b≠e:=λb n z=>by
  subst z;rcases he with r|r
  ·exact hx b n r
  ·rw[n]at r;cases r
 have hm:∀b u,H b=some u->¬ Mut (some u)->b≠x:=λb u q nm z=>by subst z;rw[q]at mu;exact nm mu
 refine⟨λb u q n _ _=>k b u (hb b n) q,λb u q n _ _=>⟨u.slots,k b u (hb b n) q⟩,λb u q n _=>by rw[qg (hx b n)];exact n,λb u q _=>?_,
  λb xs q=>by rw[qg (hm b _ q λz=>z)];exact q,λb u xs q=>by rw[qg (hm b _ q λz=>z)];exact q,λb ps q=>⟨#[],by rw[qg (hm b _ q λz=>z),q];simp⟩⟩
 by_cases hbe:b=e
 ·subst hbe;exact heo
 ·exact⟨u,k b u hbe q⟩
end
noncomputable def trk(h:Heap)(H:Hp):List Addr:=(aW h.objs.size).filter λa=>(H a).isSome
noncomputable def eN(h:Heap)(H:Hp):Heap:=PySem.W.hideAll h (trk h H)
theorem Bi(h:Heap)(H:Hp):(eN h H).objs.size=h.objs.size:=PySem.W.hideAll_size _ _
theorem v9{h:Heap}{H:Hp}{b:Addr}{o:Obj}(e:h.get? b=some o)(n:H b=none):(eN h H).get? b=some o:=
 dw _ e λhm=>by
  have q:(H b).isSome=true:=(List.mem_filter.mp hm).2;rw[n]at q;simp at q
theorem Ab{h:Heap}{H:Hp}{b:Addr}{o:Obj}(e:(eN h H).get? b=some o):h.get? b=some o/\H b=none:=by
 have e':h.get? b=some o:=PySem.W.of_hideAll (trk h H) e;refine⟨e',?_⟩;cases q:H b with
 |none=>rfl
 |some x=>
  have hm:b∈trk h H:=List.mem_filter.mpr ⟨List.mem_range.mpr (aH e'),by simp[q]⟩;have z:(eN h H).get? b=none:=PySem.W.hideAll_none (trk h H) hm;rw[z]at e;cases e
noncomputable def jw(g h:Heap)(L:Addr):List (Addr×Obj):=(aW h.objs.size).filterMap λa=>if a=L\/(g.get? a).isSome=true then none else (h.get? a).map λo=>(a,o)
theorem iD{g h:Heap}{L a:Addr}{o:Obj}(h1:a≠L)(h2:g.get? a=none)(h3:h.get? a=some o):(a,o)∈jw g h L:=
 List.mem_filterMap.mpr ⟨a,List.mem_range.mpr (aH h3),by simp[h1,h2,h3]⟩
theorem ye{g h:Heap}{L:Addr}{p:Addr×Obj}(hp:p∈jw g h L):p.1≠L/\g.get? p.1=none/\h.get? p.1=some p.2:=by
 obtain⟨b,_,e⟩:=List.mem_filterMap.mp hp;split at e
 ·cases e
 ·rename_i hn
  cases q:h.get? b with
  |none=>rw[q]at e;simp at e
  |some u=>
   rw[q]at e;simp only[Option.map_some,b5]at e;subst e;refine⟨λz=>hn (.inl z),?_,q⟩;show g.get? b=none;cases r:g.get? b with
   |none=>rfl
   |some v=>exact(hn (.inr (by simp[r]))).elim
noncomputable def rest(g h:Heap)(L d:Addr):List (Addr×Obj):=(jw g h L).filter λp=>decide (p.1≠d)
theorem mR{g h:Heap}{L:Addr}:News g L h (jw g h L):=λp hp=>let ⟨a,b,c⟩:=ye hp;⟨c,a,b⟩
structure Mod(K:aq)(mg:Str->Option ae)(base:Heap):Prop where
 kin:K.In base
 glob:base.Ns ak mg
 blt:∃mb,base.Ns builtinsNs mb/\∀x:Str,x≠"__name__"->mb x=bB x
 nolimit:base.NoLimit
structure Cx where
 prog:av
 w:au
 K:aq
 mg:Str->Option ae
 base:Heap
 A:aw
 N:List Str
 s₀:af
 H₀:Hp
 env:Env
 outer:List Env
 stack:List Env
 ex:List Addr
 fn:Str->Bool
 calm:Bool
 pn:List (Addr×Obj)
 xe:ae->af->Prop
noncomputable def frs(l:List Env):List Addr:=l.filterMap (·.frame)
abbrev Cx.fs(X:Cx):List Addr:=frs X.outer
noncomputable def eB(sc:aP)(x:Str):Prop:=sc.names.lookup x=some .local\/sc.names.lookup x=some .cell\/sc.names.lookup x=some .free
noncomputable def Loc(sc:aP)(x:Str):Prop:=sc.names.lookup x=some .local\/sc.names.lookup x=some .cell
noncomputable def Look(env:Env)(h:Heap)(m:Str->Option ae)(x:Str)(u:ae):Prop:=
 (env.kindOf x=some .local/\m x=some u)\/((env.kindOf x=some .cell\/env.kindOf x=some .free)/\∃c,env.cells.lookup x=some c/\h.IsCell c (some u))
structure Cx.Ok(X:Cx):Prop where
 mod:Mod X.K X.mg X.base
 kind:X.env.scope.kind=.function
 glob:X.env.globals=ak
 blt:X.env.builtins=builtinsNs
 above:X.s₀.heap.objs.size<=X.env.locals
 inj:∀x y c,X.env.cells.lookup x=some c->X.env.cells.lookup y=some c->x=y
 has:∀x,(X.env.kindOf x=some .cell\/X.env.kindOf x=some .free)->∃c,X.env.cells.lookup x=some c
 cab:∀x c,X.fn x=true->X.env.cells.lookup x=some c->X.s₀.heap.objs.size<=c
 hd:X.calm=true->X.A.handled=none
 frames:X.A.frames=some X.stack
 stk:X.stack=X.outer\/(X.stack=X.env::X.outer/\X.env.frame=some X.env.locals)
 exf:∀b∈X.ex,b≠X.env.locals/\∀x c,X.env.cells.lookup x=some c->c≠b
 bs:∀b o,X.base.get? b=some o->X.s₀.heap.get? b=some o/\X.H₀ b=none
 bsz:X.base.objs.size<=X.s₀.heap.objs.size
 noex:∀b o,X.base.get? b=some o->b∉X.ex
 exfs:∀b∈X.ex,b∉X.fs
 funs:X.s₀.heap.FunFrames X.base X.outer
 frf:∀b∈X.fs,X.H₀ b=none
structure Inv(X:Cx)(pins:List (Addr×Obj))(σ:List (Option V))(H:Hp)(s:af):Prop where
 ok:X.Ok
 os:s.os=X.s₀.os
 bare:AllBare s.gens
 base:Un X.fs X.ex X.H₀ H X.s₀.heap s.heap
 loc:∃m,s.heap.Ns X.env.locals m/\∀(i:Nat) (x:Str) (v:V),X.N[i]? = some x->σ[i]? = some (some v)->eB X.env.scope x->∃u,RelV v u/\Look X.env s.heap m x u
 cell:∀x c,X.env.cells.lookup x=some c->∃v,s.heap.IsCell c v
 free:H X.env.locals=none
 freeC:∀x c,X.env.cells.lookup x=some c->H c=none
 pin:∀p∈X.pn++pins,s.heap.get? p.1=some p.2/\H p.1=none/\p.1≠X.env.locals/\p.1∉X.fs/\∀v,p.2.data≠.cell v
 hok:HOk X.prog X.w H s.heap
 len:σ.length=X.N.length
section
variable{X:Cx}{pins:List (Addr×Obj)}{σ:List (Option V)}{H H':Hp}{s:af}{h':Heap}
theorem Cx.Ok.nofr(ok:X.Ok){b:Addr}{o:Obj}(e:X.base.get? b=some o):b∉X.fs:=λhb=>by
 have:=(ok.funs.mem hb).1;rw[e]at this;cases this
theorem Inv.bs(I:Inv X pins σ H s):∀b o,X.base.get? b=some o->s.heap.get? b=some o/\H b=none:=λb o e=>
 ⟨I.base.keep b o (I.ok.bs b o e).1 (I.ok.bs b o e).2 (I.ok.nofr e) (I.ok.noex b o e),I.base.free b o (I.ok.bs b o e).1 (I.ok.bs b o e).2 (I.ok.noex b o e)⟩
theorem Inv.bk(I:Inv X pins σ H s):∀b o,X.base.get? b=some o->s.heap.get? b=some o:=λb o e=>(I.bs b o e).1
theorem Inv.mod(I:Inv X pins σ H s):Mod X.K X.mg X.base:=I.ok.mod
theorem Inv.kIn(I:Inv X pins σ H s):X.K.In s.heap:=I.ok.mod.kin.keeps I.bk
theorem Inv.nolimit(I:Inv X pins σ H s):s.heap.NoLimit:=I.ok.mod.nolimit.keeps I.bk
theorem Inv.fr(I:Inv X pins σ H s):∃m,Fr X.base X.env.locals s.heap m:=
 let ⟨m,hn,_⟩:=I.loc
 ⟨m,hn,I.bk,bg I.ok.bsz I.ok.above⟩
theorem Inv.lt(I:Inv X pins σ H s):X.env.locals<s.heap.objs.size:=let ⟨_,hn,_⟩:=I.loc;hn.lt
theorem Inv.sz(I:Inv X pins σ H s):X.s₀.heap.objs.size<=s.heap.objs.size:=bg I.ok.above (Nat.le_of_lt I.lt)
theorem Inv.nofs(I:Inv X pins σ H s){a:Addr}(h:s.heap.objs.size<=a):a∉X.fs:=λhb=>by
 obtain⟨_,o,ho,_⟩:=I.ok.funs.mem hb;exact absurd (a_ (aH ho) (bg I.sz h)) (bx _)
theorem Inv.cne(I:Inv X pins σ H s):∀x c,X.env.cells.lookup x=some c->c≠X.env.locals:=λx c e z=>by
 obtain⟨v,o,ho,hd⟩:=I.cell x c e;obtain⟨m,⟨o',es,ep,ho',hd',_⟩,_⟩:=I.loc;rw[z,ho']at ho;cases ho;rw[hd']at hd;cases hd
theorem Inv.funs(I:Inv X pins σ H s):s.heap.FunFrames X.base X.outer:=by
 have all:∀(l:List Env),(∀b∈frs l,b∈X.fs)->X.s₀.heap.FunFrames X.base l->s.heap.FunFrames X.base l:=by
  intro l
  induction l with
  |nil=>intro _ _;trivial
  |cons env r ih=>
   intro hs hl;obtain⟨hk,⟨L,o,hf,hn,ho,hd⟩,hr⟩:=hl;have hL:L∈X.fs:=hs L (by unfold frs;rw[List.filterMap_cons,hf];exact aJ);obtain⟨sl,e⟩:=I.base.slot L o ho (I.ok.frf L hL) hL λz=>I.ok.exfs L z hL
   exact⟨hk,⟨L,_,hf,hn,e,hd⟩,ih (λb hb=>hs b (by unfold frs;rw[List.filterMap_cons,hf];exact aK _ hb)) hr⟩
 exact all X.outer (λ_ hb=>hb) I.ok.funs
theorem Inv.stack(I:Inv X pins σ H s):s.heap.FunFrames X.base X.stack:=by
 rcases I.ok.stk with e|⟨e,hf⟩
 ·rw[e];exact I.funs
 ·rw[e];obtain⟨m,hn,_⟩:=I.loc;refine .cons (by rw[I.ok.kind];decide) hf hn ?_ I.funs;exact Heap.get?_none_of_le (bg I.ok.bsz I.ok.above)
theorem Inv.stkSub(I:Inv X pins σ H s):∀b∈frs X.stack,b∈X.env.locals::X.fs:=λb hb=>by
 rcases I.ok.stk with e|⟨e,hf⟩
 ·rw[e]at hb;exact aK _ hb
 ·rw[e]at hb;unfold frs at hb;rw[List.filterMap_cons,hf]at hb;exact hb
theorem Inv.stkFree(I:Inv X pins σ H s):∀b∈frs X.stack,H b=none:=λb hb=>by
 rcases aE.mp (I.stkSub b hb)with e|hb
 ·rw[e];exact I.free
 ·obtain⟨_,o,ho,_⟩:=I.ok.funs.mem hb;exact I.base.free b o ho (I.ok.frf b hb) λz=>I.ok.exfs b z hb
theorem Inv.step{g':Array GenState}{t':Nat}{d':Drawn}{ch:List Addr}(I:Inv X pins σ H s)
  (hch:∀b∈ch,(b∈X.ex\/X.s₀.heap.objs.size<=b)/\b≠X.env.locals/\(∀x c,X.env.cells.lookup x=some c->c≠b)/\∀p∈X.pn++pins,p.1≠b)
  (keep:∀b o,b≠X.env.locals->b∉X.fs->b∉ch->s.heap.get? b=some o->H b=none->h'.get? b=some o)
  (slot:∀b o,b≠X.env.locals->b∈X.fs->b∉ch->s.heap.get? b=some o->H b=none->∃sl,h'.get? b=some {o with slots:=sl}) (free:∀b o,b∉ch->s.heap.get? b=some o->H b=none->H' b=none)
  (there:∀b o,b∉ch->s.heap.get? b=some o->∃o',h'.get? b=some o')
  (tups:∀b xs,H b=some (.tup xs)->H' b=some (.tup xs)) (frzs:∀b o u,H b=some (.frz o u)->H' b=some (.frz o u)) (tbls:∀b ps,H b=some (.tbl ps)->∃more,H' b=some (.tbl (ps++more)))
  (ns:∀m,s.heap.Ns X.env.locals m->h'.Ns X.env.locals m) (hok:HOk X.prog X.w H' h') (hg:AllBare g') :
  Inv X pins σ H' {s with heap:=h',gens:=g',drawn:=d',toks:=t'}:=by
 have neL:∀b o,X.s₀.heap.get? b=some o->b≠X.env.locals:=λb o e=>aV (a_ (aH e) I.ok.above)
 have neC:∀b o,X.s₀.heap.get? b=some o->b∉X.ex->b∉ch:=λb o e hx hb=>by
  rcases(hch b hb).1 with z|z
  ·exact hx z
  ·exact absurd (a_ (aH e) z) (bx _)
 have cellK:∀x c,X.env.cells.lookup x=some c->∀v,s.heap.IsCell c v->h'.IsCell c v:=λx c e v ⟨o,ho,hd⟩=>by
  have nch:c∉ch:=λz=>(hch c z).2.2.1 x c e rfl
  by_cases hc:c∈X.fs
  ·obtain⟨sl,q⟩:=slot c o (I.cne x c e) hc nch ho (I.freeC x c e);exact⟨_,q,hd⟩
  ·exact⟨o,keep c o (I.cne x c e) hc nch ho (I.freeC x c e),hd⟩
 refine⟨I.ok,I.os,hg,⟨λb o e n hb hx=>?_,λb o e n hb hx=>?_,λb o e n hx=>?_,λb o e hx=>?_,λb xs e=>tups b xs (I.base.tups b xs e),λb o xs e=>frzs b o xs (I.base.frzs b o xs e),λb ps e=>?_⟩,?_,λx c e=>?_,?_,λx c e=>?_,λp hp=>?_,hok,I.len⟩
 ·exact keep b o (neL b o e) hb (neC b o e hx) (I.base.keep b o e n hb hx) (I.base.free b o e n hx)
 ·obtain⟨sl,e1⟩:=I.base.slot b o e n hb hx;obtain⟨sl',e2⟩:=slot b _ (neL b o e) hb (neC b o e hx) e1 (I.base.free b o e n hx);exact⟨sl',e2⟩
 ·obtain⟨o',e1⟩:=I.base.there b o e hx;exact free b o' (neC b o e hx) e1 (I.base.free b o e n hx)
 ·obtain⟨o',e1⟩:=I.base.there b o e hx;exact there b o' (neC b o e hx) e1
 ·obtain⟨m1,e1⟩:=I.base.tbls b ps e;obtain⟨m2,e2⟩:=tbls b _ e1;exact⟨m1++m2,by rw[e2,Array.append_assoc]⟩
 ·obtain⟨m,hn,hl⟩:=I.loc;refine⟨m,ns m hn,λi x v e1 e2 e3=>?_⟩;obtain⟨u,r,l⟩:=hl i x v e1 e2 e3;refine⟨u,r,?_⟩;rcases l with l|⟨k,c,e,z⟩
  ·exact .inl l
  ·exact .inr ⟨k,c,e,cellK x c e _ z⟩
 ·obtain⟨v,z⟩:=I.cell x c e;exact⟨v,cellK x c e v z⟩
 ·obtain⟨m,⟨o,_,_,ho,_⟩,_⟩:=I.loc;exact free _ o (λz=>(hch _ z).2.1 rfl) ho I.free
 ·obtain⟨v,o,ho,hd⟩:=I.cell x c e;exact free c o (λz=>(hch c z).2.2.1 x c e rfl) ho (I.freeC x c e)
 ·obtain⟨e,n,ne,nf,d⟩:=I.pin p hp;have nch:p.1∉ch:=λz=>(hch p.1 z).2.2.2 p hp rfl
  exact⟨keep p.1 p.2 ne nf nch e n,free p.1 p.2 nch e n,ne,nf,d⟩
theorem Inv.un{t':Nat}(I:Inv X pins σ H s)(u:Un X.fs [] H H' s.heap h')(hok:HOk X.prog X.w H' h'):Inv X pins σ H' {s with heap:=h',toks:=t'}:=by
 obtain⟨m,⟨o,es,ep,ho,r⟩,_⟩:=id I.loc;obtain⟨sl,hL⟩:=u.any ho I.free (by simp);exact I.step (g':=s.gens) (d':=s.drawn) (ch:=[]) (λ_ z=>nomatch z) (λb o _ hb _ e n=>u.keep b o e n hb (by simp)) (λb o _ hb _ e n=>u.slot b o e n hb (by simp)) (λb o _ e n=>u.free b o e n (by simp)) (λb o _ e=>u.there b o e (by simp)) u.tups u.frzs u.tbls (λm' hm=>by
  obtain⟨o',es',ep',ho',r'⟩:=hm;rw[ho]at ho';cases ho';exact⟨_,es',ep',hL,r'⟩) hok I.bare
theorem Inv.call{g':Array GenState}{t':Nat}{d':Drawn}{ch:List Addr}(I:Inv X pins σ H s)(u:Un (frs X.stack) ch H H' s.heap h')(hok:HOk X.prog X.w H' h')(hg:AllBare g')
  (hch:∀b∈ch,(b∈X.ex\/X.s₀.heap.objs.size<=b)/\b≠X.env.locals/\(∀x c,X.env.cells.lookup x=some c->c≠b)/\∀p∈X.pn++pins,p.1≠b) :
  Inv X pins σ H' {s with heap:=h',gens:=g',drawn:=d',toks:=t'}:=by
 obtain⟨m,⟨o,es,ep,ho,r⟩,_⟩:=id I.loc;obtain⟨sl,hL⟩:=u.any ho I.free λz=>(hch _ z).2.1 rfl
 exact I.step (ch:=ch) hch (λb o hL hb hc e n=>u.keep b o e n (λz=>(aE.mp (I.stkSub b z)).elim hL hb) hc) (λb o _ _ hc e n=>u.any e n hc) (λb o hc e n=>u.free b o e n hc) (λb o hc e=>u.there b o e hc) u.tups u.frzs u.tbls (λm' hm=>by
  obtain⟨o',es',ep',ho',r'⟩:=hm;rw[ho]at ho';cases ho';exact⟨_,es',ep',hL,r'⟩) hok hg
theorem Inv.turned{t':Nat}{it:Addr}(I:Inv X pins σ H s)(k:∀b o,b≠it->s.heap.get? b=some o->h'.get? b=some o)(hn:H it=none)(hL:it≠X.env.locals)
  (h1:it∈X.ex\/X.s₀.heap.objs.size<=it) (h2:∀x c,X.env.cells.lookup x=some c->c≠it) (h3:∀p∈X.pn++pins,p.1≠it):Inv X pins σ H {s with heap:=h',toks:=t'}:=by
 have nit:∀b u,H b=some u->b≠it:=λb u e z=>by rw[z,hn]at e;cases e
 refine I.step (g':=s.gens) (d':=s.drawn) (ch:=[it]) (λb hb=>?_) (λb o _ _ hc e _=>k b o (λz=>hc (by simp[z])) e) (λb o _ _ hc e _=>⟨o.slots,k b o (λz=>hc (by simp[z])) e⟩) (λ_ _ _ _ n=>n)
  (λb o hc e=>⟨o,k b o (λz=>hc (by simp[z])) e⟩) (λ_ _ e=>e) (λ_ _ _ e=>e) (λb ps e=>⟨#[],by rw[e];simp⟩) (λm hm=>?_) (λb u e=>?_) I.bare
 ·have e:b=it:=by simpa using hb
  subst e;exact⟨h1,hL,h2,h3⟩
 ·obtain⟨o,es,ep,ho,r⟩:=hm;exact⟨o,es,ep,k _ o (Ne.symm hL) ho,r⟩
 ·refine(I.hok b u e).stay (λc v hc q=>k c v ?_ q) (λ_ q=>q) λ_ _ q=>q
  rcases hc with z|z
  ·rw[z];exact nit b u e
  ·exact nit c _ z
theorem Inv.tok(I:Inv X pins σ H s)(t:Nat):Inv X pins σ H {s with toks:=t}:=I.un (h':=s.heap) (t':=t) Un.refl I.hok
theorem Inv.kept{t':Nat}(I:Inv X pins σ H s)(k:∀b u,s.heap.get? b=some u->h'.get? b=some u):Inv X pins σ H {s with heap:=h',toks:=t'}:=I.un (Un.kept k) (I.hok.kept k)
theorem Inv.laid{a:Addr}{o:HO}{t':Nat}(I:Inv X pins σ H s)(k:∀b u,s.heap.get? b=some u->h'.get? b=some u)(hp:s.heap.objs.size<=a)(new:zC X.prog X.w (upd H a o) h' a o) :
  Inv X pins σ (upd H a o) {s with heap:=h',toks:=t'}:=I.un (Un.laid k hp (I.hok.fresh hp)) (I.hok.laid k hp new)
theorem Inv.write{x e:Addr}{o:HO}{t':Nat}(I:Inv X pins σ H s)(mu:Mut (H x))(he:e=x\/H e=some (.own x))(k:∀b u,b≠e->s.heap.get? b=some u->h'.get? b=some u)(heo:∃u,h'.get? e=some u)
  (new:zC X.prog X.w (upd H x o) h' x o):Inv X pins σ (upd H x o) {s with heap:=h',toks:=t'}:=I.un (Un.write mu he k heo) (I.hok.write mu he k heo new)
theorem Inv.pins_of{pins':List (Addr×Obj)}(I:Inv X pins σ H s)(h:∀p∈pins',s.heap.get? p.1=some p.2/\H p.1=none/\p.1≠X.env.locals/\p.1∉X.fs/\∀v,p.2.data≠.cell v):Inv X pins' σ H s:=
 ⟨I.ok,I.os,I.bare,I.base,I.loc,I.cell,I.free,I.freeC,λp hp=>(List.mem_append.mp hp).elim (λz=>I.pin p (List.mem_append_left _ z)) (h p),I.hok,I.len⟩
theorem nM{N:List Str}(hN:N.Nodup){i j:Nat}{x:Str}(a:N[i]? = some x)(b:N[j]? = some x):i=j:=by
 obtain⟨h1,e1⟩:=List.getElem?_eq_some_iff.mp a;obtain⟨h2,e2⟩:=List.getElem?_eq_some_iff.mp b;exact(List.getElem_inj hN).mp (e1.trans e2.symm)
theorem lT{M:Model}{A:aw}{E:ae->af->Prop}{i:Nat}{x:Str}{v:V}{u:ae}{Q:Unit->af->Prop}(I:Inv X pins σ H s)(hN:X.N.Nodup)(hi:X.N[i]? = some x)(hx:Loc X.env.scope x)(r:RelV v u)
  (h:∀s',Inv X pins (σ.set i (some v)) H s'->(∃a,Heap.SameBut a s.heap s'.heap/\(a=X.env.locals\/X.env.cells.lookup x=some a))->Q () s') (hf:X.fn x=true\/X.env.scope.names.lookup x=some .local:=by first|exact .inl rfl|exact .inr rfl|assumption):ai M A (storeName X.env x u) Q E s:=by
 obtain⟨m,hn,hl⟩:=id I.loc;have hcls:(X.env.scope.kind==.class||(X.env.scope.kind==.module&&X.env.locals != X.env.globals))=false:=by rw[I.ok.kind];rfl
 have hiσ:i<σ.length:=by rw[I.len];exact(List.getElem?_eq_some_iff.mp hi).1
 have cne:=I.cne;have tracked:∀{a:Addr}{h':Heap},(∃o,s.heap.get? a=some o/\H a=none)->Heap.SameBut a s.heap h'->HOk X.prog X.w H h':=λ{a h'} ha hs b ob e=>by
  obtain⟨_,_,hfree⟩:=ha;refine(I.hok b ob e).stay (λc w' hc q=>(hs.2 c ?_).trans q) (λ_ q=>q) λ_ _ q=>q
  rintro rfl;rcases hc with rfl|hc
  ·rw[hfree]at e;cases e
  ·rw[hfree]at hc;cases hc
 rcases hx with hk|hk
 ·refine wpAny_storeName_local hk hn (λh' hn' hs=>?_) hcls;obtain⟨oL,_,_,hoL,_⟩:=id hn;refine h _ ⟨I.ok,I.os,I.bare,⟨λb o e n hb hx=>?_,λb o e n hb hx=>?_,I.base.free,λb o e hx=>?_,I.base.tups,I.base.frzs,I.base.tbls⟩,⟨_,hn',λj y v' e1 e2 e3=>?_⟩,λy c e=>?_,I.free,I.freeC,λp hp=>?_,tracked ⟨oL,hoL,I.free⟩ hs,by simpa using I.len⟩ ⟨_,hs,.inl rfl⟩
  ·exact(hs.2 b (aV (a_ (aH e) I.ok.above))).trans (I.base.keep b o e n hb hx)
  ·obtain⟨sl,e1⟩:=I.base.slot b o e n hb hx;exact⟨sl,(hs.2 b (aV (a_ (aH e) I.ok.above))).trans e1⟩
  ·obtain⟨o',e1⟩:=I.base.there b o e hx;exact⟨o',(hs.2 b (aV (a_ (aH e) I.ok.above))).trans e1⟩
  ·by_cases hj:j=i
   ·subst hj;rw[hi]at e1;cases e1;rw[List.getElem?_set_self hiσ]at e2;cases e2;exact⟨u,r,.inl ⟨hk,by simp⟩⟩
   ·rw[List.getElem?_set_ne (Ne.symm hj)]at e2;obtain⟨u',r',q⟩:=hl j y v' e1 e2 e3;refine⟨u',r',?_⟩;rcases q with ⟨k,e⟩|⟨k,c,e,z⟩
    ·refine .inl ⟨k,?_⟩;have:y≠x:=λe=>hj (nM hN e1 (e▸hi))
     simp[this,e]
    ·exact .inr ⟨k,c,e,z.sameBut hs (cne y c e)⟩
  ·obtain⟨w',z⟩:=I.cell y c e;exact⟨w',z.sameBut hs (cne y c e)⟩
  ·obtain⟨e,n,ne,nf,d⟩:=I.pin p hp;exact⟨(hs.2 p.1 ne).trans e,n,ne,nf,d⟩
 ·have hfn:X.fn x=true:=by
   rcases hf with z|z
   ·exact z
   ·rw[z]at hk;cases hk
  obtain⟨c,hc⟩:=I.ok.has x (.inl hk);obtain⟨w',z⟩:=I.cell x c hc;refine wpAny_storeName_cell I.ok.kind hk hc z (λh' hc' hs=>?_);obtain⟨oc,hoc,hocd⟩:=id z;refine h {s with heap:=h'} ⟨I.ok,I.os,I.bare,⟨λb o e n hb hx=>?_,λb o e n hb hx=>?_,I.base.free,λb o e hx=>?_,I.base.tups,I.base.frzs,I.base.tbls⟩,⟨m,hn.sameBut hs (Ne.symm (cne x c hc)),λj y v' e1 e2 e3=>?_⟩,λy c' e=>?_,I.free,I.freeC,λp hp=>?_,tracked ⟨oc,hoc,I.freeC x c hc⟩ hs,by simpa using I.len⟩ ⟨c,hs,.inr hc⟩
  ·exact(hs.2 b (aV (a_ (aH e) (I.ok.cab x c hfn hc)))).trans (I.base.keep b o e n hb hx)
  ·obtain⟨sl,e1⟩:=I.base.slot b o e n hb hx;exact⟨sl,(hs.2 b (aV (a_ (aH e) (I.ok.cab x c hfn hc)))).trans e1⟩
  ·obtain⟨o',e1⟩:=I.base.there b o e hx;exact⟨o',(hs.2 b (aV (a_ (aH e) (I.ok.cab x c hfn hc)))).trans e1⟩
  ·by_cases hj:j=i
   ·subst hj;rw[hi]at e1;cases e1;rw[List.getElem?_set_self hiσ]at e2;cases e2;exact⟨u,r,.inr ⟨.inl hk,c,hc,hc'⟩⟩
   ·rw[List.getElem?_set_ne (Ne.symm hj)]at e2;obtain⟨u',r',q⟩:=hl j y v' e1 e2 e3;refine⟨u',r',?_⟩;rcases q with q|⟨k,c',e,z'⟩
    ·exact .inl q
    ·refine .inr ⟨k,c',e,z'.sameBut hs ?_⟩;rintro rfl;exact hj (nM hN e1 (I.ok.inj _ _ _ e hc▸hi))
  ·by_cases hcc:c'=c
   ·subst hcc;exact⟨_,hc'⟩
   ·obtain⟨w2,z2⟩:=I.cell y c' e;exact⟨w2,z2.sameBut hs hcc⟩
  ·obtain⟨e,n,ne,nf,d⟩:=I.pin p hp;refine⟨(hs.2 p.1 ?_).trans e,n,ne,nf,d⟩;intro q;rw[q,hoc]at e;have q':oc=p.2:=bA e;exact d w' (by rw[<-q'];exact hocd)
theorem lC{M:Model}{A:aw}{E:ae->af->Prop}{i:Nat}{x:Str}{v:V}{u:ae}{Q:Unit->af->Prop}(I:Inv X pins σ H s)(hN:X.N.Nodup)(hi:X.N[i]? = some x)(hx:Loc X.env.scope x)(r:RelV v u)
  (h:∀s',Inv X pins (σ.set i (some v)) H s'->Q () s') (hf:X.fn x=true\/X.env.scope.names.lookup x=some .local:=by first|exact .inl rfl|exact .inr rfl|assumption):ai M A (storeName X.env x u) Q E s:=
 lT I hN hi hx r (λs' I' _=>h s' I') hf
theorem Inv.call'{s':af}{ch:List Addr}(I:Inv X pins σ H s)(ho:s'.os=s.os)(u:Un (frs X.stack) ch H H' s.heap s'.heap)(hok:HOk X.prog X.w H' s'.heap)(hg:AllBare s'.gens)
  (hch:∀b∈ch,(b∈X.ex\/X.s₀.heap.objs.size<=b)/\b≠X.env.locals/\(∀x c,X.env.cells.lookup x=some c->c≠b)/\∀p∈X.pn++pins,p.1≠b):Inv X pins σ H' s':=by
 obtain⟨h',g',d',t',o'⟩:=s';have e:o'=s.os:=ho;subst e;exact I.call (g':=g') (t':=t') (d':=d') u hok hg hch
end
abbrev XK:=ae->Option Addr->Hp->Prop
abbrev St:=List (Option V)
abbrev VK:=V->Hp->Prop
abbrev TE:=St->Hp->VK->Prop
abbrev TT:=St->Hp->(Bool->Hp->Prop)->Prop
abbrev TA:=St->Hp->(List V->Hp->Prop)->Prop
structure Ends where
 nx:St->Hp->Prop
 rt:VK
 bk:St->Hp->Prop:=λ_ _=>False
 ct:St->Hp->Prop:=λ_ _=>False
abbrev TS:=Ends->St->Hp->Prop
noncomputable def EP(X:Cx)(pins:List (Addr×Obj))(σ:St)(Q:VK)(u:ae)(s':af):Prop:=∃v H',Inv X pins σ H' s'/\RelV v u/\Q v H'
noncomputable def TP(X:Cx)(pins:List (Addr×Obj))(σ:St)(Q:Bool->Hp->Prop)(b:Bool)(s':af):Prop:=∃H',Inv X pins σ H' s'/\Q b H'
noncomputable def AP(X:Cx)(pins:List (Addr×Obj))(σ:St)(Q:List V->Hp->Prop)(us:List ae)(s':af):Prop:=∃vs H',Inv X pins σ H' s'/\Vals vs us/\Q vs H'
noncomputable def SP(X:Cx)(pins:List (Addr×Obj))(D:Ends)(f:Flow)(s':af):Prop:=
 match f with
 | .next=>∃σ' H',Inv X pins σ' H' s'/\D.nx σ' H'
 | .brk=>∃σ' H',Inv X pins σ' H' s'/\D.bk σ' H'
 | .cont=>∃σ' H',Inv X pins σ' H' s'/\D.ct σ' H'
 | .ret u=>∃v σ' H',Inv X pins σ' H' s'/\RelV v u/\D.rt v H'
noncomputable def PE(X:Cx)(e:Expr)(t:TE):Prop:=
 ∀(pins:List (Addr×Obj)) (s:af) (σ:St) (H:Hp) (Q:VK),Inv X pins σ H s->t σ H Q->ai (aj X.prog X.w) X.A (eval e X.env) (EP X pins σ Q) X.xe s
noncomputable def PT(X:Cx)(e:Expr)(t:TT):Prop:=
 ∀(pins:List (Addr×Obj)) (s:af) (σ:St) (H:Hp) (Q:Bool->Hp->Prop),Inv X pins σ H s->t σ H Q->ai (aj X.prog X.w) X.A (isTrue e X.env (eval e X.env)) (TP X pins σ Q) X.xe s
noncomputable def PW(X:Cx)(e:Expr)(t:TT):Prop:=
 ∀(whole:Sem ae) (pins:List (Addr×Obj)) (s:af) (σ:St) (H:Hp) (Q:Bool->Hp->Prop),Inv X pins σ H s->t σ H Q->ai (aj X.prog X.w) X.A (isTrue e X.env whole) (TP X pins σ Q) X.xe s
theorem PW.pt{X:Cx}{e:Expr}{t:TT}(h:PW X e t):PT X e t:=h _
noncomputable def PA(X:Cx)(es:List Expr)(t:TA):Prop:=
 ∀(pos:Pos) (pins:List (Addr×Obj)) (s:af) (σ:St) (H:Hp) (Q:List V->Hp->Prop),Inv X pins σ H s->t σ H Q->ai (aj X.prog X.w) X.A (spliced (backTo pos (aL es X.env))) (AP X pins σ Q) X.xe s
noncomputable def PS(X:Cx)(st:Stmt)(t:TS):Prop:=
 ∀(pins:List (Addr×Obj)) (s:af) (σ:St) (H:Hp) (D:Ends),Inv X pins σ H s->t D σ H->ai (aj X.prog X.w) X.A (exec st X.env) (SP X pins D) X.xe s
noncomputable def PSs(X:Cx)(st:List Stmt)(t:TS):Prop:=
 ∀(pins:List (Addr×Obj)) (s:af) (σ:St) (H:Hp) (D:Ends),Inv X pins σ H s->t D σ H->ai (aj X.prog X.w) X.A (execs st X.env) (SP X pins D) X.xe s
theorem thn{α:Type}{t:Sem α}{Q Q':α->af->Prop}{M:Model}{A:aw}{E:ae->af->Prop}{s:af}(h:ai M A t Q E s)(hQ:∀a s,Q a s->Q' a s):ai M A t Q' E s:=bI h hQ λ_ _ x=>x
section
variable{X:Cx}
theorem bin{a b:Expr}{ta tb:TE}(ha:PE X a ta)(hb:PE X b tb){pins:List (Addr×Obj)}{s:af}{σ:St}{H:Hp}{R:V->V->Hp->Prop}(I:Inv X pins σ H s)(h:ta σ H λx H1=>tb σ H1 λy H2=>R x y H2)
  {α:Type}{Q:α->af->Prop}{f:ae->ae->Sem α}
  (hf:∀v u s2 x y H2,Inv X pins σ H2 s2->RelV x v->RelV y u->R x y H2->ai (aj X.prog X.w) X.A (f v u) Q X.xe s2) :
  ai (aj X.prog X.w) X.A (eval a X.env) (λv s₁=>ai (aj X.prog X.w) X.A (eval b X.env) (λu s₂=>ai (aj X.prog X.w) X.A (f v u) Q X.xe s₂) X.xe s₁) X.xe s:=by
 refine thn (ha pins s σ H _ I h) λv s1 ⟨x,H1,I1,r1,q1⟩=>?_
 refine thn (hb pins s1 σ H1 _ I1 q1) λu s2 ⟨y,H2,I2,r2,q2⟩=>?_
 exact hf v u s2 x y H2 I2 r1 r2 q2
noncomputable def fi(i:Nat):TE:=λσ H Q=>∃v,σ[i]? = some (some v)/\Q v H
noncomputable def tC(v:V):TE:=λ_ H Q=>Q v H
theorem fP{i:Nat}{x:Str}{pos:Pos}(hN:X.N[i]? = some x)(hv:eB X.env.scope x)(hd:(x==("__debug__" : Str))=false:=by decide)(hcd:(x==("__classdict__" : Str))=false:=by decide):PE X (.Name x pos) (fi i):=by
 intro pins s σ H Q I h;obtain⟨v,e,h⟩:=h;obtain⟨m,hn,hl⟩:=I.loc;obtain⟨u,r,l⟩:=hl i x v hN e hv;have fin:EP X pins σ Q u s:=⟨v,H,I,r,h⟩
 rcases l with ⟨hk,hm⟩|⟨hk,c,hc,hcell⟩
 ·exact wpAny_Name (wpAny_loadName_local I.ok.kind hk hn hm fin) hd
 ·rcases hk with hk|hk
  ·exact wpAny_Name (wpAny_loadName_cell I.ok.kind hk hc hcell fin) hd
  ·exact wpAny_Name (wpAny_loadName_free I.ok.kind hk hc hcell fin hcd) hd
theorem oO{i j pos}:PE X (.Constant (.int i) j pos) (tC (.int i)):=λ_ _ _ H _ I h=>wpAny_Constant_int ⟨.int i,H,I.tok _,⟨_,rfl⟩,h⟩
theorem pK{b j pos}:PE X (.Constant (.bool b) j pos) (tC (.bl b)):=λ_ _ _ H _ I h=>Constant_bool ⟨.bl b,H,I,rfl,h⟩
theorem wH{j pos}:PE X (.Constant .none j pos) (tC .non):=λ_ _ _ H _ I h=>Constant_none ⟨.non,H,I,rfl,h⟩
theorem xl{x j pos}:PE X (.Constant (.str x) j pos) (tC (.str x)):=λ_ _ _ H _ I h=>Calls.Constant_str ⟨.str x,H,I.tok _,⟨_,rfl⟩,h⟩
noncomputable def Gl(X:Cx)(x:Str):Prop:=X.env.kindOf x=some .globalImplicit
theorem f_{E:ae->af->Prop}{pins:List (Addr×Obj)}{s:af}{σ:St}{H:Hp}{x:Str}{u:ae}{pos:Pos}{Q:ae->af->Prop}(I:Inv X pins σ H s)(hg:Gl X x)(hm:X.mg x=some u)(h:Q u s)
  (hd:(x==("__debug__" : Str))=false:=by decide):ai (aj X.prog X.w) X.A (eval (.Name x pos) X.env) Q E s:=
 Calls.Name_function_global I.ok.kind hg (Calls.loadGlobal_global (by rw[I.ok.glob];exact I.mod.glob.keeps I.bk) hm h) hd
theorem fC{E:ae->af->Prop}{pins:List (Addr×Obj)}{s:af}{σ:St}{H:Hp}{x:Str}{u:ae}{pos:Pos}{Q:ae->af->Prop}(I:Inv X pins σ H s)(hg:Gl X x)(hm:X.mg x=none)(hv:bB x=some u)(h:Q u s)
  (hn:x≠"__name__":=by decide) (hd:(x==("__debug__" : Str))=false:=by decide):ai (aj X.prog X.w) X.A (eval (.Name x pos) X.env) Q E s:=by
 obtain⟨mb,h1,h2⟩:=I.mod.blt;exact Calls.Name_function_global I.ok.kind hg (Calls.loadGlobal_builtin (by rw[I.ok.glob];exact I.mod.glob.keeps I.bk) hm (by rw[I.ok.blt];exact h1.keeps I.bk) ((h2 x hn).trans hv) h) hd
theorem kE{x:Str}{v:V}{u:ae}{pos:Pos}(hg:Gl X x)(hm:X.mg x=some u)(r:RelV v u)(hd:(x==("__debug__" : Str))=false:=by decide):PE X (.Name x pos) (tC v):=
 λ_ _ _ H _ I h=>f_ I hg hm ⟨v,H,I,r,h⟩ hd
theorem DI{x:Str}{v:V}{u:ae}{pos:Pos}(hg:Gl X x)(hm:X.mg x=none)(hv:bB x=some u)(r:RelV v u)(hn:x≠"__name__":=by decide)(hd:(x==("__debug__" : Str))=false:=by decide):PE X (.Name x pos) (tC v):=
 λ_ _ _ H _ I h=>fC I hg hm hv ⟨v,H,I,r,h⟩ hn hd
variable{a b:Expr}{ta tb:TE}{pos:Pos}
variable{tA tB':TT}{rest:List Expr}
noncomputable def sj(t u:TT):TT:=λσ H Q=>t σ H λc H1=>if c=true then u σ H1 Q else Q false H1
noncomputable def tOr(t u:TT):TT:=λσ H Q=>t σ H λc H1=>if c=true then Q true H1 else u σ H1 Q
noncomputable def yA(t:TT):TT:=λσ H Q=>t σ H λc H1=>Q (!c) H1
theorem we(ha:PT X a tA):PW X (.BoolOp .And [a] pos) tA:=by
 intro wh pins s σ H Q I h;refine isTrue_and (thn (ha pins s σ H Q I h) λc s1 e=>?_);cases c with
 |true=>exact isTrue_and_nil e
 |false=>exact e
theorem AV(ha:PT X a tA):PW X (.BoolOp .Or [a] pos) tA:=by
 intro wh pins s σ H Q I h;refine isTrue_or (thn (ha pins s σ H Q I h) λc s1 e=>?_);cases c with
 |false=>exact isTrue_or_nil e
 |true=>exact e
theorem sT(ha:PT X a tA)(hb:PW X (.BoolOp .And (b::rest) pos) tB'):PW X (.BoolOp .And (a::b::rest) pos) (sj tA tB'):=by
 intro wh pins s σ H Q I h;refine isTrue_and (thn (ha pins s σ H _ I h) λc s1 ⟨H1,I1,q1⟩=>?_);cases c with
 |true=>exact hb wh pins s1 σ H1 Q I1 q1
 |false=>exact⟨H1,I1,q1⟩
theorem BV(ha:PT X a tA)(hb:PW X (.BoolOp .Or (b::rest) pos) tB'):PW X (.BoolOp .Or (a::b::rest) pos) (tOr tA tB'):=by
 intro wh pins s σ H Q I h;refine isTrue_or (thn (ha pins s σ H _ I h) λc s1 ⟨H1,I1,q1⟩=>?_);cases c with
 |true=>exact⟨H1,I1,q1⟩
 |false=>exact hb wh pins s1 σ H1 Q I1 q1
theorem yS(ha:PT X a tA):PT X (.UnaryOp .Not a pos) (yA tA):=by
 intro pins s σ H Q I h;exact isTrue_not (ha pins s σ H (λc H1=>Q (!c) H1) I h)
noncomputable def DJ(ta tb:TE):TE:=λσ H Q=>ta σ H λx H1=>∃c,x=.bl c/\if c=true then tb σ H1 Q else Q (.bl false) H1
noncomputable def vO(ta tb:TE):TE:=λσ H Q=>ta σ H λx H1=>∃c,x=.bl c/\if c=true then Q (.bl true) H1 else tb σ H1 Q
noncomputable def D9(ta:TE):TE:=λσ H Q=>ta σ H λx H1=>∃c,x=.bl c/\Q (.bl (!c)) H1
theorem y8{op}{t:TE}(h:PE X a t):PE X (.BoolOp op [a] pos) t:=λpins s σ H Q I hw=>BoolOp_one (h pins s σ H Q I hw)
theorem DA(ha:PE X a ta)(hb:PE X (.BoolOp .And (b::rest) pos) tb):PE X (.BoolOp .And (a::b::rest) pos) (DJ ta tb):=by
 intro pins s σ H Q I h;refine BoolOp_and (thn (ha pins s σ H _ I h) λv s1 ⟨x,H1,I1,r1,q1⟩=>?_);obtain⟨c,rfl,q1⟩:=q1;cases r1;refine bF ?_;cases c with
 |true=>exact hb pins s1 σ H1 Q I1 q1
 |false=>exact⟨.bl false,H1,I1,rfl,q1⟩
theorem wW(ha:PE X a ta)(hb:PE X (.BoolOp .Or (b::rest) pos) tb):PE X (.BoolOp .Or (a::b::rest) pos) (vO ta tb):=by
 intro pins s σ H Q I h;refine BoolOp_or (thn (ha pins s σ H _ I h) λv s1 ⟨x,H1,I1,r1,q1⟩=>?_);obtain⟨c,rfl,q1⟩:=q1;cases r1;refine bF ?_;cases c with
 |false=>exact hb pins s1 σ H1 Q I1 q1
 |true=>exact⟨.bl true,H1,I1,rfl,q1⟩
theorem B2(ha:PE X a ta):PE X (.UnaryOp .Not a pos) (D9 ta):=by
 intro pins s σ H Q I h;refine UnaryOp_ (thn (ha pins s σ H _ I h) λv s1 ⟨x,H1,I1,r1,q1⟩=>?_);obtain⟨c,rfl,q1⟩:=q1;cases r1;exact not_of (bF ⟨.bl (!c),H1,I1,rfl,q1⟩)
noncomputable def tIf(t:TT)(ta tb:TE):TE:=λσ H Q=>t σ H λc H1=>if c=true then ta σ H1 Q else tb σ H1 Q
theorem AZ{c:Expr}(hc:PT X c tA)(ha:PE X a ta)(hb:PE X b tb):PE X (.IfExp c a b pos) (tIf tA ta tb):=by
 intro pins s σ H Q I h;refine wpAny_IfExp (thn (hc pins s σ H _ I h) λd s1 ⟨H1,I1,q1⟩=>?_);cases d with
 |true=>exact ha pins s1 σ H1 Q I1 q1
 |false=>exact hb pins s1 σ H1 Q I1 q1
end
noncomputable def SqL(K:aq)(H:Hp)(a:Addr)(xs:List V):Prop:=
 Rd H a (.lst xs) \/
  ∃(o:Obj) (its:Array ae) (n:Nat),K.lookup a=some o/\o.cls=.type "list"/\o.dict=none/\o.data=.seq its n/\its.size<=aF/\Vals xs its.toList
noncomputable def SqT(K:aq)(H:Hp)(a:Addr)(xs:List V):Prop:=
 Rd H a (.tup xs) \/
  ∃(o:Obj) (its:Array ae) (n:Nat),K.lookup a=some o/\o.cls=.type "tuple"/\o.data=.seq its n/\its.size<=aF/\Vals xs its.toList
noncomputable def yr:ae->Option V
 | .none=>some .non
 | .bool b=>some (.bl b)
 | .int i _=>some (.int i)
 | .str x _=>some (.str x)
 | .bytes b _=>some (.byt b)
 | .float b _=>some (.flt b)
 | .ref a=>some (.ref a)
 | .type n=>some (.ty n)
 |_=>none
theorem RelV.abs{x:V}{u:ae}(r:RelV x u):yr u=some x:=by
 cases x with
 |non=>cases r;rfl
 |bl _=>cases r;rfl
 |int _=>obtain⟨t,rfl⟩:=r;rfl
 |str _=>obtain⟨t,rfl⟩:=r;rfl
 |byt _=>obtain⟨t,rfl⟩:=r;rfl
 |flt _=>obtain⟨t,rfl⟩:=r;rfl
 |ref _=>cases r;rfl
 |ty _=>cases r;rfl
theorem RelV.inj{x y:V}{u:ae}(r:RelV x u)(q:RelV y u):x=y:=bA (r.abs.symm.trans q.abs)
theorem Vals.inj{xs ys:List V}{us:List ae}(h:Vals xs us)(h':Vals ys us):xs=ys:=by
 induction h generalizing ys with
 |nil=>cases h';rfl
 |cons r t ih=>cases h' with
  |cons r' t'=>rw[r.inj r',ih t']
section
variable{X:Cx}{pins:List (Addr×Obj)}{σ:St}{H:Hp}{s:af}{a:Addr}{xs ys:List V}
theorem SqL.of{K:aq}(h:H a=some (.lst xs)):SqL K H a xs:=.inl (.inl h)
theorem SqT.of{K:aq}(h:H a=some (.tup xs)):SqT K H a xs:=.inl (.inl h)
theorem Inv.list(I:Inv X pins σ H s)(h:SqL X.K H a xs):∃its:List ae,Vals xs its/\PlainL s.heap a its.toArray/\xs.length<=sizeLine:=by
 rcases h with h|⟨o,its,n,hk,hc,hd,hs,hz,r⟩
 ·obtain⟨z,its,n,r,e⟩:=h.ok I.hok;exact⟨its,r,⟨_,n,e,rfl,rfl,rfl⟩,z⟩
 ·refine⟨its.toList,r,⟨o,n,I.kIn a o hk,hc,hd,by simpa using hs⟩,?_⟩;have e:=r.length;simp only[Array.length_toList]at e;lia
theorem Inv.tuple(I:Inv X pins σ H s)(h:SqT X.K H a xs):∃its:List ae,Vals xs its/\IsTup s.heap a its.toArray/\xs.length<=sizeLine:=by
 rcases h with h|⟨o,its,n,hk,hc,hs,hz,r⟩
 ·obtain⟨z,its,r,p⟩:=h.ok I.hok;exact⟨its,r,p,z⟩
 ·refine⟨its.toList,r,⟨o,I.kIn a o hk,hc,n,by simpa using hs⟩,?_⟩;have e:=r.length;simp only[Array.length_toList]at e;lia
theorem Inv.list_inj(I:Inv X pins σ H s)(h:SqL X.K H a xs)(h':SqL X.K H a ys):xs=ys:=by
 obtain⟨its,r,⟨o,n,e,_,_,d⟩,_⟩:=I.list h;obtain⟨its',r',⟨o',n',e',_,_,d'⟩,_⟩:=I.list h';rw[e]at e';cases e';rw[d]at d';injection d' with d1 _
 have:its=its':=by simpa using congrArg Array.toList d1
 subst this;exact r.inj r'
theorem Inv.tuple_inj(I:Inv X pins σ H s)(h:SqT X.K H a xs)(h':SqT X.K H a ys):xs=ys:=by
 obtain⟨its,r,⟨o,e,_,n,d⟩,_⟩:=I.tuple h;obtain⟨its',r',⟨o',e',_,n',d'⟩,_⟩:=I.tuple h';rw[e]at e';cases e';rw[d]at d';injection d' with d1 _
 have:its=its':=by simpa using congrArg Array.toList d1
 subst this;exact r.inj r'
end
abbrev Cx.wish(X:Cx)(E:ae->af->Prop):Cx:={X with xe:=E}
abbrev Cx.nox(X:Cx):Cx:=X.wish λ_ _=>False
theorem Cx.Ok.wish{X:Cx}(ok:X.Ok)(E:ae->af->Prop):(X.wish E).Ok:=
 ⟨ok.mod,ok.kind,ok.glob,ok.blt,ok.above,ok.inj,ok.has,ok.cab,ok.hd,ok.frames,ok.stk,ok.exf,ok.bs,ok.bsz,ok.noex,ok.exfs,ok.funs,ok.frf⟩
theorem Cx.Ok.unwish{X:Cx}{E:ae->af->Prop}(ok:(X.wish E).Ok):X.Ok:=
 ⟨ok.mod,ok.kind,ok.glob,ok.blt,ok.above,ok.inj,ok.has,ok.cab,ok.hd,ok.frames,ok.stk,ok.exf,ok.bs,ok.bsz,ok.noex,ok.exfs,ok.funs,ok.frf⟩
section
variable{X:Cx}{pins:List (Addr×Obj)}{σ:St}{H:Hp}{s:af}{E:ae->af->Prop}
theorem Inv.wish(I:Inv X pins σ H s)(E:ae->af->Prop):Inv (X.wish E) pins σ H s:=⟨I.ok.wish E,I.os,I.bare,I.base,I.loc,I.cell,I.free,I.freeC,I.pin,I.hok,I.len⟩
theorem Inv.unwish(I:Inv (X.wish E) pins σ H s):Inv X pins σ H s:=⟨I.ok.unwish,I.os,I.bare,I.base,I.loc,I.cell,I.free,I.freeC,I.pin,I.hok,I.len⟩
theorem SP.unwish{D:Ends}{f:Flow}{s':af}(h:SP (X.wish E) pins D f s'):SP X pins D f s':=by
 cases f with
 |next=>obtain⟨σ',H',I,q⟩:=h;exact⟨σ',H',I.unwish,q⟩
 |brk=>obtain⟨σ',H',I,q⟩:=h;exact⟨σ',H',I.unwish,q⟩
 |cont=>obtain⟨σ',H',I,q⟩:=h;exact⟨σ',H',I.unwish,q⟩
 |ret u=>obtain⟨v,σ',H',I,r,q⟩:=h;exact⟨v,σ',H',I.unwish,r,q⟩
end
section
variable{X:Cx}{st:Stmt}{rest:List Stmt}{t u:TS}{e:Expr}{te:TE}{pos:Pos}
noncomputable def iL:TS:=λD σ H=>D.nx σ H
noncomputable def wu(t u:TS):TS:=λD σ H=>t {D with nx:=u D} σ H
theorem Aa:PSs X [] iL:=λ_ _ σ H _ I h=>wpAny_execs_nil ⟨σ,H,I,h⟩
theorem ph(h1:PS X st t)(h2:PSs X rest u):PSs X (st::rest) (wu t u):=by
 intro pins s σ H D I h;refine wpAny_execs_cons (thn (h1 pins s σ H {D with nx:=u D} I h) λf s1 q=>?_);cases f with
 |next=>
  obtain⟨σ',H',I',q⟩:=q;exact h2 pins s1 σ' H' D I' q
 |ret v=>exact q
 |brk=>exact q
 |cont=>exact q
noncomputable def vo:TS:=λD σ H=>D.bk σ H
noncomputable def A3:TS:=λD σ H=>D.ct σ H
theorem wR:PS X (.Pass pos) iL:=λ_ _ σ H _ I h=>wpAny_Pass ⟨σ,H,I,h⟩
theorem AG:PS X (.Break pos) vo:=λ_ _ σ H _ I h=>wpAny_Break ⟨σ,H,I,h⟩
theorem C_:PS X (.Continue pos) A3:=λ_ _ σ H _ I h=>wpAny_Continue ⟨σ,H,I,h⟩
theorem Inv.quiet{pins:List (Addr×Obj)}{σ:St}{H:Hp}{s:af}(I:Inv X pins σ H s):interactive X.env=false:=by simp[interactive,I.ok.kind]
noncomputable def yU(te:TE):TS:=λD σ H=>te σ H λ_ H1=>D.nx σ H1
theorem jE(he:PE X e te)(hs:swapsWith e none pos.line X.env=pure false:=by rfl):PS X (.Expr e pos) (yU te):=by
 intro pins s σ H D I h;exact wpAny_Expr_any (thn (he pins s σ H _ I h) λv s1 ⟨x,H1,I1,r1,q1⟩=>⟨σ,H1,I1,q1⟩) I.quiet hs
noncomputable def tq(te:TE):TS:=λD σ H=>te σ H D.rt
theorem pB(he:PE X e te):PS X (.Return (some e) pos) (tq te):=by
 intro pins s σ H D I h;exact wpAny_Return_some (thn (he pins s σ H _ I h) λv s1 ⟨x,H1,I1,r1,q1⟩=>⟨x,σ,H1,I1,r1,q1⟩)
noncomputable def yz:TS:=λD _ H=>D.rt .non H
theorem Cg:PS X (.Return none pos) yz:=λ_ _ σ H _ I h=>wpAny_Return_none ⟨.non,σ,H,I,rfl,h⟩
noncomputable def iP(c:TT)(t u:TS):TS:=λD σ H=>c σ H λb H1=>if b=true then t D σ H1 else u D σ H1
theorem yv{c:Expr}{a b:List Stmt}{tc:TT}(hc:PT X c tc)(ha:PSs X a t)(hb:PSs X b u):PS X (.If c a b pos) (iP tc t u):=by
 intro pins s σ H D I h;refine wpAny_If (thn (hc pins s σ H _ I h) λd s1 ⟨H1,I1,q1⟩=>?_);cases d with
 |true=>exact ha pins s1 σ H1 D I1 q1
 |false=>exact hb pins s1 σ H1 D I1 q1
end
abbrev TG:=V->St->Hp->(St->Hp->Prop)->Prop
abbrev TGs:=List V->St->Hp->(St->Hp->Prop)->Prop
noncomputable def PG(X:Cx)(target:Expr)(t:TG):Prop:=
 ∀(pins:List (Addr×Obj)) (s:af) (σ:St) (H:Hp) (v:V) (u:ae) (Q:St->Hp->Prop),Inv X pins σ H s->RelV v u->t v σ H Q ->
  ai (aj X.prog X.w) X.A (assign target X.env u) (λ_ s'=>∃σ' H',Inv X pins σ' H' s'/\Q σ' H') X.xe s
noncomputable def PGs(X:Cx)(ts:List Expr)(t:TGs):Prop:=
 ∀(pins:List (Addr×Obj)) (s:af) (σ:St) (H:Hp) (vs:List V) (us:List ae) (Q:St->Hp->Prop),Inv X pins σ H s->Vals vs us->t vs σ H Q ->
  ai (aj X.prog X.w) X.A (assignInOrder ((assignEach ts X.env).map (·.2)) us) (λ_ s'=>∃σ' H',Inv X pins σ' H' s'/\Q σ' H') X.xe s
abbrev la:=V->V->V->Hp->(Hp->Prop)->Prop
noncomputable def fG(X:Cx)(t:la):Prop:=
 ∀(pins:List (Addr×Obj)) (s:af) (σ:St) (H:Hp) (o i v:V) (ov iv u:ae) (Q:Hp->Prop),Inv X pins σ H s->RelV o ov->RelV i iv->RelV v u->t o i v H Q ->
  ai (aj X.prog X.w) X.A (setItem ov iv u) (λ_ s'=>∃H',Inv X pins σ H' s'/\Q H') X.xe s
section
variable{X:Cx}{pos:Pos}
noncomputable def fg(i:Nat):TG:=λv σ H Q=>Q (σ.set i (some v)) H
theorem CD{i:Nat}{x:Str}(hN:X.N.Nodup)(hi:X.N[i]? = some x)(hx:Loc X.env.scope x)(hf:X.fn x=true\/X.env.scope.names.lookup x=some .local:=by first|exact .inl rfl|exact .inr rfl|assumption):PG X (.Name x pos) (fg i):=by
 intro pins s σ H v u Q I r h;exact wpAny_assign_Name (lC I hN hi hx r (λs' I'=>⟨_,H,I',h⟩) hf)
noncomputable def rh:TGs:=λvs σ H Q=>vs=[]/\Q σ H
noncomputable def pM(t:TG)(u:TGs):TGs:=λvs σ H Q=>∃v r,vs=v::r/\t v σ H λσ' H'=>u r σ' H' Q
theorem yQ:PGs X [] rh:=by
 intro pins s σ H vs us Q I r h;obtain⟨e,h⟩:=h;subst e;cases r;exact assignInOrder_nil ⟨σ,H,I,h⟩
theorem DR{e:Expr}{es:List Expr}{t:TG}{u:TGs}(h1:PG X e t)(h2:PGs X es u)
  (hs:(assignEach (e::es) X.env).map (·.2)=assign e X.env::(assignEach es X.env).map (·.2):=by rfl):PGs X (e::es) (pM t u):=by
 intro pins s σ H vs us Q I r h;obtain⟨v,vr,e1,h⟩:=h;subst e1;cases r with
 |cons r rr=>
  rw[hs];refine assignInOrder_cons (thn (h1 pins s σ H _ _ _ I r h) λ_ s1 ⟨σ1,H1,I1,q1⟩=>?_);exact h2 pins s1 σ1 H1 _ _ Q I1 rr q1
noncomputable def mU(K:aq)(n:Nat)(t:TGs):TG:=λv σ H Q=>∃a xs,v=.ref a/\SqT K H a xs/\xs.length=n/\t xs σ H Q
theorem yL{es:List Expr}{k:Nat}{t:TGs}{n:Nat}(hc:X.calm=true)(h:PGs X es t)
  (hn:(assignEach es X.env).length=n:=by rfl) (hst:(assignEach es X.env).findIdx? (·.1)=none:=by rfl):PG X (.Tuple es k pos) (mU X.K n t):=by
 intro pins s σ H v u Q I r hw;obtain⟨a,xs,e1,hq,hl,hw⟩:=hw;subst e1;cases r;obtain⟨its,rv,ht,hz⟩:=I.tuple hq;refine assign_Tuple_tuple (I.ok.hd hc) ht (by simp[hn,<-hl,rv.length]) hst λh' hx=>?_
 have I1:Inv X pins σ H {s with heap:=h'}:=I.kept (t':=s.toks) λb o e=>hx b o (aV (aH e)) e
 exact h pins _ σ H xs _ Q I1 (by simpa using rv) hw
noncomputable def mZ(to ti:TE)(t:la):TG:=λv σ H Q=>to σ H λo H1=>ti σ H1 λi H2=>t o i v H2 λH3=>Q σ H3
theorem sH{o i:Expr}{to ti:TE}{t:la}(ho:PE X o to)(hi:PE X i ti)(hs:fG X t)
  (ha:∀v,assign (.Subscript o i pos) X.env v=(do
   let ov <-holding [v] (eval o X.env)
   let iv <-holding [v,ov] (eval i X.env)
   standAt pos
   holding [v,ov,iv] (setItem ov iv v)
   release [v,ov,iv] []):=by intro _;rfl):PG X (.Subscript o i pos) (mZ to ti t):=by
 intro pins s σ H v u Q I r h;rw[ha];refine ah (cM (thn (ho pins s σ H _ I h) λov s1 ⟨x,H1,I1,r1,q1⟩=>?_));refine ah (cM (thn (hi pins s1 σ H1 _ I1 q1) λiv s2 ⟨y,H2,I2,r2,q2⟩=>?_));refine ah (wpAny_standAt (ah (cM (thn (hs pins s2 σ H2 x y v ov iv u _ I2 r1 r2 r q2) λ_ s3 ⟨H3,I3,q3⟩=>?_))));exact wpAny_release ⟨σ,H3,I3,q3⟩
noncomputable def jr(te:TE)(g:TG):TS:=λD σ H=>te σ H λx H1=>g x σ H1 D.nx
theorem oS{tg e:Expr}{te:TE}{g:TG}(he:PE X e te)(hg:PG X tg g)(hs:swapsWithSole [tg] e pos.line X.env=pure false:=by rfl)(hw:swappedStores [tg] e X.env=pure none:=by rfl)
  (h1:(assignEach [tg] X.env).map (·.2)=[assign tg X.env]:=by rfl):PS X (.Assign [tg] e pos) (jr te g):=by
 intro pins s σ H D I h;refine wpAny_Assign_stores (thn (he pins s σ H _ I h) λv s1 ⟨x,H1,I1,r1,q1⟩=>?_) hs hw;rw[h1];exact thn (hg pins s1 σ H1 x v _ I1 r1 q1) λ_ s2 q=>q
theorem kY{i:Nat}{x:Str}{e:Expr}{te:TE}{pos':Pos}(hN:X.N.Nodup)(hi:X.N[i]? = some x)(hx:Loc X.env.scope x)(he:PE X e te)(hs:swapsWith e (some (.Name x pos')) pos.line X.env=pure false:=by rfl)(hf:X.fn x=true\/X.env.scope.names.lookup x=some .local:=by first|exact .inl rfl|exact .inr rfl|assumption) :
  PS X (.Assign [.Name x pos'] e pos) (jr te (fg i)):=by
 intro pins s σ H D I h;refine wpAny_Assign_Name (thn (he pins s σ H _ I h) λv s1 ⟨y,H1,I1,r1,q1⟩=>?_) hs;exact lC I1 hN hi hx r1 (λs2 I2=>⟨_,H1,I2,q1⟩) hf
end
section
variable{X:Cx}{pos:Pos}
noncomputable def uN(c:TT)(tb:TS):TS:=λD σ H=>∃W:Nat->St->Hp->Prop,(∃m,W m σ H)/\∀m σ H,W m σ H ->
 c σ H λb H1=>if b=true then ∃N:St->Hp->Prop,(∀σ' H',N σ' H'->∃m',m'<m/\W m' σ' H')/\tb {D with nx:=N,ct:=N,bk:=D.nx} σ H1 else D.nx σ H1
theorem DH{c:Expr}{body:List Stmt}{tc:TT}{tb:TS}(hp:PassesOwn (aj X.prog X.w) X.A X.env X.xe)(hc:PT X c tc)(hb:PSs X body tb):PS X (.While c body [] pos) (uN tc tb):=by
 intro pins s σ H D I h;obtain⟨W,⟨m0,w0⟩,turn⟩:=h;refine wpAny_While (codeAny_whileLoop (λn s'=>∃σ' H',Inv X pins σ' H' s'/\W n σ' H') ?_ m0 ⟨σ,H,I,w0⟩);rintro n s1 ⟨σ1,H1,I1,w1⟩;refine wpAny_passesOwn hp (thn (hc pins s1 σ1 H1 _ I1 (turn n σ1 H1 w1)) λb s2 ⟨H2,I2,q2⟩=>?_);cases b with
 |true=>
  obtain⟨N,hN,q2⟩:=q2;rw[if_pos rfl];refine wpAny_passesOwn hp (thn (hb pins s2 σ1 H2 _ I2 q2) λf s3 q3=>?_);cases f with
  |next=>
   obtain⟨σ3,H3,I3,n3⟩:=q3;obtain⟨m',hm,w3⟩:=hN σ3 H3 n3;exact⟨m',hm,σ3,H3,I3,w3⟩
  |cont=>
   obtain⟨σ3,H3,I3,n3⟩:=q3;obtain⟨m',hm,w3⟩:=hN σ3 H3 n3;exact⟨m',hm,σ3,H3,I3,w3⟩
  |brk=>exact q3
  |ret v=>exact q3
 |false=>
  rw[if_neg bQ];exact wpAny_execs_nil ⟨σ1,H2,I2,q2⟩
end
structure It where
 go:Nat->Hp->Prop
 yld:Nat->Hp->V->Hp->Prop
 stop:Nat->Hp->Prop
noncomputable def dj(X:Cx)(pins:List (Addr×Obj))(H:Hp)(b:Addr):Prop:=
 H b=none/\b≠X.env.locals/\b∉X.fs/\(b∈X.ex\/X.s₀.heap.objs.size<=b)/\(∀x c,X.env.cells.lookup x=some c->c≠b)/\∀p∈X.pn++pins,p.1≠b
theorem Inv.fpOk{X:Cx}{pins:List (Addr×Obj)}{σ:St}{H H':Hp}{s:af}{b:Addr}(I:Inv X pins σ H s)(hb:s.heap.objs.size<=b)(hn:H' b=none):dj X pins H' b:=by
 refine⟨hn,Nat.ne_of_gt (a_ I.lt hb),I.nofs hb,.inr (bg I.sz hb),λx c e z=>?_,λp hp z=>?_⟩
 ·obtain⟨v,q⟩:=I.cell x c e;exact absurd (a_ q.lt (by rw[z];exact hb)) (bx _)
 ·exact absurd (a_ (aH (I.pin p hp).1) (by rw[z];exact hb)) (bx _)
structure Turn(P:av)(w:au)(K:aq)(tg:Expr)(J:It)(fp:List Addr)(it:Addr)(tn:Nat->Heap->Prop):Prop where
 mem:it∈fp
 obj:∀i h,tn i h->∀b∈fp,∃o,h.get? b=some o/\∀v,o.data≠.cell v
 keep:∀i h h',tn i h->(∀b∈fp,∀o,h.get? b=some o->h'.get? b=some o)->tn i h'
 item:∀(X:Cx),X.prog=P->X.w=w->X.K=K->X.calm=true->∀(i:Nat) (pins:List (Addr×Obj)) (s:af) (σ:St) (H:Hp) (E:ae->af->Prop),Inv X pins σ H s->(∀b∈fp,dj X pins H b)->tn i s.heap->J.go i H ->
  ai (aj P w) X.A (pyNext (.ref it)) (λr s1=>∃u,r=some u /\
   ai (aj P w) X.A (letOwnedTupleGo tg (.ref it) u) (λ_ s2=>∃x H',Inv X pins σ H' s2/\RelV x u/\J.yld i H x H'/\tn (i+1) s2.heap/\∀b∈fp,H' b=none) E s1) E s
 done:∀(X:Cx),X.prog=P->X.w=w->X.K=K->X.calm=true->∀(i:Nat) (pins:List (Addr×Obj)) (s:af) (σ:St) (H:Hp) (E:ae->af->Prop),Inv X pins σ H s->(∀b∈fp,dj X pins H b)->tn i s.heap->J.stop i H ->
  ai (aj P w) X.A (pyNext (.ref it)) (λr s1=>r=none/\Inv X pins σ H s1) E s
 self:∀(A:aw) (i:Nat) (s:af) (Q:ae->af->Prop) (E:ae->af->Prop),tn i s.heap->Q (.ref it) s->ai (aj P w) A (pyIter (.ref it)) Q E s
abbrev TI:=St->Hp->(It->Hp->Prop)->Prop
noncomputable def PIE(X:Cx)(pins:List (Addr×Obj))(σ:St)(tg:Expr)(R:It->Hp->Prop)(itv:ae)(s2:af):Prop:=
 ∃(it:Addr) (fp:List Addr) (tn:Nat->Heap->Prop) (J:It) (H':Hp),itv=.ref it/\Inv X pins σ H' s2/\Turn X.prog X.w X.K tg J fp it tn/\tn 0 s2.heap/\(∀b∈fp,dj X pins H' b)/\R J H'
noncomputable def PI(X:Cx)(tg iter:Expr)(wi:TI):Prop:=
 ∀(pins:List (Addr×Obj)) (s:af) (σ:St) (H:Hp) (R:It->Hp->Prop),Inv X pins σ H s->wi σ H R ->
  ai (aj X.prog X.w) X.A (eval iter X.env) (λv s1=>ai (aj X.prog X.w) X.A (pyIter v) (PIE X pins σ tg R) X.xe s1) X.xe s
theorem jH{M:Model}{A:aw}{E:ae->af->Prop}{s:af}{tg:Expr}{it:Addr}{u:ae}{o:Obj}{n:String}{vs:Array ae}{Q:Unit->af->Prop}(ho:s.heap.get? it=some o)(hc:o.cls=.type n)(hd:o.data=.fields vs)
  (hn:["enumerate","zip","dict_itemiterator","dict_reverseitemiterator","odict_iterator","itertools.zip_longest","itertools.pairwise"].contains n=false) (hQ:Q () s):ai M A (letOwnedTupleGo tg (.ref it) u) Q E s:=by
 unfold letOwnedTupleGo;cases tg<;>first
  |exact ax hQ
  | (cases u<;>first
    |exact ax hQ
    | (refine ah (wpAny_load ho ?_)
       rw[hc,hd];show ai M A (if (["enumerate","zip","dict_itemiterator","dict_reverseitemiterator","odict_iterator","itertools.zip_longest","itertools.pairwise"].contains n&&vs[0]? == some (rawInt _))=true then _ else _) Q E s;rw[if_neg (by intro h;rw[hn,Bool.false_and]at h;cases h)];exact ax hQ))
noncomputable def Itl(K:aq)(a:Addr):It:=
 ⟨λi H=>∃xs x,SqL K H a xs/\xs[i]? = some x,λi H x H'=>H'=H/\∀xs,SqL K H a xs->xs[i]? = some x,λi H=>∃xs,SqL K H a xs/\xs.length<=i⟩
noncomputable def Itt(K:aq)(a:Addr):It:=
 ⟨λi H=>∃xs x,SqT K H a xs/\xs[i]? = some x,λi H x H'=>H'=H/\∀xs,SqT K H a xs->xs[i]? = some x,λi H=>∃xs,SqT K H a xs/\xs.length<=i⟩
noncomputable def Itr(lo:Int)(n:Nat):It:=⟨λi _=>i<n,λi H x H'=>H'=H/\x=.int (lo+i),λi _=>n<=i⟩
theorem Az{P:av}{w:au}{K:aq}{tg:Expr}(a it:Addr):Turn P w K tg (Itl K a) [it] it (λi h=>h.IsListIter it a i) where
 mem:=by simp
 obj:=λi h st b hb=>by
  have e:b=it:=by simpa using hb
  subst e;obtain⟨o,e,c,d⟩:=st;exact⟨o,e,λv z=>by rw[d]at z;cases z⟩
 keep:=λi h h' st k=>st.at λo e=>k it (by simp) o e
 item:=by
  intro X hP hw hK hc i pins s σ H E I hf st hg;subst hP hw hK;obtain⟨xs,x,hq,hx⟩:=hg;obtain⟨its,rv,p,hz⟩:=I.list hq;obtain⟨u,hu,ru⟩:=rv.get hx;obtain⟨f0,f1,f2,f3,f4,f5⟩:=hf it (by simp);refine wpAny_pyNext_list_item st p.isList (x:=u) (by simpa using hu) λh' st' sb=>?_
  have I1:Inv X pins σ H {s with heap:=h'}:=I.turned (t':=s.toks) (λb o hb e=>(sb.2 b hb).trans e) f0 f1 f3 f4 f5;obtain⟨o,e,c,d⟩:=id st';exact⟨u,rfl,jH (s:={s with heap:=h'}) e c d (by decide) ⟨x,H,I1,ru,⟨rfl,λys hy=>by rw[I.list_inj hy hq];exact hx⟩,st',λb hb=>(hf b hb).1⟩⟩
 done:=by
  intro X hP hw hK hc i pins s σ H E I hf st hg;subst hP hw hK;obtain⟨xs,hq,hx⟩:=hg;obtain⟨its,rv,p,hz⟩:=I.list hq;obtain⟨f0,f1,f2,f3,f4,f5⟩:=hf it (by simp);have hl:=rv.length;exact wpAny_pyNext_list_end (I.ok.hd hc) st p.isList (by simp;lia) λh' eb=>⟨rfl,I.turned (t':=s.toks) (λb o hb e=>eb b o hb e) f0 f1 f3 f4 f5⟩
 self:=λ_ _ _ _ _ st h=>wpAny_pyIter_listiter st h
theorem CN{P:av}{w:au}{K:aq}{tg:Expr}(a it:Addr):Turn P w K tg (Itt K a) [it] it (λi h=>h.IsTupleIter it a i) where
 mem:=by simp
 obj:=λi h st b hb=>by
  have e:b=it:=by simpa using hb
  subst e;obtain⟨o,e,c,d⟩:=st;exact⟨o,e,λv z=>by rw[d]at z;cases z⟩
 keep:=λi h h' st k=>st.at λo e=>k it (by simp) o e
 item:=by
  intro X hP hw hK hc i pins s σ H E I hf st hg;subst hP hw hK;obtain⟨xs,x,hq,hx⟩:=hg;obtain⟨its,rv,p,hz⟩:=I.tuple hq;obtain⟨u,hu,ru⟩:=rv.get hx;obtain⟨f0,f1,f2,f3,f4,f5⟩:=hf it (by simp);refine wpAny_pyNext_tuple_item st (show s.heap.IsTuple a its.toArray from p) (x:=u) (by simpa using hu) λh' st' sb=>?_
  have I1:Inv X pins σ H {s with heap:=h'}:=I.turned (t':=s.toks) (λb o hb e=>(sb.2 b hb).trans e) f0 f1 f3 f4 f5;obtain⟨o,e,c,d⟩:=id st';exact⟨u,rfl,jH (s:={s with heap:=h'}) e c d (by decide) ⟨x,H,I1,ru,⟨rfl,λys hy=>by rw[I.tuple_inj hy hq];exact hx⟩,st',λb hb=>(hf b hb).1⟩⟩
 done:=by
  intro X hP hw hK hc i pins s σ H E I hf st hg;subst hP hw hK;obtain⟨xs,hq,hx⟩:=hg;obtain⟨its,rv,p,hz⟩:=I.tuple hq;obtain⟨f0,f1,f2,f3,f4,f5⟩:=hf it (by simp);have hl:=rv.length;exact wpAny_pyNext_tuple_end (I.ok.hd hc) st (show s.heap.IsTuple a its.toArray from p) (by simp;lia) λh' eb=>⟨rfl,I.turned (t':=s.toks) (λb o hb e=>eb b o hb e) f0 f1 f3 f4 f5⟩
 self:=λ_ _ _ _ _ st h=>wpAny_pyIter_tupleiter st h
theorem wJ{P:av}{w:au}{K:aq}{tg:Expr}(it:Addr)(lo:Int)(n:Nat):Turn P w K tg (Itr lo n) [it] it (λi h=>IsRangeIter h it (lo+(i:Nat) * 1) ((n:Int)-(i:Nat)) 1) where
 mem:=by simp
 obj:=λi h st b hb=>by
  have e:b=it:=by simpa using hb
  subst e;exact⟨_,st,λv z=>by
   have z':Data.fields _=Data.cell v:=z;cases z'⟩
 keep:=λi h h' st k=>k it (by simp) _ st
 item:=by
  intro X hP hw hK hc i pins s σ H E I hf st hg;subst hP hw hK;obtain⟨f0,f1,f2,f3,f4,f5⟩:=hf it (by simp);have W:=Walks.range (prog:=X.prog) (w:=X.w) (I.ok.hd hc) it lo 1 n;refine W.item i s _ _ hg st λv h' tk hv st' kk=>?_
  obtain⟨t,rfl⟩:=hv;have I1:Inv X pins σ H {s with heap:=h',toks:=tk}:=I.turned (λb o hb e=>kk b o (by simpa using hb) e) f0 f1 f3 f4 f5;refine⟨_,rfl,jH (s:={s with heap:=h',toks:=tk}) (n:="range_iterator") st' rfl rfl (by decide) ⟨.int (lo+i),H,I1,⟨t,?_⟩,⟨rfl,rfl⟩,st',λb hb=>(hf b hb).1⟩⟩;rw[Int.mul_one]
 done:=by
  intro X hP hw hK hc i pins s σ H E I hf st hg;subst hP hw hK;obtain⟨f0,f1,f2,f3,f4,f5⟩:=hf it (by simp);exact wpAny_pyNext_range_end (I.ok.hd hc) st (by have:n<=i:=hg;lia) λh' eb=>⟨rfl,I.turned (t':=s.toks) (λb o hb e=>eb b o hb e) f0 f1 f3 f4 f5⟩
 self:=λ_ _ _ _ _ st h=>wpAny_pyIter_rangeiter st h
section
variable{X:Cx}{tg:Expr}
noncomputable def Bk(K:aq)(tl:TE):TI:=λσ H R=>tl σ H λx H1=>∃a,x=.ref a/\(∃xs,SqL K H1 a xs)/\R (Itl K a) H1
noncomputable def DB(K:aq)(tl:TE):TI:=λσ H R=>tl σ H λx H1=>∃a,x=.ref a/\(∃xs,SqT K H1 a xs)/\R (Itt K a) H1
theorem tH{l:Expr}{tl:TE}(hl:PE X l tl):PI X tg l (Bk X.K tl):=by
 intro pins s σ H R I h;refine thn (hl pins s σ H _ I h) λv s1 ⟨x,H1,I1,r1,q1⟩=>?_
 obtain⟨a,e,⟨xs,hq⟩,q⟩:=q1;subst e;cases r1;obtain⟨its,rv,p,hz⟩:=I1.list hq;refine wpAny_pyIter_list p.isList ?_;refine⟨s1.heap.objs.size,[s1.heap.objs.size],_,_,H1,rfl,I1.kept (t':=s1.toks) λb o e=>Heap.get?_push_of_some _ e,Az a _,⟨_,Heap.get?_push_size _ rfl,rfl,rfl⟩,λb hb=>?_,q⟩;have e:b=s1.heap.objs.size:=by simpa using hb
 subst e;exact I1.fpOk (aD _) (I1.hok.fresh (aD _))
theorem Cf{l:Expr}{tl:TE}(hl:PE X l tl):PI X tg l (DB X.K tl):=by
 intro pins s σ H R I h;refine thn (hl pins s σ H _ I h) λv s1 ⟨x,H1,I1,r1,q1⟩=>?_
 obtain⟨a,e,⟨xs,hq⟩,q⟩:=q1;subst e;cases r1;obtain⟨its,rv,p,hz⟩:=I1.tuple hq;refine wpAny_pyIter_tuple (show s1.heap.IsTuple a its.toArray from p) ?_;refine⟨s1.heap.objs.size,[s1.heap.objs.size],_,_,H1,rfl,I1.kept (t':=s1.toks) λb o e=>Heap.get?_push_of_some _ e,CN a _,⟨_,Heap.get?_push_size _ rfl,rfl,rfl⟩,λb hb=>?_,q⟩;have e:b=s1.heap.objs.size:=by simpa using hb
 subst e;exact I1.fpOk (aD _) (I1.hok.fresh (aD _))
theorem nE{pins:List (Addr×Obj)}{σ:St}{H:Hp}{s:af}{R:It->Hp->Prop}{E:ae->af->Prop}{lo hi:Int}{t u v:Tok}{tk:Nat}(I:Inv X pins σ H s)(h1:-(2^62)<=lo)(h2:lo<2^62)(h3:-(2^62)<=hi)(h4:hi<2^62)
  (q:R (Itr lo (hi-lo).toNat) H):ai (aj X.prog X.w) X.A (pyIter (.ref s.heap.objs.size)) (PIE X pins σ tg R) E {s with heap:=s.heap.push {cls:=.type "range",data:=.fields #[.int lo t,.int hi u,.int 1 v]},toks:=tk}:=by
 refine wpAny_pyIter_range (IsRange.new ..) (small_one h1 h2 h3 h4) ?_;have I1:Inv X pins σ H {s with heap:=s.heap.push {cls:=.type "range",data:=.fields #[.int lo t,.int hi u,.int 1 v]},toks:=tk}:=I.kept λb o e=>Heap.get?_push_of_some _ e
 refine⟨(s.heap.push {cls:=.type "range",data:=.fields #[.int lo t,.int hi u,.int 1 v]}).objs.size,[(s.heap.push {cls:=.type "range",data:=.fields #[.int lo t,.int hi u,.int 1 v]}).objs.size],_,_,H,rfl,
  I1.kept (t':=tk) λb o e=>Heap.get?_push_of_some _ e,wJ _ lo (hi-lo).toNat,?_,λb hb=>?_,q⟩
 ·have e1:lo+((0:Nat):Int) * 1=lo:=by simp
  have e2:(((hi-lo).toNat:Nat):Int)-((0:Nat):Int)=Builtin.Range.rangeSize lo hi 1:=by rw[rangeSize_one];split<;>lia
  show IsRangeIter _ _ (lo+((0:Nat):Int) * 1) ((((hi-lo).toNat:Nat):Int)-((0:Nat):Int)) 1;rw[e1,e2];exact Heap.get?_push_size _ rfl
 ·have e:b=(s.heap.push {cls:=.type "range",data:=.fields #[.int lo t,.int hi u,.int 1 v]}).objs.size:=by simpa using hb
  subst e;exact I1.fpOk (aD _) (I1.hok.fresh (aD _))
noncomputable def BC(ta:TA):TI:=λσ H R=>ta σ H λvs H1=>∃j:Int,vs=[.int j]/\-(2^62)<=j/\j<2^62/\R (Itr 0 j.toNat) H1
noncomputable def sJ(ta:TA):TI:=λσ H R=>ta σ H λvs H1=>∃i j:Int,vs=[.int i,.int j]/\(-(2^62)<=i/\i<2^62/\-(2^62)<=j/\j<2^62)/\R (Itr i (j-i).toNat) H1
theorem Ah{a:Expr}{ta:TA}{p pos:Pos}(hg:Gl X "range")(hm:X.mg "range" = none)(ha:PA X [a] ta)(hs:aL [a] X.env=[(false,eval a X.env)]:=by rfl):PI X tg (.Call (.Name "range" p) [a] [] pos) (BC ta):=by
 intro pins s σ H R I h;refine Call_ (fC I hg hm boot_range (eR (thn (ha pos pins s σ H _ I h) λus s1 ⟨vs,H1,I1,r1,q1⟩=>?_) hs rfl));obtain⟨j,e,q1,q2,q⟩:=q1;subst e;cases r1 with
 |cons r rr=>
  cases rr;obtain⟨t,rfl⟩:=r;exact call_range_1 (nE I1 (by lia) (by lia) q1 q2 (by simpa using q))
theorem x5{a b:Expr}{ta:TA}{p pos:Pos}(hg:Gl X "range")(hm:X.mg "range" = none)(ha:PA X [a,b] ta)(hs:aL [a,b] X.env=[(false,eval a X.env),(false,eval b X.env)]:=by rfl)(hs2:aL [b] X.env=[(false,eval b X.env)]:=by rfl) :
  PI X tg (.Call (.Name "range" p) [a,b] [] pos) (sJ ta):=by
 intro pins s σ H R I h;refine Call_ (fC I hg hm boot_range (eR (thn (ha pos pins s σ H _ I h) λus s1 ⟨vs,H1,I1,r1,q1⟩=>?_) (by rw[hs,hs2]) (by rw[hs2];rfl)));obtain⟨i,j,e,⟨q1,q2,q3,q4⟩,q⟩:=q1;subst e;cases r1 with
 |cons r rr=>
  cases rr with
  |cons r' rr=>
   cases rr;obtain⟨t,rfl⟩:=r;obtain⟨t',rfl⟩:=r';exact call_range_2 (nE I1 q1 q2 q3 q4 q)
noncomputable def Ay(wi:TI)(g:TG)(tb:TS):TS:=λD σ H=>wi σ H λJ H1=>∃W:Nat->Nat->St->Hp->Prop,(∃m,W 0 m σ H1)/\∀i m σ H,W i m σ H ->
 (J.stop i H/\D.nx σ H)\/(J.go i H/\∃N:St->Hp->Prop,(∀σ' H',N σ' H'->∃m',m'<m/\W (i+1) m' σ' H')/\∀x H',J.yld i H x H'->g x σ H' λσ2 H2=>tb {D with nx:=N,ct:=N,bk:=D.nx} σ2 H2)
noncomputable def g_(fp:List Addr)(h:Heap):List (Addr×Obj):=fp.filterMap λb=>(h.get? b).map λo=>(b,o)
theorem i0{fp:List Addr}{h:Heap}{b:Addr}{o:Obj}(hb:b∈fp)(e:h.get? b=some o):(b,o)∈g_ fp h:=List.mem_filterMap.mpr ⟨b,hb,by rw[e];rfl⟩
theorem B6{fp:List Addr}{h:Heap}{p:Addr×Obj}(hp:p∈g_ fp h):p.1∈fp/\h.get? p.1=some p.2:=by
 obtain⟨b,hb,e⟩:=List.mem_filterMap.mp hp;cases q:h.get? b with
 |none=>rw[q]at e;cases e
 |some o=>
  rw[q]at e;have e':(b,o)=p:=bA e;subst e';exact⟨hb,q⟩
theorem Inv.pinned{pins:List (Addr×Obj)}{σ:St}{H:Hp}{s:af}{fp:List Addr}(I:Inv X pins σ H s)(hf:∀b∈fp,dj X pins H b)(ho:∀b∈fp,∃o,s.heap.get? b=some o/\∀v,o.data≠.cell v):Inv X (pins++g_ fp s.heap) σ H s:=
 I.pins_of λp hp=>(List.mem_append.mp hp).elim (λz=>I.pin p (cx _ z)) λz=>by
  obtain⟨hb,e⟩:=B6 z;obtain⟨f0,f1,f2,_⟩:=hf p.1 hb;obtain⟨o,e',d⟩:=ho p.1 hb;rw[e]at e';cases e';exact⟨e,f0,f1,f2,d⟩
theorem Inv.unpinned{pins pl:List (Addr×Obj)}{σ:St}{H:Hp}{s:af}(I:Inv X (pins++pl) σ H s):Inv X pins σ H s:=I.pins_of λp hp=>I.pin p (cx _ (List.mem_append_left _ hp))
theorem wV{iter:Expr}{body:List Stmt}{wi:TI}{g:TG}{tb:TS}{pos:Pos}(hp:PassesOwn (aj X.prog X.w) X.A X.env X.xe)(hc:X.calm=true)(hi:PI X tg iter wi)(hg:PG X tg g)(hb:PSs X body tb)
  (hs:∀x,foldedSetIterable iter X.env x=pure x:=by intro _;rfl):PS X (.For tg iter body [] pos) (Ay wi g tb):=by
 intro pins s σ H D I h;refine wpAny_For (thn (hi pins s σ H _ I h) λv s1 h1=>thn h1 λitv s2 h2=>?_) hs;obtain⟨it,fp,tn,J,H2,e,I2,T,st2,f2,W,⟨m0,w0⟩,turn⟩:=h2;subst e
 -- what stays true of the iterator's objects through the loop
 have stat:∀{H':Hp},(∀b∈fp,H' b=none)->∀b∈fp,dj X pins H' b:=λhn b hb=>⟨hn b hb,(f2 b hb).2⟩
 refine codeAny_forLoop_any (λn s'=>∃i σ' H',Inv X pins σ' H' s'/\tn i s'.heap/\(∀b∈fp,H' b=none)/\W i n σ' H') ?_ m0 ⟨0,σ,H2,I2,st2,λb hb=>(f2 b hb).1,w0⟩;rintro n s3 ⟨i,σ3,H3,I3,st3,fr3,w3⟩;rcases turn i n σ3 H3 w3 with ⟨stop,qn⟩|⟨go,N,hN,step⟩
 ·refine wpAny_passesOwn hp (thn (T.done X rfl rfl rfl hc i pins s3 σ3 H3 X.xe I3 (stat fr3) st3 stop) λr s4 ⟨hr,I4⟩=>?_);subst hr;exact wpAny_execs_nil ⟨σ3,H3,I4,qn⟩
 ·refine wpAny_passesOwn hp (thn (T.item X rfl rfl rfl hc i pins s3 σ3 H3 X.xe I3 (stat fr3) st3 go) λr s4 ⟨u,hr,h4⟩=>?_);subst hr;refine wpAny_passesOwn hp (thn h4 λ_ s5 ⟨x,H5,I5,r5,y5,st5,fr5⟩=>?_);have I5':=I5.pinned (stat fr5) (T.obj _ _ st5);refine wpAny_passesOwn hp (thn (hg _ s5 σ3 H5 x u _ I5' r5 (step x H5 y5)) λ_ s6 ⟨σ6,H6,I6,q6⟩=>?_);refine wpAny_passesOwn hp (thn (hb _ s6 σ6 H6 _ I6 q6) λf s7 q7=>?_);have again:∀{σ7:St}{H7:Hp},Inv X (pins++g_ fp s5.heap) σ7 H7 s7->N σ7 H7->∃m,m<n/\∃i σ' H',Inv X pins σ' H' s7/\tn i s7.heap/\(∀b∈fp,H' b=none)/\W i m σ' H':=λ{σ7 H7} I7 n7=>by
   obtain⟨m',hm,w7⟩:=hN σ7 H7 n7;refine⟨m',hm,i+1,σ7,H7,I7.unpinned,T.keep _ _ _ st5 λb hb o e=>(I7.pin (b,o) (cx _ (cx _ (i0 hb e)))).1,λb hb=>?_,w7⟩;obtain⟨o,e,d⟩:=T.obj _ _ st5 b hb;exact(I7.pin (b,o) (cx _ (cx _ (i0 hb e)))).2.1
  cases f with
  |next=>obtain⟨σ7,H7,I7,n7⟩:=q7;exact again I7 n7
  |cont=>obtain⟨σ7,H7,I7,n7⟩:=q7;exact again I7 n7
  |brk=>obtain⟨σ7,H7,I7,q7⟩:=q7;exact⟨σ7,H7,I7.unpinned,q7⟩
  |ret v=>obtain⟨x7,σ7,H7,I7,r7,q7⟩:=q7;exact⟨x7,σ7,H7,I7.unpinned,r7,q7⟩
end
abbrev R2:=V->V->Hp->VK->Prop
noncomputable def OpR(X:Cx)(f:ae->ae->Sem ae)(r:R2):Prop:=
 ∀(pins:List (Addr×Obj)) (s:af) (σ:St) (H:Hp) (x y:V) (v u:ae) (Q:VK),Inv X pins σ H s->RelV x v->RelV y u->r x y H Q ->
  ai (aj X.prog X.w) X.A (f v u) (EP X pins σ Q) X.xe s
noncomputable def UnR(X:Cx)(f:ae->Sem ae)(r:V->Hp->VK->Prop):Prop:=
 ∀(pins:List (Addr×Obj)) (s:af) (σ:St) (H:Hp) (x:V) (v:ae) (Q:VK),Inv X pins σ H s->RelV x v->r x H Q ->
  ai (aj X.prog X.w) X.A (f v) (EP X pins σ Q) X.xe s
noncomputable def zq(X:Cx)(f:ae)(r:List V->Hp->VK->Prop):Prop:=
 ∀(pins:List (Addr×Obj)) (s:af) (σ:St) (H:Hp) (xs:List V) (us:List ae) (Q:VK),Inv X pins σ H s->Vals xs us->r xs H Q ->
  ai (aj X.prog X.w) X.A (call f us) (EP X pins σ Q) X.xe s
noncomputable def yl(X:Cx)(r:V->Hp->(Bool->Hp->Prop)->Prop):Prop:=
 ∀(pins:List (Addr×Obj)) (s:af) (σ:St) (H:Hp) (x:V) (v:ae) (Q:Bool->Hp->Prop),Inv X pins σ H s->RelV x v->r x H Q ->
  ai (aj X.prog X.w) X.A (truthy v) (TP X pins σ Q) X.xe s
noncomputable def tOp(r:R2)(ta tb:TE):TE:=λσ H Q=>ta σ H λx H1=>tb σ H1 λy H2=>r x y H2 Q
noncomputable def tUn(r:V->Hp->VK->Prop)(ta:TE):TE:=λσ H Q=>ta σ H λx H1=>r x H1 Q
noncomputable def rI(C:Int->Int->Prop)(g:Int->Int->V):R2:=λx y H Q=>∃i j,x=.int i/\y=.int j/\C i j/\Q (g i j) H
noncomputable def rI0(g:Int->Int->V):R2:=λx y H Q=>∃i j,x=.int i/\y=.int j/\Q (g i j) H
noncomputable def rU(g:Int->V):V->Hp->VK->Prop:=λx H Q=>∃i,x=.int i/\Q (g i) H
section
variable{X:Cx}{a b c:Expr}{ta tb tc:TE}{pos:Pos}
theorem j9(ha:PE X a ta)(hb:PE X b tb){pins:List (Addr×Obj)}{s:af}{σ:St}{H:Hp}{R:V->V->Hp->Prop}(I:Inv X pins σ H s)
  (h:ta σ H λx H1=>tb σ H1 λy H2=>R x y H2) {Q:ae->af->Prop}{f:ae->ae->Sem ae}
  (hf:∀v u s2 x y H2,Inv X pins σ H2 s2->RelV x v->RelV y u->R x y H2->ai (aj X.prog X.w) X.A (f v u) Q X.xe s2) :
  ai (aj X.prog X.w) X.A (eval a X.env) (λv s₁=>ai (aj X.prog X.w) X.A (eval b X.env) (λu s₂=>ai (aj X.prog X.w) X.A (f v u) Q X.xe s₂) X.xe s₁) X.xe s:=by
 refine thn (ha pins s σ H _ I h) λv s1 ⟨x,H1,I1,r1,q1⟩=>?_
 refine thn (hb pins s1 σ H1 _ I1 q1) λu s2 ⟨y,H2,I2,r2,q2⟩=>?_
 exact hf v u s2 x y H2 I2 r1 r2 q2
theorem tZ{op:Operator}{r:R2}(ho:OpR X (binaryOp op) r)(ha:PE X a ta)(hb:PE X b tb):PE X (.BinOp a op b pos) (tOp r ta tb):=by
 intro pins s σ H Q I h;exact wpAny_BinOp (j9 ha hb I h λv u s2 x y H2 I2 rx ry q=>ho pins s2 σ H2 x y v u Q I2 rx ry q)
theorem xG{op:UnaryOp}{r:V->Hp->VK->Prop}(ho:UnR X (unaryOp op) r)(ha:PE X a ta):PE X (.UnaryOp op a pos) (tUn r ta):=by
 intro pins s σ H Q I h;exact UnaryOp_ (thn (ha pins s σ H _ I h) λv s1 ⟨x,H1,I1,r1,q1⟩=>ho pins s1 σ H1 x v Q I1 r1 q1)
theorem opI{f:ae->ae->Sem ae}{C:Int->Int->Prop}{g:Int->Int->Int}
  (rule:∀(i j:Int) (t u:Tok) (s:af) (Q:ae->af->Prop) (E:ae->af->Prop),C i j->Q (.int (g i j) s.toks) {s with toks:=s.toks+1}->ai (aj X.prog X.w) X.A (f (.int i t) (.int j u)) Q E s) :
  OpR X f (rI C λi j=>.int (g i j)):=by
 intro pins s σ H x y v u Q I rx ry h;obtain⟨i,j,rfl,rfl,hc,q⟩:=h;obtain⟨t,rfl⟩:=rx;obtain⟨t',rfl⟩:=ry;exact rule i j t t' s _ _ hc ⟨.int (g i j),H,I.tok _,⟨_,rfl⟩,q⟩
theorem lM{f:ae->ae->Sem ae}{g:Int->Int->Int}
  (rule:∀(i j:Int) (t u:Tok) (s:af) (Q:ae->af->Prop) (E:ae->af->Prop),Q (.int (g i j) s.toks) {s with toks:=s.toks+1}->ai (aj X.prog X.w) X.A (f (.int i t) (.int j u)) Q E s) :
  OpR X f (rI0 λi j=>.int (g i j)):=by
 intro pins s σ H x y v u Q I rx ry h;obtain⟨i,j,rfl,rfl,q⟩:=h;obtain⟨t,rfl⟩:=rx;obtain⟨t',rfl⟩:=ry;exact rule i j t t' s _ _ ⟨.int (g i j),H,I.tok _,⟨_,rfl⟩,q⟩
theorem je{f:ae->ae->Sem ae}{g:Int->Int->Bool}
  (rule:∀(i j:Int) (t u:Tok) (s:af) (Q:ae->af->Prop) (E:ae->af->Prop),Q (.bool (g i j)) s->ai (aj X.prog X.w) X.A (f (.int i t) (.int j u)) Q E s) :
  OpR X f (rI0 λi j=>.bl (g i j)):=by
 intro pins s σ H x y v u Q I rx ry h;obtain⟨i,j,rfl,rfl,q⟩:=h;obtain⟨t,rfl⟩:=rx;obtain⟨t',rfl⟩:=ry;exact rule i j t t' s _ _ ⟨.bl (g i j),H,I,rfl,q⟩
noncomputable def Bz(i j:Int):Prop:=0<=j/\j<=1000000/\i.natAbs<2^64
noncomputable def jK(i j:Int):Prop:=(-(2^64)<i/\i<2^64)\/(-(2^64)<j/\j<2^64)
theorem jK.ok{i j:Int}(h:jK i j):IntMulOk i j:=by
 rcases h with ⟨h1,h2⟩|⟨h1,h2⟩
 ·exact .of_left (intBits_le_64 h1 h2)
 ·exact .of_right (intBits_le_64 h1 h2)
theorem su(k:Nat):(0:Int)<=2^k:=by
 rw[two_pow_cast];exact Int.natCast_nonneg _
theorem Bc:OpR X (binaryOp .Add) (rI0 λi j=>.int (i+j)):=lM λ_ _ _ _ _ _ _ q=>add_int q
theorem y7:OpR X (binaryOp .Sub) (rI0 λi j=>.int (i-j)):=lM λ_ _ _ _ _ _ _ q=>sub_int q
theorem sf:OpR X (binaryOp .Mult) (rI jK λi j=>.int (i * j)):=opI λ_ _ _ _ _ _ _ hc q=>mul_int q hc.ok
theorem wC:OpR X (binaryOp .Mod) (rI (λ_ j=>0<j) λi j=>.int (i%j)):=opI λi j _ _ _ _ _ hc q=>by
 have h1:(0:Int)<j:=hc;exact mod_int' (by lia) (by rw[Int.fmod_eq_emod_of_nonneg i (by lia)];exact q)
theorem yP:OpR X (binaryOp .Pow) (rI Bz λi j=>.int (i^j.toNat)):=opI λ_ _ _ _ _ _ _ hc q=>pow_int_small hc.1 hc.2.1 hc.2.2 q
theorem uv:OpR X (binaryOp .RShift) (rI (λ_ j=>0<=j) λi j=>.int (i/2^j.toNat)):=opI λi j _ _ _ _ _ hc q=>
 rshift_int hc (by rw[Int.fdiv_eq_ediv_of_nonneg i (su _)];exact q)
theorem unI{f:ae->Sem ae}{g:Int->Int}
  (rule:∀(i:Int) (t:Tok) (s:af) (Q:ae->af->Prop) (E:ae->af->Prop),Q (.int (g i) s.toks) {s with toks:=s.toks+1}->ai (aj X.prog X.w) X.A (f (.int i t)) Q E s) :
  UnR X f (rU λi=>.int (g i)):=by
 intro pins s σ H x v Q I rx h;obtain⟨i,rfl,q⟩:=h;obtain⟨t,rfl⟩:=rx;exact rule i t s _ _ ⟨.int (g i),H,I.tok _,⟨_,rfl⟩,q⟩
theorem CB:UnR X (unaryOp .USub) (rU λi=>.int (-i)):=unI λ_ _ _ _ _ q=>neg_int q
end
section
variable{X:Cx}{a b c:Expr}{ta tb tc:TE}{pos:Pos}
theorem i9{pins:List (Addr×Obj)}{σ:St}{H:Hp}{s:af}{Q:VK}{k k':Bool}(I:Inv X pins σ H s)(q:Q (.bl k) H)(e:k=k'):EP X pins σ Q (.bool k') s:=by
 subst e;exact⟨.bl k,H,I,rfl,q⟩
theorem sV:OpR X (aR .Lt) (rI0 λi j=>.bl (decide (i<j))):=je λ_ _ _ _ _ _ _ q=>lt_int q
theorem rV:OpR X (aR .LtE) (rI0 λi j=>.bl (decide (i<=j))):=je λ_ _ _ _ _ _ _ q=>le_int q
theorem Cq:OpR X (aR .Gt) (rI0 λi j=>.bl (decide (j<i))):=je λ_ _ _ _ _ _ _ q=>gt_int q
theorem Dl:OpR X (aR .GtE) (rI0 λi j=>.bl (decide (j<=i))):=je λ_ _ _ _ _ _ _ q=>ge_int q
theorem x6:OpR X (aR .Is) (λx y H Q=>y=.non/\Q (.bl (decide (x=.non))) H):=by
 intro pins s σ H x y v u Q I rx ry h;obtain⟨rfl,q⟩:=h;cases ry;refine is_none_gen (i9 I q ?_);cases x<;>first
  | (cases rx;rfl)
  | (obtain⟨t,rfl⟩:=rx;rfl)
theorem yF:OpR X (aR .IsNot) (λx y H Q=>y=.non/\Q (.bl (!decide (x=.non))) H):=by
 intro pins s σ H x y v u Q I rx ry h;obtain⟨rfl,q⟩:=h;cases ry;refine isnot_none_gen (i9 I q ?_);cases x<;>first
  | (cases rx;rfl)
  | (obtain⟨t,rfl⟩:=rx;rfl)
theorem OpR.or{f:ae->ae->Sem ae}{r r':R2}(h:OpR X f r)(h':OpR X f r'):OpR X f (λx y H Q=>r x y H Q\/r' x y H Q):=by
 intro pins s σ H x y v u Q I rx ry q;rcases q with q|q
 ·exact h pins s σ H x y v u Q I rx ry q
 ·exact h' pins s σ H x y v u Q I rx ry q
theorem BX{op:CmpOp}{r:R2}(ho:OpR X (aR op) r)(ha:PE X a ta)(hb:PE X b tb)(hm:behindInMarks op b=false):PE X (.Compare a [op] [b] pos) (tOp r ta tb):=by
 intro pins s σ H Q I h;exact wpAny_Compare1 (j9 ha hb I h λv u s2 x y H2 I2 rx ry q=>ho pins s2 σ H2 x y v u Q I2 rx ry q) hm
noncomputable def kO(t:TE):TT:=λσ H Q=>t σ H λx H'=>∃k,x=.bl k/\Q k H'
theorem yT{op:CmpOp}{r:R2}(ho:OpR X (aR op) r)(ha:PE X a ta)(hb:PE X b tb)(hm:behindInMarks op b=false):PT X (.Compare a [op] [b] pos) (kO (tOp r ta tb)):=by
 intro pins s σ H Q I h;refine wpAny_isTrue_Compare1 (thn (ha pins s σ H _ I h) λv s1 ⟨x,H1,I1,r1,q1⟩=>thn (hb pins s1 σ H1 _ I1 q1) λu s2 ⟨y,H2,I2,r2,q2⟩=>
  thn (ho pins s2 σ H2 x y v u _ I2 r1 r2 q2) λc s3 ⟨z,H3,I3,r3,k,e,q3⟩=>?_) hm
 subst e;cases r3;exact bF ⟨H3,I3,q3⟩
noncomputable def p_(r r':R2)(ta tb tc:TE):TE:=λσ H Q=>ta σ H λx H1=>tb σ H1 λy H2=>r x y H2 λz H3=>∃k,z=.bl k /\
 (if k=true then tc σ H3 λw' H4=>r' y w' H4 Q else Q (.bl false) H3)
theorem Ar{op op':CmpOp}{r r':R2}(ho:OpR X (aR op) r)(ho':OpR X (aR op') r')(ha:PE X a ta)(hb:PE X b tb)(hc:PE X c tc)
  (hm:lastMarks [op,op'] [b,c]=false:=by with_unfolding_all rfl):PE X (.Compare a [op,op'] [b,c] pos) (p_ r r' ta tb tc):=by
 intro pins s σ H Q I h;refine Compare_chain (thn (ha pins s σ H _ I h) λv s1 ⟨x,H1,I1,r1,q1⟩=>chain_link (thn (hb pins s1 σ H1 _ I1 q1) λu s2 ⟨y,H2,I2,r2,q2⟩=>
  thn (ho pins s2 σ H2 x y v u _ I2 r1 r2 q2) λd s3 ⟨z,H3,I3,r3,k,e,q3⟩=>?_)) hm
 subst e;cases r3;refine bF ?_;cases k with
 |false=>exact ite_ff ⟨.bl false,H3,I3,rfl,q3⟩
 |true=>exact ite_tt (chain_last (thn (hc pins s3 σ H3 _ I3 q3) λw' s4 ⟨z',H4,I4,r4,q4⟩=>ho' pins s4 σ H4 y z' u w' Q I4 r2 r4 q4))
theorem tU{op op':CmpOp}{r r':R2}(ho:OpR X (aR op) r)(ho':OpR X (aR op') r')(ha:PE X a ta)(hb:PE X b tb)(hc:PE X c tc)
  (hm:lastMarks [op,op'] [b,c]=false:=by with_unfolding_all rfl):PT X (.Compare a [op,op'] [b,c] pos) (kO (p_ r r' ta tb tc)):=by
 intro pins s σ H Q I h;refine isTrue_chain (thn (ha pins s σ H _ I h) λv s1 ⟨x,H1,I1,r1,q1⟩=>test_link (thn (hb pins s1 σ H1 _ I1 q1) λu s2 ⟨y,H2,I2,r2,q2⟩=>
  thn (ho pins s2 σ H2 x y v u _ I2 r1 r2 q2) λd s3 ⟨z,H3,I3,r3,k,e,q3⟩=>?_)) hm
 subst e;cases r3;refine bF ?_;cases k with
 |false=>
  obtain⟨k',e',q'⟩:=q3;cases e';exact ite_ff ⟨H3,I3,q'⟩
 |true=>
  refine ite_tt (test_last (thn (hc pins s3 σ H3 _ I3 q3) λw' s4 ⟨z',H4,I4,r4,q4⟩=>thn (ho' pins s4 σ H4 y z' u w' _ I4 r2 r4 q4) λd' s5 ⟨z2,H5,I5,r5,k2,e2,q5⟩=>?_));subst e2;cases r5;exact bF ⟨H5,I5,q5⟩
noncomputable def kG(K:aq)(x:V)(H:Hp)(k:Bool):Prop:=
 match x with
 | .non=>k=false
 | .bl b=>k=b
 | .int i=>k=(i != 0)
 | .str y=>y.length<=aF/\k=((y.length:Int) != 0)
 | .byt y=>y.size<=aF/\k=((y.size:Int) != 0)
 | .ref p=>(∃xs,SqL K H p xs/\k = !xs.isEmpty)\/(∃xs,SqT K H p xs/\k = !xs.isEmpty)\/∃kvs,H p=some (.dK kvs)/\k = !kvs.isEmpty
 |_=>False
theorem yt{κ:Type}{kvs:List (κ×V)}{vs:List (κ×ae)}(r:KV kvs vs):(!vs.isEmpty) = !kvs.isEmpty:=by
 cases r<;>rfl
theorem oQ{xs:List V}{its:List ae}(r:Vals xs its):(!its.toArray.isEmpty) = !xs.isEmpty:=by
 cases r<;>simp
theorem iE:(aF:Nat)<2^63:=by rw[aZ];decide
theorem wY:yl X (λx H Q=>∃k,kG X.K x H k/\Q k H):=by
 intro pins s σ H x v Q I rx h;obtain⟨k,e,q⟩:=h;have hl:=iE;have hs:aF=16777216:=aZ;cases x with
 |non=>
  cases rx;have e':k=false:=e;subst e';exact truthy_none ⟨H,I,q⟩
 |bl b=>
  cases rx;have e':k=b:=e;subst e';exact bF ⟨H,I,q⟩
 |int i=>
  obtain⟨t,rfl⟩:=rx;have e':k=(i != 0):=e;subst e';exact PySem.P.truthy_int ⟨H,I,q⟩
 |str y=>
  obtain⟨t,rfl⟩:=rx;obtain⟨hy,e'⟩:y.length<=aF/\k=((y.length:Int) != 0):=e;subst e';exact PySem.P.truthy_str (by lia) ⟨H,I.tok _,q⟩
 |byt y=>
  obtain⟨t,rfl⟩:=rx;obtain⟨hy,e'⟩:y.size<=aF/\k=((y.size:Int) != 0):=e;subst e';exact PySem.W.truthy_bytes (by lia) ⟨H,I.tok _,q⟩
 |ref p=>
  cases rx;have e':(∃xs,SqL X.K H p xs/\k = !xs.isEmpty)\/(∃xs,SqT X.K H p xs/\k = !xs.isEmpty)\/∃kvs,H p=some (.dK kvs)/\k = !kvs.isEmpty:=e;rcases e' with ⟨xs,hx,e'⟩|⟨xs,hx,e'⟩|⟨kvs,hx,e'⟩
  ·subst e';obtain⟨its,r,pl,hz⟩:=I.list hx;have hlen:=r.length;exact wpAny_truthy_list pl.isList (by simp only[aO];lia) ⟨H,I.tok _,by rw[oQ r];exact q⟩
  ·subst e';obtain⟨its,r,pl,hz⟩:=I.tuple hx;have hlen:=r.length;exact truthy_tuple pl (by simp only[aO];lia) ⟨H,I.tok _,by rw[oQ r];exact q⟩
  ·subst e';obtain⟨hz,hS,vs,r,m⟩:kvs.length<=aF/\(p==sysModules)=false/\∃vs,KV kvs vs/\s.heap.DictOf (zu X.prog X.w) p vs:=I.hok p _ hx;have hlen:kvs.length=vs.length:=Paired.length r;exact wpAny_truthy_dict hS m (by lia) ⟨H,I.tok _,by rw[yt r];exact q⟩
 |_=>exact(show False from e).elim
theorem sy(ha:PE X a ta)(he:∀whole,isTrue a X.env whole=(do let v <-whole;standAt a.pos;holding [v] (truthy v))) :
  PT X a (λσ H Q=>ta σ H λx H'=>∃k,kG X.K x H' k/\Q k H'):=by
 intro pins s σ H Q I h;exact isTrue_plain (thn (ha pins s σ H _ I h) λv s1 ⟨x,H1,I1,r1,q1⟩=>wY pins s1 σ H1 x v Q I1 r1 q1) (he _)
theorem vals1{x:V}{us:List ae}(r:Vals [x] us):∃u,us=[u]/\RelV x u:=by
 cases r with
 |cons r1 r2=>cases r2;exact⟨_,rfl,r1⟩
theorem vals2{x y:V}{us:List ae}(r:Vals [x,y] us):∃u w',us=[u,w']/\RelV x u/\RelV y w':=by
 cases r with
 |cons r1 r2=>
  cases r2 with
  |cons r3 r4=>cases r4;exact⟨_,_,rfl,r1,r3⟩
theorem xA:zq X (.builtin "abs") (λxs H Q=>∃i,xs=[.int i]/\Q (.int (if i<0 then -i else i)) H):=by
 intro pins s σ H xs us Q I r h;obtain⟨i,rfl,q⟩:=h;obtain⟨u,rfl,t,rfl⟩:=vals1 r;exact call_abs_int λu tk=>⟨.int (if i<0 then -i else i),H,I.tok _,⟨_,rfl⟩,q⟩
theorem tJ(hc:X.calm=true):zq X (.builtin "max") (λxs H Q=>∃i j,xs=[.int i,.int j]/\Q (.int (if j>i then j else i)) H):=by
 intro pins s σ H xs us Q I r h;obtain⟨i,j,rfl,q⟩:=h;obtain⟨u,w',rfl,⟨t,rfl⟩,⟨t',rfl⟩⟩:=vals2 r;refine max_two_ints (I.ok.hd hc) λh' tk k=>⟨_,H,I.kept k,?_,q⟩
 by_cases hj:j>i
 ·rw[if_pos hj,if_pos hj];exact⟨_,rfl⟩
 ·rw[if_neg hj,if_neg hj];exact⟨_,rfl⟩
theorem wL(hc:X.calm=true):zq X (.builtin "min") (λxs H Q=>∃i j,xs=[.int i,.int j]/\Q (.int (if j<i then j else i)) H):=by
 intro pins s σ H xs us Q I r h;obtain⟨i,j,rfl,q⟩:=h;obtain⟨u,w',rfl,⟨t,rfl⟩,⟨t',rfl⟩⟩:=vals2 r;refine min_two_ints (I.ok.hd hc) λh' tk k=>⟨_,H,I.kept k,?_,q⟩
 by_cases hj:j<i
 ·rw[if_pos hj,if_pos hj];exact⟨_,rfl⟩
 ·rw[if_neg hj,if_neg hj];exact⟨_,rfl⟩
theorem Dj:zq X (.type "int") (λxs H Q=>(∃i,xs=[.int i]/\Q (.int i) H)\/∃k,xs=[.bl k]/\Q (.int (if k then 1 else 0)) H):=by
 intro pins s σ H xs us Q I r h;rcases h with ⟨i,rfl,q⟩|⟨k,rfl,q⟩
 ·obtain⟨u,rfl,t,rfl⟩:=vals1 r;exact call_int_int ⟨.int i,H,I,⟨_,rfl⟩,q⟩
 ·obtain⟨u,rfl,r1⟩:=vals1 r;cases r1;exact call_int_bool ⟨.int (if k then 1 else 0),H,I.tok _,⟨_,rfl⟩,q⟩
theorem uq:zq X (.type "bool") (λxs H Q=>(∃i,xs=[.int i]/\Q (.bl (i != 0)) H)\/∃k,xs=[.bl k]/\Q (.bl k) H):=by
 intro pins s σ H xs us Q I r h;rcases h with ⟨i,rfl,q⟩|⟨k,rfl,q⟩
 ·obtain⟨u,rfl,t,rfl⟩:=vals1 r;exact call_bool_int ⟨.bl (i != 0),H,I,rfl,q⟩
 ·obtain⟨u,rfl,r1⟩:=vals1 r;cases r1;exact call_bool_bool ⟨.bl k,H,I,rfl,q⟩
end
structure kq(h:Heap)(x dx C:Addr)(mA:Str->Option ae):Prop where
 obj:h.get? x=some (PySem.W.instObj C dx)
 ns:h.Ns1 dx mA
 ne:dx≠x
theorem uV{h:Heap}{dx:Addr}{mA:Str->Option ae}(n:h.Ns1 dx mA):∃od,h.get? dx=some od/\∀name,PySem.W.lookIn name od=some (mA name):=by
 obtain⟨o,es,ep,ho,hd,hk,_,hm⟩:=n;refine⟨o,ho,λname=>?_⟩;have e:=hm name;unfold nsFind findBy at e;rw[<-Array.find?_toList]at e;unfold PySem.W.lookIn;rw[hd];dsimp only;split
 ·rename_i y q
  rw[q]at e;exact congrArg some e
 ·rename_i q
  rw[q]at e;have a:es.toList.any (·.refKey)=false:=by
   rw[List.any_eq_false];intro y hy;obtain⟨z,t,hkey⟩:=hk y (Array.mem_toList_iff.mp hy);simp[DictEntry.refKey,hkey]
  have a':¬ es.toList.any (·.refKey)=true:=by rw[a];exact bQ
  rw[if_neg a'];exact congrArg some e
theorem kq.look{h:Heap}{x dx C:Addr}{mA:Str->Option ae}(I:kq h x dx C mA):∃od,PySem.W.InstAt h x (PySem.W.instObj C dx) C (some od)/\∀name,PySem.W.lookIn name od=some (mA name):=
 let ⟨od,ho,hl⟩:=uV I.ns
 ⟨od,⟨I.obj,rfl,rfl,ho⟩,hl⟩
section
variable{prog:av}{w:au}{A:aw}{E:ae->af->Prop}{s:af}{K:aq}{x dx C f:Addr}{mA:Str->Option ae}{name:Str}{v:ae}
end
theorem dm.some_of{v:V}{o:Option ae}(r:dm (some v) o):∃u,o=some u/\RelV v u:=by
 cases o with
 |none=>exact(show False from r).elim
 |some u=>exact⟨u,rfl,r⟩
section
variable{P:av}{w:au}{H H':Hp}{h h':Heap}{a C dx:Addr}{fs fs':List (Str×V)}
theorem sZ(hok:HOk P w H h)(e:H a=some (.ins C dx fs)):∃mA,kq h a dx C mA/\(∀f,dm (fs.lookup f) (mA f))/\PySem.Within mA (fs.map (·.1))/\fs.length<=1000/\H dx=some (.own a):=by
 obtain⟨d,z,ne,ob,mA,n,r,q⟩:=(show zC P w H h a (.ins C dx fs)from hok a _ e)
 exact⟨mA,⟨ob,n,ne⟩,r,q,z,d⟩
end
structure Cls(K:aq)(C:Addr):Prop where
 pg:PySem.W.plainGet K C Str.empty=true
 hd:PySem.W.hasDictIn K C=true
 po:PySem.W.plainOver K C=true
 sa:PySem.W.findIn K (.ref C) "__setattr__" = some (some (.builtin "object.__setattr__"))
theorem Cls.get{K:aq}{C:Addr}(c:Cls K C)(f:Str):PySem.W.plainGet K C f=true:=c.pg
section
variable{X:Cx}{pins:List (Addr×Obj)}{σ:St}{H:Hp}{s:af}{a C dx:Addr}{fs:List (Str×V)}{f:Str}{v:V}{A:aw}{E:ae->af->Prop}
end
section
variable{X:Cx}{o e value:Expr}{f:Str}{pos pos' tpos:Pos}{ta tv:TE}
end
section
variable{X:Cx}{pins:List (Addr×Obj)}{σ:St}{H:Hp}{s:af}{A:aw}{E:ae->af->Prop}{Q:ae->af->Prop}{c:ae}{b:Bool}
inductive dk(K:aq)(H:Hp):V->ae->Prop where
 |non:dk K H .non (.type "NoneType")
 |bl (x:Bool):dk K H (.bl x) (.type "bool")
 |int (i:Int):dk K H (.int i) (.type "int")
 |str (x:Str):dk K H (.str x) (.type "str")
 |flt (x:UInt64):dk K H (.flt x) (.type "float")
 |lst {a:Addr}{xs:List V} (e:H a=some (.lst xs)):dk K H (.ref a) (.type "list")
 |frz {a:Addr}{o:Obj}{xs:List V} (e:H a=some (.frz o (.lst xs))):dk K H (.ref a) (.type "list")
 |tup {a:Addr}{xs:List V} (e:H a=some (.tup xs)):dk K H (.ref a) (.type "tuple")
 |dK {a:Addr}{kvs:List (Key×V)} (e:H a=some (.dK kvs)):dk K H (.ref a) (.type "dict")
 |dT {a:Addr}{kvs:List (List Key×V)} (e:H a=some (.dT kvs)):dk K H (.ref a) (.type "dict")
 |ins {a C dx:Addr}{fs:List (Str×V)} (e:H a=some (.ins C dx fs)) (cl:Cls K C) (ha:PySem.W.findIn K (.ref C) "__class__" = some (some (.builtin "object.__class__")))
   (hn:PySem.W.specialIn K (.builtin "object.__class__") "__get__" = some (some (.builtin "getset_descriptor.__get__"))) (htk:PySem.W.takesIn K (.builtin "object.__class__")=some true)
   (hm:PySem.W.mroIn K C (.type "object")=some true):dk K H (.ref a) (.ref C)
theorem gI{x:V}{u t:ae}(I:Inv X pins σ H s)(rx:RelV x u)(ty:dk X.K H x t)(e:bf X.K t c=some b)(h:∀tk,Q (.bool b) {s with toks:=tk}) :
  ai (aj X.prog X.w) A (call (.builtin "isinstance") [u,c]) Q E s:=by
 cases ty with
 |non=>cases (show u=ae.none from rx);exact bH PySem.W.kitx_none I.kIn True.intro e (λz=>nomatch z) h
 |bl y=>cases (show u=bt y from rx);exact bH PySem.W.kitx_bool I.kIn True.intro e (λz=>nomatch z) h
 |int i=>obtain⟨t,q⟩:=(show ∃t,u=ae.int i t from rx);cases q;exact bH PySem.W.kitx_int I.kIn True.intro e (λz=>nomatch z) h
 |str y=>obtain⟨t,q⟩:=(show ∃t,u=ae.str y t from rx);cases q;exact bH PySem.W.kitx_str I.kIn True.intro e (λz=>nomatch z) h
 |flt y=>obtain⟨t,q⟩:=(show ∃t,u=ae.float y t from rx);cases q;exact bH PySem.W.kitx_float I.kIn True.intro e (λz=>nomatch z) h
 | @lst a xs ea=>
  cases (show u=aU a from rx);obtain⟨_,_,n,_,h1⟩:=(show zC X.prog X.w H s.heap a (.lst xs)from I.hok a _ ea)
  exact bH PySem.W.kitx_list I.kIn ⟨_,h1,rfl⟩ e (λz=>nomatch z) h
 | @frz a ob xs ea=>
  cases (show u=aU a from rx);obtain⟨_,_,_,n,_,h1⟩:=(show zC X.prog X.w H s.heap a (.frz ob (.lst xs))from I.hok a _ ea)
  exact bH PySem.W.kitx_list I.kIn ⟨_,h1,rfl⟩ e (λz=>nomatch z) h
 | @tup a xs ea=>
  cases (show u=aU a from rx);obtain⟨_,_,_,p⟩:=(show zC X.prog X.w H s.heap a (.tup xs)from I.hok a _ ea)
  obtain⟨o,h1,h2,_⟩:=p;exact bH PySem.W.kitx_tuple I.kIn ⟨o,h1,h2⟩ e (λz=>nomatch z) h
 | @dK a kvs ea=>
  cases (show u=aU a from rx);obtain⟨_,_,vs,_,p⟩:=(show zC X.prog X.w H s.heap a (.dK kvs)from I.hok a _ ea)
  obtain⟨o,es,ep,h1,h2,_⟩:=p;exact bH PySem.W.kitx_dict I.kIn ⟨o,h1,h2.1⟩ e (λz=>nomatch z) h
 | @dT a kvs ea=>
  cases (show u=aU a from rx);obtain⟨_,_,xs,_,o,es,ep,h1,h2,_⟩:=(show zC X.prog X.w H s.heap a (.dT kvs)from I.hok a _ ea)
  exact bH PySem.W.kitx_dict I.kIn ⟨o,h1,h2.1⟩ e (λz=>nomatch z) h
 | @ins a C dx fs ea cl ha hn htk hm=>
  cases (show u=aU a from rx);obtain⟨mA,O,_⟩:=sZ I.hok ea;obtain⟨od,J,_⟩:=O.look;exact bH (PySem.W.kitx_own (cl.get _) cl.hd ha hn htk hm) I.kIn J e (λz=>nomatch z) h
end
structure cb(k:Nat)(A:aw):Prop where
 hd:A.handled=none
 dp:A.depth+3 * k+5<recursionLimit
 un:A.units+16 * k+200<cLine
theorem cb.deeper{k:Nat}{A:aw}(r:cb (k+1) A)(env:Env):cb k (A.deeper env):=
 ⟨r.hd,by have:=r.dp;show A.depth+1+3 * k+5<_;lia,by have:=r.un;show A.units+3+16 * k+200<_;lia⟩
theorem cb.depth{k:Nat}{A:aw}(r:cb k A):A.depth<recursionLimit:=by have:=r.dp;lia
theorem cb.units{k:Nat}{A:aw}(r:cb k A):A.units+64<cLine:=by have:=r.un;lia
noncomputable def iN:TA:=λ_ H Q=>Q [] H
noncomputable def iq(ta:TE)(tr:TA):TA:=λσ H Q=>ta σ H λx H1=>tr σ H1 λxs H2=>Q (x::xs) H2
section
variable{X:Cx}{e:Expr}{es:List Expr}{te:TE}{t:TA}{pos:Pos}
theorem c_:PA X [] iN:=λ_ _ _ _ H Q I h=>Calls.spliced_nil ⟨[],H,I,.nil,h⟩
theorem zE(ha:PE X e te)(hr:PA X es t)(hs:aL (e::es) X.env=(false,eval e X.env)::aL es X.env:=by rfl):PA X (e::es) (iq te t):=by
 intro pos pins s σ H Q I h;rw[hs];show ai _ _ (spliced ((false,eval e X.env)::backTo pos (aL es X.env))) _ _ s;refine Calls.spliced_cons (thn (ha pins s σ H _ I h) λu s1 ⟨x,H1,I1,r1,q1⟩=>?_);exact thn (hr pos pins s1 σ H1 _ I1 q1) λus s2 ⟨xs,H2,I2,r2,q2⟩=>⟨x::xs,H2,I2,.cons r1 r2,q2⟩
noncomputable def wA(t:TA):TE:=λσ H Q=>t σ H λxs H1=>xs.length<=aF/\∀p,H1 p=none->Q (.ref p) (upd H1 p (.tup xs))
noncomputable def vY(t:TA):TE:=λσ H Q=>t σ H λxs H1=>xs.length<=aF/\∀p,H1 p=none->Q (.ref p) (upd H1 p (.lst xs))
theorem vt{x1}(h:PA X es t):PE X (.Tuple es x1 pos) (wA t):=by
 intro pins s σ H Q I hq;refine wpAny_Tuple_spliced (thn (h pos pins s σ H _ I hq) λus s1 ⟨xs,H1,I1,r,z,q⟩=>⟨by rw[<-r.length];exact z,?_⟩);have hf:H1 s1.heap.objs.size=none:=I1.hok.fresh (aD _);refine⟨.ref s1.heap.objs.size,upd H1 s1.heap.objs.size (.tup xs),I1.laid (t':=s1.toks) (λb u e=>Heap.get?_push_of_some _ e) (aD _) ?_,rfl,q _ hf⟩;exact⟨z,us,r,⟨_,Heap.get?_push_size _ rfl,rfl,_,rfl⟩⟩
theorem xC(h:PA X es t):PE X (.List es pos) (vY t):=by
 intro pins s σ H Q I hq;refine wpAny_List_spliced (thn (h pos pins s σ H _ I hq) λus s1 ⟨xs,H1,I1,r,z,q⟩=>⟨by rw[<-r.length];exact z,?_⟩);have hf:H1 s1.heap.objs.size=none:=I1.hok.fresh (aD _);refine⟨.ref s1.heap.objs.size,upd H1 s1.heap.objs.size (.lst xs),I1.laid (t':=s1.toks) (λb u e=>Heap.get?_push_of_some _ e) (aD _) ?_,rfl,q _ hf⟩;exact⟨z,us,0,r,Heap.get?_push_size _ rfl⟩
end
abbrev Sp:=List V->Hp->VK->XK->Prop
abbrev CXT:=List Env->Hp->af->XK->ae->af->Prop
structure fz(P:av)(w:au)(K:aq)(mg:Str->Option ae)(base:Heap)(A:aw)(outer:List Env)(s:af)(H:Hp):Prop where
 frames:A.frames=some outer
 mod:Mod K mg base
 bs:∀b o,base.get? b=some o->s.heap.get? b=some o/\H b=none
 bsz:base.objs.size<=s.heap.objs.size
 funs:s.heap.FunFrames base outer
 frf:∀b∈frs outer,H b=none
 hok:HOk P w H s.heap
 bare:AllBare s.gens
noncomputable def CE(outer:List Env)(P:av)(w:au)(H:Hp)(s:af)(Q:VK)(u:ae)(s':af):Prop:=
 ∃v H',s'.os=s.os/\AllBare s'.gens/\Un (frs outer) [] H H' s.heap s'.heap/\HOk P w H' s'.heap/\RelV v u/\Q v H'
noncomputable def CR(CX:CXT)(outer:List Env)(P:av)(w:au)(H:Hp)(s:af)(Q:VK)(E:XK)(r:Result)(s':af):Prop:=
 match r with
 | .ok (.ret u)=>CE outer P w H s Q u s'
 | .ok _=>False
 | .error e=>CX outer H s E e s'
structure eU(P:av)(w:au)(K:aq)(mg:Str->Option ae)(base:Heap)(CX:CXT)(k:Nat)(f:Addr)(fd:bz)(ps:List Str)(sp:Sp):Prop where
 len:∀vs H Q E,sp vs H Q E->vs.length=ps.length
 run:∀(A:aw) (outer:List Env) (s:af) (H:Hp) (args:Args) (us:List ae) (vs:List V) (Q:VK) (E:XK),cb k A->fz P w K mg base A outer s H->BindsTo s fd args (ps.zip us)->Vals vs us->sp vs H Q E ->
  codeAny (aj P w) A (.call (.ref f) args) (CR CX outer P w H s Q E) s
section
variable{X:Cx}{pins:List (Addr×Obj)}{σ:St}{H:Hp}{s s':af}
theorem Inv.env0(I:Inv X pins σ H s):fz X.prog X.w X.K X.mg X.base X.A X.stack s H:=
 ⟨I.ok.frames,I.ok.mod,I.bs,bg I.ok.bsz I.sz,I.stack,I.stkFree,I.hok,I.bare⟩
theorem Inv.after{Q:VK}{u:ae}(I:Inv X pins σ H s)(h:CE X.stack X.prog X.w H s Q u s'):EP X pins σ Q u s':=by
 obtain⟨v,H',os,bare,un,hok,r,q⟩:=h;obtain⟨hh,g,d,t,os'⟩:=s';obtain rfl:os'=s.os:=os;exact⟨v,H',I.call (h':=hh) (g':=g) (d':=d) (t':=t) (ch:=[]) un hok bare (λb z=>absurd z (by simp)),r,q⟩
end
noncomputable def kc(sp:Sp)(dvs:List V)(E:XK)(t:TA):TE:=λσ H Q=>t σ H λvs H1=>sp (vs++dvs) H1 Q E
noncomputable def Binds(K:aq)(fd:bz)(ps:List Str)(ds:List ae):Prop:=
 ∀(s:af) (us:List ae),K.In s.heap->(us++ds).length=ps.length->BindsTo s fd ⟨us,[]⟩ (ps.zip (us++ds))
theorem Binds.all{K:aq}{fd:bz}{ps:List Str}(h:∀us:List ae,us.length=ps.length->bindArgs fd ⟨us,[]⟩=pure (ps.zip us)):Binds K fd ps []:=λs us _ hl=>by
 rw[List.append_nil]at hl ⊢;exact .of_eq (h us hl)
noncomputable def Passes(CX:CXT)(X:Cx)(E:XK):Prop:=∀(pins:List (Addr×Obj)) (σ:St) (H:Hp) (s:af) (e:ae) (s':af),Inv X pins σ H s->CX X.stack H s E e s'->X.xe e s'
section
variable{X:Cx}{CX:CXT}{k:Nat}{f C:Addr}{fd:bz}{ps:List Str}{sp:Sp}{dvs:List V}{ds:List ae}{E:XK}{x m:Str}{p pos apos:Pos}{e o:Expr}{es:List Expr}{ta:TE}{t:TA}
theorem Dw{pins:List (Addr×Obj)}{σ:St}{H:Hp}{s:af}{Q:VK}{us:List ae}{vs:List V}(F:eU X.prog X.w X.K X.mg X.base CX k f fd ps sp)(hr:cb k X.A)(hb:Binds X.K fd ps ds)(hd:Vals dvs ds)(hx:Passes CX X E)
  (I:Inv X pins σ H s) (r:Vals vs us) (h:sp (vs++dvs) H Q E):ai (aj X.prog X.w) X.A (call (.ref f) us) (EP X pins σ Q) X.xe s:=by
 have r2:Vals (vs++dvs) (us++ds):=r.append hd;have hl:(us++ds).length=ps.length:=by rw[<-r2.length];exact F.len _ _ _ _ h
 refine wpAny_call (codeAny_mono (F.run X.A X.stack s H ⟨us,[]⟩ (us++ds) (vs++dvs) Q E hr I.env0 (hb s us I.kIn hl) r2 h) λr s' hq=>?_);cases r with
 |error e=>exact hx pins σ H s e s' I hq
 |ok fl=>
  cases fl with
  |ret u=>exact I.after hq
  |next=>exact aQ hq
  |brk=>exact aQ hq
  |cont=>exact aQ hq
theorem Bu(F:eU X.prog X.w X.K X.mg X.base CX k f fd ps sp)(hr:cb k X.A)(hg:Gl X x)(hm:X.mg x=some (.ref f))(hk:cA X.K (.ref f)=true)(hb:Binds X.K fd ps ds)(hd:Vals dvs ds)(hx:Passes CX X E)
  (ha:PA X (e::es) t) (hdb:(x==("__debug__" : Str))=false:=by decide) (he:aL (e::es) X.env=(false,eval e X.env)::aL es X.env:=by rfl) (hpl:(backTo pos (aL es X.env)).any (·.1)=false:=by rfl) :
  PE X (.Call (.Name x p) (e::es) [] pos) (kc sp dvs E t):=by
 intro pins s σ H Q I h;refine wpAny_Call_Name_kw (f_ I hg hm ?_ hdb);refine PySem.W.callWith_K (h₀:=X.base) I.ok.mod.kin hk (thn (ha pos pins s σ H _ I h) λus s1 ⟨vs,H1,I1,r,q⟩=>⟨I1.kIn,?_⟩) he hpl;exact Dw F hr hb hd hx I1 r q
end
section
variable{X:Cx}{CX:CXT}{k:Nat}{f C:Addr}{fd:bz}{ps ks:List Str}{sp:Sp}{E:XK}{x m:Str}{p pos apos kpos:Pos}{e o:Expr}{es:List Expr}{kws:List Keyword}{te ta:TE}{t tk:TA}{nm:Option Str}
variable{g:List ae->List ae->List ae}{gV:List V->List V->List V}
end
structure fR(N P:List Str)(sc:aP):Prop where
 kind:sc.kind=.function
 co:sc.isCoroutine=false
 gen:sc.isGenerator=false
 nd:N.Nodup
 pre:N.take P.length=P
 par:∀x∈P,sc.names.lookup x=some .local\/sc.names.lookup x=some .cell
 nofree:∀y∈sc.names,y.2≠.free
theorem nU{kindOf:Str->Option aM}{x:Str}:∀{binds:List (Str×ae)}{m:Str->Option ae},(∀v,(x,v)∉binds)->bindL kindOf binds m x=m x
 | [],_,_=>rfl
 | (n,v)::r,m,h=>by
  unfold bindL;rw[nU λw hw=>h w (aK _ hw)];split
  ·have:x≠n:=by rintro rfl;exact h v aJ
   simp[this]
  ·rfl
theorem mf{kindOf:Str->Option aM}{x:Str}:∀{binds:List (Str×ae)}{m:Str->Option ae},(∀v,(x,v)∉binds)->bindC kindOf binds m x=m x
 | [],_,_=>rfl
 | (n,v)::r,m,h=>by
  unfold bindC;rw[mf λw hw=>h w (aK _ hw)];split
  ·rfl
  ·have:x≠n:=by rintro rfl;exact h v aJ
   simp[this]
theorem oz{kindOf:Str->Option aM}{x:Str}{v:ae}:∀{P:List Str}{vs:List ae}{i:Nat}{m:Str->Option ae},P.Nodup->P[i]? = some x->vs[i]? = some v->kindOf x=some .local ->
  bindL kindOf (P.zip vs) m x=some v
 | [],_,_,_,_,h,_,_=>by simp at h
 |_::_,[],_,_,_,_,h,_=>by simp at h
 |p::P,w::vs,0,m,nd,h1,h2,hk=>by
  simp at h1 h2;subst h1;subst h2;show bindL kindOf ((p,w)::P.zip vs) m p=_;unfold bindL;rw[nU λv hv=>(List.nodup_cons.mp nd).1 (List.of_mem_zip hv).1,if_pos hk];simp
 |p::P,w::vs,i+1,m,nd,h1,h2,hk=>by
  show bindL kindOf ((p,w)::P.zip vs) m x=_;unfold bindL;exact oz (i:=i) (List.nodup_cons.mp nd).2 (by simpa using h1) (by simpa using h2) hk
theorem md{kindOf:Str->Option aM}{x:Str}{v:ae}:∀{P:List Str}{vs:List ae}{i:Nat}{m:Str->Option ae},P.Nodup->P[i]? = some x->vs[i]? = some v->kindOf x≠some .local ->
  bindC kindOf (P.zip vs) m x=some v
 | [],_,_,_,_,h,_,_=>by simp at h
 |_::_,[],_,_,_,_,h,_=>by simp at h
 |p::P,w::vs,0,m,nd,h1,h2,hk=>by
  simp at h1 h2;subst h1;subst h2;show bindC kindOf ((p,w)::P.zip vs) m p=_;unfold bindC;rw[mf λv hv=>(List.nodup_cons.mp nd).1 (List.of_mem_zip hv).1,if_neg hk];simp
 |p::P,w::vs,i+1,m,nd,h1,h2,hk=>by
  show bindC kindOf ((p,w)::P.zip vs) m x=_;unfold bindC;exact md (i:=i) (List.nodup_cons.mp nd).2 (by simpa using h1) (by simpa using h2) hk
noncomputable def start(N:List Str)(vs:List V):St:=vs.map some++bN (N.length-vs.length) none
noncomputable def dC(CX:CXT)(P:av)(w:au)(K:aq)(mg:Str->Option ae)(base:Heap)(N:List Str)(qual:Str)(scope:aP)(f:Addr)(cd:ae)(A:aw)(outer:List Env)(s:af)(H:Hp)(E:XK):Cx where
 prog:=P
 w:=w
 K:=K
 mg:=mg
 base:=base
 A:=A.deeper (envOfC qual scope s.heap.objs.size f cd)
 N:=N
 s₀:=s
 H₀:=H
 env:=envOfC qual scope s.heap.objs.size f cd
 outer:=outer
 stack:=envOfC qual scope s.heap.objs.size f cd::outer
 ex:=[]
 calm:=true
 fn:=λ_=>true
 pn:=[]
 xe:=λe s'=>ai (aj P w) (A.deeper (envOfC qual scope s.heap.objs.size f cd)) (leaving (envOfC qual scope s.heap.objs.size f cd) e) (λ_ s''=>CX outer H s E e s'') (λe' s''=>CX outer H s E e' s'') s'
theorem jo{sc:aP}{n:Nat}{x:Str}(h:sc.names.lookup x=some .cell):∃c,(aX n sc.names []).lookup x=some c:=by
 have q:=PySem.W.cellsFrom_some sc.names n [] (.inl h);exact Option.isSome_iff_exists.mp q
theorem pX{CX:CXT}{P:av}{w:au}{K:aq}{mg:Str->Option ae}{base:Heap}{N ps:List Str}{qual:Str}{scope:aP}{f:Addr}{cd:ae}{A:aw}{outer:List Env}{s s1:af}{H:Hp}{E:XK}{us:List ae}{vs:List V}
  (S:fR N ps scope) (hd:A.handled=none) (e0:fz P w K mg base A outer s H) (hl:vs.length=ps.length) (r:Vals vs us)
  (x:InCallC s s.heap.objs.size (bindL (envOfC qual scope s.heap.objs.size f cd).kindOf (ps.zip us) λ_=>none) (aX (s.heap.objs.size+1) scope.names []) (bindC (envOfC qual scope s.heap.objs.size f cd).kindOf (ps.zip us) λ_=>none) s1) :
  Inv (dC CX P w K mg base N qual scope f cd A outer s H E) [] (start N vs) H s1:=by
 have hpl:ps.length<=N.length:=by have:=congrArg List.length S.pre;rw[List.length_take]at this;lia
 obtain⟨h1,tk,rfl,hk⟩:=x.done;have noA:∀b:Addr,b∉(dC CX P w K mg base N qual scope f cd A outer s H E).ex:=λb z=>absurd (show b∈([]:List Addr)from z) (by simp)
 refine⟨⟨e0.mod,S.kind,rfl,rfl,aD _,λy z c h1 h2=>?_,λy hy=>?_,λy c _ h=>?_,λ_=>hd,aw.frames_deeper e0.frames,.inr ⟨rfl,rfl⟩,λb z=>absurd z (noA b),e0.bs,e0.bsz,λb _ _=>noA b,λb z=>absurd z (noA b),e0.funs,e0.frf⟩,
  rfl,e0.bare,Un.kept hk,⟨_,x.toInCall.ns,λi y v h1 h2 h3=>?_⟩,λy c h=>⟨_,x.cell y c h⟩,e0.hok.fresh (aD _),λy c h=>?_,λp hp=>absurd (show p∈([]:List (Addr×Obj))from hp) (by simp),e0.hok.kept hk,?_⟩
 ·exact name_of_addr x.apart (cy h1) (cy h2)
 ·have hy:scope.names.lookup y=some .cell\/scope.names.lookup y=some .free:=hy;rcases hy with hy|hy
  ·exact jo hy
  ·exact absurd rfl (S.nofree _ (cy hy))
 ·exact Nat.le_of_lt (x.above y c (cy h))
 ·have hi:i<vs.length:=by
   unfold start at h2;by_cases hi:i<vs.length
   ·exact hi
   ·rw[List.getElem?_append_right (by simpa using hi)]at h2;rw[List.getElem?_replicate]at h2;split at h2<;>cases h2
  have ha:vs[i]? = some v:=by
   unfold start at h2;rw[List.getElem?_append_left (by simpa using hi),List.getElem?_map]at h2;cases e:vs[i]? with
   |none=>rw[e]at h2;cases h2
   |some a=>rw[e]at h2;cases h2;rfl
  obtain⟨u,hu,rv⟩:=r.get ha;have hp:ps[i]? = some y:=by
   rw[<-S.pre,List.getElem?_take_of_lt (by lia)];exact h1
  have ndP:ps.Nodup:=by rw[<-S.pre];exact S.nd.sublist (List.take_sublist _ _)
  refine⟨u,rv,?_⟩;rcases S.par y (List.mem_of_getElem? hp)with k|k
  ·exact .inl ⟨k,oz ndP hp hu k⟩
  ·obtain⟨c,e⟩:=jo (n:=s.heap.objs.size+1) k;refine .inr ⟨.inl k,c,e,?_⟩;have q:=x.cell y c e;rw[md ndP hp hu (by show scope.names.lookup y≠_;rw[k];decide)]at q;exact q
 ·exact e0.hok.fresh (Nat.le_of_lt (x.above y c (cy h)))
 ·unfold start;show _=N.length;rw[bL,aI,List.length_replicate];lia
theorem tY{CX:CXT}{P:av}{w:au}{K:aq}{mg:Str->Option ae}{base:Heap}{k:Nat}{f:Addr}{name qual:Str}{params:Arguments}{body:List Stmt}{scope:aP}{dV kV doc pm cdv ct oc:ae}{an od:Option Addr}
  {osl:Array (Option ae)}{N ps:List Str}{sp:Sp} (lk:K.lookup f=some ⟨oc,od,.func (bS name qual params body scope dV kV doc pm an cdv ct),osl⟩) (hcd:PySem.W.codeIn K cdv qual=true) (S:fR N ps scope)
  (len:∀vs H Q E,sp vs H Q E->vs.length=ps.length)
  (hbody:∀(A:aw) (outer:List Env) (s:af) (H:Hp) (vs:List V) (Q:VK) (E:XK),cb k (A.deeper (envOfC qual scope s.heap.objs.size f cdv))->sp vs H Q E ->
   ∃t,PSs (dC CX P w K mg base N qual scope f cdv A outer s H E) body t/\t {nx:=λ_ H'=>Q .non H',rt:=Q} (start N vs) H) :
  eU P w K mg base CX (k+1) f (bS name qual params body scope dV kV doc pm an cdv ct) ps sp:=by
 refine⟨len,λA outer s H args us vs Q E hr e0 hb r hsp=>?_⟩;have hl:=len _ _ _ _ hsp;have KX:K.In s.heap:=e0.mod.kin.keeps λb o e=>(e0.bs b o e).1
 have lim:s.heap.NoLimit:=e0.mod.nolimit.keeps λb o e=>(e0.bs b o e).1
 have hkind:∀y∈ps.zip us,scope.names.lookup y.1=some .local\/(scope.names.lookup y.1=some .cell/\((aX (s.heap.objs.size+1) scope.names []).lookup y.1).isSome=true):=λ⟨n,v⟩ hy=>by
  rcases S.par n (List.of_mem_zip hy).1 with q|q
  ·exact .inl q
  ·exact .inr ⟨q,PySem.W.cellsFrom_some _ _ _ (.inl q)⟩
 refine codeAny_call_function hr.depth (KX _ _ lk) rfl S.co S.gen rfl (PySem.W.codeRec_of KX hcd) (hb _ _ _ _ ?_);refine wpAny_newFunctionEnv_cells S.kind hkind λenv he s1 x=>?_
 subst he;refine⟨lim.keeps x.toInCall.keep,codeAny_func ?_⟩;obtain⟨t,ht,hq⟩:=hbody A outer s H vs Q E (hr.deeper _) hsp;have I:Inv (dC CX P w K mg base N qual scope f cdv A outer s H E) [] (start N vs) H s1:=pX S hr.hd e0 hl r x;refine bI (ht [] s1 (start N vs) H _ I hq) (λfl s' hs=>?_) λe s' hs=>hs
 have fin:∀{σ':St}{H':Hp}{v:V}{u:ae},Inv (dC CX P w K mg base N qual scope f cdv A outer s H E) [] σ' H' s'->RelV v u->Q v H'->CE outer P w H s Q u s':=
  λ{σ' H' v u} J rv q=>⟨v,H',J.os,J.bare,J.base,J.hok,rv,q⟩
 cases fl with
 |ret u=>
  obtain⟨v,σ',H',J,rv,q⟩:=hs;exact fin J rv q
 |next=>
  obtain⟨σ',H',J,q⟩:=hs;exact fin (v:=V.non) (u:=ae.none) J rfl q
 |brk=>
  obtain⟨_,_,_,q⟩:=hs;exact aQ q
 |cont=>
  obtain⟨_,_,_,q⟩:=hs;exact aQ q
section
variable{X:Cx}{x:Str}{p pos:Pos}{e:Expr}{es:List Expr}{t:TA}{id T:String}{r:List V->Hp->VK->Prop}
noncomputable def tCB(r:List V->Hp->VK->Prop)(t:TA):TE:=λσ H Q=>t σ H λvs H1=>r vs H1 Q
theorem mW(hc:zq X (.builtin id) r)(hg:Gl X x)(hm:X.mg x=none)(hv:bB x=some (.builtin id))(ha:PA X (e::es) t)(hn:x≠"__name__":=by decide)(hdb:(x==("__debug__" : Str))=false:=by decide)
  (he:aL (e::es) X.env=(false,eval e X.env)::aL es X.env:=by rfl) (hpl:(backTo pos (aL es X.env)).any (·.1)=false:=by rfl):PE X (.Call (.Name x p) (e::es) [] pos) (tCB r t):=by
 intro pins s σ H Q I h;refine wpAny_Call_Name_kw (fC I hg hm hv ?_ hn hdb);exact PyProof.Rows.callWith_builtin1 (thn (ha pos pins s σ H _ I h) λus s1 ⟨vs,H1,I1,r1,q1⟩=>hc pins s1 σ H1 vs us Q I1 r1 q1) he hpl
theorem rT(hc:zq X (.type T) r)(hg:Gl X x)(hm:X.mg x=none)(hv:bB x=some (.type T))(ha:PA X (e::es) t)(hn:x≠"__name__":=by decide)(hdb:(x==("__debug__" : Str))=false:=by decide)
  (he:aL (e::es) X.env=(false,eval e X.env)::aL es X.env:=by rfl) (hpl:(backTo pos (aL es X.env)).any (·.1)=false:=by rfl):PE X (.Call (.Name x p) (e::es) [] pos) (tCB r t):=by
 intro pins s σ H Q I h;refine wpAny_Call_Name_kw (fC I hg hm hv ?_ hn hdb);exact eR (thn (ha pos pins s σ H _ I h) λus s1 ⟨vs,H1,I1,r1,q1⟩=>hc pins s1 σ H1 vs us Q I1 r1 q1) he hpl
end
end L2
namespace HT
open PySem PyProof.Rows
noncomputable def lexLt:List Int->List Int->Bool
 | [],[]=>false
 | [],_::_=>true
 |_::_,[]=>false
 |x::xs,y::ys=>if x=y then lexLt xs ys else decide (x<y)
theorem wD(x y:Int)(xs ys:List Int):lexLt (x::xs) (y::ys)=if x=y then lexLt xs ys else decide (x<y):=rfl
theorem xS:lexLt [] []=false:=rfl
theorem AB(y:Int)(ys:List Int):lexLt [] (y::ys)=true:=rfl
theorem Ct(x:Int)(xs:List Int):lexLt (x::xs) []=false:=rfl
theorem Bh(A:aw)(s:af)(a:Int)(t:Tok)(c:Int)(u:Tok):∃e,SeqAt.EqAt A s (.int a t) (.int c u) e/\(e=true↔a=c):=
 ⟨(a==c),SeqAt.EqAt.int_int a t c u,by simp⟩
theorem wI(A:aw)(s:af)(a:Int)(t:Tok)(c:Int)(u:Tok)(prog:av)(w:au)(E:ae->af->Prop)(Q:ae->af->Prop)(h:Q (.bool (decide (a<c))) s) :
  ai (aj prog w) A (richCompare .Lt (.int a t) (.int c u)) Q E s:=
 (PyProof.Rows.lt_int h:ai (aj prog w) A (aR .Lt (.int a t) (.int c u)) Q E s)
section
open PySem.SeqAt
open PySem.AutoSeq1 (wpAny_loadPart')
open PySem.MeetsSeq PySem.MeetsSeq2 PySem.MeetsSeq3
theorem sv(l b:Addr)(items items2:Array ae)(n n2:Nat)(dd dd2:Option Addr)(sl sl2:Array (Option ae))(ns ms:List Int)(hi:a8 items.toList ns)(hj:a8 items2.toList ms) :
  Meets (Builtin.«tuple.__lt__» ⟨[.ref l,.ref b],[]⟩)
   (λ_ R s=>s.heap.get? l=some {cls:=.type "tuple",dict:=dd,data:=.seq items n,slots:=sl}/\s.heap.get? b=some {cls:=.type "tuple",dict:=dd2,data:=.seq items2 n2,slots:=sl2} /\
    R (.ok (.ret (.bool (lexLt ns ms)))) s):=
 .of_wp λprog w A R s h=>by
  obtain⟨hp,g,d,tk,os⟩:=s;obtain⟨hl,hb,h⟩:=h;have f2:=AutoSeq1.sub_tuple_tuple;have z1:items.size=ns.length:=by rw[<-hi.length];simp
  have z2:items2.size=ms.length:=by rw[<-hj.length];simp
  wp_walk using wpAny_loadPart' hl,wpAny_loadPart' hb,wpAny_forIn_list _ (λrest b s'=>b.1=none/\s'=⟨hp,g,d,tk,os⟩/\∃(vs ws:List ae) (ns' ms':List Int),rest=vs.zip ws /\
   a8 vs ns'/\a8 ws ms'/\ns'.length+items2.size=ms'.length+items.size/\R (.ok (.ret (.bool (lexLt ns' ms')))) ⟨hp,g,d,tk,os⟩) _
  case turn=>
   rintro⟨y,x⟩ rest b s' ⟨hb',rfl,vs,ws,ns',ms',hz,hvi,hwi,hlen,hR⟩;cases hvi with
   |nil=>rw[List.zip_nil_left]at hz;cases hz
   |cons a t hvi'=>
    cases hwi with
    |nil=>rw[List.zip_nil_right]at hz;cases hz
    |cons c u hwi'=>
     rw[List.zip_cons_cons]at hz;injection hz with hyx hrest
     injection hyx with hy hx
     subst hy hx;rw[wD]at hR;simp only[br]at hlen;obtain⟨e,he,hiff⟩:=Bh A.in1 ⟨hp,g,d,tk,os⟩ a t c u;refine ah (he prog w _ _ ?_);cases e with
     |true=>
      rw[if_pos (hiff.mp rfl)]at hR
      wp_walk
      exact⟨rfl,rfl,_,_,_,_,hrest,hvi',hwi',by lia,hR⟩
     |false=>
      rw[if_neg (λq=>absurd (hiff.mpr q) bQ)]at hR;have hri:=wI A.in1 ⟨hp,g,d,tk,os⟩ a t c u prog w
      wp_walk using hri
      exact⟨_,rfl,by simpa using hR⟩
  case fin=>
   rintro⟨b1,b2⟩ s' ⟨hb',rfl,vs,ws,ns',ms',hz,hvi,hwi,hlen,hR⟩;simp only at hb';subst hb';have hv:lexLt ns' ms'=decide (items.size<items2.size):=by
    cases hvi with
    |nil=>
     cases hwi with
     |nil=>
      simp only[List.length_nil]at hlen;rw[xS];exact(decide_eq_false (by lia)).symm
     |cons c u hw=>
      simp only[List.length_nil,br]at hlen;rw[AB];exact(decide_eq_true (by lia)).symm
    |cons a t hv=>
     cases hwi with
     |nil=>
      simp only[List.length_nil,br]at hlen;rw[Ct];exact(decide_eq_false (by lia)).symm
     |cons c u hw=>
      rw[List.zip_cons_cons]at hz;cases hz
   rw[hv]at hR
   wp_walk
   exact⟨_,rfl,by simpa[Builtin.Tuple.tupleCompareSizes]using hR⟩
  case h=>
   exact⟨rfl,rfl,items.toList,items2.toList,ns,ms,rfl,hi,hj,by lia,h⟩
end
section
variable{prog:av}{w:au}{A:aw}{E:ae->af->Prop}{s:af}
theorem uR{l b:Addr}{items items2:Array ae}{ns ms:List Int}{Q:ae->af->Prop}(hl:IsTup s.heap l items)(hb:IsTup s.heap b items2)(hi:a8 items.toList ns)(hj:a8 items2.toList ms)
  (hu:A.units<cLine) (h:Q (.bool (lexLt ns ms)) s):ai (aj prog w) A (aR .Lt (.ref l) (.ref b)) Q E s:=by
 obtain⟨⟨cls,dd,data,sl⟩,ho,hc,n,hd⟩:=id hl;obtain⟨⟨cls2,dd2,data2,sl2⟩,ho2,hc2,n2,hd2⟩:=id hb;simp only at hc hd hc2 hd2;subst hc hd hc2 hd2;exact richCompare_meets_room (op:=.Lt) ⟨_,ho,rfl⟩ ⟨_,ho2,rfl⟩ PySem.F.slot_tuple_lt PySem.F.entry_tuple_lt (PySem.F.args_tuple_lt_2 _ _) (sv l b items items2 n n2 dd dd2 sl sl2 ns ms hi hj)
  ⟨ho,ho2,show bt (lexLt ns ms)≠ae.notImplemented/\Q (.bool (lexLt ns ms)) s from ⟨(λx=>nomatch x),h⟩⟩ hu
theorem Cb{t b:Addr}{vs ws:List ae}{Q:ae->af->Prop}(ht:IsTup s.heap t vs.toArray)(hb:IsTup s.heap b ws.toArray)(hv:vs≠[])
  (h1:ws=[]->Q (.ref t) s) (h2:ws≠[]->Q (.ref s.heap.objs.size) {s with heap:=s.heap.push {cls:=.type "tuple",data:=.seq (vs++ws).toArray}})
  (hsz:vs.length+ws.length<=aF):ai (aj prog w) A (binaryOp .Add (.ref t) (.ref b)) Q E s:=by
 obtain⟨⟨cls,dd,data,sl⟩,ho,hc,n,hd⟩:=id ht;obtain⟨⟨cls2,dd2,data2,sl2⟩,ho2,hc2,n2,hd2⟩:=id hb;simp only at hc hd hc2 hd2;subst hc hd hc2 hd2;have e:vs.toArray++ws.toArray=(vs++ws).toArray:=by simp
 by_cases hw:ws=[]
 ·exact concat_meets ⟨_,ho,rfl⟩ ⟨_,ho2,rfl⟩ noFill_tuple_add seq_tuple_add PySem.F.slot_tuple_add PySem.F.entry_tuple_add (PySem.F.args_tuple_add_2 _ _)
   (tuple_addW1 t b vs.toArray ws.toArray n n2 dd dd2 sl sl2 (by simpa using hv) (by simp[hw])) ⟨ho,ho2,h1 hw⟩
 ·refine concat_meets ⟨_,ho,rfl⟩ ⟨_,ho2,rfl⟩ noFill_tuple_add seq_tuple_add PySem.F.slot_tuple_add PySem.F.entry_tuple_add (PySem.F.args_tuple_add_2 _ _)
   (tuple_addW2 t b vs.toArray ws.toArray n n2 dd dd2 sl sl2 (by simpa using hv) (by simpa using hw) (by rw[aO,aO];exact hsz)) ⟨ho,ho2,?_⟩
  rw[e];exact h2 hw
noncomputable def sIx(n d:Nat):Option Int->Nat
 |none=>d
 |some v=>if v<0 then (v+(n:Int)).toNat else min v.toNat n
theorem sU(n d:Nat):sIx n d none=d:=rfl
theorem m6(n d k:Nat):sIx n d (some (k:Int))=min k n:=by
 show (if (k:Int)<0 then ((k:Int)+(n:Int)).toNat else min (k:Int).toNat n)=min k n;rw[if_neg (by lia),Int.toNat_natCast]
theorem Ad(n d:Nat)(hd:d<=n)(o:Option Int):sIx n d o<=n:=by
 cases o with
 |none=>exact hd
 |some v=>
  show (if v<0 then (v+(n:Int)).toNat else min v.toNat n)<=n;by_cases hv:v<0
  ·rw[if_pos hv];lia
  ·rw[if_neg hv];exact Nat.min_le_right _ _
theorem lJ(v:Int)(n d:Nat):(if v<0 then max (v+(n:Int)) 0 else min v (n:Int))=((sIx n d (some v):Nat):Int):=by
 show (if v<0 then max (v+(n:Int)) 0 else min v (n:Int))=(((if v<0 then (v+(n:Int)).toNat else min v.toNat n):Nat):Int)
 by_cases hv:v<0
 ·simp only[if_pos hv];lia
 ·simp only[if_neg hv];lia
theorem ui(lo hi:Option Int)(n:Nat):Builtin.Slice.sliceAdjust lo hi 1 (n:Int)=(((sIx n 0 lo:Nat):Int),((sIx n n hi:Nat):Int)):=by
 have h1:¬ ((1:Int)<0):=by lia
 unfold Builtin.Slice.sliceAdjust;simp only[h1,if_false];refine Prod.ext ?_ ?_
 ·cases lo with
  |none=>rfl
  |some v=>exact lJ v n 0
 ·cases hi with
  |none=>rfl
  |some v=>exact lJ v n n
theorem uJ(i j:Nat):Builtin.Slice.slicePlaces (i:Int) (j:Int) 1=j-i:=by
 unfold Builtin.Slice.slicePlaces;have h1:(1:Int)>0:=by lia
 simp only[h1,if_true,Int.ediv_one];split<;>lia
theorem o6{v:ae}{o:Option Int}{Q:Option Int->af->Prop}(p:IsPart v o)(h:Q o s):ai (aj prog w) A (Builtin.Slice.slicePartIndex v) Q E s:=by
 cases p with
 |none=>exact slicePart_none h
 |int i t=>exact slicePart_int h
theorem om{sl:Addr}{vl vu:ae}{lo hi:Option Int}{n:Nat}{Q:Int×Int×Nat->af->Prop}(hs:s.heap.IsSliceOf sl vl vu .none)(pl:IsPart vl lo)(pu:IsPart vu hi)
  (h:Q (((sIx n 0 lo:Nat):Int),1,sIx n n hi-sIx n 0 lo) s):ai (aj prog w) A (Builtin.Slice.sliceApplied (.ref sl) (pure (n:Int))) Q E s:=by
 obtain⟨os,hos,hcs,hds⟩:=id hs;unfold Builtin.Slice.sliceApplied Builtin.Slice.sliceFields;refine ah (ah (bC hos hds (x:=vl) rfl (ah (bC hos hds (x:=vu) rfl (ah (bC hos hds (x:=.none) rfl (ax ?_)))))));refine ah (slicePart_none ?_);show ai _ _ (if ((1:Int)==0)=true then _ else _) _ _ s;rw[if_neg (by decide)];refine ah (o6 pl (ah (o6 pu (ah (ax ?_)))));show ai _ _ (match Builtin.Slice.sliceAdjust lo hi 1 (n:Int)with|(lo,hi)=>pure (lo,(1:Int),Builtin.Slice.slicePlaces lo hi 1)) _ _ s;rw[ui lo hi n];show ai _ _ (pure (((sIx n 0 lo:Nat):Int),(1:Int),Builtin.Slice.slicePlaces ((sIx n 0 lo:Nat):Int) ((sIx n n hi:Nat):Int) 1)) _ _ s;rw[uJ];exact ax h
theorem sX(xs:Array ae)(i k:Nat):((aW k).filterMap λ(m:Nat)=>xs[((i:Int)+(m:Int) * 1).toNat]?).toArray=((xs.toList.drop i).take k).toArray:=by
 have e:(λ(m:Nat)=>xs[((i:Int)+(m:Int) * 1).toNat]?)=λm=>xs[i+m]?:=by
  funext m;have:((i:Int)+(m:Int) * 1).toNat=i+m:=by lia
  rw[this]
 rw[e];have:=pick_run xs i k;rw[List.filterMap_map]at this;have e2:((λx=>xs[x]?)∘λx=>i+x)=λm=>xs[i+m]?:=rfl
 rw[e2]at this;rw[this]
theorem DU{t sl:Addr}{items:Array ae}{vl vu:ae}{lo hi:Option Int}{Q:ae->af->Prop}(ht:IsTup s.heap t items)(hs:s.heap.IsSliceOf sl vl vu .none)(pl:IsPart vl lo)(pu:IsPart vu hi)
  (hw:¬ (sIx items.size 0 lo=0/\sIx items.size items.size hi=items.size))
  (h:Q (.ref s.heap.objs.size) {s with heap:=s.heap.push {cls:=.type "tuple",data:=.seq ((items.toList.drop (sIx items.size 0 lo)).take (sIx items.size items.size hi-sIx items.size 0 lo)).toArray}})
  (hsz:items.size<=aF):ai (aj prog w) A (getItem (.ref t) (.ref sl)) Q E s:=by
 have htake:sizeOk (.seq ((items.toList.drop (sIx items.size 0 lo)).take (sIx items.size items.size hi-sIx items.size 0 lo)).toArray):=by
  show ((items.toList.drop (sIx items.size 0 lo)).take (sIx items.size items.size hi-sIx items.size 0 lo)).toArray.size<=aF;rw[aO,List.length_take,List.length_drop,Array.length_toList];lia
 have hj:sIx items.size items.size hi<=items.size:=Ad _ _ (aD _) hi;obtain⟨os,hos,hcs,hds⟩:=id hs;have hTs:s.TypeIs (.ref sl) "slice":=⟨os,hos,hcs⟩
 unfold getItem
 try with_reducible refine cM ?_
 first|refine ah (ax ?_)|skip
 refine ah (wpAny_sequenceKey ht.typeIs (by decide) ?_);refine ah (wpAny_callSpecial?_slot (name:=ag "__getitem__") ht.typeIs PyProof.Rows.slot_tuple_getitem
  (cL PyProof.Rows.slot_tuple_getitem ht.typeIs entry_tuple_getitem ?_ (args_tuple_getitem _ _)))
 show ai _ _ (Builtin.Tuple.tupleItemsOf (.ref t)>>=_) _ _ s;refine ah (tupleItemsOf_ ht ?_);refine ah (wpAny_typeOf hTs ?_);rw[if_pos (by decide)];refine ah (om hs pl pu ?_);have hno:¬ ((((sIx items.size 0 lo:Nat):Int)==0&&(1:Int)==1&&(sIx items.size items.size hi-sIx items.size 0 lo)==items.size)=true):=by
  intro q;rw[aG,aG]at q;have q1:((sIx items.size 0 lo:Nat):Int)=0:=eq_of_beq q.1.1;have q2:sIx items.size items.size hi-sIx items.size 0 lo=items.size:=eq_of_beq q.2;exact hw ⟨by lia,by lia⟩
 show ai _ _ (if (((sIx items.size 0 lo:Nat):Int)==0&&(1:Int)==1&&(sIx items.size items.size hi-sIx items.size 0 lo)==items.size)=true then _ else _) _ _ s;rw[if_neg hno,sX]
 first
  |exact ah (m:=Builtin.Tuple.tupleExact _) (cY (ax ⟨_,rfl,ax h⟩) htake)
  |exact ah (m:=Builtin.Tuple.tupleExact _) (cY (ah (ax (ax ⟨_,rfl,ax h⟩))) htake)
  |exact ah (ah (m:=Builtin.Tuple.tupleExact _) (cY (ax (ax ⟨_,rfl,ax h⟩)) htake))
  |exact ah (ah (m:=Builtin.Tuple.tupleExact _) (cY (ax ⟨_,rfl,ax h⟩) htake))
end
end HT
namespace L2
open PySem PySem.Spec PyProof.Rows
abbrev TO:=St->Hp->(Option Int->Hp->Prop)->Prop
noncomputable def PO(X:Cx)(e:Option Expr)(t:TO):Prop:=
 ∀(pins:List (Addr×Obj)) (s:af) (σ:St) (H:Hp) (Q:Option Int->Hp->Prop),Inv X pins σ H s->t σ H Q ->
  ai (aj X.prog X.w) X.A (evalPart e X.env) (λu s'=>∃o H',Inv X pins σ H' s'/\IsPart u o/\Q o H') X.xe s
noncomputable def vX:TO:=λ_ H Q=>Q none H
noncomputable def yD(t:TE):TO:=λσ H Q=>t σ H λx H1=>∃i,x=.int i/\Q (some i) H1
theorem intsAre_of{ns:List Int}:∀{us:List ae},Vals (ns.map V.int) us->a8 us ns:=by
 induction ns with
 |nil=>intro us r;rw[List.map_nil]at r;cases r;exact .nil
 |cons n ns ih=>
  intro us r;rw[aS]at r;cases r with
  |cons r1 r2=>
   obtain⟨t,e⟩:=r1;subst e;exact .cons n t (ih r2)
section
variable{X:Cx}{e:Expr}{te:TE}{lo hi:Option Expr}{tl th:TO}{pos p2:Pos}
theorem xw:PO X none vX:=by
 intro pins s σ H Q I h;rw[evalPart_none];exact ax ⟨none,H,I,.none,h⟩
theorem CK(h:PE X e te):PO X (some e) (yD te):=by
 intro pins s σ H Q I hw;rw[evalPart_some];refine thn (h pins s σ H _ I hw) λu s1 ⟨x,H1,I1,r1,q1⟩=>?_
 obtain⟨i,rfl,q⟩:=q1;obtain⟨t,rfl⟩:=r1;exact⟨some i,H1,I1,.int i t,q⟩
noncomputable def SlR(X:Cx)(r:V->Option Int->Option Int->Hp->VK->Prop):Prop:=
 ∀(pins:List (Addr×Obj)) (s:af) (σ:St) (H:Hp) (x:V) (v vl vu:ae) (lo hi:Option Int) (sl:Addr) (Q:VK),Inv X pins σ H s->RelV x v->s.heap.IsSliceOf sl vl vu .none->IsPart vl lo->IsPart vu hi->r x lo hi H Q ->
  ∃T id,typeLookup (.type T) "__getitem__" = pure (some (.builtin id))/\s.TypeIs v T/\ai (aj X.prog X.w) X.A (getItem v (.ref sl)) (EP X pins σ Q) X.xe s
noncomputable def tSl(r:V->Option Int->Option Int->Hp->VK->Prop)(te:TE)(tl th:TO):TE:=λσ H Q=>te σ H λx H1=>tl σ H1 λl H2=>th σ H2 λu H3=>r x l u H3 Q
theorem CC{r:V->Option Int->Option Int->Hp->VK->Prop}(hr:SlR X r)(he:PE X e te)(hl:PO X lo tl)(hu:PO X hi th):PE X (.Subscript e (.Slice lo hi none p2) pos) (tSl r te tl th):=by
 intro pins s σ H Q I h;refine Subscript_ (thn (he pins s σ H _ I h) λv s1 ⟨x,H1,I1,r1,q1⟩=>?_);refine wpAny_Slice (thn (hl pins s1 σ H1 _ I1 q1) λvl s2 ⟨l,H2,I2,pl,q2⟩=>thn (hu pins s2 σ H2 _ I2 q2) λvu s3 ⟨u,H3,I3,pu,q3⟩=>?_);rw[evalPart_none];refine ax ?_;have I4:Inv X pins σ H3 {s3 with heap:=s3.heap.push {cls:=.type "slice",data:=.fields #[vl,vu,.none]}}:=I3.kept (t':=s3.toks) λb ob q=>Heap.get?_push_of_some _ q
 obtain⟨T,id,hT,ht,hg⟩:=hr pins {s3 with heap:=s3.heap.push {cls:=.type "slice",data:=.fields #[vl,vu,.none]}} σ H3 x v vl vu l u s3.heap.objs.size Q I4 r1 (Heap.IsSliceOf.new ..) pl pu q3;show ai (aj X.prog X.w) X.A (subscriptTail e (.Slice lo hi none p2) v (.ref s3.heap.objs.size)) (EP X pins σ Q) X.xe {s3 with heap:=s3.heap.push {cls:=.type "slice",data:=.fields #[vl,vu,.none]}};exact tail_any (ops:=[.ref s3.heap.objs.size,v]) ht hT hg (by with_unfolding_all rfl)
noncomputable def eV(xs:List V)(lo hi:Option Int):List V:=(xs.drop (HT.sIx xs.length 0 lo)).take (HT.sIx xs.length xs.length hi-HT.sIx xs.length 0 lo)
theorem oB(xs:List V)(lo hi:Option Int):(eV xs lo hi).length<=xs.length:=by
 unfold eV;rw[List.length_take,List.length_drop];lia
noncomputable def CV(K:aq):V->Option Int->Option Int->Hp->VK->Prop:=λx lo hi H Q=>∃a xs,x=.ref a/\SqT K H a xs /\
 ¬ (HT.sIx xs.length 0 lo=0/\HT.sIx xs.length xs.length hi=xs.length)/\∀p,H p=none->Q (.ref p) (upd H p (.tup (eV xs lo hi)))
theorem tX:SlR X (CV X.K):=by
 intro pins s σ H x v vl vu lo hi sl Q I rx hs pl pu h;obtain⟨a,xs,rfl,hx,hw,q⟩:=h;cases rx;obtain⟨its,r,ht,hz⟩:=I.tuple hx;have hlen:its.toArray.size=xs.length:=by rw[aO];exact r.length.symm
 refine⟨"tuple",_,PyProof.Rows.slot_tuple_getitem.lookup,ht.typeIs,?_⟩;refine HT.DU ht hs pl pu (by rw[hlen];exact hw) ?_ (by rw[hlen];exact hz);rw[hlen];refine⟨.ref s.heap.objs.size,_,I.laid (t':=s.toks) (o:=.tup (eV xs lo hi)) (λb ob q=>Heap.get?_push_of_some _ q) (aD _) ?_,rfl,q _ (I.hok.fresh (aD _))⟩;exact⟨bg (oB xs lo hi) hz,_,(r.drop (HT.sIx xs.length 0 lo)).take (HT.sIx xs.length xs.length hi-HT.sIx xs.length 0 lo),IsTup.new _ _⟩
noncomputable def A_(K:aq):R2:=λx y H Q=>∃a b ns ms,x=.ref a/\y=.ref b/\SqT K H a (ns.map V.int)/\SqT K H b (ms.map V.int)/\Q (.bl (HT.lexLt ns ms)) H
theorem x4(hu:X.A.units<cLine):OpR X (aR .Lt) (A_ X.K):=by
 intro pins s σ H x y v u Q I rx ry h;obtain⟨a,b,ns,ms,rfl,rfl,ha,hb,q⟩:=h;cases rx;cases ry;obtain⟨its,r1,p1,_⟩:=I.tuple ha;obtain⟨its2,r2,p2,_⟩:=I.tuple hb;have i1:a8 its.toArray.toList ns:=intsAre_of r1;have i2:a8 its2.toArray.toList ms:=intsAre_of r2;exact HT.uR p1 p2 i1 i2 hu ⟨.bl (HT.lexLt ns ms),H,I,rfl,q⟩
noncomputable def BH(K:aq):R2:=λx y H Q=>∃a b xs ys,x=.ref a/\y=.ref b/\SqT K H a xs/\SqT K H b ys/\xs≠[]/\xs.length+ys.length<=aF /\
 (ys=[]->Q (.ref a) H)/\(ys≠[]->∀p,H p=none->Q (.ref p) (upd H p (.tup (xs++ys))))
theorem Vals.nil_iff{xs:List V}{us:List ae}(r:Vals xs us):us=[]↔xs=[]:=by
 cases r with
 |nil=>simp
 |cons _ _=>simp
theorem AY:OpR X (binaryOp .Add) (BH X.K):=by
 intro pins s σ H x y v u Q I rx ry h;obtain⟨a,b,xs,ys,rfl,rfl,ha,hb,hx,hz,q1,q2⟩:=h;cases rx;cases ry;obtain⟨its,r1,p1,_⟩:=I.tuple ha;obtain⟨its2,r2,p2,_⟩:=I.tuple hb;refine HT.Cb p1 p2 (λz=>hx (r1.nil_iff.mp z)) (λz=>⟨.ref a,H,I,rfl,q1 (r2.nil_iff.mp z)⟩) (λz=>?_) (by rw[<-r1.length,<-r2.length];exact hz);refine⟨.ref s.heap.objs.size,_,I.laid (t':=s.toks) (o:=.tup (xs++ys)) (λb ob q=>Heap.get?_push_of_some _ q) (aD _) ?_,rfl,q2 (λw=>z (r2.nil_iff.mpr w)) _ (I.hok.fresh (aD _))⟩;exact⟨by rw[bL];exact hz,_,r1.append r2,IsTup.new _ _⟩
end
noncomputable def ixN(n:Nat)(i:Int):Option Nat:=if 0<=i then (if i<n then some i.toNat else none)else if -(n:Int)<=i then some (i+n).toNat else none
noncomputable def atI{α:Type}(xs:List α)(i:Int):Option α:=(ixN xs.length i).bind λj=>xs[j]?
theorem p8{n:Nat}{i:Int}{j:Nat}(h:ixN n i=some j):seqIndex? i n=some j/\j<n/\-(n:Int)<=i/\i<n:=by
 unfold ixN at h;by_cases h0:0<=i
 ·rw[if_pos h0]at h;by_cases h1:i<n
  ·rw[if_pos h1]at h;have e:i.toNat=j:=bA h;exact⟨by rw[seqIndex_of h0 h1,e],by lia,by lia,h1⟩
  ·rw[if_neg h1]at h;cases h
 ·rw[if_neg h0]at h;by_cases h1:-(n:Int)<=i
  ·rw[if_pos h1]at h;have e:(i+n).toNat=j:=bA h;exact⟨by rw[seqIndex_neg (by lia) h1,e],by lia,h1,by lia⟩
  ·rw[if_neg h1]at h;cases h
theorem nV{α:Type}{xs:List α}{i:Int}{v:α}(h:atI xs i=some v):∃j,seqIndex? i xs.length=some j/\xs[j]? = some v/\j<xs.length/\-(xs.length:Int)<=i/\i<xs.length:=by
 unfold atI at h;cases e:ixN xs.length i with
 |none=>rw[e]at h;cases h
 |some j=>
  rw[e]at h;obtain⟨h1,h2,h3,h4⟩:=p8 e;exact⟨j,h1,h,h2,h3,h4⟩
noncomputable def o4(b:Expr):Prop:=∀o i,subscripted b false o i=operate [o,i] (getItem o i)
noncomputable def IxR(X:Cx)(r:R2):Prop:=
 ∀(value slice:Expr) (pins:List (Addr×Obj)) (s:af) (σ:St) (H:Hp) (x y:V) (v u:ae) (Q:VK),Inv X pins σ H s->RelV x v->RelV y u->r x y H Q ->
  subscripted slice false v u=operate [v,u] (getItem v u)->ai (aj X.prog X.w) X.A (subscriptTail value slice v u) (EP X pins σ Q) X.xe s
noncomputable def MtR(X:Cx)(id:String)(r:V->List V->Hp->VK->Prop):Prop:=
 ∀(pins:List (Addr×Obj)) (s:af) (σ:St) (H:Hp) (x:V) (xs:List V) (v:ae) (us:List ae) (Q:VK),Inv X pins σ H s->RelV x v->Vals xs us->r x xs H Q ->
  ai (aj X.prog X.w) X.A (call (.builtin id) (v::us)) (EP X pins σ Q) X.xe s
section
variable{X:Cx}{a b:Expr}{ta tb:TE}{pos:Pos}
theorem IxR.or{r r':R2}(h:IxR X r)(h':IxR X r'):IxR X (λx y H Q=>r x y H Q\/r' x y H Q):=by
 intro value slice pins s σ H x y v u Q I rx ry q hs;rcases q with q|q
 ·exact h value slice pins s σ H x y v u Q I rx ry q hs
 ·exact h' value slice pins s σ H x y v u Q I rx ry q hs
theorem wG{r:R2}(hr:IxR X r)(ha:PE X a ta)(hb:PE X b tb)(hs:o4 b):PE X (.Subscript a b pos) (tOp r ta tb):=by
 intro pins s σ H Q I h;exact Subscript_ (j9 ha hb I h λv u s2 x y H2 I2 rx ry q=>hr a b pins s2 σ H2 x y v u Q I2 rx ry q (hs _ _))
noncomputable def oy(K:aq):R2:=λx y H Q=>∃p xs i v,x=.ref p/\y=.int i/\SqL K H p xs/\atI xs i=some v/\Q v H
noncomputable def rm(K:aq):R2:=λx y H Q=>∃p xs i v,x=.ref p/\y=.int i/\SqT K H p xs/\atI xs i=some v/\Q v H
theorem xh:IxR X (oy X.K):=by
 intro value slice pins s σ H x y v u Q I rx ry h hs;obtain⟨p,xs,i,z,rfl,rfl,hq,he,q⟩:=h;cases rx;obtain⟨t,rfl⟩:=ry;obtain⟨its,r,pl,hz⟩:=I.list hq;obtain⟨j,h1,h2,h3,h4,h5⟩:=nV he;obtain⟨w,ew,rw'⟩:=r.get h2;have hl:=r.length;have hn:=iE;have fin:EP X pins σ Q w s:=⟨z,H,I,rw',q⟩
 by_cases h0:0<=i
 ·have hj:i.toNat=j:=by
   rw[seqIndex_of h0 h5]at h1;exact bA h1
  exact item_listR pl.isList h0 (by lia) (by rw[hj];simpa using ew) fin hs
 ·have hj:(i+(its.toArray.size:Int)).toNat=j:=by
   rw[seqIndex_neg (by lia) h4]at h1;rw[aO,<-hl];exact bA h1
  exact subscriptTail_builtinR (x:=w) pl.isList.typeIs slot_list_getitem.lookup
   (wpAny_getItem_list_neg (Q:=λr s'=>r=w/\EP X pins σ Q r s') pl.isList (by lia) (by rw[aO]<;>lia) (by lia) (by rw[hj];simpa using ew) ⟨rfl,fin⟩) hs
theorem vw:IxR X (rm X.K):=by
 intro value slice pins s σ H x y v u Q I rx ry h hs;obtain⟨p,xs,i,z,rfl,rfl,hq,he,q⟩:=h;cases rx;obtain⟨t,rfl⟩:=ry;obtain⟨its,r,pl,hz⟩:=I.tuple hq;obtain⟨j,h1,h2,h3,h4,h5⟩:=nV he;obtain⟨w,ew,rw'⟩:=r.get h2;have hl:=r.length;have hn:=iE;have fin:EP X pins σ Q w s:=⟨z,H,I,rw',q⟩
 exact subscriptTail_builtinR (x:=w) pl.typeIs slot_tuple_getitem.lookup
  (getItem_tuple (j:=j) (Q:=λr s'=>r=w/\EP X pins σ Q r s') pl (by lia) (by lia) (by rw[aO,<-hl];exact h1) (by simpa using ew) ⟨rfl,fin⟩) hs
theorem xu(its:List ae)(n j:Nat)(u:ae):bD (·.setIfInBounds j u) {cls:=.type "list",data:=.seq its.toArray n}={cls:=.type "list",data:=.seq (its.set j u).toArray n}:=by
 simp[bD]
theorem Inv.lst{pins:List (Addr×Obj)}{σ:St}{H:Hp}{s:af}{p:Addr}{xs:List V}(I:Inv X pins σ H s)(h:H p=some (.lst xs)) :
  ∃(its:List ae) (n:Nat),Vals xs its/\s.heap.get? p=some {cls:=.type "list",data:=.seq its.toArray n}/\xs.length<=sizeLine:=by
 obtain⟨z,its,n,r,e⟩:=I.hok p _ h;exact⟨its,n,r,e,z⟩
theorem Inv.lstUpd{pins:List (Addr×Obj)}{σ:St}{H:Hp}{s:af}{p:Addr}{xs ys:List V}{its its':List ae}{n n':Nat}{f:Obj->Obj}(I:Inv X pins σ H s)(h:H p=some (.lst xs))
  (ho:s.heap.get? p=some {cls:=.type "list",data:=.seq its.toArray n}) (hf:f {cls:=.type "list",data:=.seq its.toArray n}={cls:=.type "list",data:=.seq its'.toArray n'}) (r:Vals ys its') (hz:ys.length<=aF) (t:Nat) :
  Inv X pins σ (upd H p (.lst ys)) {s with heap:=s.heap.update p f,toks:=t}:=by
 have e:(s.heap.update p f).get? p=some {cls:=.type "list",data:=.seq its'.toArray n'}:=by
  rw[Heap.get?_update_self f ho (by rw[hf]<;>rfl),hf]
 refine I.write (x:=p) (e:=p) (by rw[h];trivial) (.inl rfl) (λb u hb q=>(Heap.get?_update_other _ _ (Ne.symm hb)).trans q) ⟨_,e⟩ ?_;exact⟨hz,its',n',r,e⟩
noncomputable def oq:V->V->V->Hp->(Hp->Prop)->Prop:=λo i v H Q=>∃p xs k j,o=.ref p/\i=.int k/\H p=some (.lst xs)/\ixN xs.length k=some j/\Q (upd H p (.lst (xs.set j v)))
theorem set_list:fG X oq:=by
 intro pins s σ H o i v ov iv u Q I ro ri rv h;obtain⟨p,xs,k,j,rfl,rfl,hp,hj,q⟩:=h;cases ro;obtain⟨t,rfl⟩:=ri;obtain⟨its,n,r,ho,hz⟩:=I.lst hp;obtain⟨h1,h2,h3,h4⟩:=p8 hj;have hl:=r.length;have hn:=iE;have I':Inv X pins σ (upd H p (.lst (xs.set j v))) {s with heap:=s.heap.update p (bD (·.setIfInBounds j u))}:=
  I.lstUpd hp ho (xu its n j u) (r.set rv j) (by rw[List.length_set];exact hz) s.toks
 by_cases h0:0<=k
 ·have hk:k.toNat=j:=by
   rw[seqIndex_of h0 h4]at h1;exact bA h1
  exact PySem.W.ki_setAt ho h0 (by lia) (by rw[aO,<-hl];exact h4) (by rw[hk];exact⟨_,I',q⟩)
 ·have hk:(k+(its.toArray.size:Int)).toNat=j:=by
   rw[seqIndex_neg (by lia) h3]at h1;rw[aO,<-hl];exact bA h1
  exact PySem.W.ki_setBack ho (by lia) (by rw[aO,<-hl];exact h3) (by lia) (by rw[hk];exact⟨_,I',q⟩)
theorem yw(lo hi:Option Int)(n:Nat):(sliceBounds lo hi none n).1=((HT.sIx n 0 lo:Nat):Int)/\(sliceBounds lo hi none n).2.1=((HT.sIx n n hi:Nat):Int)/\(sliceBounds lo hi none n).2.2=1:=by
 refine⟨?_,?_,rfl⟩
 ·cases lo with
  |none=>simp[sliceBounds,HT.sIx]
  |some i=>
   simp only[sliceBounds,HT.sIx,Option.getD_none,show (1:Int)>0 by decide,if_true];by_cases h:i<0
   ·simp only[h,if_true]<;>lia
   ·simp only[h,if_false]<;>lia
 ·cases hi with
  |none=>simp[sliceBounds,HT.sIx]
  |some i=>
   simp only[sliceBounds,HT.sIx,Option.getD_none,show (1:Int)>0 by decide,if_true];by_cases h:i<0
   ·simp only[h,if_true]<;>lia
   ·simp only[h,if_false]<;>lia
theorem uX(its:List ae)(lo hi:Option Int):slicePick its.toArray lo hi none=((its.drop (HT.sIx its.length 0 lo)).take (HT.sIx its.length its.length hi-HT.sIx its.length 0 lo)).toArray:=by
 obtain⟨h1,h2,h3⟩:=yw lo hi its.toArray.size;unfold slicePick;rw[h1,h2,h3];simp only[sliceRange_one,pick_run,aO]<;>rfl
noncomputable def yX(K:aq):V->Option Int->Option Int->Hp->VK->Prop:=λx lo hi H Q=>∃a xs,x=.ref a/\SqL K H a xs/\∀p,H p=none->Q (.ref p) (upd H p (.lst (eV xs lo hi)))
theorem BB:SlR X (yX X.K):=by
 intro pins s σ H x v vl vu lo hi sl Q I rx hs pl pu h;obtain⟨a,xs,rfl,hx,q⟩:=h;cases rx;obtain⟨its,r,ht,hz⟩:=I.list hx;have hlen:=r.length;refine⟨"list",_,slot_list_getitem.lookup,ht.isList.typeIs,?_⟩;refine wpAny_getItem_list_slice ht.isList hs pl pu .none (by simp) ?_ (by rw[aO]<;>lia);rw[uX,<-hlen];refine⟨.ref s.heap.objs.size,_,I.laid (t':=s.toks) (o:=.lst (eV xs lo hi)) (λb ob q=>Heap.get?_push_of_some _ q) (aD _) ?_,rfl,q _ (I.hok.fresh (aD _))⟩;exact⟨bg (oB xs lo hi) hz,_,0,(r.drop (HT.sIx xs.length 0 lo)).take (HT.sIx xs.length xs.length hi-HT.sIx xs.length 0 lo),Heap.get?_push_size _ rfl⟩
theorem yM:zq X (.builtin "len") (λxs H Q=>∃p ys,xs=[.ref p]/\(SqL X.K H p ys\/SqT X.K H p ys)/\Q (.int ys.length) H):=by
 intro pins s σ H xs us Q I r h;obtain⟨p,ys,rfl,hq,q⟩:=h;obtain⟨u,rfl,rx⟩:=vals1 r;cases rx;have hn:=iE;rcases hq with hq|hq
 ·obtain⟨its,r',pl,hz⟩:=I.list hq;have hlen:=r'.length;exact Calls.call_len_list pl.isList (by simp only[aO]<;>lia) ⟨.int ys.length,H,I.tok _,⟨s.toks+1,by rw[aO,hlen]⟩,q⟩
 ·obtain⟨its,r',pl,hz⟩:=I.tuple hq;have hlen:=r'.length;exact len_tuple pl (by simp only[aO]<;>lia) ⟨.int ys.length,H,I.tok _,⟨s.toks+1,by rw[aO,hlen]⟩,q⟩
theorem zq.or{f:ae}{r r':List V->Hp->VK->Prop}(h:zq X f r)(h':zq X f r'):zq X f (λxs H Q=>r xs H Q\/r' xs H Q):=by
 intro pins s σ H xs us Q I rs q;rcases q with q|q
 ·exact h pins s σ H xs us Q I rs q
 ·exact h' pins s σ H xs us Q I rs q
theorem p5:zq X (.type "list") (λxs H Q=>∃p ys,xs=[.ref p]/\(SqL X.K H p ys\/SqT X.K H p ys)/\∀l,H l=none->Q (.ref l) (upd H l (.lst ys))):=by
 intro pins s σ H xs us Q I r h;obtain⟨p,ys,rfl,hq,q⟩:=h;obtain⟨u,rfl,rx⟩:=vals1 r;cases rx;have fin:∀(its:List ae),Vals ys its->ys.length<=aF->∀(h':Heap) (c':Nat),(∀b o',s.heap.get? b=some o'->h'.get? b=some o') ->
   h'.get? s.heap.objs.size=some {cls:=.type "list",dict:=none,data:=.seq its.toArray c',slots:=#[]}->EP X pins σ Q (.ref s.heap.objs.size) {s with heap:=h'}:=λits r' hz h' c' kp e=>
  ⟨.ref s.heap.objs.size,_,I.laid (t':=s.toks) kp (aD _) (show zC X.prog X.w _ h' _ (.lst ys)from ⟨hz,its,c',r',e⟩),rfl,q _ (I.hok.fresh (aD _))⟩
 rcases hq with hq|hq
 ·obtain⟨its,r',pl,hz⟩:=I.list hq;have hlen:=r'.length;obtain⟨o,ho,hc,n,hd⟩:=pl.isList;exact call_list_seq p (.inl rfl) ho hc hd (λh' c' kp e=>fin its r' hz h' c' kp e) (by simp only[aO]<;>lia)
 ·obtain⟨its,r',pl,hz⟩:=I.tuple hq;have hlen:=r'.length;obtain⟨o,ho,hc,n,hd⟩:=pl;exact call_list_seq p (.inr rfl) ho hc hd (λh' c' kp e=>fin its r' hz h' c' kp e) (by simp only[aO]<;>lia)
theorem uO:zq X (.type "tuple") (λxs H Q=>∃p ys,xs=[.ref p]/\((SqL X.K H p ys/\∀l,H l=none->Q (.ref l) (upd H l (.tup ys)))\/(SqT X.K H p ys/\Q (.ref p) H))):=by
 intro pins s σ H xs us Q I r h;obtain⟨p,ys,rfl,h⟩:=h;obtain⟨u,rfl,rx⟩:=vals1 r;cases rx;rcases h with ⟨hq,q⟩|⟨hq,q⟩
 ·obtain⟨its,r',pl,hz⟩:=I.list hq;have hlen:=r'.length;refine call_tuple_list pl.isList (λh' kp=>?_) (by simp only[aO]<;>lia);have I1:Inv X pins σ H {s with heap:=h'}:=I.kept (t':=s.toks) kp;have I2:Inv X pins σ (upd H h'.objs.size (.tup ys)) {s with heap:=h'.push {cls:=.type "tuple",data:=.seq its.toArray}}:=
   I1.laid (t':=s.toks) (λb o e=>Heap.get?_push_of_some _ e) (aD _) (show zC X.prog X.w _ _ _ (.tup ys)from ⟨hz,its,r',IsTup.new _ _⟩)
  exact⟨.ref h'.objs.size,_,I2,rfl,q _ (I1.hok.fresh (aD _))⟩
 ·obtain⟨its,r',pl,hz⟩:=I.tuple hq;exact call_tuple_same pl ⟨.ref p,H,I,rfl,q⟩
noncomputable def tyV(K:aq)(T:String)(x:V)(H:Hp):Prop:=match x with
 | .str _=>T = "str"
 | .int _=>T = "int"
 | .ref p=>(T = "list"/\∃xs,SqL K H p xs)\/(T = "tuple"/\∃o,K.lookup p=some o/\o.cls=.type "tuple"/\o.dict=none) \/
   (T = "dict"/\((∃kvs,H p=some (.dK kvs))\/∃kvs,H p=some (.dT kvs)))\/(T = "set"/\∃S n,H p=some (.set S n))
 |_=>False
theorem x8{pins:List (Addr×Obj)}{σ:St}{H:Hp}{s:af}{T:String}{x:V}{v:ae}(I:Inv X pins σ H s)(r:RelV x v)(ty:tyV X.K T x H) :
  s.TypeIs v T/\∀a,v=.ref a->∃ob,s.heap.get? a=some ob/\ob.dict=none:=by
 cases x with
 |str z=>
  obtain⟨t,rfl⟩:=r;cases (show T = "str" from ty);exact⟨typeIs_str s z t,λ_ e=>nomatch e⟩
 |int i=>
  obtain⟨t,rfl⟩:=r;cases (show T = "int" from ty);exact⟨typeIs_int s i t,λ_ e=>nomatch e⟩
 |ref p=>
  cases r;rcases ty with ⟨rfl,xs,hq⟩|⟨rfl,o,hk,hc,hd⟩|⟨rfl,hk⟩|⟨rfl,S,n,hk⟩
  ·obtain⟨its,_,pl,_⟩:=I.list hq;refine⟨pl.isList.typeIs,λa e=>?_⟩;cases e;obtain⟨o,n,e,c,hd,_⟩:=pl;exact⟨o,e,hd⟩
  ·refine⟨⟨o,I.kIn p o hk,hc⟩,λa e=>?_⟩;cases e;exact⟨o,I.kIn _ o hk,hd⟩
  ·have z:∃o,s.heap.get? p=some o/\o.ExactDict:=by
    rcases hk with ⟨kvs,hk⟩|⟨kvs,hk⟩
    ·obtain⟨_,_,_,_,o,_,_,e,ex,_⟩:=I.hok p _ hk;exact⟨o,e,ex⟩
    ·obtain⟨_,_,_,_,o,_,_,e,ex,_⟩:=I.hok p _ hk;exact⟨o,e,ex⟩
   obtain⟨o,e,ex⟩:=z;refine⟨⟨o,e,ex.1⟩,λa e2=>?_⟩;cases e2;exact⟨o,e,ex.2.1⟩
  ·obtain⟨o,_,_,_,e,ex,_⟩:=I.hok p _ hk;refine⟨⟨o,e,ex.1⟩,λa e2=>?_⟩;cases e2;exact⟨o,e,ex.2.1⟩
 |_=>exact aQ ty
noncomputable def tBM(K:aq)(T:String)(r:V->List V->Hp->VK->Prop)(to:TE)(t:TA):TE:=λσ H Q=>to σ H λx H1=>tyV K T x H1/\t σ H1 λxs H2=>r x xs H2 Q
variable{o e:Expr}{es:List Expr}{to:TE}{t:TA}{name:Str}{apos cpos:Pos}{T id:String}{r:V->List V->Hp->VK->Prop}
theorem gb(pa:PlainAttrs T)(slot:Slot T name id)(hty:typeOf (.builtin id)=pure (.type "method_descriptor"))(hm:MtR X id r)(ho:PE X o to)(ha:PA X (e::es) t)
  (hbase:attributeBase o name X.env (eval o X.env)=eval o X.env:=by rfl)
  (hfew:((backTo cpos (aL (e::es) X.env)).all (λx=>!x.1)&&(backToKw cpos (keywordEach [] X.env)).all (λx=>x.1.isSome)
   && decide ((e::es).length+([]:List Keyword).length+(if ([]:List Keyword).isEmpty then 0 else 1)<30))=true:=by rfl)
  (hline:(apos.endLine==cpos.line)=true:=by rfl) (hs:aL (e::es) X.env=(false,eval e X.env)::aL es X.env:=by rfl) (hplain:(backTo cpos (aL es X.env)).any (·.1)=false:=by rfl) :
  PE X (.Call (.Attribute o name apos) (e::es) [] cpos) (tBM X.K T r to t):=by
 intro pins s σ H Q I h;refine wpAny_Call_method_late hbase hfew hline rfl (thn (ho pins s σ H _ I h) λv s1 ⟨x,H1,I1,r1,ty,q1⟩=>?_);obtain⟨h1,h2⟩:=x8 I1 r1 ty;refine⟨T,id,pa,slot,hty,h1,h2,?_⟩;have hA:=ha cpos pins s1 σ H1 _ I1 q1;rw[hs]at hA ⊢;refine Calls.callWith_builtin (by show (false||(backTo cpos (aL es X.env)).any (·.1))=false;rw[hplain]<;>rfl) (Calls.evalArgs_plain ?_);exact thn hA λus s2 ⟨vs,H2,I2,r2,q2⟩=>hm pins s2 σ H2 x vs v us Q I2 r1 r2 q2
/- xs.append(e), list.index on a module's tuple .. are MtR facts of 06m -/
end
noncomputable def MtM(X:Cx)(id:String)(r:V->List V->Hp->VK->Prop):Prop:=
 ∀(pins:List (Addr×Obj)) (s:af) (σ:St) (H:Hp) (x:V) (xs:List V) (v:ae) (us:List ae) (Q:VK),Inv X pins σ H s->RelV x v->Vals xs us->r x xs H Q ->
  ai (aj X.prog X.w) X.A (call (.builtin id) (v::us)) (EP X pins σ Q) X.xe s
theorem Vals.one{x:V}{us:List ae}(h:Vals [x] us):∃u,us=[u]/\RelV x u:=by
 cases h with
 |cons r h=>cases h;exact⟨_,rfl,r⟩
theorem Vals.two{x y:V}{us:List ae}(h:Vals [x,y] us):∃u v,us=[u,v]/\RelV x u/\RelV y v:=by
 cases h with
 |cons r h=>cases h with
  |cons q h=>cases h;exact⟨_,_,rfl,r,q⟩
theorem Vals.zero:∀{us:List ae},Vals [] us->us=[]
 |_,.nil=>rfl
theorem Vals.eraseIdx:∀{xs:List V}{us:List ae} (i:Nat),Vals xs us->Vals (xs.eraseIdx i) (us.eraseIdx i)
 |_,_,_,.nil=>.nil
 |_,_,0,.cons _ t=>t
 |_,_,i+1,.cons r t=>.cons r (Vals.eraseIdx i t)
theorem rD{α:Type}:∀(l:List α) (i:Nat),(l.eraseIdx i).length<=l.length
 | [],_=>aD _
 |_::_,0=>Nat.le_succ _
 |_::r,i+1=>Nat.succ_le_succ (rD r i)
section
variable{X:Cx}{pins:List (Addr×Obj)}{σ:St}{H:Hp}{s:af}{l b:Addr}{xs ys zs:List V}
theorem Inv.lset{its its':List ae}{n:Nat}{f:Array ae->Array ae}{t':Nat}(I:Inv X pins σ H s)(hH:H l=some (.lst xs))
  (e:s.heap.get? l=some {cls:=.type "list",data:=.seq its.toArray n}) (hf:f its.toArray=its'.toArray) (hv:Vals ys its') (hz:ys.length<=aF) :
  Inv X pins σ (upd H l (.lst ys)) {s with heap:=s.heap.update l (bD f),toks:=t'}:=by
 have q:=PySem.IsL.update e f;rw[hf]at q;refine I.write (x:=l) (e:=l) (by rw[hH];exact trivial) (.inl rfl) (λb' u hb hu=>(Heap.get?_update_other s.heap (bD f) (Ne.symm hb)).trans hu) ⟨_,q⟩ ?_;exact⟨hz,its',_,hv,q⟩
theorem Inv.lnew{its:List ae}{t':Nat}(I:Inv X pins σ H s)(hv:Vals ys its)(hz:ys.length<=aF) :
  Inv X pins σ (upd H s.heap.objs.size (.lst ys)) {s with heap:=s.heap.push {cls:=.type "list",data:=.seq its.toArray},toks:=t'}:=
 I.laid (λ_ _ q=>Heap.get?_push_of_some _ q) (aD _) ⟨hz,its,0,hv,Heap.get?_push_size _ rfl⟩
theorem Inv.fresh(I:Inv X pins σ H s):H s.heap.objs.size=none:=I.hok.fresh (aD _)
theorem Inv.lstM(I:Inv X pins σ H s)(hH:H l=some (.lst xs)):xs.length<=aF/\∃(its:List ae) (n:Nat),Vals xs its/\xs.length=its.length/\s.heap.get? l=some {cls:=.type "list",data:=.seq its.toArray n}:=by
 obtain⟨z,its,n,r,e⟩:=I.hok l _ hH;exact⟨z,its,n,r,r.length,e⟩
end
section
variable{X:Cx}
noncomputable def yH:V->List V->Hp->VK->Prop:=λx vs H Q=>∃l xs y,x=.ref l/\vs=[y]/\H l=some (.lst xs)/\xs.length<aF/\Q .non (upd H l (.lst (xs++[y])))
theorem nv:MtM X "list.append" yH:=by
 intro pins s σ H x vs v us Q I rx rv h;obtain⟨l,xs,y,rfl,rfl,hH,hz,q⟩:=h;cases rx;obtain⟨u,rfl,ru⟩:=rv.one;obtain⟨z,its,n,r,hl,e⟩:=I.lstM hH;refine call_meets F.slot_list_append ⟨_,e,rfl⟩ F.entry_list_append (F.args_list_append_2 _ _) (PySem.list_append l its.toArray n u (by rw[aO];lia)) ⟨e,?_⟩;refine⟨.non,_,I.lset (its':=its++[u]) hH e (by simp) (r.append (.cons ru .nil)) ?_,rfl,q⟩;rw[bL,List.length_singleton];lia
noncomputable def A0:V->List V->Hp->VK->Prop:=λx vs H Q=>∃l xs i k y,x=.ref l/\vs=[.int i]/\H l=some (.lst xs)/\-(2^63)<=i/\i<2^63/\seqIndex? i xs.length=some k/\xs[k]? = some y/\Q y (upd H l (.lst (xs.eraseIdx k)))
theorem DD:MtM X "list.pop" A0:=by
 intro pins s σ H x vs v us Q I rx rv h;obtain⟨l,xs,i,k,y,rfl,rfl,hH,h1,h2,hk,hy,q⟩:=h;cases rx;obtain⟨u,rfl,ru⟩:=rv.one;obtain⟨t,rfl⟩:=ru;obtain⟨z,its,n,r,hl,e⟩:=I.lstM hH;obtain⟨w,hw,rw'⟩:=r.get hy;refine call_meets F.slot_list_pop ⟨_,e,rfl⟩ F.entry_list_pop (F.args_list_pop_2 _ _)
  (MeetsSeq.list_pop_at l its.toArray n i t k w (fitsIndex_both h1 h2) (by rw[aO,<-hl];exact hk) (by rw[<-Array.getElem?_toList];exact hw) (by rw[aO];lia)) ⟨e,?_⟩
 refine⟨y,_,I.lset (its':=its.eraseIdx k) hH e ?_ (r.eraseIdx k) ?_,rw',q⟩
 ·show its.toArray.eraseIdxIfInBounds k=(its.eraseIdx k).toArray;rw[List.eraseIdxIfInBounds_toArray]
 ·have:=rD xs k;lia
end
section
variable{prog:av}{w:au}{A:aw}{E:ae->af->Prop}{s:af}
set_option maxRecDepth 100000 in
end
section
variable{X:Cx}
end
end L2
namespace Att
open PySem PySem.W PySem.Calls PyProof.Rows
theorem tN{P:Params}{h:Heap}:∀(ns:List Int) (vs:List ae),WellAll P h vs (ns.map WData.int)->a8 vs ns:=by
 intro ns
 induction ns with
 |nil=>
  intro vs w;rw[List.map_nil]at w;cases w;exact .nil
 |cons n ns ih=>
  intro vs w;rw[aS]at w;cases w with
  |cons a b=>
   cases a;exact .cons _ _ (ih _ b)
theorem Bl{l:OpenLaw}{n:Nat}(hn:l.most=some n){P:Params}{h:Heap}{args:List WData}{vals:List ae}
  (hpre:l.row.toRowW.claim.pre args=true) (hwl:WellAll P h vals args) :
  ∃a vs ns,vals=[aU a]/\args=[WData.list (ns.map WData.int)]/\h.get? a=some {cls:=.type "list",data:=.seq vs.toArray}/\a8 vs ns/\ns.length<=n:=by
 have hsh:WShape.hasAll [] args [.list .int]=true:=(pre_splitW hpre).1;have hc:l.pre.holds [] {args:=args}=true:=(pre_splitW hpre).2;obtain⟨d,r,rfl,h1,h2⟩:=hasAllW_cons hsh;obtain rfl:=hasAllW_nil h2;obtain⟨xs,rfl,h3⟩:=hasW_list h1;obtain⟨ns,rfl⟩:=items_int h3;have hlen:ns.length<=n:=by
  unfold OpenLaw.pre at hc;have h4:(WTm.not (.lt (.lit (.int (n:Int))) (.len (.arg 0)))).holds [] {args:=[.list (ns.map .int)]}=true:=by
   have h4:=(holds_andW hc).1;rw[hn]at h4;exact h4
  have h5:=condW_of h4 (w_not (w_lt w_lit (w_len_list (w_arg rfl))));rw[aI]at h5;refine Nat.le_of_not_lt λq=>?_
  have q':(n:Int)<((ns.length:Nat):Int):=by lia
  first
   | (rw[decide_eq_true q']at h5;exact absurd h5 (by decide))
   | (simp at h5;lia)
 cases hwl with
 |cons w1 w2=>
  cases w2;cases w1 with
  |list ho hall=>exact⟨_,_,ns,rfl,rfl,ho,tN ns _ hall,hlen⟩
theorem uL(l:OpenLaw)(args:List WData):l.row.toRowW.claim.post args (.bool true) args=true:=
 postW_of (r:=l.row.toRowW) (X:=(true==true))
  (show WShape.has [] (.bool true) .bool=true by first|rfl|decide|simp[WShape.has,WShape.arms,WShape.armsAll])
  (show (WTm.eq .res (.lit (.bool true))).value [] {args:=args,res:=some (.bool true),after:=args}=some (.bool (true==true))from w_eq_bool (w_res rfl) w_lit) rfl
theorem vx{l:OpenLaw}{n:Nat}{q:av}{loose:List Str}{XP:(Str->Option ae)->Heap->Prop}{YP:au->Heap->Prop}{d:DefRec}
  (hn:l.most=some n) (hdf:d.params.defaults=[])
  (call:∀(w:au) (s₀ s₁:af) (mg mb:Str->Option ae) (fa:Addr) (o:Obj) (pm cd doc:ae) (a:Addr) (vs:List ae) (ns:List Int),
   Ground q loose [] XP w s₀ mg mb s₁.heap->YP w s₁.heap ->
   s₁.heap.get? fa=some o->o.data=.func (docDef d.name d.params d.body d.scope pm cd doc)->s₁.heap.CodeRec cd d.name->mg d.name=some (.ref fa) ->
   s₁.heap.get? a=some {cls:=.type "list",data:=.seq vs.toArray}->a8 vs ns->ns.length<=n->s₁.gens = #[] ->
   codeAny (aj l.prog w) callerA (.call (.ref fa) ⟨[.ref a],[]⟩) (λr s'=>r=.ok (.ret (.bool true))/\OldK s₁.heap s'.heap/\s'.os=s₁.os/\AllBare s'.gens) s₁) :
  WalkO q loose XP YP l.row.toRowW d [] (λf vs=>PySem.call f vs):=by
 intro w s₀ s₁ mg mb G Y fa o pm cd doc dV kV ho hd hcd hD hmg hg args vals as hpre hlay hrd hwl hlo;obtain rfl:dV=.none:=Dflts.none hD hdf;obtain rfl:kV=.none:=Dflts.noKw hD;obtain⟨a,vs,ns,rfl,rfl,hobj,hints,hlen⟩:=Bl hn hpre hwl;refine enter_call (codeAny_mono (call w s₀ s₁ mg mb fa o pm cd doc a vs ns G Y ho (fd_plain hd) hcd hmg hobj hints hlen hg) λr s' hq=>?_);obtain⟨rfl,h2,h3,h4⟩:=hq;exact⟨.inl ⟨.bool true,.bool true,[],rfl,λ_=>rfl,.bool true,uL l _,λ_=>⟨List.Pairwise.nil,λ_ hm=>(nomatch hm)⟩⟩,h2,h3,h4⟩
section
variable{prog:av}{w:au}{A:aw}{E:ae->af->Prop}{s:af}{K:Frag}
end
end Att
namespace L2
open PySem PySem.Spec PyProof.Rows
theorem lX:∀{vs:List ae}{ns:List Int},a8 vs ns->Vals (ns.map V.int) vs
 |_,_,.nil=>.nil
 |_,_,.cons n t h=>.cons ⟨t,rfl⟩ (lX h)
noncomputable def jV(H:Hp):Prop:=∀b,H b=none\/∃o xs,H b=some (.frz o (.lst xs))
theorem uy{P:av}{w:au}{K:aq}{mg mb:Str->Option ae}{CX:CXT}{k:Nat}{fa a:Addr}{fd:bz}{x:Str}{sp:Sp}{s₁:af}{vs:List ae}{ns:List Int}
  (KX:K.In s₁.heap) (hns:s₁.heap.Ns ak mg) (hb:s₁.heap.Ns builtinsNs mb) (hbb:∀x:Str,x≠"__name__"->mb x=bB x) (hlim:s₁.heap.NoLimit) (hg:s₁.gens = #[])
  (ha:s₁.heap.get? a=some {cls:=.type "list",data:=.seq vs.toArray}) (hi:a8 vs ns) (hl:ns.length<=aF) (hr:cb k callerA)
  (F:∀base:Heap,K.In base->base.Ns ak mg->eU P w K mg base CX k fa fd [x] sp) (hbind:∀(s:af) (u:ae),BindsTo s fd ⟨[u],[]⟩ [(x,u)])
  (hsp:∀H:Hp,jV H->SqL K H a (ns.map V.int)->sp [.ref a] H (λv _=>v=.bl true) λ_ _ _=>False)
  (hCX:∀H e s',CX [] H s₁ (λ_ _ _=>False) e s'->False) :
  codeAny (aj P w) callerA (.call (.ref fa) ⟨[.ref a],[]⟩) (λr s'=>r=.ok (.ret (.bool true))/\OldK s₁.heap s'.heap/\s'.os=s₁.os/\AllBare s'.gens) s₁:=by
 have rv:=lX hi;have lenV:=hi.length
 -- from an abstract heap in which nothing but the script may be tracked
 have core:∀H:Hp,jV H->SqL K H a (ns.map V.int)->HOk P w H s₁.heap->(∀b,H b≠none->b=a)->(H a≠none->K.lookup a=none) ->
   codeAny (aj P w) callerA (.call (.ref fa) ⟨[.ref a],[]⟩) (λr s'=>r=.ok (.ret (.bool true))/\OldK s₁.heap s'.heap/\s'.os=s₁.os/\AllBare s'.gens) s₁:=by
  intro H hO hS hok hA hK;have base_of:∀{b:Addr}{o:Obj},s₁.heap.get? b=some o->H b=none->(eN s₁.heap H).get? b=some o:=λe n=>v9 e n
  have noA:∀{b:Addr}{o:Obj}{es:Array DictEntry}{ep:Nat},s₁.heap.get? b=some o->o.data=.dict es ep->H b=none:=λ{b o es ep} e d=>by
   cases q:H b with
   |none=>rfl
   |some u=>
    have e':b=a:=hA b (by rw[q];simp);subst e';rw[ha]at e;cases e;have d':Data.seq vs.toArray _=Data.dict es ep:=d;cases d'
  have nsK:∀{b:Addr}{m:Str->Option ae},s₁.heap.Ns b m->(eN s₁.heap H).Ns b m:=λ{b m} ⟨o,es,ep,e,d,r⟩=>⟨o,es,ep,base_of e (noA e d),d,r⟩
  have hKb:K.In (eN s₁.heap H):=λb o e=>base_of (KX b o e) (by
   cases q:H b with
   |none=>rfl
   |some u=>
    have e':b=a:=hA b (by rw[q];simp);subst e';rw[hK (by rw[q];simp)]at e;cases e)
  have hM:Mod K mg (eN s₁.heap H):=⟨hKb,nsK hns,⟨mb,nsK hb,hbb⟩,let ⟨mc,h1,h2⟩:=hlim;⟨mc,nsK h1,h2⟩⟩
  have e0:fz P w K mg (eN s₁.heap H) callerA [] s₁ H:=⟨rfl,hM,λb o e=>Ab e,Nat.le_of_eq (Bi _ _),trivial,λb hb=>absurd (show b∈([]:List Addr)from hb) (by simp),hok,.of_eq hg⟩
  refine codeAny_mono ((F _ hKb (nsK hns)).run callerA [] s₁ H ⟨[.ref a],[]⟩ [.ref a] [.ref a] _ _ hr e0 (hbind s₁ (.ref a)) (.cons rfl .nil) (hsp H hO hS)) λr s' h=>?_
  cases r with
  |error e=>exact(hCX H e s' h).elim
  |ok fl=>
   cases fl with
   |next=>exact aQ h
   |brk=>exact aQ h
   |cont=>exact aQ h
   |ret u=>
    obtain⟨v,H',os,bare,un,hok',r',q⟩:=h;have q':v=.bl true:=q;subst q';obtain rfl:u=bt true:=r';refine⟨rfl,OldK.of_keep λb o e=>?_,os,bare⟩;cases q:H b with
    |none=>exact un.keep b o e q (by intro z;exact absurd (show b∈([]:List Addr)from z) (by simp)) (by simp)
    |some u=>
     rcases hO b with z|⟨ob,xs,z⟩
     ·rw[q]at z;cases z
     ·have z2:=un.frzs b ob _ z;obtain⟨e1,_⟩:=hok b _ z;obtain⟨e2,_⟩:=hok' b _ z2;rw[e]at e1;cases e1;exact e2
 cases hk:K.lookup a with
 |some o=>
  -- the script is one of the module's own objects
  have e:=KX a o hk;rw[ha]at e;cases e;refine core (λ_=>none) (λ_=>.inl rfl) (.inr ⟨_,vs.toArray,_,hk,rfl,rfl,rfl,by rw[aO,lenV];exact hl,by simpa using rv⟩) (λb u z=>by have z':(none:Option HO)=some u:=z;cases z') (λb z=>absurd rfl z) λz=>absurd rfl z
 |none=>
  refine core (λb=>if b=a then some (.frz {cls:=.type "list",data:=.seq vs.toArray} (.lst (ns.map V.int)))else none) (λb=>?_) (.inl (.inr ⟨{cls:=.type "list",data:=.seq vs.toArray},if_pos rfl⟩)) (λb u z=>?_) (λb z=>?_) λ_=>hk
  ·by_cases hb:b=a
   ·exact .inr ⟨_,_,if_pos hb⟩
   ·exact .inl (if_neg hb)
  ·by_cases hb:b=a
   ·have z':=(if_pos hb).symm.trans z;cases z';subst hb;exact⟨ha,by rw[aI];exact hl,vs,_,rv,ha⟩
   ·have z':=(if_neg hb).symm.trans z;cases z'
  ·by_cases hb:b=a
   ·exact hb
   ·exact absurd (if_neg hb) z
theorem A6{l:PySem.W.OpenLaw}{n k:Nat}{q:av}{loose:List Str}{XP:(Str->Option ae)->Heap->Prop}{YP:au->Heap->Prop}{d:DefRec}{K:Params->aq}{CX:au->CXT}{sp:au->Sp}{x:Str}
  (hn:l.most=some n) (hn2:n<=aF) (hdf:d.params.defaults=[]) (hr:cb k callerA)
  (hY:∀(w:au) (h:Heap),YP w h->(K w.params).In h)
  (F:∀(w:au) (mg:Str->Option ae) (fa:Addr) (h:Heap),(K w.params).In h->h.Ns ak mg->mg d.name=some (.ref fa) ->
   ∃fd:bz,(∀(s:af) (u:ae),BindsTo s fd ⟨[u],[]⟩ [(x,u)]) /\
    ∀base:Heap,(K w.params).In base->base.Ns ak mg->eU l.prog w (K w.params) mg base (CX w) k fa fd [x] (sp w))
  (hsp:∀(w:au) (H:Hp) (a:Addr) (ns:List Int),ns.length<=n->jV H->SqL (K w.params) H a (ns.map V.int)->sp w [.ref a] H (λv _=>v=.bl true) λ_ _ _=>False)
  (hCX:∀(w:au) (H:Hp) (s:af) (e:ae) (s':af),CX w [] H s (λ_ _ _=>False) e s'->False) :
  PySem.W.WalkO q loose XP YP l.row.toRowW d [] (λf vs=>PySem.call f vs):=by
 refine Att.vx hn hdf λw s₀ s₁ mg mb fa o pm cd doc a vs ns G Y ho hd hcd hmg hobj hints hlen hg=>?_
 have KX:=hY w _ Y;obtain⟨fd,hb,hF⟩:=F w mg fa _ KX G.T.g hmg;exact uy KX G.T.g G.T.b G.T.builtins G.T.nolimit hg hobj hints (bg hlen hn2) hr hF hb (λH hO hS=>hsp w H a ns hlen hO hS) λH e s'=>hCX w H s₁ e s'
end L2
/- THE LAST THEOREM (shape; LID, My.* are yours):
   My.Adr: a structure of the addresses that your layer names (classes, functions); My.Txt K t: a structure (Prop) of the equations over K;
   My.txt_mk : {K} {implicit addresses ..} (e1 : nsIn K mainGlobals "law" = some (some (.ref f))) (e2 : K.lookup f = some ⟨oc, od, .func (fnOf "law" "law" params body scope dV kV doc pm an cdv ct), sl⟩) (e3 : codeIn K cdv "law" = true) .. : ∃ t, My.Txt K t
set_option maxRecDepth 100000 in
set_option maxHeartbeats 0 in
theorem PySem.Challenge.cw_LID_holds : PySem.Challenge.rw_LID.Holds := by
 w_on; o_law; k_head; (case hw => w_witness2)
 k_fill
 refine L2.walk_of (l := PySem.Challenge.rw_LID) (n := 63) (k := 40) (x := "script") (CX := fun w => ..) (sp := fun _ => My.sp_law) rfl (by decide) rfl ⟨rfl, by decide, by decide⟩ (fun w h Y => PySem.W.kIn_of Y) ?F ?S ?C
 case F =>
  intro w mg fa h KX G hmg;have T : ∃ t, My.Txt (L2.KOf KX) t := by
   dsimp only [L2.KOf]                          -- K must stand as «<heap const> w.params» for k_is
   refine' My.txt_mk ?e1 ?e2 ?e3 ..
   (case e1 => PySem.W.k_is)                    -- in the order: a name -> its address -> its object -> its parts
   (case e2 => PySem.W.k_is)
   ..
  obtain ⟨t, T⟩ := T;have e0 := hmg.symm.trans (PySem.W.mg_of KX G T.law);cases e0                                       -- fa is the law's own address
  exact ⟨_, fun s u => .of_eq rfl, fun base kb nb => My.law_fn T kb nb⟩     -- if «.of_eq rfl» comes too early: refine' ⟨_, ?b, fun base kb nb => My.law_fn T kb nb⟩; exact fun s u => .of_eq rfl
 case S => exact fun w H a ns hl hO hS => ..
 case C => exact ..
(the tactic k_is has no namespace: write k_is) -/
namespace L2
open PySem PySem.Spec PyProof.Rows
noncomputable def qY(s:Stmt):Arguments:=match s with
 | .FunctionDef _ a _ _ _ _ _ _ _ _=>a
 |_=>{posonlyargs:=[],args:=[],vararg:=none,kwonlyargs:=[],kw_defaults:=[],kwarg:=none,defaults:=[]}
noncomputable def dh(s:Stmt):List Stmt:=match s with
 | .FunctionDef _ _ b _ _ _ _ _ _ _=>b
 |_=>[]
noncomputable def qW(s:Stmt):Scope:=match s with
 | .FunctionDef _ _ _ _ _ _ sc _ _ _=>sc
 |_=>{kind:=.function,names:=[],isGenerator:=false,isCoroutine:=false}
abbrev E0:XK:=λ_ _ _=>False
structure Fun(K:aq)(x qual:Str)(st:Stmt)(f:Addr)(fd:bz):Prop where
 ex:∃(oc:ae) (od:Option Addr) (kV doc pm:ae) (an:Option Addr) (cdv ct:ae) (osl:Array (Option ae)),
  fd=bS x qual (qY st) (dh st) (qW st) .none kV doc pm an cdv ct/\K.lookup f=some ⟨oc,od,.func fd,osl⟩/\PySem.W.codeIn K cdv qual=true
 kp:cA K (.ref f)=true
section
variable{P:av}{w:au}{K:aq}{mg:Str->Option ae}{base:Heap}
theorem Fun.binds{x qual:Str}{st:Stmt}{f:Addr}{fd:bz}{ps:List Str}(F:Fun K x qual st f fd)
  (h:∀(kV doc pm:ae) (an:Option Addr) (cdv ct:ae) (us:List ae),us.length=ps.length->bindArgs (bS x qual (qY st) (dh st) (qW st) .none kV doc pm an cdv ct) ⟨us,[]⟩=pure (ps.zip us)):Binds K fd ps []:=by
 obtain⟨oc,od,kV,doc,pm,an,cdv,ct,osl,rfl,lk,hcd⟩:=F.ex;exact .all (h kV doc pm an cdv ct)
theorem nN{x qual:Str}{st:Stmt}{f:Addr}{oc:ae}{od an:Option Addr}{osl:Array (Option ae)}{kV doc pm cdv ct:ae}(l:K.lookup f=some ⟨oc,od,.func (bS x qual (qY st) (dh st) (qW st) .none kV doc pm an cdv ct),osl⟩)
  (c:PySem.W.codeIn K cdv qual=true) (k:cA K (.ref f)=true):Fun K x qual st f (bS x qual (qY st) (dh st) (qW st) .none kV doc pm an cdv ct):=⟨⟨oc,od,kV,doc,pm,an,cdv,ct,osl,rfl,l,c⟩,k⟩
end
section
variable{X:Cx}
end
noncomputable def qf(H H':Hp):Prop:=∀b o,H b=some o->H' b=some o
theorem qf.refl(H:Hp):qf H H:=λ_ _ h=>h
theorem qf.trans{H H1 H2:Hp}(a:qf H H1)(b:qf H1 H2):qf H H2:=λc o h=>b c o (a c o h)
theorem qf.free{H H':Hp}(e:qf H H'){l:Addr}(h:H' l=Option.none):H l=Option.none:=by
 cases q:H l with
 |none=>rfl
 |some o=>
  rw[e l o q]at h;cases h
theorem qf.seq{K:aq}{H H':Hp}{a:Addr}{xs:List V}(e:qf H H')(h:SqL K H a xs):SqL K H' a xs:=by
 rcases h with (h|⟨o,h⟩)|h
 ·exact .inl (.inl (e _ _ h))
 ·exact .inl (.inr ⟨o,e _ _ h⟩)
 ·exact .inr h
noncomputable def eK(elt:Expr)(gens:List cB)(scope:aP)(pos:Pos)(d:Nat)(acc:ae)(env:Env):Sem Unit:=
 match gens[d+1]? with
 |some g'=>do
  let x <-eval g'.iter env
  standAt g'.iter.pos
  let x <-foldedSetIterable g'.iter env x
  let _ <-runOwn (.compStart (.ListComp elt gens scope pos) (d+1) (<-holding [x] (pyIter x)) acc env) env
  pure ()
 |none=>do
  let _ <-call (.builtin "list.append") [acc,<-eval elt env]
  pure ()
theorem yK{elt:Expr}{gens:List cB}{scope:aP}{pos:Pos}{d:Nat}{g:cB}{it acc:ae}{env:Env}(hg:gens[d]? = some g)(ha:g.is_async=0)
  (hn:∀g',gens[d+1]? = some g'->g'.is_async=0) :
  compTurn (.ListComp elt gens scope pos) d it acc env=(do
   standAt g.iter.pos
   match <-pyNext it with
   |none=>pure (.done .next)
   |some v=>
    letOwnedTupleGo g.target it v
    assign g.target env v
    let ok <-(forIn g.ifs true λc r=>if r=true then do let ok <-isTrue c env (eval c env);pure (cZ ok)else pure (cZ r))
    if ok then
     eK elt gens scope pos d acc env
     again (.compLoop (.ListComp elt gens scope pos) d it acc env)
    else again (.compLoop (.ListComp elt gens scope pos) d it acc env)):=by
 unfold compTurn;cases e:gens[d+1]? with
 |none=>
  simp only[hg,ha,e,eK]
  rfl
 |some g'=>
  have ha':=hn g' e;simp only[hg,ha,e,ha',eK];simp only[bne_self_eq_false,bZ,if_false,bind_assoc,pure_bind]
  rfl
theorem xc{prog:av}{w:au}{A:aw}{R:Result->af->Prop}{s:af}{elt:Expr}{gens:List cB}{scope:aP}{pos:Pos}{d:Nat}{g:cB}{it acc:ae}{env:Env}
  (hg:gens[d]? = some g) (ha:g.is_async=0)
  (h0:codeAny (aj prog w) A (.compLoop (.ListComp elt gens scope pos) d it acc env) R s)
  (h:ai (aj prog w) A (pyIter it) (λit' s'=>codeAny (aj prog w) A (.compLoop (.ListComp elt gens scope pos) d it' acc env) R s')
   (notedBy (aj prog w) A env λx s'=>R (.error x) s') s) :
  codeAny (aj prog w) A (.compStart (.ListComp elt gens scope pos) d it acc env) R s:=by
 refine codeAny_of_tree ?_;show ai _ _ ((compStart (.ListComp elt gens scope pos) d it acc env).onRaise (λx=>do noteFrame x env;standAt theWindowsPlace)) _ _ s;refine wpAny_notedAt ?_;unfold compStart;have e2:(clausesOf (.ListComp elt gens scope pos))[d]? = some g:=hg;simp only[e2];rw[if_neg (by show ¬ (g.is_async != 0)=true;simp[ha])];show ai _ _ (ask>>=_) _ _ s;refine ah (wpAny_askSetting (wpAny_ite ?_));split
 ·first
   |exact ah (ax (ax (ar rfl h0)))
   |exact ax (ar rfl h0)
 ·first
   |exact ah (wpAny_rule (ah (wpAny_standAt (ah (bI h (λit' s' h'=>ax (ar rfl h')) λ_ _ x=>x)))))
   | (refine ah (wpAny_rule ?_);show ai _ _ (standAt g.iter.pos>>=_) _ _ s;exact ah (wpAny_standAt (ah (bI h (λit' s' h'=>ax (ar rfl h')) λ_ _ x=>x))))
noncomputable def PTs(Y:Cx)(ifs:List Expr)(t:TT):Prop:=
 ∀(pins:List (Addr×Obj)) (s:af) (σ:St) (H:Hp) (Q:Bool->Hp->Prop),Inv Y pins σ H s->t σ H Q ->
  ai (aj Y.prog Y.w) Y.A (forIn ifs true λc r=>if r=true then do let ok <-isTrue c Y.env (eval c Y.env);pure (cZ ok)else pure (cZ r)) (TP Y pins σ Q) Y.xe s
noncomputable def tj:TT:=λ_ H Q=>Q true H
theorem z_{Y:Cx}:PTs Y [] tj:=λ_ _ _ H _ I h=>wpAny_tests_nil ⟨H,I,h⟩
theorem uf{Y:Cx}{c:Expr}{t:TT}(hc:PT Y c t):PTs Y [c] t:=λpins s σ H Q I h=>wpAny_tests_one (hc pins s σ H Q I h)
noncomputable def PB(Y:Cx)(m:Sem Unit)(t:TS):Prop:=
 ∀(pins:List (Addr×Obj)) (s:af) (σ:St) (H:Hp) (D:Ends),Inv Y pins σ H s->t D σ H ->
  ai (aj Y.prog Y.w) Y.A m (λ_ s'=>∃σ' H',Inv Y pins σ' H' s'/\D.nx σ' H') Y.xe s
section
variable{Y:Cx}{elt:Expr}{gens:List cB}{scope:aP}{pos:Pos}{d:Nat}
noncomputable def iT(acc:Addr)(te:TE):TS:=λD σ H=>te σ H λy H1=>∃xs,H1 acc=some (.lst xs)/\xs.length<aF/\D.nx σ (upd H1 acc (.lst (xs++[y])))
theorem nF{acc:Addr}{te:TE}(hn:gens[d+1]? = none)(he:PE Y elt te):PB Y (eK elt gens scope pos d (.ref acc) Y.env) (iT acc te):=by
 intro pins s σ H D I h;unfold eK;rw[hn];refine ah (thn (he pins s σ H _ I h) λu s1 ⟨y,H1,I1,r1,xs,hx,hz,q⟩=>?_);refine ah (thn (nv pins s1 σ H1 (.ref acc) [y] (.ref acc) [u] (λ_ H'=>D.nx σ H') I1 rfl (.cons r1 .nil) ⟨acc,xs,y,rfl,rfl,hx,hz,q⟩) λ_ s2 ⟨_,H2,I2,_,q2⟩=>?_);exact ax ⟨σ,H2,I2,q2⟩
theorem Dx{g:cB}{it:Addr}{acc:ae}{fp:List Addr}{tn:Nat->Heap->Prop}{J:It}{tg:TG}{tt:TT}{tb:TS}(hc:Y.calm=true)(hx:∀e s,¬ Y.xe e s)(hg:gens[d]? = some g)(ha:g.is_async=0)
  (hn:∀g',gens[d+1]? = some g'->g'.is_async=0) (T:Turn Y.prog Y.w Y.K g.target J fp it tn) (pg:PG Y g.target tg) (pt:PTs Y g.ifs tt) (pb:PB Y (eK elt gens scope pos d acc Y.env) tb)
  {pins:List (Addr×Obj)}{s:af}{σ:St}{H:Hp}{D:Ends} (I:Inv Y pins σ H s) (st:tn 0 s.heap) (fr:∀b∈fp,dj Y pins H b)
  (h:∃W:Nat->Nat->St->Hp->Prop,(∃m,W 0 m σ H)/\∀i m σ H,W i m σ H ->
   (J.stop i H/\D.nx σ H)\/(J.go i H/\∃N:St->Hp->Prop,(∀σ' H',N σ' H'->∃m',m'<m/\W (i+1) m' σ' H')/\∀x H',J.yld i H x H'->tg x σ H' λσ2 H2=>iP tt tb iL {D with nx:=N,ct:=N,bk:=D.nx} σ2 H2)) :
  codeAny (aj Y.prog Y.w) Y.A (.compLoop (.ListComp elt gens scope pos) d (.ref it) acc Y.env) (λr s'=>r=.ok .next/\∃σ' H',Inv Y pins σ' H' s'/\D.nx σ' H') s:=by
 obtain⟨W,⟨m0,w0⟩,turn⟩:=h;have stat:∀{H':Hp},(∀b∈fp,H' b=none)->∀b∈fp,dj Y pins H' b:=λhn b hb=>⟨hn b hb,(fr b hb).2⟩
 refine codeAny_loop rfl (λn s'=>∃i σ' H',Inv Y pins σ' H' s'/\tn i s'.heap/\(∀b∈fp,H' b=none)/\W i n σ' H') ?_ m0 ⟨0,σ,H,I,st,λb hb=>(fr b hb).1,w0⟩;rintro n s3 ⟨i,σ3,H3,I3,st3,fr3,w3⟩;show ai _ Y.A ((compTurn (.ListComp elt gens scope pos) d (.ref it) acc Y.env).onRaise (λx=>do noteFrame x Y.env;theTreesLotGoes x)) _ _ s3;refine wpAny_noted ?_;rw[yK hg ha hn];have nox:∀{E:ae->af->Prop} (e:ae) (s:af),Y.xe e s->E e s:=λe s z=>absurd z (hx e s)
 refine ah (wpAny_standAt ?_);rcases turn i n σ3 H3 w3 with ⟨stop,qn⟩|⟨go,N,hN,step⟩
 ·refine ah (thn (T.done Y rfl rfl rfl hc i pins s3 σ3 H3 _ I3 (stat fr3) st3 stop) λr s4 ⟨hr,I4⟩=>?_);subst hr;exact ax ⟨rfl,σ3,H3,I4,qn⟩
 ·refine ah (thn (T.item Y rfl rfl rfl hc i pins s3 σ3 H3 _ I3 (stat fr3) st3 go) λr s4 ⟨u,hr,h4⟩=>?_);subst hr;refine ah (thn h4 λ_ s5 ⟨x,H5,I5,r5,y5,st5,fr5⟩=>?_);have I5':=I5.pinned (stat fr5) (T.obj _ _ st5);refine ah (bI (pg _ s5 σ3 H5 x u _ I5' r5 (step x H5 y5)) (λ_ s6 ⟨σ6,H6,I6,q6⟩=>?_) nox);have again:∀{s7:af}{σ7:St}{H7:Hp},Inv Y (pins++g_ fp s5.heap) σ7 H7 s7->N σ7 H7->∃m,m<n/\∃i σ' H',Inv Y pins σ' H' s7/\tn i s7.heap/\(∀b∈fp,H' b=none)/\W i m σ' H':=λ{s7 σ7 H7} I7 n7=>by
   obtain⟨m',hm,w7⟩:=hN σ7 H7 n7;refine⟨m',hm,i+1,σ7,H7,I7.unpinned,T.keep _ _ _ st5 λb hb o e=>(I7.pin (b,o) (cx _ (cx _ (i0 hb e)))).1,λb hb=>?_,w7⟩;obtain⟨o,e,d⟩:=T.obj _ _ st5 b hb;exact(I7.pin (b,o) (cx _ (cx _ (i0 hb e)))).2.1
  refine ah (bI (pt _ s6 σ6 H6 _ I6 q6) (λb s7 ⟨H7,I7,q7⟩=>?_) nox);cases b with
  |true=>
   rw[if_pos rfl];rw[if_pos rfl]at q7;refine ah (bI (pb _ s7 σ6 H7 _ I7 q7) (λ_ s8 ⟨σ8,H8,I8,q8⟩=>?_) nox);exact ax ⟨rfl,again I8 q8⟩
  |false=>
   rw[if_neg bQ];rw[if_neg bQ]at q7;exact ax ⟨rfl,again I7 q7⟩
end
theorem kI{env:Env}:∀{names:List (Str×aM)}{cs:List (Str×Addr)},(∀x∈names,x.2=.free->∃c,env.cells.lookup x.1=some c) ->
  ∃cl,(forIn names cs (λ(x:Str×aM) (cs:List (Str×Addr))=>if (x.2==bR)=true then do let c <-cellOf env x.1;pure (cZ ((x.1,c)::cs))else pure (cZ cs)):Sem (List (Str×Addr)))=pure cl /\
   (∀x c,cl.lookup x=some c->env.cells.lookup x=some c\/cs.lookup x=some c)/\(∀x,(∃c,cs.lookup x=some c)->∃c,cl.lookup x=some c)/\∀x∈names,x.2=.free->∃c,cl.lookup x.1=some c
 | [],cs,_=>⟨cs,by rw[List.forIn_nil],λ_ _ h=>.inr h,λ_ h=>h,λ_ h=>nomatch h⟩
 | (n,k)::r,cs,h=>by
  rw[List.forIn_cons];by_cases hk:k=.free
  ·subst hk;obtain⟨c,hc⟩:=h (n,.free) aJ rfl;have e:cellOf env n=pure c:=by
    have hc':env.cells.lookup n=some c:=hc;unfold cellOf;rw[hc']
   obtain⟨cl,e1,e2,e3,e4⟩:=kI (names:=r) (cs:=(n,c)::cs) λx hx=>h x (aK _ hx)
   refine⟨cl,?_,λx c' q=>?_,λx q=>e3 x ?_,λx hx hf=>?_⟩
   ·simp only[beq_self_eq_true,if_true,e,pure_bind];exact e1
   ·rcases e2 x c' q with z|z
    ·exact .inl z
    ·rw[ba]at z;by_cases hxn:(x==n)=true
     ·rw[hxn]at z;have:x=n:=by simpa using hxn
      subst this;cases z;exact .inl hc
     ·have hxn':(x==n)=false:=by simpa using hxn
      rw[hxn']at z;exact .inr z
   ·rw[ba];by_cases hxn:(x==n)=true
    ·rw[hxn];exact⟨c,rfl⟩
    ·have hxn':(x==n)=false:=by simpa using hxn
     rw[hxn'];exact q
   ·rcases aE.mp hx with z|z
    ·subst z;exact e3 n ⟨c,by rw[ba,beq_self_eq_true]⟩
    ·exact e4 x z hf
  ·have hk':(k==bR)=false:=by simpa using hk
   obtain⟨cl,e1,e2,e3,e4⟩:=kI (names:=r) (cs:=cs) λx hx=>h x (aK _ hx)
   refine⟨cl,?_,e2,e3,λx hx hf=>?_⟩
   ·simp only[hk',bZ,if_false,pure_bind];exact e1
   ·rcases aE.mp hx with z|z
    ·subst z;exact absurd hf hk
    ·exact e4 x z hf
theorem mT{env:Env}{scope:aP}(h:∀x∈scope.names,x.2=.free->∃c,env.cells.lookup x.1=some c) :
  ∃cl,closureFor scope env=pure cl/\(∀x c,cl.lookup x=some c->env.cells.lookup x=some c)/\∀x∈scope.names,x.2=.free->∃c,cl.lookup x.1=some c:=by
 obtain⟨cl,e1,e2,_,e4⟩:=kI (env:=env) (names:=scope.names) (cs:=[]) h;refine⟨cl,?_,λx c q=>(e2 x c q).elim (λz=>z) (λz=>by simp at z),e4⟩;have e:closureFor scope env=(forIn scope.names [] (λ(x:Str×aM) (cs:List (Str×Addr))=>if (x.2==bR)=true then do let c <-cellOf env x.1;pure (cZ ((x.1,c)::cs))else pure (cZ cs))>>=λcs=>pure cs):=rfl;rw[e,e1,pure_bind]
theorem jv{env:Env}:∀{names:List (Str×aM)}{x:Str}{k:aM},
  (names.map λ(n,k)=>if (k==bR&&env.scope.kind==.function&&env.kindOf n==some .cell)then (n,aM.cell)else (n,k)).lookup x=some k ->
  names.lookup x=some k\/(k=.cell/\names.lookup x=some .free)
 | [],_,_,h=>by simp at h
 | (n,k')::r,x,k,h=>by
  have ih:=@jv env r x k;have h':List.lookup x ((if (k'==bR&&env.scope.kind==.function&&env.kindOf n==some .cell)=true then (n,aM.cell)else (n,k'))::r.map (λ(n,k)=>if (k==bR&&env.scope.kind==.function&&env.kindOf n==some .cell)then (n,aM.cell)else (n,k)))=some k:=h;cases hx:x==n with
  |true=>
   by_cases hc:(k'==bR&&env.scope.kind==.function&&env.kindOf n==some .cell)=true
   ·rw[if_pos hc]at h';simp only[ba,hx]at h';cases h';have:k'=.free:=by
     have z:(k'==bR)=true:=by
      cases q:(k'==bR)with
      |true=>rfl
      |false=>rw[q]at hc;simp at hc
     simpa using z
    subst this;exact .inr ⟨rfl,by simp[ba,hx]⟩
   ·rw[if_neg hc]at h';simp only[ba,hx]at h';cases h';exact .inl (by simp[ba,hx])
  |false=>
   have h2:(r.map (λ(n,k)=>if (k==bR&&env.scope.kind==.function&&env.kindOf n==some .cell)then (n,aM.cell)else (n,k))).lookup x=some k:=by
    by_cases hc:(k'==bR&&env.scope.kind==.function&&env.kindOf n==some .cell)=true
    ·rw[if_pos hc]at h';simpa only[ba,hx]using h'
    ·rw[if_neg hc]at h';simpa only[ba,hx]using h'
   rcases ih h2 with z|z
   ·exact .inl (by simpa only[ba,hx]using z)
   ·exact .inr ⟨z.1,by simpa only[ba,hx]using z.2⟩
noncomputable def iJ(names:List (Str×aM)):List Str:=(names.filter λy=>y.2==.cell).map (·.1)
theorem jP:∀(names:List (Str×aM)) (n:Nat) (a b:List (Str×Addr)),aX n names (a++b)=aX n names a++b
 | [],_,_,_=>rfl
 | (x,k)::r,n,a,b=>by
  unfold aX;split
  ·exact jP r (n+1) ((x,n)::a) b
  ·exact jP r n a b
theorem kR{x:Str}{c:Addr}:∀{names:List (Str×aM)}{n:Nat}{a:List (Str×Addr)},(x,c)∈aX n names a->(x,c)∈a\/(x,aM.cell)∈names
 | [],_,_,h=>.inl h
 | (y,k)::r,n,a,h=>by
  unfold aX at h;split at h
  ·rename_i hk
   rcases kR h with z|z
   ·rcases aE.mp z with q|q
    ·have hk:k=.cell:=by simpa using hk
     cases q;exact .inr (by rw[hk];exact aJ)
    ·exact .inl q
   ·exact .inr (aK _ z)
  ·rcases kR h with z|z
   ·exact .inl z
   ·exact .inr (aK _ z)
theorem ur{M:Model}{A:aw}{E:ae->af->Prop}{s:af}{scope:aP}{globals:Addr}{cl:List (Str×Addr)}{qual:Str}{env:Env}{Q:Env->af->Prop}
  (hQ:∀h₁,h₁.Ns s.heap.objs.size (λ_=>none)->(∀b o,s.heap.get? b=some o->h₁.get? b=some o)->CellsOk h₁ (s.heap.objs.size+1) (aX (s.heap.objs.size+1) scope.names []) ->
   Q (newEnv scope s.heap.objs.size globals (aX (s.heap.objs.size+1) scope.names []++cl) qual none .none (some env) builtinsNs) {s with heap:=h₁}) :
  ai M A (newFunctionEnv scope globals cl [] qual none .none (some env)) Q E s:=by
 simp only[newFunctionEnv,Option.isSome_some,if_true];refine ah (wpAny_alloc ?_);refine ah (wpAny_layCells _ (λname kind cells=>by cases hkc:kind==aM.cell<;>simp[hkc]) _ _ _ _ ?_);have ok:=cellsFrom_ok scope.names (s.heap.push {cls:=.type "dict",data:=.dict #[]}) (s.heap.objs.size+1) [] ⟨λ_ _ hm=>(nomatch hm),List.Pairwise.nil⟩ (by rw[b6];exact aD _);rw[b6]at ok;rw[show ({s with heap:=s.heap.push {cls:=.type "dict",data:=.dict #[]}}:af).heap.objs.size=s.heap.objs.size+1 from b6 ..];rw[show cl=[]++cl from rfl,jP];rw[List.forIn_nil];exact ah (ax (ax (hQ _ ((Heap.Ns.new s.heap (.type "dict")).keeps (pushCells_keeps _ _)) (λb o e=>pushCells_keeps _ _ b o (Heap.get?_push_of_some _ e)) ok)))
noncomputable def cm(X:Cx)(NY:List Str)(scope:aP)(cl:List (Str×Addr))(C:Addr)(s₀:af)(H₀:Hp)(fp:List Addr):Cx where
 prog:=X.prog
 w:=X.w
 K:=X.K
 mg:=X.mg
 base:=X.base
 A:=X.A
 N:=NY
 s₀:=s₀
 H₀:=H₀
 env:=compEnvC scope (aX (C+1) scope.names []++cl) C X.env
 outer:=X.stack
 stack:=X.stack
 ex:=fp
 fn:=λx=>(iJ scope.names).contains x
 calm:=X.calm
 pn:=[]
 xe:=λ_ _=>False
noncomputable def caps(cap:List (Option Nat))(σ:St):St:=cap.map λo=>o.bind λj=>(σ[j]?).join
noncomputable def pv(X:Cx)(NY:List Str)(cap:List (Option Nat))(scope:aP):Prop:=
 cap.length=NY.length/\∀(i j:Nat),cap[i]? = some (some j)->∃x,NY[i]? = some x/\X.N[j]? = some x/\scope.names.lookup x=some .free/\(X.env.kindOf x=some .cell\/X.env.kindOf x=some .free)
structure dH(X:Cx)(NY:List Str)(cap:List (Option Nat))(scope:aP):Prop where
 kind:scope.kind=.function
 cells:∀y∈scope.names,y.2=.cell->scope.names.lookup y.1=some .cell
 names:∀y∈scope.names,y.2=.local->scope.names.lookup y.1=some .local
 free:∀y∈scope.names,y.2=.free->X.env.kindOf y.1=some .cell\/X.env.kindOf y.1=some .free
 cap:pv X NY cap scope
theorem Dp{cap:List (Option Nat)}{σ:St}{i:Nat}{v:V}(h:(caps cap σ)[i]? = some (some v)):∃j,cap[i]? = some (some j)/\σ[j]? = some (some v):=by
 unfold caps at h;rw[List.getElem?_map]at h;cases e:cap[i]? with
 |none=>rw[e]at h;simp at h
 |some o=>
  rw[e]at h;cases o with
  |none=>simp at h
  |some j=>
   refine⟨j,rfl,?_⟩;have h':(σ[j]?).join=some v:=by simpa using h
   cases q:σ[j]? with
   |none=>rw[q]at h';cases h'
   |some z=>rw[q]at h';exact congrArg some h'
theorem Be{X:Cx}{pins:List (Addr×Obj)}{σ:St}{H:Hp}{s:af}{NY:List Str}{cap:List (Option Nat)}{scope:aP}{cl:List (Str×Addr)}{fp:List Addr}{h₁:Heap}{m:Str->Option ae}
  (I:Inv X pins σ H s) (S:dH X NY cap scope) (hsub:∀x c,cl.lookup x=some c->X.env.cells.lookup x=some c) (hall:∀x∈scope.names,x.2=.free->∃c,cl.lookup x.1=some c)
  (hf:∀b∈fp,dj X pins H b) (hlt:∀b∈fp,b<s.heap.objs.size) (hn:h₁.Ns s.heap.objs.size m) (hk:∀b o,s.heap.get? b=some o->h₁.get? b=some o) (hcs:CellsOk h₁ (s.heap.objs.size+1) (aX (s.heap.objs.size+1) scope.names [])) {tk:Nat} :
  Inv (cm X NY scope cl s.heap.objs.size s H fp) [] (caps cap σ) H {s with heap:=h₁,toks:=tk}:=by
 have relx:∀x,(compEnvC scope (aX (s.heap.objs.size+1) scope.names []++cl) s.heap.objs.size X.env).kindOf x=some .cell\/(compEnvC scope (aX (s.heap.objs.size+1) scope.names []++cl) s.heap.objs.size X.env).kindOf x=some .free->scope.names.lookup x=some .free\/scope.names.lookup x=some .cell:=λx hx=>by
  rcases hx with q|q
  ·rcases jv (env:=X.env) (names:=scope.names) (x:=x) (k:=.cell) q with z|z
   ·exact .inr z
   ·exact .inl z.2
  ·rcases jv (env:=X.env) (names:=scope.names) (x:=x) (k:=.free) q with z|z
   ·exact .inl z
   ·exact .inl z.2
 have cnew:∀x c,cl.lookup x=some c->c<s.heap.objs.size:=λx c e=>by
  obtain⟨v,q⟩:=I.cell x c (hsub x c e);exact q.lt
 -- a cell is one of its own, or one from around
 have two:∀x c,(aX (s.heap.objs.size+1) scope.names []++cl).lookup x=some c->(x,c)∈aX (s.heap.objs.size+1) scope.names []\/cl.lookup x=some c:=λx c e=>by
  rw[List.lookup_append]at e;cases q:(aX (s.heap.objs.size+1) scope.names []).lookup x with
  |none=>rw[q]at e;exact .inr e
  |some c'=>rw[q]at e;cases e;exact .inl (cy q)
 have own1:∀x c,(x,c)∈aX (s.heap.objs.size+1) scope.names []->scope.names.lookup x=some .cell:=λx c e=>by
  rcases kR e with z|z
  ·cases z
  ·exact S.cells _ z rfl
 have ownA:∀x c,(x,c)∈aX (s.heap.objs.size+1) scope.names []->s.heap.objs.size<c:=λx c e=>(hcs.empty x c e).2
 have frl:∀x c,scope.names.lookup x=some .free->cl.lookup x=some c->(aX (s.heap.objs.size+1) scope.names []++cl).lookup x=some c:=λx c e1 e2=>by
  rw[List.lookup_append];cases q:(aX (s.heap.objs.size+1) scope.names []).lookup x with
  |none=>rw[e2];rfl
  |some c'=>have:=own1 x c' (cy q);rw[e1]at this;cases this
 refine⟨⟨I.ok.mod,S.kind,I.ok.glob,I.ok.blt,aD _,λx y c e1 e2=>?_,λx hx=>?_,λx c e e2=>?_,I.ok.hd,I.ok.frames,.inl rfl,λb hb=>?_,λb o e=>I.bs b o e,bg I.ok.bsz I.sz,λb o e hb=>?_,λb hb z=>?_,I.stack,I.stkFree⟩,
  rfl,I.bare,Un.kept hk,⟨m,hn,λi x v e1 e2 e3=>?_⟩,λx c e=>?_,I.hok.fresh (aD _),λx c e=>?_,λp hp=>absurd (show p∈([]:List (Addr×Obj))from hp) (by simp),I.hok.kept hk,?_⟩
 ·rcases two x c e1 with z1|z1<;>rcases two y c e2 with z2|z2
  ·exact name_of_addr hcs.apart z1 z2
  ·exact absurd (Nat.lt_trans (cnew y c z2) (ownA x c z1)) (bx _)
  ·exact absurd (Nat.lt_trans (cnew x c z1) (ownA y c z2)) (bx _)
  ·exact I.ok.inj x y c (hsub x c z1) (hsub y c z2)
 ·rcases relx x hx with z|z
  ·obtain⟨c,hc⟩:=hall (x,.free) (cy z) rfl;exact⟨c,frl x c z hc⟩
  ·obtain⟨c,hc⟩:=jo (n:=s.heap.objs.size+1) z;refine⟨c,?_⟩;show (aX (s.heap.objs.size+1) scope.names []++cl).lookup x=some c;rw[List.lookup_append,hc];rfl
 ·have e:(iJ scope.names).contains x=true:=e;have hm:scope.names.lookup x=some .cell:=by
   simp only[iJ,List.contains_iff_mem,aN,List.mem_filter,beq_iff_eq]at e;obtain⟨y,⟨y1,y2⟩,rfl⟩:=e;exact S.cells y y1 y2
  rcases two x c e2 with z|z
  ·exact Nat.le_of_lt (ownA x c z)
  ·obtain⟨c',hc⟩:=jo (n:=s.heap.objs.size+1) hm;have e2:(aX (s.heap.objs.size+1) scope.names []++cl).lookup x=some c:=e2;rw[List.lookup_append,hc]at e2;cases e2;exact Nat.le_of_lt (ownA x _ (cy hc))
 ·obtain⟨f0,f1,f2,f3,f4,f5⟩:=hf b hb;refine⟨aV (hlt b hb),λx c e=>?_⟩;rcases two x c e with z|z
  ·exact λw=>absurd (Nat.lt_trans (ownA x c z) (w▸hlt b hb)) (bx _)
  ·exact f4 x c (hsub x c z)
 ·obtain⟨f0,f1,f2,f3,f4,f5⟩:=hf b hb;rcases f3 with z|z
  ·exact I.ok.noex b o e z
  ·exact absurd (a_ (aH e) (bg I.ok.bsz z)) (bx _)
 ·obtain⟨f0,f1,f2,f3,f4,f5⟩:=hf b hb;rcases aE.mp (I.stkSub b z)with q|q
  ·exact f1 q
  ·exact f2 q
 ·obtain⟨j,c1,c2⟩:=Dp e2;obtain⟨x',n1,n2,n3,n4⟩:=S.cap.2 i j c1;have ex:x'=x:=bA (n1.symm.trans e1);subst ex;obtain⟨m',_,hl⟩:=I.loc;obtain⟨u,r,l⟩:=hl j x' v n2 c2 (n4.elim (λz=>.inr (.inl z)) λz=>.inr (.inr z));refine⟨u,r,.inr ⟨?_,?_⟩⟩
  ·rcases e3 with z|z|z
   ·rcases jv (env:=X.env) (names:=scope.names) (x:=x') (k:=.local) z with q|q
    ·rw[n3]at q;cases q
    ·cases q.1
   ·exact .inl z
   ·exact .inr z
  ·rcases l with ⟨kk,_⟩|⟨_,c,ec,ic⟩
   ·rcases n4 with z|z
    ·rw[kk]at z;cases z
    ·rw[kk]at z;cases z
   ·obtain⟨c',ec'⟩:=hall (x',.free) (cy n3) rfl;have:=hsub x' c' ec';rw[ec]at this;cases this;obtain⟨o,ho,hd⟩:=ic;exact⟨c,frl x' c n3 ec',o,hk _ _ ho,hd⟩
 ·rcases two x c e with z|z
  ·exact⟨_,(hcs.empty x c z).1⟩
  ·obtain⟨v,o,ho,hd⟩:=I.cell x c (hsub x c z);exact⟨v,o,hk _ _ ho,hd⟩
 ·rcases two x c e with z|z
  ·exact I.hok.fresh (Nat.le_of_lt (ownA x c z))
  ·exact I.freeC x c (hsub x c z)
 ·show (caps cap σ).length=NY.length;unfold caps;rw[aI];exact S.cap.1
noncomputable def jF(cap:List (Option Nat))(wi:TI)(tg:TG)(tt:TT)(tb:Addr->TS):TE:=λσ H Q=>wi σ H λJ H1=>∀acc,H1 acc=none ->
 ∃W:Nat->Nat->St->Hp->Prop,(∃m,W 0 m (caps cap σ) (upd H1 acc (.lst [])))/\∀i m τ H,W i m τ H ->
  (J.stop i H/\(Ends.mk (λ_ H=>Q (.ref acc) H) (λ_ _=>False) (λ_ _=>False) (λ_ _=>False)).nx τ H)\/(J.go i H/\∃N:St->Hp->Prop,(∀σ' H',N σ' H'->∃m',m'<m/\W (i+1) m' σ' H')/\∀x H',J.yld i H x H' ->
   tg x τ H' λσ2 H2=>iP tt (tb acc) iL {(Ends.mk (λ_ H=>Q (.ref acc) H) (λ_ _=>False) (λ_ _=>False) (λ_ _=>False))with nx:=N,ct:=N,bk:=(Ends.mk (λ_ H=>Q (.ref acc) H) (λ_ _=>False) (λ_ _=>False) (λ_ _=>False)).nx} σ2 H2)
structure Loose(X:Cx)(pins:List (Addr×Obj))(C:Addr):Prop where
 loc:C≠X.env.locals
 cell:∀x c,X.env.cells.lookup x=some c->c≠C
 up:X.s₀.heap.objs.size<=C
 pin:∀p∈X.pn++pins,p.1≠C
theorem Loose.turn{X:Cx}{pins:List (Addr×Obj)}{C:Addr}{σ:St}{H:Hp}{s:af}{h':Heap}(L:Loose X pins C)(I:Inv X pins σ H s)(hn:H C=none)(hs:Heap.SameBut C s.heap h'):Inv X pins σ H {s with heap:=h'}:=
 I.turned (t':=s.toks) (it:=C) (λb o hb e=>(hs.2 b hb).trans e) hn L.loc (.inr L.up) L.cell L.pin
section
variable{X:Cx}{elt tgt it:Expr}{ifs:List Expr}{gs:List cB}{scope:aP}{pos:Pos}{NY:List Str}{cap:List (Option Nat)}{wi:TI}{tg:TG}{tt:TT}{tb:Addr->TS}
theorem o9{Q:VK}{pins:List (Addr×Obj)}{σ:St}{H:Hp}{s s2:af}{cl:List (Str×Addr)}{itv:ae}{E:ae->af->Prop}{use:Option (ae->Sem Unit)}{QQ:ae->af->Prop}
  (hc:X.calm=true) (S:dH X NY cap scope) (hng:∀g'∈gs,g'.is_async=0)
  (hsub:∀x c,cl.lookup x=some c->X.env.cells.lookup x=some c) (hall:∀x∈scope.names,x.2=.free->∃c,cl.lookup x.1=some c)
  (hb:∀cl C s₀ H₀ fp,PG (cm X NY scope cl C s₀ H₀ fp) tgt tg/\PTs (cm X NY scope cl C s₀ H₀ fp) ifs tt/\∀acc,PB (cm X NY scope cl C s₀ H₀ fp) (eK elt (⟨tgt,it,ifs,0⟩::gs) scope pos 0 (.ref acc) (cm X NY scope cl C s₀ H₀ fp).env) (tb acc))
  (h2:PIE X pins σ tgt (λJ H1=>∀acc,H1 acc=none ->
   ∃W:Nat->Nat->St->Hp->Prop,(∃m,W 0 m (caps cap σ) (upd H1 acc (.lst [])))/\∀i m τ H,W i m τ H ->
    (J.stop i H/\(Ends.mk (λ_ H=>Q (.ref acc) H) (λ_ _=>False) (λ_ _=>False) (λ_ _=>False)).nx τ H)\/(J.go i H/\∃N:St->Hp->Prop,(∀σ' H',N σ' H'->∃m',m'<m/\W (i+1) m' σ' H')/\∀x H',J.yld i H x H' ->
     tg x τ H' λσ2 H2=>iP tt (tb acc) iL {(Ends.mk (λ_ H=>Q (.ref acc) H) (λ_ _=>False) (λ_ _=>False) (λ_ _=>False))with nx:=N,ct:=N,bk:=(Ends.mk (λ_ H=>Q (.ref acc) H) (λ_ _=>False) (λ_ _=>False) (λ_ _=>False)).nx} σ2 H2)) itv s2)
  (fin:∀(acc C:Addr) (s':af) (m:Str->Option ae) (H':Hp),s'.heap.Ns C m->Loose X pins C->Inv X pins σ H' s'->H' C=none->Q (.ref acc) H'->compPost (aj X.prog X.w) X.A E use QQ (.ref acc) C (.ok .next) s') :
  ai (aj X.prog X.w) X.A (newList []) (λacc s₃=>ai (aj X.prog X.w) X.A (newFunctionEnv scope X.env.globals cl [] X.env.qual none .none (some X.env)) (λcenv s₄=>
   codeAny (aj X.prog X.w) X.A (.compStart (.ListComp elt (⟨tgt,it,ifs,0⟩::gs) scope pos) 0 itv acc {cenv with scope:=relabel scope X.env}) (compPost (aj X.prog X.w) X.A E use QQ acc cenv.locals) s₄) E s₃) E s2:=by
 obtain⟨ia,fp,tn,J,H2,e,I2,T,st2,f2,q⟩:=h2;subst e;have hlt2:∀b∈fp,b<s2.heap.objs.size:=λb hb=>by
  obtain⟨o,ho,_⟩:=T.obj _ _ st2 b hb;exact aH ho
 refine cY ?_;have hacc:H2 s2.heap.objs.size=none:=I2.hok.fresh (aD _);have I3:Inv X pins σ (upd H2 s2.heap.objs.size (.lst [])) {s2 with heap:=s2.heap.push {cls:=.type "list",dict:=none,data:=.seq ([]:List ae).toArray}}:=
  I2.laid (t':=s2.toks) (λb u e=>Heap.get?_push_of_some _ e) (aD _) ⟨b8 _,[],0,.nil,Heap.get?_push_size _ rfl⟩
 have hsz3:(s2.heap.push {cls:=.type "list",dict:=none,data:=.seq ([]:List ae).toArray}).objs.size=s2.heap.objs.size+1:=b6 ..;generalize hs3:({s2 with heap:=s2.heap.push {cls:=.type "list",dict:=none,data:=.seq ([]:List ae).toArray}}:af)=s3 at I3 ⊢;have hsz:s3.heap.objs.size=s2.heap.objs.size+1:=by rw[<-hs3];exact hsz3
 have st3:tn 0 s3.heap:=T.keep _ _ _ st2 λb hb o e=>by rw[<-hs3];exact Heap.get?_push_of_some _ e
 have f3:∀b∈fp,dj X pins (upd H2 s2.heap.objs.size (.lst [])) b:=λb hb=>⟨by rw[qg (aV (hlt2 b hb))];exact(f2 b hb).1,(f2 b hb).2⟩
 have hlt3:∀b∈fp,b<s3.heap.objs.size:=λb hb=>by rw[hsz];exact Nat.lt_succ_of_lt (hlt2 b hb)
 refine ur λh₁ hns₁ hk1 hcs=>?_
 have IY:=Be (tk:=s3.toks) I3 S hsub hall f3 hlt3 hns₁ hk1 hcs;have stY:tn 0 h₁:=T.keep _ _ _ st3 λb hb o e=>hk1 b o e
 obtain⟨pg,pt,pb⟩:=hb cl s3.heap.objs.size s3 (upd H2 s2.heap.objs.size (.lst [])) fp;have fY:∀b∈fp,dj (cm X NY scope cl s3.heap.objs.size s3 (upd H2 s2.heap.objs.size (.lst [])) fp) [] (upd H2 s2.heap.objs.size (.lst [])) b:=λb hb=>by
  obtain⟨g0,g1,g2,g3,g4,g5⟩:=f3 b hb;refine⟨g0,aV (hlt3 b hb),λz=>?_,.inl hb,(IY.ok.exf b hb).2,λp hp=>absurd (show p∈([]:List (Addr×Obj))from hp) (by simp)⟩;rcases aE.mp (I3.stkSub b z)with w|w
  ·exact g1 w
  ·exact g2 w
 have L:=Dx (elt:=elt) (gens:=⟨tgt,it,ifs,0⟩::gs) (scope:=scope) (pos:=pos) (d:=0) (Y:=cm X NY scope cl s3.heap.objs.size s3 (upd H2 s2.heap.objs.size (.lst [])) fp) (acc:=.ref s2.heap.objs.size) hc (λ_ _ z=>z) rfl rfl
  (λg' hg'=>hng g' (List.mem_of_getElem? (i:=0) (by simpa using hg'))) T pg pt (pb s2.heap.objs.size) IY stY fY (q s2.heap.objs.size hacc)
 refine codeAny_mono (xc (elt:=elt) (gens:=⟨tgt,it,ifs,0⟩::gs) (scope:=scope) (pos:=pos) (d:=0) (env:=compEnvC scope (aX (s3.heap.objs.size+1) scope.names []++cl) s3.heap.objs.size X.env) rfl rfl L (T.self _ 0 _ _ _ stY L)) λr s' ⟨e,τ',H',I',q'⟩=>?_
 subst e;obtain⟨m',hn',_⟩:=id I'.loc;have hLne:s3.heap.objs.size≠X.env.locals:=Nat.ne_of_gt I3.lt;have hCne:∀x c,X.env.cells.lookup x=some c->c≠s3.heap.objs.size:=λx c e z=>by
  obtain⟨v,qv⟩:=I3.cell x c e;exact absurd qv.lt (by rw[z];exact bx _)
 have J1:Inv X pins σ H' s':=by
  refine I3.call' (ch:=fp) I'.os I'.base I'.hok I'.bare λb hb=>?_
  obtain⟨g0,g1,g2,g3,g4,g5⟩:=f3 b hb;exact⟨g3,g1,g4,g5⟩
 refine fin s2.heap.objs.size s3.heap.objs.size s' m' H' hn' ⟨hLne,hCne,I3.sz,λp hp z=>?_⟩ J1 I'.free q';have:=aH (I3.pin p hp).1;rw[z]at this;exact bx _ this
theorem rX(hc:X.calm=true)(S:dH X NY cap scope)(hi:PI X tgt it wi)
  (hb:∀cl C s₀ H₀ fp,PG (cm X NY scope cl C s₀ H₀ fp) tgt tg/\PTs (cm X NY scope cl C s₀ H₀ fp) ifs tt/\∀acc,PB (cm X NY scope cl C s₀ H₀ fp) (eK elt (⟨tgt,it,ifs,0⟩::gs) scope pos 0 (.ref acc) (cm X NY scope cl C s₀ H₀ fp).env) (tb acc))
  (hng:∀g'∈gs,g'.is_async=0:=by simp)
  (hs:∀x,foldedSetIterable it X.env x=pure x:=by intro _;rfl):PE X (.ListComp elt (⟨tgt,it,ifs,0⟩::gs) scope pos) (jF cap wi tg tt tb):=by
 intro pins s σ H Q I h;obtain⟨cl,hcl,hsub,hall⟩:=mT (env:=X.env) (scope:=scope) λx hx hf=>I.ok.has x.1 (S.free x hx hf)
 rw[eval_ListComp];refine wpAny_comprehension_free (use:=none) rfl hs hcl S.kind S.names (thn (hi pins s σ H _ I h) λv s1 h1=>thn h1 λitv s2 h2=>?_);exact o9 (s:=s) (H:=H) (use:=none) hc S hng hsub hall hb h2 λacc C s' m H' hn L I' hC q=>⟨m,hn,λh' hs'=>⟨.ref acc,H',L.turn I' hC hs',rfl,q⟩⟩
theorem yu{i:Nat}{x:Str}{pos' spos:Pos}(hN:X.N.Nodup)(hix:X.N[i]? = some x)(hx:Loc X.env.scope x)(hc:X.calm=true)(S:dH X NY cap scope)(hi:PI X tgt it wi)
  (hb:∀cl C s₀ H₀ fp,PG (cm X NY scope cl C s₀ H₀ fp) tgt tg/\PTs (cm X NY scope cl C s₀ H₀ fp) ifs tt/\∀acc,PB (cm X NY scope cl C s₀ H₀ fp) (eK elt (⟨tgt,it,ifs,0⟩::gs) scope pos 0 (.ref acc) (cm X NY scope cl C s₀ H₀ fp).env) (tb acc))
  (hng:∀g'∈gs,g'.is_async=0:=by simp)
  (hsw:swapsWith (.ListComp elt (⟨tgt,it,ifs,0⟩::gs) scope pos) (some (.Name x pos')) spos.line X.env=pure true:=by rfl)
  (hf:X.fn x=true\/X.env.scope.names.lookup x=some .local:=by first|exact .inl rfl|exact .inr rfl|assumption)
  (hs:∀x,foldedSetIterable it X.env x=pure x:=by intro _;rfl) :
  PS X (.Assign [.Name x pos'] (.ListComp elt (⟨tgt,it,ifs,0⟩::gs) scope pos) spos) (jr (jF cap wi tg tt tb) (fg i)):=by
 intro pins s σ H D I h;obtain⟨cl,hcl,hsub,hall⟩:=mT (env:=X.env) (scope:=scope) λx hx hf=>I.ok.has x.1 (S.free x hx hf)
 rw[exec_Assign_Name_used _ _ _ _ hsw];refine ah (wpAny_standAt (ah ?_));show ai _ _ (do let _ <-comprehension (.ListComp elt (⟨tgt,it,ifs,0⟩::gs) scope pos) scope X.env _ (newList []) false (eval it X.env) (some (assign (.Name x pos') X.env))) _ _ s;refine ah (bI (wpAny_comprehension_free (use:=some (assign (.Name x pos') X.env)) (Q:=λ_ s'=>SP X pins D .next s') rfl hs hcl S.kind S.names (thn (hi pins s σ H _ I h) λv s1 h1=>thn h1 λitv s2 h2=>?_)) (λ_ s' q=>ax (ax q)) λ_ _ e=>e);refine o9 (s:=s) (H:=H) (Q:=λx H1=>fg i x σ H1 D.nx) (use:=some (assign (.Name x pos') X.env)) hc S hng hsub hall hb h2 λacc C s' m H' hn L I1 hC q1=>?_
 show ai _ _ (assign (.Name x pos') X.env (.ref acc)) _ _ _;refine wpAny_assign_Name (lT (v:=.ref acc) I1 hN hix hx rfl (λs3 I3 ⟨a,hsa,ha⟩=>?_) hf);have hCa:C≠a:=by
  rcases ha with z|z
  ·rw[z];exact L.loc
  ·exact Ne.symm (L.cell x a z)
 exact⟨m,hn.sameBut hsa hCa,λh' hsb=>⟨_,H',L.turn I3 hC hsb,q1⟩⟩
end
theorem zC.there{P:av}{w:au}{H:Hp}{h:Heap}{a:Addr}{o:HO}(x:zC P w H h a o):∃u,h.get? a=some u:=by
 cases o with
 |lst xs=>obtain⟨_,_,_,_,e⟩:=x;exact⟨_,e⟩
 |tup xs=>obtain⟨_,_,_,o,e,_⟩:=x;exact⟨_,e⟩
 |dK kvs=>obtain⟨_,_,_,_,o,_,_,e,_⟩:=x;exact⟨_,e⟩
 |dT kvs=>obtain⟨_,_,_,_,o,_,_,e,_⟩:=x;exact⟨_,e⟩
 |set S n=>obtain⟨o,_,_,_,e,_⟩:=x;exact⟨_,e⟩
 |ins C dx fs=>obtain⟨_,_,_,e,_⟩:=x;exact⟨_,e⟩
 |own y=>obtain⟨_,e⟩:=x;exact⟨_,e⟩
 |xd fs=>obtain⟨_,⟨_,_,_,e,_⟩,_⟩:=x;exact⟨_,e⟩
 |rng lo hi=>obtain⟨_,_,_,e⟩:=x;exact⟨_,e⟩
 |frz ob u=>obtain⟨e,_⟩:=x;exact⟨_,e⟩
 |tbl ps=>exact⟨_,(show h.get? a=some _ from x)⟩
 |met f y=>exact⟨_,(show h.get? a=some _ from x)⟩
 |ext φ=>obtain⟨_,e,_⟩:=x;exact e
theorem HOk.free_of{P:av}{w:au}{H:Hp}{h:Heap}{a:Addr}(x:HOk P w H h)(e:h.get? a=none):H a=none:=by
 cases q:H a with
 |none=>rfl
 |some o=>obtain⟨u,z⟩:=(x a o q).there;rw[e]at z;cases z
structure Apart(X:Cx)(pins:List (Addr×Obj))(H:Hp)(b:Addr):Prop where
 new:X.s₀.heap.get? b=none
 free:H b=none
 pin:∀p∈X.pn++pins,p.1≠b
structure bX(X:Cx)(pins:List (Addr×Obj))(H:Hp)(h:Heap)(x:Addr)(cls:ae):Prop where
 me:Apart X pins H x
 tr:∃oe vs T oT ts a0,h.get? x=some oe/\oe.cls=cls/\vs[0]? = some a0/\oe.data=.fields vs/\vs[1]? = some (.ref T)/\T≠x/\h.get? T=some oT/\oT.data=.fields ts/\ts[3]? = some .none/\Apart X pins H T
structure Fly(h₀ h:Heap)(H:Hp)(x:Addr)(cls:ae):Prop where
 new:h₀.get? x=none
 free:H x=none
 tr:∃oe vs T oT ts a0,h.get? x=some oe/\oe.cls=cls/\vs[0]? = some a0/\oe.data=.fields vs/\vs[1]? = some (.ref T)/\T≠x/\h.get? T=some oT/\oT.data=.fields ts/\ts[3]? = some .none/\h₀.get? T=none/\H T=none
noncomputable def CX1(P:av)(w:au):CXT:=λouter H s E e s'=>
 ∃x cls H',e=.ref x/\s'.os=s.os/\AllBare s'.gens/\Un (frs outer) [] H H' s.heap s'.heap/\HOk P w H' s'.heap/\Fly s.heap s'.heap H' x cls/\E cls none H'
section
variable{X:Cx}{pins:List (Addr×Obj)}{σ:St}{H:Hp}{s:af}{x T:Addr}{cls:ae}
theorem Inv.stepN{h':Heap}{t':Nat}{ch:List Addr}(I:Inv X pins σ H s)(hex:X.ex=[])(hch:∀b∈ch,Apart X pins H b/\b≠X.env.locals/\(∀x c,X.env.cells.lookup x=some c->c≠b)/\b∉X.fs)
  (keep:∀b o,b∉frs X.stack->b≠X.env.locals->b∉X.fs->b∉ch->s.heap.get? b=some o->h'.get? b=some o)
  (slot:∀b o,(b∈frs X.stack\/b=X.env.locals\/b∈X.fs)->s.heap.get? b=some o->∃sl,h'.get? b=some {o with slots:=sl}) (there:∀b o,b∉ch->s.heap.get? b=some o->∃o',h'.get? b=some o') :
  Inv X pins σ H {s with heap:=h',toks:=t'}:=by
 have sub:∀b,b∈frs X.stack->b=X.env.locals\/b∈X.fs:=λb hb=>aE.mp (I.stkSub b hb)
 have keep':∀b o,b≠X.env.locals->b∉X.fs->b∉ch->s.heap.get? b=some o->h'.get? b=some o:=λb o h1 h2 h3 e=>keep b o (λz=>(sub b z).elim h1 h2) h1 h2 h3 e
 have neL:∀b o,X.s₀.heap.get? b=some o->b≠X.env.locals:=λb o e=>aV (a_ (aH e) I.ok.above)
 have neC:∀b o,X.s₀.heap.get? b=some o->b∉ch:=λb o e hb=>by
  have:=(hch b hb).1.new;rw[e]at this;cases this
 have cellK:∀x c,X.env.cells.lookup x=some c->∀v,s.heap.IsCell c v->h'.IsCell c v:=λx c e v ⟨o,ho,hd⟩=>by
  have nch:c∉ch:=λz=>(hch c z).2.2.1 x c e rfl
  by_cases hc:c∈X.fs
  ·obtain⟨sl,q⟩:=slot c o (.inr (.inr hc)) ho;exact⟨_,q,hd⟩
  ·exact⟨o,keep' c o (I.cne x c e) hc nch ho,hd⟩
 have nex:∀b,b∉X.ex:=λb=>by rw[hex];simp
 refine⟨I.ok,I.os,I.bare,⟨λb o e n hb hx=>?_,λb o e n hb hx=>?_,I.base.free,λb o e hx=>?_,I.base.tups,I.base.frzs,I.base.tbls⟩,?_,λx c e=>?_,I.free,I.freeC,λp hp=>?_,λb u e=>?_,I.len⟩
 ·exact keep' b o (neL b o e) hb (neC b o e) (I.base.keep b o e n hb hx)
 ·obtain⟨sl,e1⟩:=I.base.slot b o e n hb hx;obtain⟨sl',e2⟩:=slot b _ (.inr (.inr hb)) e1;exact⟨sl',e2⟩
 ·obtain⟨o',e1⟩:=I.base.there b o e hx;exact there b o' (neC b o e) e1
 ·obtain⟨m,hn,hl⟩:=I.loc;obtain⟨oL,es,ep,hoL,hdL,r⟩:=id hn;obtain⟨sl,eL⟩:=slot _ _ (.inr (.inl rfl)) hoL;refine⟨m,⟨_,es,ep,eL,hdL,r⟩,λi x v e1 e2 e3=>?_⟩;obtain⟨u,ru,l⟩:=hl i x v e1 e2 e3;refine⟨u,ru,?_⟩;rcases l with l|⟨k,c,e,z⟩
  ·exact .inl l
  ·exact .inr ⟨k,c,e,cellK x c e _ z⟩
 ·obtain⟨v,z⟩:=I.cell x c e;exact⟨v,cellK x c e v z⟩
 ·obtain⟨e,n,ne,nf,d⟩:=I.pin p hp;exact⟨keep' p.1 p.2 ne nf (λz=>(hch p.1 z).1.pin p hp rfl) e,n,ne,nf,d⟩
 ·have nfr:∀b,(∃u,H b=some u)->b≠X.env.locals/\b∉X.fs/\b∉ch:=λb ⟨u,e⟩=>by
   refine⟨λz=>?_,λz=>?_,λz=>?_⟩
   ·rw[z,I.free]at e;cases e
   ·obtain⟨_,o,ho,_⟩:=I.ok.funs.mem z;have:=I.base.free b o ho (I.ok.frf b z) (nex b);rw[e]at this;cases this
   ·have:=(hch b z).1.free;rw[e]at this;cases this
  refine(I.hok b u e).stay (λc v hc q=>?_) (λ_ q=>q) λ_ _ q=>q
  have hc':∃u,H c=some u:=by
   rcases hc with z|z
   ·exact⟨u,by rw[z];exact e⟩
   ·exact⟨_,z⟩
  obtain⟨n1,n2,n3⟩:=nfr c hc';exact keep' c v n1 n2 n3 q
theorem Inv.rec_ne(I:Inv X pins σ H s){b:Addr}{o:Obj}{vs:Array ae}(e:s.heap.get? b=some o)(d:o.data=.fields vs):b≠X.env.locals/\(∀x c,X.env.cells.lookup x=some c->c≠b)/\b∉X.fs/\b∉frs X.stack:=by
 have h1:b≠X.env.locals:=λz=>by
  obtain⟨m,⟨o',es,ep,ho,hd,_⟩,_⟩:=I.loc;rw[<-z,e]at ho;cases ho;rw[d]at hd;cases hd
 have h3:b∉X.fs:=λz=>by
  obtain⟨_,o',ho,hn⟩:=I.funs.mem z;rw[e]at ho;cases ho;exact hn vs d
 refine⟨h1,λx c ec z=>?_,h3,λz=>(aE.mp (I.stkSub b z)).elim h1 h3⟩;obtain⟨v,o',ho,hd⟩:=I.cell x c ec;rw[z,e]at ho;cases ho;rw[d]at hd;cases hd
theorem bX.flying(I:Inv X pins σ H s)(F:bX X pins H s.heap x cls):∃T oT ts a0,Heap.FlyingW (PySem.W.hideAll s.heap (x::T::frs X.stack)) X.stack x cls a0 s.heap/\s.heap.get? T=some oT/\oT.data=.fields ts/\Apart X pins H T:=by
 obtain⟨oe,vs,T,oT,ts,a0,e1,e2,e3,e4,e5,e6,e7,e8,e9,e10⟩:=F.tr;refine⟨T,oT,ts,a0,⟨λb o q=>PySem.W.of_hideAll _ q,PySem.W.hideAll_none _ aJ,?_,oe,vs,T,oT,ts,e1,⟨e2,e3⟩,e4,e5,PySem.W.hideAll_none _ (aK _ aJ),e6,e7,e8,e9⟩,e7,e8,e10⟩;exact PySem.W.funFrames_hide I.stack λenv he a ha=>aK _ (aK _ (List.mem_filterMap.mpr ⟨env,he,ha⟩))
theorem bX.back(I:Inv X pins σ H s)(hex:X.ex=[])(me:Apart X pins H x){ox:Obj}{vs:Array ae}(hx:s.heap.get? x=some ox)(hxd:ox.data=.fields vs){oT:Obj}{ts:Array ae}(hT:s.heap.get? T=some oT)(hTd:oT.data=.fields ts)(aT:Apart X pins H T)
  {l:List Env}{a0:ae}{h':Heap} (W:Heap.FlyingW (PySem.W.hideAll s.heap (x::T::frs X.stack)) l x cls a0 h') (u:s.heap.UpToSlots h') :
  Inv X pins σ H {s with heap:=h'}/\bX X pins H h' x cls:=by
 obtain⟨w1,w2,w3,oe',vs',T',oT',ts',f1,⟨f2,f3⟩,f4,f5,f6,f7,f8,f9,f10⟩:=W;obtain⟨nx1,nx2,nx3,nx4⟩:=I.rec_ne hx hxd;obtain⟨nt1,nt2,nt3,nt4⟩:=I.rec_ne hT hTd;have frd:∀b o,(b∈frs X.stack\/b=X.env.locals\/b∈X.fs)->s.heap.get? b=some o->∀ws,o.data≠.fields ws:=λb o hb e ws d=>by
  obtain⟨n1,n2,n3,n4⟩:=I.rec_ne e d;rcases hb with z|z|z
  ·exact n4 z
  ·exact n1 z
  ·exact n3 z
 have nch:∀b,b∉[x,T]->b∉frs X.stack->b∉(x::T::frs X.stack):=λb h1 h2 h3=>by
  rcases aE.mp h3 with z|h3
  ·exact h1 (by simp[z])
  ·rcases aE.mp h3 with z|h3
   ·exact h1 (by simp[z])
   ·exact h2 h3
 refine⟨?_,me,oe',vs',T',oT',ts',a0,f1,f2,f3,f4,f5,f7,f8,f9,f10,?_⟩
 ·refine I.stepN (t':=s.toks) (ch:=[x,T]) hex (λb hb=>?_) (λb o h1 h2 h3 h4 e=>w1 b o (dw _ e (nch b h4 h1))) (λb o hb e=>u b o e (frd b o hb e)) λb o h4 e=>?_
  ·rcases aE.mp hb with z|hb
   ·subst z;exact⟨me,nx1,nx2,nx3⟩
   ·have z:b=T:=by simpa using hb
    subst z;exact⟨aT,nt1,nt2,nt3⟩
  ·by_cases hb:b∈frs X.stack
   ·obtain⟨sl,q⟩:=u b o e (frd b o (.inl hb) e);exact⟨_,q⟩
   ·exact⟨o,w1 b o (dw _ e (nch b h4 hb))⟩
 ·by_cases hTT:T'=T
  ·rw[hTT];exact aT
  ·by_cases hTf:T'∈frs X.stack
   ·obtain⟨_,o,ho,hn⟩:=I.stack.mem hTf;obtain⟨sl,q⟩:=u T' o ho hn;rw[q]at f8;have z:({o with slots:=sl}:Obj)=oT':=bA f8;subst z;exact absurd f9 (hn ts')
   ·have hnone:s.heap.get? T'=none:=by
     cases q:s.heap.get? T' with
     |none=>rfl
     |some o=>
      have:(PySem.W.hideAll s.heap (x::T::frs X.stack)).get? T'=some o:=dw _ q (nch T' (by simp[f7,hTT]) hTf);rw[f6]at this;cases this
    refine⟨?_,I.hok.free_of hnone,λp hp z=>?_⟩
    ·cases q:X.s₀.heap.get? T' with
     |none=>rfl
     |some o=>
      obtain⟨o',e'⟩:=I.base.there T' o q (by rw[hex];simp);rw[hnone]at e';cases e'
    ·have:=(I.pin p hp).1;rw[z,hnone]at this;cases this
theorem i8{P:av}{w:au}(hP:X.prog=P)(hw:X.w=w)(I:Inv X pins σ H s)(hex:X.ex=[]){E:XK}{e:ae}{s':af}(h:CX1 P w X.stack H s E e s') :
  ∃x cls H',e=.ref x/\Inv X pins σ H' s'/\bX X pins H' s'.heap x cls/\E cls none H':=by
 subst hP hw;obtain⟨x,cls,H',rfl,os,bare,un,hok,F,q⟩:=h;have ap:∀b,s.heap.get? b=none->H' b=none->Apart X pins H' b:=λb h1 h2=>by
  refine⟨?_,h2,λp hp z=>?_⟩
  ·cases q:X.s₀.heap.get? b with
   |none=>rfl
   |some o=>
    obtain⟨o',e'⟩:=I.base.there b o q (by rw[hex];simp);rw[h1]at e';cases e'
  ·have:=(I.pin p hp).1;rw[z,h1]at this;cases this
 obtain⟨oe,vs,T,oT,ts,a0,e1,e2,e3,e4,e5,e6,e7,e8,e9,e10,e11⟩:=F.tr;exact⟨x,cls,H',rfl,I.call' (ch:=[]) os un hok bare (λb z=>absurd z (by simp)),⟨ap x F.new F.free,oe,vs,T,oT,ts,a0,e1,e2,e3,e4,e5,e6,e7,e8,e9,ap T e10 e11⟩,q⟩
theorem bX.leaves(I:Inv X pins σ H s)(hex:X.ex=[]){env:Env}{outer:List Env}(hst:X.stack=X.env::X.outer)(hfr:X.env.frame=some X.env.locals)(F:bX X pins H s.heap x cls){E:XK}(q:E cls none H)
  {EE:ae->af->Prop}:ai (aj X.prog X.w) X.A (leaving X.env (.ref x)) (λ_ s''=>CX1 X.prog X.w X.outer X.H₀ X.s₀ E (.ref x) s'') EE s:=by
 obtain⟨oe,vs,_,_,_,_,e1,_,_,e4,_⟩:=id F.tr;obtain⟨T,oT,ts,a0,W,hT,hTd,aT⟩:=bX.flying I F;have hfrm:=I.ok.frames;rw[hst]at hfrm W;refine wpAny_leaves_onW hfrm hfr W λh' W' u=>?_
 rw[<-hst]at W';obtain⟨I',F'⟩:=bX.back I hex F.me e1 e4 hT hTd aT W' u;obtain⟨oe',vs',T',oT',ts',a0',f1,f2,f3,f4,f5,f6,f7,f8,f9,f10⟩:=F'.tr;have hb:=I'.base;rw[hex]at hb;exact⟨x,cls,H,rfl,I'.os,I'.bare,hb,I'.hok,⟨F'.me.new,F'.me.free,oe',vs',T',oT',ts',a0',f1,f2,f3,f4,f5,f6,f7,f8,f9,f10.new,f10.free⟩,q⟩
end
section
variable{P:av}{w:au}{K:aq}{mg:Str->Option ae}{base:Heap}{N:List Str}{qual:Str}{scope:aP}{f:Addr}{cd:ae}{A:aw}{outer:List Env}{s₀:af}{H₀:Hp}{E:XK}
theorem Ba:Passes (CX1 P w) (dC (CX1 P w) P w K mg base N qual scope f cd A outer s₀ H₀ E) E:=by
 intro pins σ H s e s' I h;obtain⟨x,cls,H',rfl,I',F,q⟩:=i8 rfl rfl I rfl h;exact bX.leaves (env:=(dC (CX1 P w) P w K mg base N qual scope f cd A outer s₀ H₀ E).env) (outer:=outer) I' rfl rfl rfl F q
theorem lu{X:Cx}(hP:X.prog=P)(hw:X.w=w):Passes (CX1 P w) X E0:=by
 intro pins σ H s e s' I h;obtain⟨x,cls,H',rfl,_,_,_,_,_,q⟩:=h;exact q.elim
noncomputable def Throws(X:Cx)(E:XK):Prop:=∀(pins:List (Addr×Obj)) (σ:St) (H:Hp) (s:af) (h':Heap) (e:Addr) (cls:ae) (args:List ae),Inv X pins σ H s->Heap.MadeExcOf s.heap h' e cls args->E cls none H->X.xe (.ref e) {s with heap:=h'}
theorem BL:Throws (dC (CX1 P w) P w K mg base N qual scope f cd A outer s₀ H₀ E) E:=by
 intro pins σ H s h' e cls args I M q;generalize hX:dC (CX1 P w) P w K mg base N qual scope f cd A outer s₀ H₀ E=X at I;have hex:X.ex=[]:=by rw[<-hX];rfl
 have hst:X.stack=X.env::X.outer:=by rw[<-hX];rfl
 have hfr:X.env.frame=some X.env.locals:=by rw[<-hX];rfl
 have hxe:X.xe=λe s'=>ai (aj X.prog X.w) X.A (leaving X.env e) (λ_ s''=>CX1 X.prog X.w X.outer X.H₀ X.s₀ E e s'') (λe' s''=>CX1 X.prog X.w X.outer X.H₀ X.s₀ E e' s'') s':=by rw[<-hX];rfl
 rw[hxe];have hfrm:=I.ok.frames;have hstk:=I.stack;have hB:(PySem.W.hideAll s.heap (frs X.stack)).StaysIn s.heap:=λb o q=>PySem.W.of_hideAll _ q
 have hF:=PySem.W.funFrames_hide (as:=frs X.stack) hstk λenv he a ha=>List.mem_filterMap.mpr ⟨env,he,ha⟩
 rw[hst]at hfrm;have hF':s.heap.FunFrames (PySem.W.hideAll s.heap (frs X.stack)) (X.env::X.outer):=by rw[<-hst];exact hF
 refine wpAny_leaves_madeW (s:={s with heap:=h'}) hfrm hfr hB hF' M λh'' t W ht ht0 u=>?_
 obtain⟨w1,w2,w3,oe',vs',T',oT',ts',f1,⟨f2,f3⟩,f4,f5,f6,f7,f8,f9,f10⟩:=W;have frd:∀b o,(b∈frs X.stack\/b=X.env.locals\/b∈X.fs)->s.heap.get? b=some o->∀ws,o.data≠.fields ws:=λb o hb e ws d=>by
  obtain⟨n1,n2,n3,n4⟩:=I.rec_ne e d;rcases hb with z|z|z
  ·exact n4 z
  ·exact n1 z
  ·exact n3 z
 have slot:∀b o,(b∈frs X.stack\/b=X.env.locals\/b∈X.fs)->s.heap.get? b=some o->∃sl,h''.get? b=some {o with slots:=sl}:=λb o hb e=>u b o (M.keeps b o e) (frd b o hb e)
 have I':Inv X pins σ H {s with heap:=h''}:=I.stepN (t':=s.toks) (ch:=[]) hex (λb hb=>absurd hb (by simp)) (λb o h1 _ _ _ e=>w1 b o (dw _ e h1)) slot λb o _ e=>by
  by_cases hb:b∈frs X.stack
  ·obtain⟨sl,q⟩:=slot b o (.inl hb) e;exact⟨_,q⟩
  ·exact⟨o,w1 b o (dw _ e hb)⟩
 have ap:∀b,s.heap.get? b=none->X.s₀.heap.get? b=none/\H b=none:=λb h1=>by
  refine⟨?_,I.hok.free_of h1⟩;cases q:X.s₀.heap.get? b with
  |none=>rfl
  |some o=>
   obtain⟨o',e'⟩:=I.base.there b o q (by rw[hex];simp);rw[h1]at e';cases e'
 have hT:s.heap.get? T'=none:=by
  by_cases hTf:T'∈frs X.stack
  ·obtain⟨_,o,ho,hn⟩:=hstk.mem hTf;obtain⟨sl,q⟩:=slot T' o (.inl hTf) ho;rw[q]at f8;have z:({o with slots:=sl}:Obj)=oT':=bA f8;subst z;exact absurd f9 (hn ts')
  ·cases q:s.heap.get? T' with
   |none=>rfl
   |some o=>
    have:(PySem.W.hideAll s.heap (frs X.stack)).get? T'=some o:=dw _ q hTf;rw[f6]at this;cases this
 have hb:=I'.base;rw[hex]at hb;exact⟨e,cls,H,rfl,I'.os,I'.bare,hb,I'.hok,⟨(ap e M.new).1,(ap e M.new).2,oe',vs',T',oT',ts',.ref t,f1,f2,f3,f4,f5,f7,f8,f9,f10,(ap T' hT).1,(ap T' hT).2⟩,q⟩
end
abbrev gr:List Value:=[.type "ValueError",.type "Exception",.type "BaseException",.type "object"]
noncomputable def kU(K:aq)(C:Addr):Prop:=PySem.W.excIn K C gr "ValueError.__new__" = true
theorem BN{K:aq}{h:Heap}{C:Addr}{bmB:List ae}{newId:String}(Z:K.In h)(q:PySem.W.excIn K C bmB newId=true) :
  ∃bm N nm qn bs hdct sn sub ab col dd k0 k1 k2 k3 k5 mN,h.get? C=some (excClassObj nm qn C N bs bm hdct sn sub ab col dd k0 k1 k2 k3 k5 newId)/\h.Ns N mN/\mN "__init__" = none/\OwnTail h bmB bm:=by
 unfold PySem.W.excIn at q;split at q
 ·rename_i dict cdat slots look
  split at q
  ·rename_i C2 bm2 j0 j1 j2 j3 nid j5 hmro hslots
   simp only[aG,beq_iff_eq,bj]at q;obtain⟨⟨⟨⟨⟨rfl,rfl⟩,nodel⟩,tl⟩,nsok⟩,noinit⟩:=q;obtain⟨c1,c2,c3,c4,c5,c6,c7,c8,c9,c10,c11⟩:=cdat;dsimp only at hmro nodel nsok noinit;subst hmro nodel;have hsl:slots = #[j0,j1,j2,j3,some (.builtin nid),j5]:=by
    obtain⟨sl⟩:=slots;simp only at hslots;rw[hslots]
   subst hsl;exact⟨bm2,c4,c1,c5,c2,c6,c7,c8,c9,c10,dict,j0,j1,j2,j3,j5,_,Z _ _ look,.of_isNs (PySem.W.isNs_of_in Z nsok),PySem.W.nsMap_none_of_in Z nsok noinit,PySem.W.tail_of_in Z tl⟩
  ·cases q
 ·cases q
section
variable{X:Cx}{C:Addr}{x:Str}{E:XK}{t:TA}{e:Expr}{es:List Expr}{np cpos pos:Pos}
noncomputable def Ek(C:Addr)(E:XK)(t:TA):TS:=λ_ σ H=>t σ H λvs H1=>vs.length<=aF/\E (.ref C) none H1
theorem wq(hc:X.calm=true)(hT:Throws X E)(hC:kU X.K C)(hg:Gl X x)(hm:X.mg x=some (.ref C))(ha:PA X (e::es) t)(hd:(x==("__debug__" : Str))=false:=by decide)
  (he:aL (e::es) X.env=(false,eval e X.env)::aL es X.env:=by rfl) (hpl:(backTo cpos (aL es X.env)).any (·.1)=false:=by rfl) :
  PS X (.Raise (some (.Call (.Name x np) (e::es) [] cpos)) none pos) (Ek C E t):=by
 intro pins s σ H D I h;obtain⟨bm,N,nm,q,bs,hdct,sn,sub,ab,col,dd,k0,k1,k2,k3,k5,mN,hO,hN,hni,T⟩:=BN I.mod.kin hC;refine wpAny_Raise_call_subT (C:=C) (nm:=nm) (q:=q) (N:=N) (bs:=bs) (bm:=bm) (hdct:=hdct) (sn:=sn) (sub:=sub) (ab:=ab) (col:=col) (dd:=dd) (k0:=k0) (k1:=k1) (k2:=k2) (k3:=k3) (k5:=k5)
  PySem.F.excBase_ValueError (mN:=mN) (T.hasType PySem.F.excBase_ValueError.hasBase) (I.ok.hd hc) ?_ hni (f_ I hg hm ⟨rfl,?_⟩ hd)
 ·rw[he];show (false||(backTo cpos (aL es X.env)).any (·.1))=false;rw[hpl];rfl
 ·have ha':=ha cpos pins s σ H _ I h;rw[he]at ha' ⊢;exact Calls.evalArgs_plain (thn ha' λus s1 ⟨vs,H1,I1,r,z,q⟩=>⟨rfl,by rw[<-r.length];exact z,I1.bk _ _ hO,hN.keeps I1.bk,T.keeps I1.bk,λh' e' M=>hT pins σ H1 s1 h' e' _ _ I1 M q⟩)
end
structure dX(k:Nat)(A:aw):Prop where
 dp:A.depth+3 * k+5<recursionLimit
 un:A.units+16 * k+200<cLine
theorem cb.u{k:Nat}{A:aw}(r:cb k A):dX k A:=⟨r.dp,r.un⟩
theorem cb.mark{k:Nat}{A:aw}(r:cb k A)(v:Option ae):dX k (A.mark v):=⟨r.dp,r.un⟩
theorem dX.deeper{k:Nat}{A:aw}(r:dX (k+1) A)(env:Env):dX k (A.deeper env):=
 ⟨by have:=r.dp;show A.depth+1+3 * k+5<_;lia,by have:=r.un;show A.units+3+16 * k+200<_;lia⟩
structure hZ(P:av)(w:au)(K:aq)(mg:Str->Option ae)(base:Heap)(CX:CXT)(k:Nat)(f:Addr)(fd:bz)(ps:List Str)(sp:Sp):Prop where
 len:∀vs H Q E,sp vs H Q E->vs.length=ps.length
 run:∀(A:aw) (outer:List Env) (s:af) (H:Hp) (args:Args) (us:List ae) (vs:List V) (Q:VK) (E:XK),dX k A->fz P w K mg base A outer s H->BindsTo s fd args (ps.zip us)->Vals vs us->sp vs H Q E ->
  codeAny (aj P w) A (.call (.ref f) args) (CR CX outer P w H s Q E) s
section
variable{CX:CXT}{P:av}{w:au}{K:aq}{mg:Str->Option ae}{base:Heap}{k:Nat}{f:Addr}{fd:bz}{ps:List Str}{sp:Sp}
abbrev fA(CX:CXT)(P:av)(w:au)(K:aq)(mg:Str->Option ae)(base:Heap)(N:List Str)(qual:Str)(scope:aP)(f:Addr)(cd:ae)(A:aw)(outer:List Env)(s:af)(H:Hp)(E:XK):Cx:=
 {dC CX P w K mg base N qual scope f cd A outer s H E with calm:=false}
theorem Bm{N:List Str}{qual:Str}{scope:aP}{cd:ae}{A:aw}{outer:List Env}{s s1:af}{H:Hp}{E:XK}{us:List ae}{vs:List V}
  (S:fR N ps scope) (e0:fz P w K mg base A outer s H) (hl:vs.length=ps.length) (r:Vals vs us)
  (x:InCallC s s.heap.objs.size (bindL (envOfC qual scope s.heap.objs.size f cd).kindOf (ps.zip us) λ_=>none) (aX (s.heap.objs.size+1) scope.names []) (bindC (envOfC qual scope s.heap.objs.size f cd).kindOf (ps.zip us) λ_=>none) s1) :
  Inv (fA CX P w K mg base N qual scope f cd A outer s H E) [] (start N vs) H s1:=by
 have e1:fz P w K mg base {A with handled:=none} outer s H:=⟨e0.frames,e0.mod,e0.bs,e0.bsz,e0.funs,e0.frf,e0.hok,e0.bare⟩
 have I:=pX (CX:=CX) (E:=E) (qual:=qual) (A:={A with handled:=none}) (cd:=cd) (f:=f) S rfl e1 hl r x;exact⟨⟨I.ok.mod,I.ok.kind,I.ok.glob,I.ok.blt,I.ok.above,I.ok.inj,I.ok.has,I.ok.cab,λz=>absurd z bQ,aw.frames_deeper e0.frames,I.ok.stk,I.ok.exf,I.ok.bs,I.ok.bsz,I.ok.noex,I.ok.exfs,I.ok.funs,I.ok.frf⟩,
  I.os,I.bare,I.base,I.loc,I.cell,I.free,I.freeC,I.pin,I.hok,I.len⟩
theorem BI{name qual:Str}{params:Arguments}{body:List Stmt}{scope:aP}{dV kV doc pm cdv ct oc:ae}{an od:Option Addr}
  {osl:Array (Option ae)}{N:List Str} (lk:K.lookup f=some ⟨oc,od,.func (bS name qual params body scope dV kV doc pm an cdv ct),osl⟩) (hcd:PySem.W.codeIn K cdv qual=true) (S:fR N ps scope)
  (len:∀vs H Q E,sp vs H Q E->vs.length=ps.length)
  (hbody:∀(A:aw) (outer:List Env) (s:af) (H:Hp) (vs:List V) (Q:VK) (E:XK),dX k (A.deeper (envOfC qual scope s.heap.objs.size f cdv))->sp vs H Q E ->
   ∃t,PSs (fA CX P w K mg base N qual scope f cdv A outer s H E) body t/\t {nx:=λ_ H'=>Q .non H',rt:=Q} (start N vs) H) :
  hZ P w K mg base CX (k+1) f (bS name qual params body scope dV kV doc pm an cdv ct) ps sp:=by
 refine⟨len,λA outer s H args us vs Q E hr e0 hb r hsp=>?_⟩;have hl:=len _ _ _ _ hsp;have KX:K.In s.heap:=e0.mod.kin.keeps λb o e=>(e0.bs b o e).1
 have lim:s.heap.NoLimit:=e0.mod.nolimit.keeps λb o e=>(e0.bs b o e).1
 have hkind:∀y∈ps.zip us,scope.names.lookup y.1=some .local\/(scope.names.lookup y.1=some .cell/\((aX (s.heap.objs.size+1) scope.names []).lookup y.1).isSome=true):=λ⟨n,v⟩ hy=>by
  rcases S.par n (List.of_mem_zip hy).1 with q|q
  ·exact .inl q
  ·exact .inr ⟨q,PySem.W.cellsFrom_some _ _ _ (.inl q)⟩
 refine codeAny_call_function (by have:=hr.dp;lia) (KX _ _ lk) rfl S.co S.gen rfl (PySem.W.codeRec_of KX hcd) (hb _ _ _ _ ?_);refine wpAny_newFunctionEnv_cells S.kind hkind λenv he s1 x=>?_
 subst he;refine⟨lim.keeps x.toInCall.keep,codeAny_func ?_⟩;obtain⟨t,ht,hq⟩:=hbody A outer s H vs Q E (hr.deeper _) hsp;have I:Inv (fA CX P w K mg base N qual scope f cdv A outer s H E) [] (start N vs) H s1:=Bm S e0 hl r x;refine bI (ht [] s1 (start N vs) H _ I hq) (λfl s' hs=>?_) λe s' hs=>hs
 have fin:∀{σ':St}{H':Hp}{v:V}{u:ae},Inv (fA CX P w K mg base N qual scope f cdv A outer s H E) [] σ' H' s'->RelV v u->Q v H'->CE outer P w H s Q u s':=
  λ{σ' H' v u} J rv q=>⟨v,H',J.os,J.bare,J.base,J.hok,rv,q⟩
 cases fl with
 |ret u=>
  obtain⟨v,σ',H',J,rv,q⟩:=hs;exact fin J rv q
 |next=>
  obtain⟨σ',H',J,q⟩:=hs;exact fin (v:=V.non) (u:=ae.none) J rfl q
 |brk=>
  obtain⟨_,_,_,q⟩:=hs;exact aQ q
 |cont=>
  obtain⟨_,_,_,q⟩:=hs;exact aQ q
end
section
variable{X:Cx}{CX:CXT}{k:Nat}{f:Addr}{fd:bz}{ps:List Str}{sp:Sp}{dvs:List V}{ds:List ae}{E:XK}{x:Str}{p pos:Pos}{e:Expr}{es:List Expr}{t:TA}
theorem CH{pins:List (Addr×Obj)}{σ:St}{H:Hp}{s:af}{Q:VK}{us:List ae}{vs:List V}(F:hZ X.prog X.w X.K X.mg X.base CX k f fd ps sp)(hr:dX k X.A)(hb:Binds X.K fd ps ds)(hd:Vals dvs ds)(hx:Passes CX X E)
  (I:Inv X pins σ H s) (r:Vals vs us) (h:sp (vs++dvs) H Q E):ai (aj X.prog X.w) X.A (call (.ref f) us) (EP X pins σ Q) X.xe s:=by
 have r2:Vals (vs++dvs) (us++ds):=r.append hd;have hl:(us++ds).length=ps.length:=by rw[<-r2.length];exact F.len _ _ _ _ h
 refine wpAny_call (codeAny_mono (F.run X.A X.stack s H ⟨us,[]⟩ (us++ds) (vs++dvs) Q E hr I.env0 (hb s us I.kIn hl) r2 h) λr s' hq=>?_);cases r with
 |error e=>exact hx pins σ H s e s' I hq
 |ok fl=>
  cases fl with
  |ret u=>exact I.after hq
  |next=>exact aQ hq
  |brk=>exact aQ hq
  |cont=>exact aQ hq
theorem wZ(F:hZ X.prog X.w X.K X.mg X.base CX k f fd ps sp)(hr:dX k X.A)(hg:Gl X x)(hm:X.mg x=some (.ref f))(hk:cA X.K (.ref f)=true)(hb:Binds X.K fd ps ds)(hd:Vals dvs ds)(hx:Passes CX X E)
  (ha:PA X (e::es) t) (hdb:(x==("__debug__" : Str))=false:=by decide) (he:aL (e::es) X.env=(false,eval e X.env)::aL es X.env:=by rfl) (hpl:(backTo pos (aL es X.env)).any (·.1)=false:=by rfl) :
  PE X (.Call (.Name x p) (e::es) [] pos) (kc sp dvs E t):=by
 intro pins s σ H Q I h;refine wpAny_Call_Name_kw (f_ I hg hm ?_ hdb);refine PySem.W.callWith_K (h₀:=X.base) I.ok.mod.kin hk (thn (ha pos pins s σ H _ I h) λus s1 ⟨vs,H1,I1,r,q⟩=>⟨I1.kIn,?_⟩) he hpl;exact CH F hr hb hd hx I1 r q
end
noncomputable def gK(x:Addr)(cls:ae):HO:=.ext λh=>∃o vs,h.get? x=some o/\o.cls=cls/\o.data=.fields vs
abbrev Cx.held(X:Cx)(x:Addr):Cx:={X with A:=X.A.mark (some (.ref x)),calm:=false,xe:=λ_ _=>False}
section
variable{X:Cx}{pins:List (Addr×Obj)}{σ:St}{H:Hp}{s:af}
theorem Inv.hold(I:Inv X pins σ H s)(x:Addr):Inv (X.held x) pins σ H s:=
 ⟨⟨I.ok.mod,I.ok.kind,I.ok.glob,I.ok.blt,I.ok.above,I.ok.inj,I.ok.has,I.ok.cab,λz=>absurd z bQ,I.ok.frames,I.ok.stk,I.ok.exf,I.ok.bs,I.ok.bsz,I.ok.noex,I.ok.exfs,I.ok.funs,I.ok.frf⟩,
  I.os,I.bare,I.base,I.loc,I.cell,I.free,I.freeC,I.pin,I.hok,I.len⟩
theorem Inv.unhold{x:Addr}(ok:X.Ok)(I:Inv (X.held x) pins σ H s):Inv X pins σ H s:=⟨ok,I.os,I.bare,I.base,I.loc,I.cell,I.free,I.freeC,I.pin,I.hok,I.len⟩
theorem Inv.track(I:Inv X pins σ H s){x:Addr}{o:HO}(hex:X.ex=[])(a:Apart X pins H x)(hl:x≠X.env.locals)(hc:∀y c,X.env.cells.lookup y=some c->c≠x)(ok:zC X.prog X.w (upd H x o) s.heap x o):Inv X pins σ (upd H x o) s:=by
 have nx:∀b u,H b=some u->b≠x:=λb u e z=>by rw[z,a.free]at e;cases e
 refine⟨I.ok,I.os,I.bare,⟨I.base.keep,I.base.slot,λb ob e n h=>?_,I.base.there,λb xs e=>?_,λb ob u e=>?_,λb ps e=>?_⟩,I.loc,I.cell,?_,λy c e=>?_,λp hp=>?_,λb u e=>?_,I.len⟩
 ·rw[qg (λz=>by rw[z,a.new]at e;cases e)];exact I.base.free b ob e n h
 ·have:=I.base.tups b xs e;rw[qg (nx b _ this)];exact this
 ·have:=I.base.frzs b ob u e;rw[qg (nx b _ this)];exact this
 ·obtain⟨more,q⟩:=I.base.tbls b ps e;exact⟨more,by rw[qg (nx b _ q)];exact q⟩
 ·rw[qg (Ne.symm hl)];exact I.free
 ·rw[qg (hc y c e)];exact I.freeC y c e
 ·obtain⟨e,n,r⟩:=I.pin p hp;exact⟨e,by rw[qg (a.pin p hp)];exact n,r⟩
 ·by_cases hb:b=x
  ·subst hb;rw[zx]at e;cases e;exact ok
  ·rw[qg hb]at e;refine(I.hok b u e).stay (λc v _ q=>q) (λc q=>?_) λc xs q=>?_
   ·rw[qg (nx c _ q)];exact q
   ·rw[qg (nx c _ q)];exact q
theorem Inv.forget{h':Heap}{m':Str->Option ae}{t':Nat}(I:Inv X pins σ H s)(hn:h'.Ns X.env.locals m')(hs:Heap.SameBut X.env.locals s.heap h'):Inv X pins (σ.map λ_=>none) H {s with heap:=h',toks:=t'}:=by
 have up:∀b o,X.s₀.heap.get? b=some o->b≠X.env.locals:=λb o e=>aV (a_ (aH e) I.ok.above)
 refine⟨I.ok,I.os,I.bare,⟨λb o e n hb hx=>?_,λb o e n hb hx=>?_,I.base.free,λb o e hx=>?_,I.base.tups,I.base.frzs,I.base.tbls⟩,⟨m',hn,λj y v' e1 e2 e3=>?_⟩,λy c e=>?_,I.free,I.freeC,λp hp=>?_,λb ob e=>?_,by simpa using I.len⟩
 ·exact(hs.2 b (up b o e)).trans (I.base.keep b o e n hb hx)
 ·obtain⟨sl,e1⟩:=I.base.slot b o e n hb hx;exact⟨sl,(hs.2 b (up b o e)).trans e1⟩
 ·obtain⟨o',e1⟩:=I.base.there b o e hx;exact⟨o',(hs.2 b (up b o e)).trans e1⟩
 ·rw[List.getElem?_map]at e2;cases q:σ[j]? with
  |none=>rw[q]at e2;cases e2
  |some z=>rw[q]at e2;cases e2
 ·obtain⟨w',z⟩:=I.cell y c e;exact⟨w',z.sameBut hs (I.cne y c e)⟩
 ·obtain⟨e,n,ne,nf,d⟩:=I.pin p hp;exact⟨(hs.2 p.1 ne).trans e,n,ne,nf,d⟩
 ·refine(I.hok b ob e).stay (λc w' hc q=>(hs.2 c ?_).trans q) (λ_ q=>q) λ_ _ q=>q
  rintro rfl;rcases hc with rfl|hc
  ·rw[I.free]at e;cases e
  ·rw[I.free]at hc;cases hc
end
noncomputable def wK(i:Nat)(K:aq)(C:Addr)(n:Nat)(tb:TS)(Eh:XK)(ts:TS):TS:=λD σ H=>tb {D with nx:=D.nx} σ H /\
 ∀(τ:St) (cls:ae) (H':Hp) (x:Addr),τ.length=n->Eh cls none H'->H' x=none->bO K cls (.ref C)=some true /\
  ts {nx:=λ_ _=>False,rt:=D.rt} (τ.set i (some (.ref x))) (upd H' x (gK x cls))
abbrev Cx.inTry(X:Cx)(pn:List (Addr×Obj))(Et:ae->af->Prop):Cx:={X with pn:=pn,xe:=Et}
theorem Di{X:Cx}{i:Nat}{C:Addr}{cn n:Str}{np hpos pos:Pos}{body:List Stmt}{b₀:Stmt}{suite:List Stmt}{tb ts:TS}{Eh:XK}(hex:X.ex=[])(hst:X.stack=X.env::X.outer)(hfr:X.env.frame=some X.env.locals)
  (hN:X.N.Nodup) (hi:X.N[i]? = some n) (hl:X.env.scope.names.lookup n=some .local) (hg:Gl X cn) (hm:X.mg cn=some (.ref C))
  (hb:∀pn Et,Passes (CX1 X.prog X.w) (X.inTry pn Et) Eh->PSs (X.inTry pn Et) body tb) (hs:∀x,PSs (X.held x) (b₀::suite) ts) (hd:(cn==("__debug__" : Str))=false:=by decide) :
  PS X (.Try body [.ExceptHandler (some (.Name cn np)) (some n) (b₀::suite) hpos] [] [] pos) (wK i X.K C X.N.length tb Eh ts):=by
 intro pins s σ H D I h;obtain⟨h1,h2⟩:=h;refine wpAny_Try_except ?_;have okT:∀Et,(X.inTry (X.pn++pins) Et).Ok:=λEt=>
  ⟨I.ok.mod,I.ok.kind,I.ok.glob,I.ok.blt,I.ok.above,I.ok.inj,I.ok.has,I.ok.cab,I.ok.hd,I.ok.frames,I.ok.stk,I.ok.exf,I.ok.bs,I.ok.bsz,I.ok.noex,I.ok.exfs,I.ok.funs,I.ok.frf⟩
 have toT:∀{Et σ H s},Inv X pins σ H s->Inv (X.inTry (X.pn++pins) Et) [] σ H s:=λ{Et σ H s} J=>
  ⟨okT Et,J.os,J.bare,J.base,J.loc,J.cell,J.free,J.freeC,λp hp=>J.pin p (by simpa using hp),J.hok,J.len⟩
 have ofT:∀{Et pins' σ H s},Inv (X.inTry (X.pn++pins) Et) pins' σ H s->Inv X pins σ H s:=λ{Et pins' σ H s} J=>
  ⟨I.ok,J.os,J.bare,J.base,J.loc,J.cell,J.free,J.freeC,λp hp=>J.pin p (List.mem_append_left _ hp),J.hok,J.len⟩
 have hcls:(X.env.scope.kind==.class||(X.env.scope.kind==.module&&X.env.locals != X.env.globals))=false:=by rw[I.ok.kind];rfl
 have hP:Passes (CX1 X.prog X.w) (X.inTry (X.pn++pins) λe s₁=>ai (aj X.prog X.w) X.A (noteFrame e X.env) (λ_ s₂=>ai (aj X.prog X.w) X.A (setFlight e none) (λ_ s₃=>
   ai (aj X.prog X.w) X.A (handleBy e X.env [.ExceptHandler (some (.Name cn np)) (some n) (b₀::suite) hpos]) (SP X pins D) X.xe s₃) X.xe s₂) X.xe s₁) Eh:=by
  intro pins' σ' H' s' e s'' I' hcx;obtain⟨x,cls,H2,rfl,I2,F2,q⟩:=i8 (X:=X.inTry (X.pn++pins) _) rfl rfl I' hex hcx;have I3:Inv X pins σ' H2 s'':=ofT I2;have ap:∀{Et b},Apart (X.inTry (X.pn++pins) Et) pins' H2 b->Apart X pins H2 b:=λ{Et b} a=>⟨a.new,a.free,λp hp=>a.pin p (List.mem_append_left _ hp)⟩
  have F3:bX X pins H2 s''.heap x cls:=by
   obtain⟨oe,vs,T,oT,ts,a0,e1,e2,e3,e4,e5,e6,e7,e8,e9,e10⟩:=F2.tr;exact⟨ap F2.me,oe,vs,T,oT,ts,a0,e1,e2,e3,e4,e5,e6,e7,e8,e9,ap e10⟩
  obtain⟨oe,vs,_,_,_,_,e1,_,_,e4,_⟩:=id F3.tr;obtain⟨T,oT,tts,a0,W,hT,hTd,aT⟩:=bX.flying I3 F3;have hfrm:=I.ok.frames;rw[hst]at hfrm W;refine wpAny_looks_onW hfrm hfr W λh4 W4 u4=>?_
  refine wpAny_landsW W4 λh5 W5 u5=>?_
  rw[<-hst]at W5;obtain⟨I5,F5⟩:=bX.back I3 hex F3.me e1 e4 hT hTd aT W5 (u4.trans u5);obtain⟨oe5,vs5,T5,oT5,ts5,a5,g1,g2,g3,g4,g5,g6,g7,g8,g9,g10⟩:=id F5.tr;obtain⟨hx1,hx2⟩:=h2 σ' cls H2 x I3.len q F3.me.free;have LT:PySem.W.Looks (aj X.prog X.w) h5 (typeOf (.ref x)) cls:=by
   subst g2;exact(PySem.W.Looks.ld g1).andThen .now
  refine wpAny_handleBy_cons (codeAny_handlers_test (f_ (I5.hold x) hg hm ?_ hd)) (by intro z;cases z);refine PySem.W.exm_one (K:=X.K) I5.kIn LT hx1 _ _ _ _ (λ_ _ e=>e) ?_;refine codeAny_handlers_suite_as ?_;obtain⟨T6,oT6,ts6,a6,W6,hT6,hTd6,aT6⟩:=bX.flying I5 F5;refine lands_againW W6 λh6 W6' u6=>?_
  obtain⟨I6,F6⟩:=bX.back I5 hex F5.me g1 g4 hT6 hTd6 aT6 W6' u6;obtain⟨oe6,vs6,_,_,_,_,k1,k2,_,k4,_⟩:=id F6.tr;obtain⟨n1,n2,n3,n4⟩:=I6.rec_ne k1 k4;have I7:=I6.track (o:=gK x cls) hex F6.me n1 n2 ⟨⟨oe6,vs6,k1,k2,k4⟩,⟨oe6,k1⟩,λha hb ⟨o,ws,z1,z2,z3⟩ kk=>⟨o,ws,kk o z1,z2,z3⟩⟩;refine lC (X:=X.held x) (v:=.ref x) (I7.hold x) hN hi (.inl hl) rfl (λs8 I8=>?_) (.inr hl);refine bI (hs x pins s8 _ _ _ I8 hx2) (λf s9 r9=>?_) λ_ _ z=>aQ z
  cases f with
  |ret u=>
   obtain⟨v,σ9,H9,I9,rv,q9⟩:=r9;have I9':=I9.unhold I.ok;obtain⟨m,hn,_⟩:=I9'.loc;exact wpAny_nameGoes hl hn hcls λh' m' hn' hs'=>⟨v,_,H9,I9'.forget hn' hs',rv,q9⟩
  |next=>obtain⟨_,_,_,z⟩:=r9;exact aQ z
  |brk=>obtain⟨_,_,_,z⟩:=r9;exact aQ z
  |cont=>obtain⟨_,_,_,z⟩:=r9;exact aQ z
 refine thn (hb _ _ hP [] s σ H _ (toT I) h1) λf s1 q=>?_
 cases f with
 |next=>obtain⟨σ1,H1,I1,q1⟩:=q;exact wpAny_execs_nil ⟨σ1,H1,ofT I1,q1⟩
 |brk=>obtain⟨σ1,H1,I1,q1⟩:=q;exact⟨σ1,H1,ofT I1,q1⟩
 |cont=>obtain⟨σ1,H1,I1,q1⟩:=q;exact⟨σ1,H1,ofT I1,q1⟩
 |ret u=>obtain⟨v,σ1,H1,I1,rv,q1⟩:=q;exact⟨v,σ1,H1,ofT I1,rv,q1⟩
end L2
namespace L2
open PySem PySem.Spec PyProof.Rows PySem.W PySem.Calls Builtin Builtin.ObjectAttr Builtin.Getset_descriptor
structure cV(K:Frag)(C:Addr):Prop where
 ga:findIn K (.ref C) "__getattribute__" = some (some (.builtin "BaseException.__getattribute__"))
 gt:findIn K (.ref C) "__getattr__" = some none
 gc:findIn K (.ref C) "__class__" = some (some (.builtin "object.__class__"))
 mb:mroIn K C (.type "BaseException")=some true
 mo:mroIn K C (.type "object")=some true
 cl:∃c dd cd sl,K.lookup C=some ⟨c,dd,.cls cd,sl⟩
section
variable{prog:av}{w:au}{A:aw}{E:ae->af->Prop}{h:Heap}{g:Array GenState}{d:Drawn}{t:Nat}{os:OsState}{x C:Addr}{K:Frag}
theorem Ea{R:Result->af->Prop}{tp:ae}(Z:K.In h)(S:cV K C)(L0:Looks (aj prog w) h (typeOf (.ref x)) (.ref C))(hx:∃o,h.get? x=some o/\o.cls=.ref C)(hq:R (.ok (.ret (.ref C))) ⟨h,g,d,t,os⟩) :
  codeAny (aj prog w) A (.call (.builtin "getset_descriptor.__get__") ⟨[.builtin "object.__class__",.ref x,tp],[]⟩) R ⟨h,g,d,t,os⟩:=by
 have L1:=looks_mroIn (M:=aj prog w) Z S.mo;obtain⟨o,ho,hc⟩:=hx;refine codeAny_call_builtin KF.slot_gs.plain KF.entry_gs (KF.slot_gs.check _ _ _ _ _ _ _ _ KF.type_class (KF.args_gs _ _ _) ?_);unfold Builtin.«getset_descriptor.__get__» descrGet;rw[dga_obj];refine ah (ax ?_);unfold descrGetter descrCheckInstance descrNameAndClass isInstance;simp only[KF.owner_class]
 repeat lk
 refine⟨Code.quiet_builtin _ (by decide +kernel),codeAny_builtin KF.entry_class ?_⟩;unfold Builtin.«object.__class__» shownTypeOf
 repeat lk
 exact hq
theorem tF{M:Model}{nameV:ae}{Q:Unit->af->Prop}(Z:K.In h)(S:cV K C)(L0:Looks M h (typeOf (.ref x)) (.ref C))(hq:Q () ⟨h,g,d,t,os⟩) :
  ai M A (checkBuiltinCall "BaseException.__getattribute__" ⟨[.ref x,nameV],[]⟩) Q E ⟨h,g,d,t,os⟩:=by
 have hk:builtinKind "BaseException.__getattribute__" = some .slot:=by decide +kernel
 have hsplit:splitId "BaseException.__getattribute__" = some ("BaseException","__getattribute__"):=by decide +kernel
 have L1:=looks_mroIn (M:=M) Z S.mb;have ha:=F.args_bexc_ga (.ref x) nameV;simp only[checkBuiltinCall,hk,hsplit];refine ah ?_;unfold isInstance
 repeat (first|assumption|lk|wp_step)
theorem A7{tk:Tok}{Q:Fin->af->Prop}(Z:K.In h)(S:cV K C)(L0:Looks (aj prog w) h (typeOf (.ref x)) (.ref C))(hx:∃o,h.get? x=some o/\o.cls=.ref C)(hq:Q (.done (.ret (.ref C))) ⟨h,g,d,t,os⟩) :
  ai (aj prog w) A (Builtin.«object.__getattribute__» ⟨[.ref x,.str "__class__" tk],[]⟩) Q E ⟨h,g,d,t,os⟩:=by
 have hT5:(⟨h,g,d,t,os⟩:af).TypeIs (.builtin "object.__class__") "getset_descriptor":=F.typeOf_object_class;have L2:=looks_findIn (M:=aj prog w) Z S.gc;have f5:=F.typeOf_object_class;have f6:=F.slot_gs_get.lookup;have f7:=F.slot_gs_set.lookup
 repeat (any_goals (first|assumption|with_reducible refine L0.at ?_|with_reducible refine ah (L0.at ?_)|with_reducible refine L2.at ?_|with_reducible refine ah (L2.at ?_)|wp_step))
 refine Ea Z S L0 hx ?_
 repeat (any_goals (first|assumption|wp_step))
theorem uW{tk:Tok}{Q:ae->af->Prop}(Z:K.In h)(S:cV K C)(L0:Looks (aj prog w) h (typeOf (.ref x)) (.ref C))(hx:∃o,h.get? x=some o/\o.cls=.ref C)(hq:Q (.ref C) ⟨h,g,d,t,os⟩) :
  ai (aj prog w) A (getAttrBy (.ref x) (.str "__class__" tk) false) Q E ⟨h,g,d,t,os⟩:=by
 have f3:=F.attr_ValueError.ga.bind (.ref x);have hx2:(ae.builtin "BaseException.__getattribute__" == ae.builtin "object.__getattribute__")=false:=by decide +kernel
 have hx1:(onTheHeap (aU C)&&ae.builtin "BaseException.__getattribute__" == ae.builtin "object.__getattribute__")=false:=by rw[hx2];rfl
 have L2:=looks_findIn (M:=aj prog w) Z S.ga;have L3:=looks_findIn (M:=aj prog w) Z S.gt
 repeat (any_goals (first|assumption|with_reducible refine L0.at ?_|with_reducible refine ah (L0.at ?_)|with_reducible refine L2.at ?_|with_reducible refine ah (L2.at ?_)|with_reducible refine L3.at ?_|with_reducible refine ah (L3.at ?_)|wp_step))
 refine codeAny_call_builtin F.attr_ValueError.ga.plain F.entry_bexc_ga (tF Z S L0 (A7 Z S L0 hx ?_))
 repeat (any_goals (first|assumption|wp_step))
theorem tm{Q:Option ae->af->Prop}(Z:K.In h)(S:cV K C)(L0:Looks (aj prog w) h (typeOf (.ref x)) (.ref C))(hx:∃o,h.get? x=some o/\o.cls=.ref C)(hq:Q (some (.ref C)) ⟨h,g,d,t+1,os⟩) :
  ai (aj prog w) A (getAttr? (.ref x) "__class__") Q E ⟨h,g,d,t,os⟩:=by
 unfold getAttr? getAttrBy?
 repeat (any_goals (first|assumption|with_reducible apply uW Z S L0 hx|wp_step))
end
end L2
namespace L2
open PySem PySem.Spec PyProof.Rows
structure gM(prog:av)(w:au)(xs:Array ae)(i l:Addr)(P:Nat->Heap->Prop):Prop where
 fr:∀k h h',P k h->(∀o,h.get? i=some o->h'.get? i=some o)->(∀o,h.get? l=some o->h'.get? l=some o)->P k h'
 nx:∀{A:aw} (k:Nat) (x:ae) (s:af) (Q:ae->af->Prop) (E:ae->af->Prop),P k s.heap->xs[k]? = some x->(∀h',P (k+1) h'->Heap.SameBut i s.heap h'->Q x {s with heap:=h'})->ai (aj prog w) A (cK (.ref i)) Q E s
 en:∀{A:aw} (k:Nat) (s:af) (Q:ae->af->Prop) (E:ae->af->Prop),A.handled=none->P k s.heap->xs[k]? = none ->
  (∀h' e,Heap.ExtBut i s.heap h'->(∃o,h'.get? e=some o/\o.cls=.type "StopIteration")->E (.ref e) {s with heap:=h'})->ai (aj prog w) A (cK (.ref i)) Q E s
 at_:∀k h,P k h->∃o,h.get? i=some o/\∃vs,o.data=.fields vs
theorem Bg{prog:av}{w:au}{xs:Array ae}{i l:Addr}:gM prog w xs i l (λk h=>h.IsListIter i l k/\h.IsList l xs) where
 fr:=λ_ _ _ ⟨a,b⟩ p q=>⟨a.at p,b.at q⟩
 nx:=λk x s Q E ⟨a,b⟩ hx hQ=>wpAny_nextOf_list_item a b hx λh' a' sb=>hQ h' ⟨a',b.at λo e=>(sb.2 l (λz=>by
  obtain⟨_,e1,e2,_⟩:=a;obtain⟨_,f1,f2,_⟩:=b;rw[z,e1]at f1;have e3:=bA f1;rw[<-e3,e2]at f2;exact absurd f2 (by decide))).trans e⟩ sb
 en:=λk s Q E hh ⟨a,b⟩ hx hE=>wpAny_nextOf_list_end hh a b hx hE
 at_:=λ_ _ ⟨⟨o,e,_,d⟩,_⟩=>⟨o,e,_,d⟩
section
variable{prog:av}{w:au}{A:aw}{E:ae->af->Prop}{s:af}
theorem wg{it l:Addr}{i:Nat}{items}{x:ae}{Q:ae->af->Prop}(hit:s.heap.IsTupleIter it l i)(hl:s.heap.IsTuple l items)(hx:items[i]? = some x)
  (hQ:∀h',h'.IsTupleIter it l (i+1)->Heap.SameBut it s.heap h'->Q x {s with heap:=h'}):ai (aj prog w) A (cK (.ref it)) Q E s:=by
 obtain⟨oi,gi,ci,di⟩:=id hit;obtain⟨ol,gl,_,nl,dl⟩:=hl;unfold cK;refine ah (wpAny_callSpecial?_slot (name:=ag "__next__") hit.typeIs F.slot_tuple_iterator_next (cL F.slot_tuple_iterator_next hit.typeIs F.entry_tuple_iterator_next ?_ (F.args_tuple_iterator_next_1 _)));show ai (aj prog w) _ (field (.ref it) 0>>=_) _ _ s;refine ah (bC gi di (x:=.ref l) rfl ?_);show ai (aj prog w) _ (if (aU l==ae.none)=true then _ else _) _ _ s;rw[if_neg (show ¬ ((aU l==.none)=true)from bQ)];show ai (aj prog w) _ (field (.ref it) 1>>=_) _ _ s;refine ah (bC gi di (x:=.int i 0) rfl ?_);show ai (aj prog w) _ (seqItems? (.ref l)>>=_) _ _ s;refine ah (wpAny_seqItems gl dl ?_);simp only[Int.toNat_natCast,hx];refine ah (wpAny_setField gi di (by simp) (ax ⟨x,rfl,ax (hQ _ ?_ (Heap.SameBut.update ..))⟩));exact⟨_,Heap.get?_update_self _ gi (Obj.isFreed_of_fields (Obj.data_mapFields di _)),(Obj.cls_mapFields ..).trans ci,by rw[Obj.data_mapFields di];simp[rawInt]⟩
theorem yJ{it l:Addr}{i:Nat}{items}{Q:ae->af->Prop}(hh:A.handled=none)(hit:s.heap.IsTupleIter it l i)(hl:s.heap.IsTuple l items)(hx:items[i]? = none)
  (hE:∀h' e,Heap.ExtBut it s.heap h'->(∃o,h'.get? e=some o/\o.cls=.type "StopIteration")->E (.ref e) {s with heap:=h'}):ai (aj prog w) A (cK (.ref it)) Q E s:=by
 obtain⟨oi,gi,ci,di⟩:=id hit;obtain⟨ol,gl,_,nl,dl⟩:=hl;unfold cK;refine ah (wpAny_callSpecial?_slot (name:=ag "__next__") hit.typeIs F.slot_tuple_iterator_next (cL F.slot_tuple_iterator_next hit.typeIs F.entry_tuple_iterator_next ?_ (F.args_tuple_iterator_next_1 _)));show ai (aj prog w) _ (field (.ref it) 0>>=_) _ _ s;refine ah (bC gi di (x:=.ref l) rfl ?_);show ai (aj prog w) _ (if (aU l==ae.none)=true then _ else _) _ _ s;rw[if_neg (show ¬ ((aU l==.none)=true)from bQ)];show ai (aj prog w) _ (field (.ref it) 1>>=_) _ _ s;refine ah (bC gi di (x:=.int i 0) rfl ?_);show ai (aj prog w) _ (seqItems? (.ref l)>>=_) _ _ s;refine ah (wpAny_seqItems gl dl ?_);simp only[Int.toNat_natCast,hx];refine ah (wpAny_rule (ah (wpAny_setField gi di (by simp) ?_)));show ai (aj prog w) _ (newExc (.type "StopIteration") []>>=_) _ _ _;refine ah ?_;simp only[newExc,newTuple];refine ah (cY ?_ (by size_fits));refine ah (m:=firstArgMember _ _) (wpAny_of_eq (a:=ae.none) (by first|rfl|(simp only[firstArgMember];rfl)) ?_);refine cY ?_ (by size_fits);simp only[raiseNew];refine ah (wpAny_handled ?_)
 first|rw[show A.in1.handled=none from hh]|rw[hh]
 refine ah (ax (wpAny_throw ?_));exact hE _ _ (((Heap.SameBut.update ..).extBut.push _).push _) ⟨_,Heap.get?_push_size _ rfl,rfl⟩
end
theorem CO{prog:av}{w:au}{xs:Array ae}{i l:Addr}:gM prog w xs i l (λk h=>h.IsTupleIter i l k/\h.IsTuple l xs) where
 fr:=λ_ _ _ ⟨a,b⟩ p q=>⟨a.at p,let ⟨o,e,r⟩:=b;⟨o,q o e,r⟩⟩
 nx:=λk x s Q E ⟨a,b⟩ hx hQ=>wg a b hx λh' a' sb=>hQ h' ⟨a',b.extBut sb.extBut (λz=>by
  obtain⟨_,e1,e2,_⟩:=a;obtain⟨_,f1,f2,_⟩:=b;rw[z,e1]at f1;have e3:=bA f1;rw[<-e3,e2]at f2;exact absurd f2 (by decide))⟩ sb
 en:=λk s Q E hh ⟨a,b⟩ hx hE=>yJ hh a b hx hE
 at_:=λ_ _ ⟨⟨o,e,_,d⟩,_⟩=>⟨o,e,_,d⟩
section
variable{prog:av}{w:au}{A:aw}{E:ae->af->Prop}{s:af}{z TI TO i1 i2 l1 l2:Addr}{k:Nat}{xs ys:Array ae}{P1 P2:Nat->Heap->Prop}
structure Em(z TI TO i1 i2 l1 l2:Addr):Prop where
 d:ZipApart z TI TO i1 i2 l1 l2
theorem DS{x y a b:ae}{Q:ae->af->Prop}(D:ZipApart z TI TO i1 i2 l1 l2)(S1:gM prog w xs i1 l1 P1)(S2:gM prog w ys i2 l2 P2)
  (hz:IsZip s.heap z TI TO .none) (hTI:IsPair s.heap TI (.ref i1) (.ref i2)) (hTO:IsPair s.heap TO a b) (h1:P1 k s.heap) (h2:P2 k s.heap) (hx:xs[k]? = some x) (hy:ys[k]? = some y)
  (hQ:∀h',IsZip h' z TI TO (rawInt s.heap.objs.size)->IsPair h' TO x y->P1 (k+1) h'->P2 (k+1) h'->IsPair h' s.heap.objs.size x y->h'.objs.size=s.heap.objs.size+1 ->
   (∀c o,c≠z->c≠TO->c≠i1->c≠i2->s.heap.get? c=some o->h'.get? c=some o)->Q (.ref s.heap.objs.size) {s with heap:=h'}) :
  ai (aj prog w) A (Builtin.«zip.__next__» ⟨[.ref z],[]⟩) (λfin s'=>∃v,fin=.done (.ret v)/\Q v s') E s:=by
 show ai (aj prog w) _ (field (.ref z) 2>>=_) _ _ _;refine ah (bC hz rfl (x:=.bool false) rfl ?_);show ai (aj prog w) _ (field (.ref z) 3>>=_) _ _ _;refine ah (bC hz rfl (x:=.ref TI) rfl ?_);refine ah (wpAny_seqItems hTI rfl ?_);show ai (aj prog w) _ (Builtin.SmallTypes.ownedTupleIsFree (.ref z)>>=_) _ _ _;refine ah ?_;unfold Builtin.SmallTypes.ownedTupleIsFree;refine ah (bC hz rfl (x:=.none) rfl (ax ?_));simp only[if_true];refine ah (wpAny_rule ?_);refine ah (bC hz rfl (x:=.ref TO) rfl ?_);refine ah (wpAny_setField_rec hz (by simp) λj1 zj1 sj1=>?_)
 replace zj1:IsZip j1 z TI TO .ellipsis:=zj1
 refine ah ?_;simp only[List.zipIdx_cons,List.zipIdx_nil,List.forIn_cons,List.forIn_nil];refine ah (ah (wpAny_onRaise ?_));show ai (aj prog w) _ (cK (.ref i1)>>=_) _ _ _;refine ah (S1.nx k x _ _ _ (S1.fr k _ _ h1 (λo e=>sj1.extBut _ o D.i1z e) λo e=>sj1.extBut _ o D.l1z e) hx λj2 pj2 sj2=>ax ?_);have oj2:IsPair j2 TO a b:=sj2.extBut _ _ D.TOi1 (sj1.extBut _ _ D.TOz hTO);refine ah (wpAny_seqItems oj2 rfl ?_);refine ah (wpAny_updateSeq_pair oj2 λj3 oj3 sj3=>?_)
 replace oj3:IsPair j3 TO x b:=oj3
 refine ah (wpAny_letGo (ax ?_));refine ah (ah (wpAny_onRaise ?_));show ai (aj prog w) _ (cK (.ref i2)>>=_) _ _ _;refine ah (S2.nx k y _ _ _ (S2.fr k _ _ h2 (λo e=>sj3.extBut _ o D.TOi2.symm (sj2.extBut _ o D.i12.symm (sj1.extBut _ o D.i2z e))) λo e=>sj3.extBut _ o D.l2TO (sj2.extBut _ o D.l2i1 (sj1.extBut _ o D.l2z e))) hy λj4 pj4 sj4=>ax ?_);have oj4:IsPair j4 TO x b:=sj4.extBut _ _ D.TOi2 oj3;refine ah (wpAny_seqItems oj4 rfl ?_);refine ah (wpAny_updateSeq_pair oj4 λj5 oj5 sj5=>?_)
 replace oj5:IsPair j5 TO x y:=oj5
 refine ah (wpAny_letGo (ax (ax ?_)));refine ah (wpAny_seqItems oj5 rfl ?_);refine ah (wpAny_newTuple ?_);have hsz:j5.objs.size=s.heap.objs.size:=by rw[sj5.1,sj4.1,sj3.1,sj2.1,sj1.1]
 have zj5:IsZip j5 z TI TO .ellipsis:=sj5.extBut _ _ D.TOz.symm (sj4.extBut _ _ D.i2z.symm (sj3.extBut _ _ D.TOz.symm (sj2.extBut _ _ D.i1z.symm zj1)));have kj5:∀c o,c≠z->c≠TO->c≠i1->c≠i2->s.heap.get? c=some o->j5.get? c=some o:=λc o c1 c2 c3 c4 e=>
  sj5.extBut _ _ c2 (sj4.extBut _ _ c4 (sj3.extBut _ _ c2 (sj2.extBut _ _ c3 (sj1.extBut _ _ c1 e))))
 have p15:P1 (k+1) j5:=S1.fr _ _ _ pj2 (λo e=>sj5.extBut _ o D.TOi1.symm (sj4.extBut _ o D.i12 (sj3.extBut _ o D.TOi1.symm e))) λo e=>sj5.extBut _ o D.l1TO (sj4.extBut _ o D.l1i2 (sj3.extBut _ o D.l1TO e))
 have p25:P2 (k+1) j5:=S2.fr _ _ _ pj4 (λo e=>sj5.extBut _ o D.TOi2.symm e) λo e=>sj5.extBut _ o D.l2TO e
 have hzlt:z<j5.objs.size:=aH zj5;show ai (aj prog w) _ (Builtin.SmallTypes.ownedTupleHandOut (.ref z) (.ref j5.objs.size)>>=_) _ _ _;refine ah ?_;unfold Builtin.SmallTypes.ownedTupleHandOut;have zj6:IsZip (j5.push {cls:=.type "tuple",data:=.seq #[x,y]}) z TI TO .ellipsis:=Heap.get?_push_of_some _ zj5;refine ah (wpAny_setField_rec zj6 (by simp) λj7 zj7 sj7=>?_)
 replace zj7:IsZip j7 z TI TO (rawInt j5.objs.size):=zj7
 refine wpAny_setField_rec zj7 (by simp) λj8 zj8 sj8=>?_
 replace zj8:IsZip j8 z TI TO (rawInt j5.objs.size):=zj8
 have up:∀c o,c≠z->j5.get? c=some o->j8.get? c=some o:=λc o c1 e=>sj8.extBut _ _ c1 (sj7.extBut _ _ c1 (Heap.get?_push_of_some _ e))
 have tj8:IsPair j8 j5.objs.size x y:=sj8.extBut _ _ (Nat.ne_of_gt hzlt) (sj7.extBut _ _ (Nat.ne_of_gt hzlt) (Heap.get?_push_size _ rfl));have hz8:j8.objs.size=j5.objs.size+1:=by rw[sj8.1,sj7.1,b6]
 rw[hsz]at zj8 tj8 hz8;refine ax ⟨_,rfl,?_⟩;show Q (.ref j5.objs.size) _;rw[hsz];exact hQ j8 zj8 (up _ _ D.TOz oj5) (S1.fr _ _ _ p15 (λo e=>up _ o D.i1z e) λo e=>up _ o D.l1z e) (S2.fr _ _ _ p25 (λo e=>up _ o D.i2z e) λo e=>up _ o D.l2z e) tj8 hz8 λc o c1 c2 c3 c4 e=>up c o c1 (kj5 c o c1 c2 c3 c4 e)
theorem vq{a b:ae}{Q:PySem.Fin->af->Prop}(hh:A.handled=none)(D:ZipApart z TI TO i1 i2 l1 l2)(S1:gM prog w xs i1 l1 P1)
  (hz:IsZip s.heap z TI TO .none) (hTI:IsPair s.heap TI (.ref i1) (.ref i2)) (hTO:IsPair s.heap TO a b) (h1:P1 k s.heap) (hx:xs[k]? = none)
  (hE:∀h' e,(∀c o,c≠z->c≠TO->c≠i1->c≠i2->s.heap.get? c=some o->h'.get? c=some o)->(∃o,h'.get? e=some o/\o.cls=.type "StopIteration")->E (.ref e) {s with heap:=h'}) :
  ai (aj prog w) A (Builtin.«zip.__next__» ⟨[.ref z],[]⟩) Q E s:=by
 show ai (aj prog w) _ (field (.ref z) 2>>=_) _ _ _;refine ah (bC hz rfl (x:=.bool false) rfl ?_);show ai (aj prog w) _ (field (.ref z) 3>>=_) _ _ _;refine ah (bC hz rfl (x:=.ref TI) rfl ?_);refine ah (wpAny_seqItems hTI rfl ?_);show ai (aj prog w) _ (Builtin.SmallTypes.ownedTupleIsFree (.ref z)>>=_) _ _ _;refine ah ?_;unfold Builtin.SmallTypes.ownedTupleIsFree;refine ah (bC hz rfl (x:=.none) rfl (ax ?_));simp only[if_true];refine ah (wpAny_rule ?_);refine ah (bC hz rfl (x:=.ref TO) rfl ?_);refine ah (wpAny_setField_rec hz (by simp) λj1 zj1 sj1=>?_)
 replace zj1:IsZip j1 z TI TO .ellipsis:=zj1
 refine ah ?_;simp only[List.zipIdx_cons,List.zipIdx_nil,List.forIn_cons,List.forIn_nil];refine ah (ah (wpAny_onRaise ?_));show ai (aj prog w) _ (cK (.ref i1)>>=_) _ _ _;refine ah (S1.en k _ _ _ hh (S1.fr k _ _ h1 (λo e=>sj1.extBut _ o D.i1z e) λo e=>sj1.extBut _ o D.l1z e) hx λj2 e sj2 he=>?_);obtain⟨oe,hoe,hce⟩:=he;have zj2:IsZip j2 z TI TO .ellipsis:=sj2 _ _ D.i1z.symm zj1;have hez:e≠z:=λq=>by subst q;rw[zj2]at hoe;cases hoe;simp at hce
 refine wpAny_setField_rec zj2 (by simp) λj3 _ sj3=>hE j3 e (λc o c1 _ c3 _ q=>sj3.extBut _ _ c1 (sj2 _ _ c3 (sj1.extBut _ _ c1 q))) ⟨oe,sj3.extBut _ _ hez hoe,hce⟩
end
section
variable{X:Cx}{pins:List (Addr×Obj)}{σ:St}{H:Hp}{s:af}{h':Heap}{tk:Nat}
theorem Inv.turnNew{ch:List Addr}{p:Addr}{vs:List V}{its:List ae}(I:Inv X pins σ H s)(hf:∀b∈ch,dj X pins H b)(k:∀b o,b∉ch->s.heap.get? b=some o->h'.get? b=some o)
  (hp:s.heap.objs.size<=p) (ht:IsTup h' p its.toArray) (r:Vals vs its) (hz:vs.length<=aF):Inv X pins σ (upd H p (.tup vs)) {s with heap:=h',toks:=tk}:=by
 have hpn:H p=none:=I.hok.fresh hp;have nch:∀b u,H b=some u->b∉ch:=λb u e z=>by have:=(hf b z).1;rw[e]at this;cases this
 have np:∀b u,H b=some u->b≠p:=λb u e z=>by rw[z,hpn]at e;cases e
 refine I.step (g':=s.gens) (d':=s.drawn) (ch:=ch) (λb hb=>?_) (λb o _ _ hc e _=>k b o hc e) (λb o _ _ hc e _=>⟨o.slots,k b o hc e⟩) (λb o hc e n=>?_) (λb o hc e=>⟨o,k b o hc e⟩)
  (λb xs e=>by rw[qg (np b _ e)];exact e) (λb o u e=>by rw[qg (np b _ e)];exact e) (λb ps e=>⟨#[],by rw[qg (np b _ e),e];simp⟩) (λm hm=>?_) (λb u e=>?_) I.bare
 ·obtain⟨f0,f1,f2,f3,f4,f5⟩:=hf b hb;exact⟨f3,f1,f4,f5⟩
 ·rw[qg (aV (a_ (aH e) hp))];exact n
 ·obtain⟨o,es,ep,ho,r⟩:=hm;exact⟨o,es,ep,k _ o (λz=>(hf _ z).2.1 rfl) ho,r⟩
 ·by_cases hb:b=p
  ·subst hb;rw[zx]at e;cases e;exact⟨hz,its,r,ht⟩
  ·rw[qg hb]at e;refine(I.hok b u e).stay (λc v hc q=>k c v ?_ q) (λc q=>by rw[qg (np c _ q)];exact q) λc xs q=>by rw[qg (np c _ q)];exact q
   rcases hc with z|z
   ·rw[z];exact nch b u e
   ·exact nch c _ z
theorem Inv.turnAll{ch:List Addr}(I:Inv X pins σ H s)(hf:∀b∈ch,dj X pins H b)(k:∀b o,b∉ch->s.heap.get? b=some o->h'.get? b=some o):Inv X pins σ H {s with heap:=h',toks:=tk}:=by
 have nch:∀b u,H b=some u->b∉ch:=λb u e z=>by have:=(hf b z).1;rw[e]at this;cases this
 refine I.step (g':=s.gens) (d':=s.drawn) (ch:=ch) (λb hb=>?_) (λb o _ _ hc e _=>k b o hc e) (λb o _ _ hc e _=>⟨o.slots,k b o hc e⟩) (λb o hc e n=>n) (λb o hc e=>⟨o,k b o hc e⟩)
  (λb xs e=>e) (λb o u e=>e) (λb ps e=>⟨#[],by rw[e];simp⟩) (λm hm=>?_) (λb u e=>?_) I.bare
 ·obtain⟨f0,f1,f2,f3,f4,f5⟩:=hf b hb;exact⟨f3,f1,f4,f5⟩
 ·obtain⟨o,es,ep,ho,r⟩:=hm;exact⟨o,es,ep,k _ o (λz=>(hf _ z).2.1 rfl) ho,r⟩
 ·refine(I.hok b u e).stay (λc v hc q=>k c v ?_ q) (λc q=>q) λc xs q=>q
  rcases hc with z|z
  ·rw[z];exact nch b u e
  ·exact nch c _ z
end
noncomputable def Sq2(K:aq)(tup:Bool)(H:Hp)(a:Addr)(xs:List V):Prop:=if tup=true then SqT K H a xs else SqL K H a xs
noncomputable def Itz(K:aq)(tup:Bool)(l1 l2:Addr):It:=
 ⟨λi H=>∃xs ys x y,Sq2 K tup H l1 xs/\Sq2 K tup H l2 ys/\xs[i]? = some x/\ys[i]? = some y,
  λi H v H'=>∃p x y,H p=none/\v=.ref p/\H'=upd H p (.tup [x,y])/\(∀xs,Sq2 K tup H l1 xs->xs[i]? = some x)/\∀ys,Sq2 K tup H l2 ys->ys[i]? = some y,
  λi H=>∃xs ys,Sq2 K tup H l1 xs/\Sq2 K tup H l2 ys/\xs.length<=i⟩
noncomputable def ee(tup:Bool)(h:Heap)(i l:Addr)(k:Nat):Prop:=if tup=true then h.IsTupleIter i l k else h.IsListIter i l k
noncomputable def l0(tup:Bool)(h:Heap)(l:Addr)(xs:Array ae):Prop:=if tup=true then h.IsTuple l xs else h.IsList l xs
theorem ke{prog:av}{w:au}{xs:Array ae}{i l:Addr}{tup:Bool}:gM prog w xs i l (λk h=>ee tup h i l k/\l0 tup h l xs):=by
 cases tup with
 |true=>exact CO
 |false=>exact Bg
theorem ee.rec{tup:Bool}{h:Heap}{i l:Addr}{k:Nat}(x:ee tup h i l k):∃o vs,h.get? i=some o/\o.data=.fields vs:=by
 cases tup with
 |true=>obtain⟨o,e,_,d⟩:=(show h.IsTupleIter i l k from x);exact⟨o,_,e,d⟩
 |false=>obtain⟨o,e,_,d⟩:=(show h.IsListIter i l k from x);exact⟨o,_,e,d⟩
theorem ee.kept{tup:Bool}{h h':Heap}{i l:Addr}{k:Nat}(x:ee tup h i l k)(p:∀o,h.get? i=some o->h'.get? i=some o):ee tup h' i l k:=by
 cases tup with
 |true=>exact(show h.IsTupleIter i l k from x).at p
 |false=>exact(show h.IsListIter i l k from x).at p
theorem Inv.sq2{X:Cx}{pins:List (Addr×Obj)}{σ:St}{H:Hp}{s:af}{tup:Bool}{a:Addr}{xs:List V}(I:Inv X pins σ H s)(h:Sq2 X.K tup H a xs):∃its:List ae,Vals xs its/\l0 tup s.heap a its.toArray/\xs.length<=aF/\∃o ns n,s.heap.get? a=some o/\o.data=.seq ns n:=by
 cases tup with
 |true=>
  obtain⟨its,r,p,z⟩:=I.tuple h;obtain⟨o,e,c,n,d⟩:=id p;exact⟨its,r,p,z,o,_,n,e,d⟩
 |false=>
  obtain⟨its,r,p,z⟩:=I.list h;obtain⟨o,n,e,c,c',d⟩:=id p;exact⟨its,r,p.isList,z,o,_,n,e,d⟩
theorem Inv.sq2_inj{X:Cx}{pins:List (Addr×Obj)}{σ:St}{H:Hp}{s:af}{tup:Bool}{a:Addr}{xs ys:List V}(I:Inv X pins σ H s)(h:Sq2 X.K tup H a xs)(h':Sq2 X.K tup H a ys):xs=ys:=by
 cases tup with
 |true=>exact I.tuple_inj h h'
 |false=>exact I.list_inj h h'
theorem BM{P:av}{w:au}{K:aq}{es:List Expr}{ek:Nat}{epos:Pos}{tup:Bool}{z TI TO i1 i2 l1 l2:Addr}(n1:TI≠z)(n2:TO≠z)(n3:i1≠z)(n4:i2≠z)(n5:TI≠TO)(n6:TI≠i1)(n7:TI≠i2)(n8:TO≠i1)(n9:TO≠i2)(n10:i1≠i2)
  (ml:∀b∈[z,TI,TO,i1,i2],l1≠b/\l2≠b):Turn P w K (.Tuple es ek epos) (Itz K tup l1 l2) [z,TI,TO,i1,i2] z (λi h=>IsZip h z TI TO .none/\IsPair h TI (.ref i1) (.ref i2)/\(∃a b,IsPair h TO a b)/\ee tup h i1 l1 i/\ee tup h i2 l2 i) where
 mem:=by simp
 obj:=λi h st b hb=>by
  obtain⟨hz,hTI,⟨a,c,hTO⟩,h1,h2⟩:=st;obtain⟨o1,v1,e1,d1⟩:=h1.rec;obtain⟨o2,v2,e2,d2⟩:=h2.rec;have hb':b=z\/b=TI\/b=TO\/b=i1\/b=i2:=by simpa using hb
  rcases hb' with q|q|q|q|q
  ·subst q;exact⟨_,hz,λv q=>by cases q⟩
  ·subst q;exact⟨_,hTI,λv q=>by cases q⟩
  ·subst q;exact⟨_,hTO,λv q=>by cases q⟩
  ·subst q;exact⟨o1,e1,λv q=>by rw[d1]at q;cases q⟩
  ·subst q;exact⟨o2,e2,λv q=>by rw[d2]at q;cases q⟩
 keep:=λi h h' st k=>by
  obtain⟨hz,hTI,⟨a,c,hTO⟩,h1,h2⟩:=st;exact⟨k z (by simp) _ hz,k TI (by simp) _ hTI,⟨a,c,k TO (by simp) _ hTO⟩,h1.kept λo e=>k i1 (by simp) o e,h2.kept λo e=>k i2 (by simp) o e⟩
 item:=by
  intro X hP hw hK hc i pins s σ H E I hf st hg;subst hP hw hK;obtain⟨hz,hTI,⟨a,c,hTO⟩,h1,h2⟩:=st;obtain⟨xs,ys,x,y,q1,q2,hx,hy⟩:=hg;obtain⟨its1,r1,p1,z1,_⟩:=I.sq2 q1;obtain⟨its2,r2,p2,z2,_⟩:=I.sq2 q2;obtain⟨u1,hu1,ru1⟩:=r1.get hx;obtain⟨u2,hu2,ru2⟩:=r2.get hy;have D:ZipApart z TI TO i1 i2 l1 l2:=⟨n1,n2,n3,n4,n5,n6,n7,n8,n9,n10,(ml z (by simp)).1,(ml TO (by simp)).1,(ml i1 (by simp)).1,(ml i2 (by simp)).1,(ml z (by simp)).2,(ml TO (by simp)).2,(ml i1 (by simp)).2,(ml i2 (by simp)).2⟩
  have hT:s.TypeIs (.ref z) "zip":=⟨_,hz,rfl⟩
  unfold pyNext;refine ah (wpAny_attempt (wpAny_callSpecial?_slot (name:=ag "__next__") hT F.slot_zip_next (cL F.slot_zip_next hT F.entry_zip_next
   (DS (xs:=its1.toArray) (ys:=its2.toArray) (k:=i) D (ke (tup:=tup)) (ke (tup:=tup)) hz hTI hTO ⟨h1,p1⟩ ⟨h2,p2⟩ (by simpa using hu1) (by simpa using hu2) λh' a1 a2 a3 a4 a5 a6 hk=>ax ?_) (F.args_zip_next_1 _))))
  have hkc:∀b o,b∉[z,TI,TO,i1,i2]->s.heap.get? b=some o->h'.get? b=some o:=λb o hb e=>hk b o (λq=>hb (by simp[q])) (λq=>hb (by simp[q])) (λq=>hb (by simp[q])) (λq=>hb (by simp[q])) e
  have I1:Inv X pins σ (upd H s.heap.objs.size (.tup [x,y])) {s with heap:=h'}:=I.turnNew (tk:=s.toks) (its:=[u1,u2]) hf hkc (aD _) ⟨_,a5,rfl,_,rfl⟩ (.cons ru1 (.cons ru2 .nil)) (by show 2<=aF;decide);have hpn:H s.heap.objs.size=none:=I.hok.fresh (aD _);have hfp:∀b∈[z,TI,TO,i1,i2],b≠s.heap.objs.size:=λb hb q=>by
   have hb':b=z\/b=TI\/b=TO\/b=i1\/b=i2:=by simpa using hb
   obtain⟨o1,v1,e1,d1⟩:=h1.rec;obtain⟨o2,v2,e2,d2⟩:=h2.rec;have:b<s.heap.objs.size:=by
    rcases hb' with q|q|q|q|q
    ·subst q;exact aH hz
    ·subst q;exact aH hTI
    ·subst q;exact aH hTO
    ·subst q;exact aH e1
    ·subst q;exact aH e2
   rw[q]at this;exact bx _ this
  have hnone:∀b∈[z,TI,TO,i1,i2],(upd H s.heap.objs.size (.tup [x,y])) b=none:=λb hb=>by rw[qg (hfp b hb)];exact(hf b hb).1
  refine⟨_,rfl,?_⟩;refine wpAny_letOwnedTupleGo_zip (s:={s with heap:=h'}) a1 λh2' hz' hs'=>?_
  obtain⟨f0,f1,f2,f3,f4,f5⟩:=hf z (by simp);refine⟨.ref s.heap.objs.size,_,I1.turned (t':=s.toks) (it:=z) (λb o hb e=>(hs'.2 b hb).trans e) (hnone z (by simp)) f1 f3 f4 f5,rfl,⟨_,x,y,hpn,rfl,rfl,λzs hq=>by rw[I.sq2_inj hq q1];exact hx,λzs hq=>by rw[I.sq2_inj hq q2];exact hy⟩,?_,hnone⟩;have up:∀b o,b≠z->h'.get? b=some o->h2'.get? b=some o:=λb o hb e=>(hs'.2 b hb).trans e
  exact⟨hz',up _ _ n1 (hk _ _ n1 n5 n6 n7 hTI),⟨_,_,up _ _ n2 a2⟩,a3.1.kept λo e=>up _ o n3 e,a4.1.kept λo e=>up _ o n4 e⟩
 done:=by
  intro X hP hw hK hc i pins s σ H E I hf st hg;subst hP hw hK;obtain⟨hz,hTI,⟨a,c,hTO⟩,h1,h2⟩:=st;obtain⟨xs,ys,q1,q2,hx⟩:=hg;obtain⟨its1,r1,p1,z1,_⟩:=I.sq2 q1;have D:ZipApart z TI TO i1 i2 l1 l2:=⟨n1,n2,n3,n4,n5,n6,n7,n8,n9,n10,(ml z (by simp)).1,(ml TO (by simp)).1,(ml i1 (by simp)).1,(ml i2 (by simp)).1,(ml z (by simp)).2,(ml TO (by simp)).2,(ml i1 (by simp)).2,(ml i2 (by simp)).2⟩
  have hT:s.TypeIs (.ref z) "zip":=⟨_,hz,rfl⟩
  have hl:=r1.length;unfold pyNext;refine ah (wpAny_attempt (wpAny_callSpecial?_slot (name:=ag "__next__") hT F.slot_zip_next (cL F.slot_zip_next hT F.entry_zip_next
   (vq (xs:=its1.toArray) (k:=i) (I.ok.hd hc) D (ke (tup:=tup)) hz hTI hTO ⟨h1,p1⟩ (by simp;lia) λh' e hk he=>?_) (F.args_zip_next_1 _))))
  obtain⟨o,ho,hcl⟩:=he;refine ah (wpAny_isInstance (T:="StopIteration") (b:=true) ⟨o,ho,hcl⟩ isSubtype_stop ?_);exact ax ⟨rfl,I.turnAll (tk:=s.toks) hf λb o hb e=>hk b o (λq=>hb (by simp[q])) (λq=>hb (by simp[q])) (λq=>hb (by simp[q])) (λq=>hb (by simp[q])) e⟩
 self:=λ_ _ _ _ _ st h=>wpAny_pyIter_zip st.1 h
abbrev zj1(h:Heap)(l1:Addr):Heap:=h.push {cls:=.type "tuple_iterator",data:=.fields #[.ref l1,.int 0 0]}
abbrev zj2(h:Heap)(l1 l2:Addr):Heap:=(zj1 h l1).push {cls:=.type "tuple_iterator",data:=.fields #[.ref l2,.int 0 0]}
abbrev zj3(h:Heap)(l1 l2:Addr):Heap:=(zj2 h l1 l2).push {cls:=.type "tuple",data:=.seq #[.ref h.objs.size,.ref (zj1 h l1).objs.size]}
abbrev zj4(h:Heap)(l1 l2:Addr):Heap:=(zj3 h l1 l2).push {cls:=.type "tuple",data:=.seq #[.none,.none]}
abbrev zj5(h:Heap)(l1 l2:Addr):Heap:=(zj4 h l1 l2).push {cls:=.type "zip",data:=.fields #[.none,.bool false,.bool false,.ref (zj2 h l1 l2).objs.size,.ref (zj3 h l1 l2).objs.size]}
theorem DV(l1 l2:Addr)(xs ys:Array ae) :
  Meets (Builtin.«zip.__new__» ⟨[.type "zip",.ref l1,.ref l2],[]⟩) (λ_ R s=>s.heap.IsTuple l1 xs/\s.heap.IsTuple l2 ys/\R (.ok (.ret (.ref (zj4 s.heap l1 l2).objs.size))) {s with heap:=zj5 s.heap l1 l2}):=
 .of_wp λprog w A R s h=>by
  obtain⟨hp,g,d,tk,os⟩:=s;obtain⟨hl1,hl2,h⟩:=h;have hsub:=sub_zip;have hL1:Heap.IsTuple (af.heap ⟨hp,g,d,tk,os⟩) l1 xs:=hl1;have hL2:Heap.IsTuple (af.heap ⟨hp.push {cls:=.type "tuple_iterator",data:=.fields #[.ref l1,.int 0 0]},g,d,tk,os⟩) l2 ys:=let ⟨o,e,r⟩:=hl2;⟨o,Heap.get?_push_of_some _ e,r⟩
  wp_walk using wpAny_pyIter_tuple hL1,wpAny_pyIter_tuple hL2
  exact⟨_,rfl,h⟩
section
variable{prog:av}{w:au}{A:aw}{E:ae->af->Prop}{s:af}
theorem ug{l1 l2:Addr}{xs ys:Array ae}{Q:ae->af->Prop}(hl1:s.heap.IsTuple l1 xs)(hl2:s.heap.IsTuple l2 ys)
  (h:∀h',IsZip h' (s.heap.objs.size+4) (s.heap.objs.size+2) (s.heap.objs.size+3) .none->IsPair h' (s.heap.objs.size+2) (.ref s.heap.objs.size) (.ref (s.heap.objs.size+1)) ->
   IsPair h' (s.heap.objs.size+3) .none .none->h'.IsTupleIter s.heap.objs.size l1 0->h'.IsTupleIter (s.heap.objs.size+1) l2 0->h'.objs.size=s.heap.objs.size+5 ->
   (∀c o,s.heap.get? c=some o->h'.get? c=some o)->Q (.ref (s.heap.objs.size+4)) {s with heap:=h'}):ai (aj prog w) A (call (.type "zip") [.ref l1,.ref l2]) Q E s:=by
 refine callType_new F.called_zip (by decide) (F.typeCall_zip_2 _ _) (F.newCall_zip_2 _ _) (λobj=>F.args_object_init_3 obj _ _) F.entry_zip_new (DV l1 l2 xs ys) ⟨hl1,hl2,?_⟩;have z1:(zj1 s.heap l1).objs.size=s.heap.objs.size+1:=b6 ..;have z2:(zj2 s.heap l1 l2).objs.size=s.heap.objs.size+2:=by rw[b6,z1]
 have z3:(zj3 s.heap l1 l2).objs.size=s.heap.objs.size+3:=by rw[b6,z2]
 have z4:(zj4 s.heap l1 l2).objs.size=s.heap.objs.size+4:=by rw[b6,z3]
 have z5:(zj5 s.heap l1 l2).objs.size=s.heap.objs.size+5:=by rw[b6,z4]
 have g5:(zj5 s.heap l1 l2).get? (zj4 s.heap l1 l2).objs.size=some _:=Heap.get?_push_size _ rfl;have g4:(zj5 s.heap l1 l2).get? (zj3 s.heap l1 l2).objs.size=some _:=Heap.get?_push_of_some _ (Heap.get?_push_size _ rfl);have g3:(zj5 s.heap l1 l2).get? (zj2 s.heap l1 l2).objs.size=some _:=Heap.get?_push_of_some _ (Heap.get?_push_of_some _ (Heap.get?_push_size _ rfl));have g2:(zj5 s.heap l1 l2).get? (zj1 s.heap l1).objs.size=some _:=Heap.get?_push_of_some _ (Heap.get?_push_of_some _ (Heap.get?_push_of_some _ (Heap.get?_push_size _ rfl)));have g1:(zj5 s.heap l1 l2).get? s.heap.objs.size=some _:=Heap.get?_push_of_some _ (Heap.get?_push_of_some _ (Heap.get?_push_of_some _ (Heap.get?_push_of_some _ (Heap.get?_push_size _ rfl))));show _/\_;rw[z2,z3,z4]at g5;rw[z1,z2]at g3;rw[z3]at g4;rw[z1]at g2;rw[z4];exact⟨⟨_,g5,rfl⟩,h _ g5 g3 g4 ⟨_,g1,rfl,rfl⟩ ⟨_,g2,rfl,rfl⟩ z5 λc o x=>Heap.get?_push_of_some _ (Heap.get?_push_of_some _ (Heap.get?_push_of_some _ (Heap.get?_push_of_some _ (Heap.get?_push_of_some _ x))))⟩
end
noncomputable def DE(K:aq)(ta:TA):TI:=λσ H R=>ta σ H λvs H1=>∃(tup:Bool) (l1 l2:Addr),vs=[.ref l1,.ref l2]/\(∃xs,Sq2 K tup H1 l1 xs)/\(∃ys,Sq2 K tup H1 l2 ys)/\R (Itz K tup l1 l2) H1
theorem w9{X:Cx}{es:List Expr}{ek:Nat}{epos p pos:Pos}{a b:Expr}{ta:TA}(hg:Gl X "zip")(hm:X.mg "zip" = none)(hv:bB "zip" = some (.type "zip"))(ha:PA X [a,b] ta)
  (hs:aL [a,b] X.env=[(false,eval a X.env),(false,eval b X.env)]:=by rfl) (hs2:aL [b] X.env=[(false,eval b X.env)]:=by rfl):PI X (.Tuple es ek epos) (.Call (.Name "zip" p) [a,b] [] pos) (DE X.K ta):=by
 intro pins s σ H R I h;refine Call_ (fC I hg hm hv (eR (thn (ha pos pins s σ H _ I h) λus s1 ⟨vs,H1,I1,r1,q1⟩=>?_) (by rw[hs,hs2]) (by rw[hs2];rfl)));obtain⟨tup,l1,l2,e,⟨xs,q2⟩,⟨ys,q3⟩,q⟩:=q1;subst e;cases r1 with
 |cons r rr=>
  cases rr with
  |cons r' rr=>
   cases rr;cases r;cases r';obtain⟨its1,v1,p1,_,o1,ns1,m1,e1,d1⟩:=I1.sq2 q2;obtain⟨its2,v2,p2,_,o2,ns2,m2,e2,d2⟩:=I1.sq2 q3;have lt1:l1<s1.heap.objs.size:=aH e1;have lt2:l2<s1.heap.objs.size:=aH e2;have above:∀b:Addr,b∈[s1.heap.objs.size+4,s1.heap.objs.size+2,s1.heap.objs.size+3,s1.heap.objs.size,s1.heap.objs.size+1]->s1.heap.objs.size<=b:=λb hb=>by
    have hb':b=s1.heap.objs.size+4\/b=s1.heap.objs.size+2\/b=s1.heap.objs.size+3\/b=s1.heap.objs.size\/b=s1.heap.objs.size+1:=by simpa using hb
    rcases hb' with q|q|q|q|q
    ·rw[q];exact Nat.le_add_right _ _
    ·rw[q];exact Nat.le_add_right _ _
    ·rw[q];exact Nat.le_add_right _ _
    ·rw[q];exact aD _
    ·rw[q];exact Nat.le_add_right _ _
   have fin:∀h',IsZip h' (s1.heap.objs.size+4) (s1.heap.objs.size+2) (s1.heap.objs.size+3) .none->IsPair h' (s1.heap.objs.size+2) (.ref s1.heap.objs.size) (.ref (s1.heap.objs.size+1)) ->
     IsPair h' (s1.heap.objs.size+3) .none .none->ee tup h' s1.heap.objs.size l1 0->ee tup h' (s1.heap.objs.size+1) l2 0->(∀c o,s1.heap.get? c=some o->h'.get? c=some o) ->
     ai (aj X.prog X.w) X.A (pyIter (.ref (s1.heap.objs.size+4))) (PIE X pins σ (.Tuple es ek epos) R) X.xe {s1 with heap:=h'}:=λh' a1 a2 a3 a4 a5 k=>by
    have I2:Inv X pins σ H1 {s1 with heap:=h'}:=I1.kept (t':=s1.toks) k;refine wpAny_pyIter_zip a1 ?_;refine⟨_,_,_,_,H1,rfl,I2,BM (P:=X.prog) (w:=X.w) (K:=X.K) (z:=s1.heap.objs.size+4) (TI:=s1.heap.objs.size+2) (TO:=s1.heap.objs.size+3) (i1:=s1.heap.objs.size) (i2:=s1.heap.objs.size+1) (l1:=l1) (l2:=l2) (tup:=tup) (show (s1.heap.objs.size+2:Nat)≠s1.heap.objs.size+4 by lia) (show (s1.heap.objs.size+3:Nat)≠s1.heap.objs.size+4 by lia) (show (s1.heap.objs.size:Nat)≠s1.heap.objs.size+4 by lia) (show (s1.heap.objs.size+1:Nat)≠s1.heap.objs.size+4 by lia) (show (s1.heap.objs.size+2:Nat)≠s1.heap.objs.size+3 by lia) (show (s1.heap.objs.size+2:Nat)≠s1.heap.objs.size by lia) (show (s1.heap.objs.size+2:Nat)≠s1.heap.objs.size+1 by lia) (show (s1.heap.objs.size+3:Nat)≠s1.heap.objs.size by lia) (show (s1.heap.objs.size+3:Nat)≠s1.heap.objs.size+1 by lia) (show (s1.heap.objs.size:Nat)≠s1.heap.objs.size+1 by lia) (λb hb=>?_),⟨a1,a2,⟨_,_,a3⟩,a4,a5⟩,λb hb=>?_,q⟩
    ·have:=above b hb;exact⟨aV (a_ lt1 this),aV (a_ lt2 this)⟩
    ·have:=above b hb;exact I1.fpOk this (I1.hok.fresh this)
   cases tup with
   |true=>exact ug p1 p2 λh' a1 a2 a3 a4 a5 _ k=>fin h' a1 a2 a3 a4 a5 k
   |false=>exact call_zip_2 p1 p2 λh' a1 a2 a3 a4 a5 _ k=>fin h' a1 a2 a3 a4 a5 k
theorem yb{K:aq}{x C:Addr}(S:cV K C):PySem.W.KitX K (.ref x) (.ref C) (λh=>∃o,h.get? x=some o/\o.cls=.ref C) where
 ty:=λM h _ ⟨o,e,c⟩=>c▸(PySem.W.Looks.ld e).andThen .now
 it:=λ_ _ Z _=>by
  obtain⟨c,dd,cd,sl,e⟩:=S.cl;intro A' Q' E' s' k q;unfold isType loadHead;exact ah (wpAny_loadPart (k _ _ (Z _ _ e)) (ax q))
 ne:=λh tp dd its n sl Z htp=>by
  obtain⟨c,dd',cd,sl',e⟩:=S.cl;refine Bool.eq_false_iff.mpr λq=>?_
  have e1:C=tp:=aU.inj (beq_iff_eq.mp q);subst e1;have z:=(Z _ _ e).symm.trans htp;cases z
 ca:=λ{prog w A E Q s} Z ⟨o,e,c⟩ k=>by
  obtain⟨hh,g,d,t,os⟩:=s;exact tm Z S (c▸(PySem.W.Looks.ld e).andThen .now) ⟨o,e,c⟩ k
noncomputable def jQ:V->Option ae
 | .ty n=>some (.type n)
 | .ref a=>some (.ref a)
 |_=>none
noncomputable def TyX(K:aq)(H:Hp)(x:V)(t:ae):Prop:=dk K H x t\/∃a C,x=.ref a/\t=.ref C/\H a=some (gK a (.ref C))/\cV K C
theorem vT{X:Cx}:zq X (.builtin "isinstance") (λxs H Q=>∃x c cv t b,xs=[x,c]/\jQ c=some cv/\TyX X.K H x t/\bf X.K t cv=some b/\Q (.bl b) H):=by
 intro pins s σ H xs us Q I r h;obtain⟨x,c,cv,t,b,rfl,hc,ty,hk,q⟩:=h;obtain⟨u,cu,rfl,rx,rc⟩:=r.two;have e:cu=cv:=by
  cases c with
  |ty n=>cases hc;exact rc
  |ref a=>cases hc;exact rc
  |_=>cases hc
 subst e;rcases ty with ty|⟨a,C,rfl,rfl,ha,S⟩
 ·exact gI I rx ty hk λtk=>⟨.bl b,H,I.tok tk,rfl,q⟩
 ·cases rx;obtain⟨⟨o,vs,e1,e2,e3⟩,_⟩:=(show zC X.prog X.w H s.heap a (gK a (.ref C))from I.hok a _ ha)
  exact bH (yb S) I.kIn ⟨o,e1,e2⟩ hk (λz=>nomatch z) λtk=>⟨.bl b,H,I.tok tk,rfl,q⟩
theorem sh{K:aq}{T:String}:bf K (.type T) (.type T)=some true:=by unfold bf;rw[if_pos (by simp)]
theorem Ds{K:aq}{a T:String}{b:Bool}(hne:(ae.type a==ae.type T)=false)(hm:PySem.W.kitMeta T=true)(hf:(fastBuiltinMro a).map (·.contains (.type T))=some b):bf K (.type a) (.type T)=some b:=by
 unfold bf PySem.W.kitCls ay;rw[if_neg (by rw[hne];exact bQ)];dsimp only;rw[if_pos hm];exact hf
noncomputable def fO(a T:String):Bool:=a==T||(a == "bool" && T == "int")
theorem Dr{K:aq}{a T:String}(ha:a∈["NoneType","bool","int","str","list","tuple","dict"])(hT:T∈["int","bool","str","list","tuple"]):bf K (.type a) (.type T)=some (fO a T):=by
 simp only[aE,bM,or_false]at ha hT;rcases ha with rfl|rfl|rfl|rfl|rfl|rfl|rfl<;>rcases hT with rfl|rfl|rfl|rfl|rfl<;>first|exact sh|exact Ds (by decide +kernel) (by decide +kernel) (by decide +kernel)
noncomputable def qm{α:Type}(lt:Nat->Nat->Bool):PySem.W.KasT α->α
 | .ret a=>a
 | .ask i j k=>qm lt (k (lt i j))
noncomputable def bJ{α:Type}(n:Nat)(r:α->Prop):PySem.W.KasT α->Prop
 | .ret a=>r a
 | .ask i j k=>i<n/\j<n/\∀b,bJ n r (k b)
theorem bJ.bind{α β:Type}{n:Nat}{r:α->Prop}{r':β->Prop}{f:α->PySem.W.KasT β}(hf:∀a,r a->bJ n r' (f a)):∀(t:PySem.W.KasT α),bJ n r t->bJ n r' (t.bind f)
 | .ret a,h=>hf a h
 | .ask _ _ k,⟨h1,h2,h3⟩=>⟨h1,h2,λb=>bJ.bind hf (k b) (h3 b)⟩
theorem nQ{α:Type}{n:Nat}{r:α->Prop}{lt:Nat->Nat->Bool}{cmp:Nat->Nat->(Bool->af->Prop)->af->Prop}{s:af}(h:∀i j C,i<n->j<n->C (lt i j) s->cmp i j C s){Q:α->af->Prop}:∀(t:PySem.W.KasT α),bJ n r t->Q (qm lt t) s->t.kasWp cmp Q s
 | .ret _,_,q=>q
 | .ask i j k,⟨h1,h2,h3⟩,q=>h i j _ h1 h2 (nQ h (k (lt i j)) (h3 _) q)
noncomputable def Bel(n:Nat)(p:Array Nat):Prop:=p.size=n/\∀x∈p,x<n
theorem Bel.get{n:Nat}{p:Array Nat}(h:Bel n p)(hn:0<n)(i:Nat):p.getD i 0<n:=by
 unfold Array.getD;split
 ·rename_i hi;exact h.2 _ (Array.getElem_mem hi)
 ·exact hn
theorem Bel.swap{n:Nat}{p:Array Nat}(h:Bel n p)(i j:Nat):Bel n (p.swapIfInBounds i j):=by
 refine⟨by rw[Array.size_swapIfInBounds];exact h.1,λx hx=>?_⟩;unfold Array.swapIfInBounds at hx;split at hx
 ·split at hx
  ·rename_i h1 h2
   exact h.2 x ((Array.swap_perm h1 h2).mem_iff.mp hx)
  ·exact h.2 x hx
 ·exact h.2 x hx
theorem Bel.fold{n:Nat}(u v:Nat->Nat):∀(l:List Nat) {p:Array Nat},Bel n p->Bel n (l.foldl (λa k=>a.swapIfInBounds (u k) (v k)) p)
 | [],_,h=>h
 |k::r,p,h=>Bel.fold u v r (h.swap (u k) (v k))
theorem Bel.rev{n:Nat}{p:Array Nat}(h:Bel n p)(i j:Nat):Bel n (bp p i j):=by
 unfold bp mirror
 first|exact Bel.fold _ _ _ h|(simp only[];exact Bel.fold _ _ _ h)
theorem Bel.bub{n:Nat}{p:Array Nat}(h:Bel n p)(i j:Nat):Bel n (bubble p i j):=by
 unfold bubble
 first|exact Bel.fold _ _ _ h|(simp only[];exact Bel.fold _ _ _ h)
theorem jU{n:Nat}(hn:0<n){p:Array Nat}(h:Bel n p):∀f m,bJ n (λ_=>True) (PySem.W.kas_asc p f m)
 | 0,_=>trivial
 |f+1,m=>⟨h.get hn _,h.get hn _,λb=>by cases b with
  |true=>exact trivial
  |false=>exact jU hn h f (m+1)⟩
theorem jj{n:Nat}(hn:0<n):∀f {p:Array Nat} m q,Bel n p->bJ n (λr=>Bel n r.1) (bc f p m q)
 | 0,_,_,_,h=>h
 |f+1,p,m,q,h=>⟨h.get hn _,h.get hn _,λb=>by cases b with
  |true=>
   show bJ n _ (if q>0 then _ else _);split
   ·exact jj hn f _ _ (h.rev _ _)
   ·exact jj hn f _ _ h
  |false=>exact⟨h.get hn _,h.get hn _,λd=>by cases d with
   |true=>exact h
   |false=>exact jj hn f _ _ h⟩⟩
theorem oV{n:Nat}(hn:0<n){p:Array Nat}(h:Bel n p)(a b:Nat):bJ n (λr=>Bel n r.2) (PySem.W.kas_tail3 a b p):=by
 unfold PySem.W.kas_tail3;refine bJ.bind (r:=λ_=>True) (λm _=>?_) _ (jU hn (h.rev _ _) _ _);show Bel n (bp p 0 a);exact h.rev _ _
theorem lN{n:Nat}(hn:0<n){p:Array Nat}(h:Bel n p)(a b:Nat):bJ n (λr=>Bel n r.2) (PySem.W.kas_descPart a b p):=by
 refine bJ.bind (λr hr=>?_) _ (jj hn _ _ _ h);split
 ·exact oV hn (hr.rev _ _) _ _
 ·exact oV hn hr _ _
theorem yN{n:Nat}(hn:0<n){p:Array Nat}(h:Bel n p)(m:Nat):bJ n (λr=>Bel n r.2) (PySem.W.kas_count m p):=by
 refine bJ.bind (λr _=>?_) _ (jU hn h _ _);split
 ·exact h
 ·split
  ·exact⟨h.get hn _,h.get hn _,λb=>by cases b with
    |true=>exact h
    |false=>exact lN hn (h.rev _ _) _ _⟩
  ·exact lN hn h _ _
theorem jO{n:Nat}(hn:0<n){p:Array Nat}(h:Bel n p)(k:Nat):∀f l r,bJ n (λ_=>True) (PySem.W.kas_place p k f l r)
 | 0,_,_=>trivial
 |f+1,l,r=>by
  unfold PySem.W.kas_place;split
  ·exact trivial
  ·exact⟨h.get hn _,h.get hn _,λb=>by cases b with
    |true=>exact jO hn h k f _ _
    |false=>exact jO hn h k f _ _⟩
theorem pG{n:Nat}(hn:0<n):∀f {p:Array Nat} k,Bel n p->bJ n (Bel n) (PySem.W.kas_bin f p k)
 | 0,_,_,h=>h
 |f+1,p,k,h=>bJ.bind (λl _=>pG hn f _ (h.bub _ _)) _ (jO hn h k k 0 k)
theorem kP{n:Nat}(hn:0<n):bJ n (Bel n) (PySem.W.kas_sort n):=by
 have h0:Bel n (List.toArray (aW n)):=⟨by simp,λx hx=>by simpa using hx⟩
 refine bJ.bind (λr hr=>?_) _ (yN hn h0 n);split
 ·exact pG hn _ _ hr
 ·exact hr
theorem bJ.run{α:Type}{n:Nat}{r:α->Prop}{lt:Nat->Nat->Bool}:∀(t:PySem.W.KasT α),bJ n r t->r (qm lt t)
 | .ret _,h=>h
 | .ask i j k,⟨_,_,h⟩=>bJ.run (k (lt i j)) (h _)
noncomputable def ltP(p q:Int×Int):Bool:=if p.1=q.1 then decide (p.2<q.2)else decide (p.1<q.1)
noncomputable def cP(ks:List (Int×Int)):List Nat:=if ks.length<2 then aW ks.length else (qm (λi j=>ltP (ks.getD i (0,0)) (ks.getD j (0,0))) (PySem.W.kas_sort ks.length)).toList
section
variable{prog:av}{w:au}{A:aw}{E:ae->af->Prop}{s:af}
theorem xT{vs:List ae}{ks:List (Int×Int)}(hl:ks.length=vs.length)(hp:∀(i:Nat) p,ks[i]? = some p->∃a t u o n,vs[i]? = some (.ref a)/\s.heap.get? a=some o/\o.data=.seq #[.int p.1 t,.int p.2 u] n){i j:Nat}(hi:i<ks.length)(hj:j<ks.length){C:Bool->af->Prop}
  (h:C (ltP (ks.getD i (0,0)) (ks.getD j (0,0))) s):PySem.W.kas_ask prog w A (tuples' true) vs i j C s:=by
 obtain⟨a,t,u,o,n,e1,e2,e3⟩:=hp i ks[i] (by simp[hi]);obtain⟨a',t',u',o',n',f1,f2,f3⟩:=hp j ks[j] (by simp[hj]);unfold PySem.W.kas_ask;have g1:vs.getD i ae.none=.ref a:=by rw[List.getD_eq_getElem?_getD,e1];rfl
 have g2:vs.getD j ae.none=.ref a':=by rw[List.getD_eq_getElem?_getD,f1];rfl
 have k1:ks.getD i (0,0)=ks[i]:=by simp[hi]
 have k2:ks.getD j (0,0)=ks[j]:=by simp[hj]
 rw[g1,g2];rw[k1,k2]at h;refine PySem.W.kat_lt e2 e3 f2 f3 ?_;show PySem.W.KatLex prog w A true _ C [(ae.int ks[i].1 t,ae.int ks[j].1 t'),(ae.int ks[i].2 u,ae.int ks[j].2 u')] 0 s;refine PySem.W.kat_cons (SeqAt.EqAt.int_int _ _ _ _ prog w _ _ ?_);unfold ltP at h;by_cases hc:ks[i].1=ks[j].1
 ·rw[if_pos hc]at h;rw[show (ks[i].1==ks[j].1)=true by simp[hc]];refine PySem.W.kat_yes (PySem.W.kat_cons (SeqAt.EqAt.int_int _ _ _ _ prog w _ _ ?_));by_cases hd:ks[i].2=ks[j].2
  ·rw[show (ks[i].2==ks[j].2)=true by simp[hd]];refine PySem.W.kat_yes (PySem.W.kat_nil ?_);have:decide (ks[i].2<ks[j].2)=false:=decide_eq_false (by lia);rw[this]at h;exact h
  ·rw[show (ks[i].2==ks[j].2)=false by simp[hd]];exact PySem.W.kat_no (PySem.W.kat_one _ _ (lt_int h))
 ·rw[if_neg hc]at h;rw[show (ks[i].1==ks[j].1)=false by simp[hc]];exact PySem.W.kat_no (oneLt_int h)
end
theorem rM{h:Heap}{a:Addr}{m m':Str->Option ae}(x:h.Ns a m)(y:h.Ns a m'):m=m':=by
 obtain⟨o,es,ep,e1,e2,_,e4⟩:=x;obtain⟨o',es',ep',f1,f2,_,f4⟩:=y;rw[e1]at f1;cases f1;rw[e2]at f2;cases f2;funext n;rw[<-e4,<-f4]
theorem Inv.newList{X:Cx}{pins:List (Addr×Obj)}{σ:St}{H:Hp}{s s':af}{D:Addr}{out:List V}{its:List ae}{c:Nat}(I:Inv X pins σ H s)(hos:s'.os=s.os)(hg:s'.gens=s.gens)
  (k:∀b o,b≠X.env.locals->s.heap.get? b=some o->s'.heap.get? b=some o) (ns:∀m,s.heap.Ns X.env.locals m->s'.heap.Ns X.env.locals m) (hD:s.heap.get? D=none) (hDL:D≠X.env.locals)
  (hl:s'.heap.get? D=some {cls:=.type "list",data:=.seq its.toArray c}) (r:Vals out its) (hz:out.length<=aF):Inv X pins σ (upd H D (.lst out)) s':=by
 obtain⟨h',g',d',t',o'⟩:=s';have eo:o'=s.os:=hos;have eg:g'=s.gens:=hg;subst eo eg;have hpn:H D=none:=I.hok.free_of hD;have np:∀b u,H b=some u->b≠D:=λb u e z=>by rw[z,hpn]at e;cases e
 obtain⟨m0,n0,_⟩:=id I.loc;obtain⟨oL,es,ep,hoL,_⟩:=id n0;obtain⟨oL',es',ep',hoL',_⟩:=ns _ n0;refine I.step (g':=s.gens) (d':=d') (ch:=[]) (λb hb=>absurd hb (by simp)) (λb o hL _ _ e _=>k b o hL e) (λb o hL _ _ e _=>⟨o.slots,k b o hL e⟩) (λb o _ e n=>?_) (λb o _ e=>?_)
  (λb xs e=>by rw[qg (np b _ e)];exact e) (λb o u e=>by rw[qg (np b _ e)];exact e) (λb ps e=>⟨#[],by rw[qg (np b _ e),e];simp⟩) ns (λb u e=>?_) I.bare
 ·rw[qg (λz=>by rw[z,hD]at e;cases e)];exact n
 ·by_cases hL:b=X.env.locals
  ·exact⟨oL',by rw[hL];exact hoL'⟩
  ·exact⟨o,k b o hL e⟩
 ·by_cases hb:b=D
  ·subst hb;rw[zx]at e;cases e;exact⟨hz,its,c,r,hl⟩
  ·rw[qg hb]at e;have nl:∀c,(∃u,H c=some u)->c≠X.env.locals:=λc ⟨u,e⟩ z=>by rw[z,I.free]at e;cases e
   refine(I.hok b u e).stay (λc v hc q=>k c v (nl c ?_) q) (λc q=>by rw[qg (np c _ q)];exact q) λc xs q=>by rw[qg (np c _ q)];exact q
   rcases hc with z|z
   ·exact⟨u,by rw[z];exact e⟩
   ·exact⟨_,z⟩
theorem l6{xs:List V}{us:List ae}(r:Vals xs us):∀(l:List Nat),(∀i∈l,i<xs.length)->Vals (l.map λi=>xs.getD i .non) (l.map λi=>us.getD i .none)
 | [],_=>.nil
 |i::l,h=>by
  have hi:i<xs.length:=h i aJ;obtain⟨u,hu,ru⟩:=r.get (i:=i) (x:=xs[i]) (by simp[hi]);refine .cons ?_ (l6 r l λj hj=>h j (aK _ hj));have e1:xs.getD i .non=xs[i]:=by simp[hi]
  have e2:us.getD i .none=u:=by rw[List.getD_eq_getElem?_getD,hu];rfl
  show RelV (xs.getD i .non) (us.getD i .none);rw[e1,e2];exact ru
theorem l_{ks:List (Int×Int)}:∀i∈cP ks,i<ks.length:=by
 intro i hi;unfold cP at hi;split at hi
 ·simpa using hi
 ·rename_i h
  have:=bJ.run (lt:=λi j=>ltP (ks.getD i (0,0)) (ks.getD j (0,0))) _ (kP (n:=ks.length) (by lia));exact this.2 i (by simpa using hi)
theorem yV{ks:List (Int×Int)}:(cP ks).length=ks.length:=by
 unfold cP;split
 ·simp
 ·rename_i h
  have:=bJ.run (lt:=λi j=>ltP (ks.getD i (0,0)) (ks.getD j (0,0))) _ (kP (n:=ks.length) (by lia))
  simpa using this.1
theorem oN{h:Heap}:∀(its:List ae),(∀i,i<its.length->∃a o x y t u n,its[i]? = some (.ref a)/\h.get? a=some o/\o.cls=.type "tuple"/\o.data=.seq #[.int x t,.int y u] n)->∃fs,PySem.W.KatTups h its fs/\fs.length=its.length/\∀v∈fs,∃i t,v=ae.int i t
 | [],_=>⟨[],trivial,rfl,λ_ h=>nomatch h⟩
 |v::r,hh=>by
  obtain⟨fs,k1,k2,k3⟩:=oN r λi hi=>by simpa using hh (i+1) (by simpa using hi)
  obtain⟨a,o,x,y,t,u,n,z1,z2,z3,z4⟩:=hh 0 (by simp);have e:v=.ref a:=by simpa using z1
  subst e;exact⟨.int x t::fs,PySem.W.KatTups.cons z2 z3 z4 rfl k1,by simp[k2],λw hw=>(aE.mp hw).elim (λz=>⟨x,t,z⟩) (k3 w)⟩
section
variable{prog:av}{w:au}{A:aw}{E:ae->af->Prop}{s:af}
theorem yi{a:Addr}{vs:List ae}{P:Fin->af->Prop}(hoL:s.heap.get? a=some (aY "list" vs.toArray 0))(h2:vs.length<2)(h:P (.done (.ret .none)) {s with heap:=sortedHeap s.heap a vs vs.toArray}) :
  ai (aj prog w) A (Builtin.«list.sort» ⟨[.ref a],[]⟩) P E s:=by
 rw[list_sort_plain];refine ah (listItems_at  hoL rfl ?_);refine ah (listUpdate_at  hoL rfl ?_ (by rw[aO,aZ];lia) (b8 _));obtain⟨e1,ho1⟩:∃e1,(s.heap.update a (bD λ_=>#[])).get? a=some (aY "list" #[] e1):=⟨_,get?_update_seq hoL (λ_=>#[])⟩
 refine ah (seqEpoch_at ho1 rfl ?_);refine ah (wpAny_newTuple ?_ (by show vs.length<=_;rw[aZ];lia));refine ah (wpAny_newList ?_ (b8 _));refine cM ?_;have hlt:a<s.heap.objs.size:=aH hoL;have ho6:(((s.heap.update a (bD λ_=>#[])).push (aY "tuple" vs.toArray 0)).push (aY "list" #[] 0)).get? a=some (aY "list" #[] e1):=by
  rw[Heap.get?_push_ne _ _ _ (by rw[size_push',Heap.size_update];exact aV (Nat.lt_succ_of_lt hlt)),Heap.get?_push_ne _ _ _ (by rw[Heap.size_update];exact aV hlt)];exact ho1
 show ai (aj prog w) _ _ _ _ {s with heap:=((s.heap.update a (bD λ_=>#[])).push (aY "tuple" vs.toArray 0)).push (aY "list" #[] 0)};dsimp only;have h2':vs.toArray.size<2:=by rw[aO];exact h2
 rw[if_pos h2',if_pos h2'];refine ah (ax ?_);rw[StateT.run_pure];refine ah (ax ?_);dsimp only;refine ah (seqEpoch_at ho6 rfl ?_);have hout:(arrOf (SortSt.mk' general' (vs.toArray.zip vs.toArray) #[] 7 none)).map (·.2)=vs.toArray:=by
  show (vs.toArray.zip vs.toArray).map (·.2)=vs.toArray;apply Array.toList_inj.mp;simp[List.map_snd_zip]
 refine ah (listUpdate_at ho6 rfl ?_ (b8 _) (by rw[hout,aO,aZ];lia));simp only[bne_self_eq_false,bZ,if_false];refine ax ?_;rw[hout];exact h
theorem xK{l:Addr}{vs:List ae}{Q:ae->af->Prop}(hl:s.heap.IsList l vs.toArray)(h2:vs.length<2)(h:Q (.ref (s.heap.objs.size+1)) {s with heap:=sortedAll s.heap vs vs.toArray}):ai (aj prog w) A (call (.builtin "sorted") [.ref l]) Q E s:=by
 refine Calls.call_function_entry kind_sorted plain_sorted entry_sorted (args_sorted1 _) ?_;unfold Builtin.«sorted»;refine ah (m:=checkCount "sorted" 1 1 _) (ax ?_);refine ah (collect_list hl ?_ (by rw[aZ];lia));refine ah (wpAny_newList ?_ (by rw[aZ];lia));have hsz:((s.heap.push (aY "list" #[] 0)).update s.heap.objs.size (bD (· ++ vs.toArray))).objs.size=s.heap.objs.size+1:=by rw[Heap.size_update,size_push']
 have hoL:(((s.heap.push (aY "list" #[] 0)).update s.heap.objs.size (bD (· ++ vs.toArray))).push (aY "list" vs.toArray 0)).get? (s.heap.objs.size+1)=some (aY "list" vs.toArray 0):=by rw[<-hsz];exact Heap.get?_push_size _ rfl
 show ai _ _ _ _ _ {s with heap:=((s.heap.push (aY "list" #[] 0)).update s.heap.objs.size (bD (· ++ vs.toArray))).push (aY "list" vs.toArray 0)};rw[hsz];refine ah (cM (cL slot_list_sort ⟨_,hoL,rfl⟩ entry_list_sort ?body (args_list_sort _)))
 case body=>
  exact yi hoL h2 ⟨_,rfl,ax ⟨_,rfl,h⟩⟩
end
noncomputable def Ai(K:aq):List V->Hp->VK->Prop:=λvs H Q=>∃(l:Addr) (ps:List Addr) (ks:List (Int×Int)),vs=[.ref l]/\SqL K H l (ps.map V.ref)/\ks.length=ps.length/\ps.length<64 /\
 (∀(i:Nat) p k,ps[i]? = some p->ks[i]? = some k->SqT K H p [.int k.1,.int k.2])/\∀D,H D=none->Q (.ref D) (upd H D (.lst ((cP ks).map λi=>(ps.map V.ref).getD i .non)))
theorem xk{X:Cx}:zq X (.builtin "sorted") (Ai X.K):=by
 intro pins s σ H xs us Q I r h;obtain⟨l,ps,ks,rfl,hl,hlen,h64,hp,q⟩:=h;obtain⟨u,rfl,ru⟩:=r.one;cases ru;obtain⟨its,rv,pl,hz⟩:=I.list hl;have hits:its.length=ks.length:=by rw[<-rv.length,aI,hlen]
 have small:ks.length<=sizeLine:=by rw[aZ];lia
 have rout:=l6 rv (cP ks) (λi hi=>by rw[aI,<-hlen];exact l_ i hi);have zout:((cP ks).map λi=>(ps.map V.ref).getD i .non).length<=sizeLine:=by rw[aI,yV];exact small
 by_cases h2:ks.length<2
 ·refine xK pl.isList (by lia) ?_;have e:(cP ks).map (λi=>(ps.map V.ref).getD i .non)=ps.map V.ref:=by
   unfold cP;rw[if_pos h2]
   match ps,ks,hlen with
   | [],[],_=>rfl
   | [p],[k],_=>rfl
   |_::_::_,_::_::t,_=>exact absurd h2 (by show ¬ (t.length+1+1<2);lia)
  obtain⟨c,hc⟩:=sortedAll_at s.heap its its.toArray;have hD0:s.heap.get? (s.heap.objs.size+1)=none:=Heap.get?_none_of_le (Nat.le_succ _);have q':=q (s.heap.objs.size+1) (I.hok.free_of hD0);rw[e]at q';refine⟨.ref (s.heap.objs.size+1),_,I.newList (s':={s with heap:=sortedAll s.heap its its.toArray}) (c:=c) rfl rfl (λb o _ e=>sortedAll_old e) (λm hm=>hm.keeps λb o e=>sortedAll_old e) hD0 (Nat.ne_of_gt (Nat.lt_succ_of_lt I.lt)) hc rv (by rw[aI];lia),rfl,q'⟩
 ·obtain⟨m,F⟩:=I.fr;refine PySem.W.kat_sorted F (mR (g:=X.base) (h:=s.heap) (L:=X.env.locals)) pl.isList (by lia) (by lia) λD e1 h' F' N' hlt=>?_
  have keep:∀b o,b≠X.env.locals->s.heap.get? b=some o->h'.get? b=some o:=λb o hb e=>by
   cases qb:X.base.get? b with
   |some ob=>have:=I.bk b ob qb;rw[e]at this;cases this;exact F'.keep b _ qb
   |none=>exact(N' (b,o) (aK _ (iD hb qb e))).1
  have hDn:=N' (D,_) aJ;have hD0:s.heap.get? D=none:=by
   cases qd:s.heap.get? D with
   |none=>rfl
   |some o=>exact absurd (hlt (D,o) (iD hDn.2.1 hDn.2.2 qd)) (bx _)
  have tup:∀(i:Nat) p,ks[i]? = some p->∃a t u o n,its[i]? = some (.ref a)/\h'.get? a=some o/\o.cls=.type "tuple"/\o.data=.seq #[.int p.1 t,.int p.2 u] n:=λi p hk=>by
   have hi:i<ks.length:=(List.getElem?_eq_some_iff.mp hk).1;have hi':i<ps.length:=by lia
   obtain⟨v,hv,rvv⟩:=rv.get (i:=i) (x:=.ref ps[i]) (by simp[hi']);cases rvv;obtain⟨its2,r2,p2,_⟩:=I.tuple (hp i ps[i] p (by simp[hi']) hk);obtain⟨v1,v2,rfl,⟨t,rfl⟩,⟨u,rfl⟩⟩:=r2.two;obtain⟨o,e1,e2,n,e3⟩:=p2;have hne:ps[i]≠X.env.locals:=λz=>by
    obtain⟨_,⟨oL,es,ep,hoL,hdL,_⟩,_⟩:=I.loc;rw[z,hoL]at e1;cases e1;rw[hdL]at e3;cases e3
   exact⟨ps[i],t,u,o,n,hv,keep _ _ hne e1,e2,e3⟩
  obtain⟨fs,kt,kl,kf⟩:=oN (h:=h') its λi hi=>by
   obtain⟨a,t,u,o,n,z1,z2,z3,z4⟩:=tup i ks[i] (by simp[show i<ks.length by lia]);exact⟨a,o,_,_,t,u,n,z1,z2,z3,z4⟩
  refine PySem.W.kat_kind (s:={s with heap:=h'}) (T:=.type "int") (fs:=fs) kt (by lia) (λv hv=>?_) (by decide) ?_
  ·obtain⟨i,t,rfl⟩:=kf v hv;exact PySem.W.Looks.of_pure rfl
  ·have hb:((ae.type "int") != ae.type "tuple")=true:=by decide
   rw[hb];refine nQ (n:=ks.length) (r:=Bel ks.length) (lt:=λi j=>ltP (ks.getD i (0,0)) (ks.getD j (0,0))) (λi j C hi hj hC=>?_) _ (by rw[hits];exact kP (by lia)) ?_
   ·exact xT (s:={s with heap:=h'}) hits.symm (λi p hk=>by obtain⟨a,t,u,o,n,z1,z2,_,z4⟩:=tup i p hk;exact⟨a,t,u,o,n,z1,z2,z4⟩) hi hj hC
   ·refine⟨_,_,F',N',.head (λp hp=>aV (hlt p hp)),λh'' c F'' N''=>?_⟩;have e:(qm (λi j=>ltP (ks.getD i (0,0)) (ks.getD j (0,0))) (PySem.W.kas_sort its.length)).toList=cP ks:=by unfold cP;rw[if_neg h2,hits]
    rw[e]at N'';refine⟨.ref D,_,I.newList (s':={s with heap:=h''}) (c:=c) rfl rfl (λb o hb e=>?_) (λm' hm'=>?_) hD0 hDn.2.1 (N'' (D,_) aJ).1 rout zout,rfl,q D (I.hok.free_of hD0)⟩
    ·cases qb:X.base.get? b with
     |some ob=>have:=I.bk b ob qb;rw[e]at this;cases this;exact F''.keep b _ qb
     |none=>exact(N'' (b,o) (aK _ (iD hb qb e))).1
    ·rw[rM hm' F.ns];exact F''.ns
section
variable{X:Cx}{pins:List (Addr×Obj)}{σ:St}{H:Hp}{s:af}
theorem jY{A:aw}{bs:List Bool}{us:List ae}(r:Vals (bs.map V.bl) us):us=bs.map ae.bool:=by
 induction bs generalizing us with
 |nil=>cases r;rfl
 |cons b bs ih=>cases r with
  |cons h t=>rw[ih t,show _=bt b from h];rfl
end
section
variable{X:Cx}
noncomputable def nH(r r' r'':R2)(ta tb tc td:TE):TE:=λσ H Q=>ta σ H λx H1=>tb σ H1 λy H2=>r x y H2 λz H3=>∃k,z=.bl k /\
 (if k=true then tc σ H3 λw' H4=>r' y w' H4 λz H5=>∃k,z=.bl k/\(if k=true then td σ H5 λw'' H6=>r'' w' w'' H6 Q else Q (.bl false) H5)else Q (.bl false) H3)
theorem AU{a b c d:Expr}{ta tb tc td:TE}{pos:Pos}{op op' op'':CmpOp}{r r' r'':R2}(ho:OpR X (aR op) r)(ho':OpR X (aR op') r')(ho'':OpR X (aR op'') r'')(ha:PE X a ta)(hb:PE X b tb)(hc:PE X c tc)(hd:PE X d td)
  (hm:lastMarks [op,op',op''] [b,c,d]=false:=by with_unfolding_all rfl):PE X (.Compare a [op,op',op''] [b,c,d] pos) (nH r r' r'' ta tb tc td):=by
 intro pins s σ H Q I h;refine Compare_chain (thn (ha pins s σ H _ I h) λv s1 ⟨x,H1,I1,r1,q1⟩=>chain_link (thn (hb pins s1 σ H1 _ I1 q1) λu s2 ⟨y,H2,I2,r2,q2⟩=>
  thn (ho pins s2 σ H2 x y v u _ I2 r1 r2 q2) λd s3 ⟨z,H3,I3,r3,k,e,q3⟩=>?_)) hm
 subst e;cases r3;refine bF ?_;cases k with
 |false=>exact ite_ff ⟨.bl false,H3,I3,rfl,q3⟩
 |true=>
  refine ite_tt (chain_link (thn (hc pins s3 σ H3 _ I3 q3) λw' s4 ⟨z',H4,I4,r4,q4⟩=>thn (ho' pins s4 σ H4 y z' u w' _ I4 r2 r4 q4) λd' s5 ⟨z2,H5,I5,r5,k2,e2,q5⟩=>?_));subst e2;cases r5;refine bF ?_;cases k2 with
  |false=>exact ite_ff ⟨.bl false,H5,I5,rfl,q5⟩
  |true=>exact ite_tt (chain_last (thn (hd pins s5 σ H5 _ I5 q5) λw'' s6 ⟨z3,H6,I6,r6,q6⟩=>ho'' pins s6 σ H6 z' z3 w' w'' Q I6 r4 r6 q6))
noncomputable def AS(K:aq):R2:=λx y H Q=>∃a b xs ys,x=.ref a/\y=.ref b/\SqT K H a xs/\SqT K H b ys/\xs.length+ys.length<=aF /\
 (xs=[]->Q (.ref b) H)/\(xs≠[]->ys=[]->Q (.ref a) H)/\(xs≠[]->ys≠[]->∀p,H p=none->Q (.ref p) (upd H p (.tup (xs++ys))))
theorem Bx:OpR X (binaryOp .Add) (AS X.K):=by
 intro pins s σ H x y v u Q I rx ry h;obtain⟨a,b,xs,ys,rfl,rfl,ha,hb,hz,q0,q1,q2⟩:=h;by_cases hx:xs=[]
 ·subst hx;cases rx;cases ry;obtain⟨its,r1,p1,_⟩:=I.tuple ha;obtain⟨its2,r2,p2,_⟩:=I.tuple hb;cases r1;obtain⟨⟨cls,dd,data,sl⟩,ho,hc,n,hd⟩:=id p1;obtain⟨⟨cls2,dd2,data2,sl2⟩,ho2,hc2,n2,hd2⟩:=id p2;simp only at hc hd hc2 hd2;subst hc hd hc2 hd2;exact concat_meets ⟨_,ho,rfl⟩ ⟨_,ho2,rfl⟩ noFill_tuple_add seq_tuple_add PySem.F.slot_tuple_add PySem.F.entry_tuple_add (PySem.F.args_tuple_add_2 _ _)
   (tuple_addW0 a b _ its2.toArray n n2 dd dd2 sl sl2 (by simp)) ⟨ho,ho2,⟨.ref b,H,I,rfl,q0 rfl⟩⟩
 ·exact AY pins s σ H (.ref a) (.ref b) v u Q I rx ry ⟨a,b,xs,ys,rfl,rfl,ha,hb,hx,hz,q1 hx,q2 hx⟩
theorem iM{vs:List ae}{ns:List Int}(h:a8 vs ns):Vals (ns.map V.int) vs:=by
 induction h with
 |nil=>exact .nil
 |cons n t _ ih=>exact .cons ⟨t,rfl⟩ ih
noncomputable def Ej(K:aq):List V->Hp->VK->Prop:=λvs H Q=>∃(l:Addr) (ns:List Int),vs=[.ref l]/\SqL K H l (ns.map V.int)/\ns.length<64/\∀(D:Addr) (ms:List Int),H D=none->ms.Perm ns->ms.Pairwise (·<=·)->Q (.ref D) (upd H D (.lst (ms.map V.int)))
theorem Eb:zq X (.builtin "sorted") (Ej X.K):=by
 intro pins s σ H xs us Q I r h;obtain⟨l,ns,rfl,hl,h64,q⟩:=h;obtain⟨u,rfl,ru⟩:=r.one;cases ru;obtain⟨its,rv,pl,hz⟩:=I.list hl;obtain⟨m,F⟩:=I.fr;refine PySem.W.kso_sorted F (mR (g:=X.base) (h:=s.heap) (L:=X.env.locals)) pl.isList (intsAre_of rv) h64 λD vs' ns' c h' F' N' hlt hi he hp ho _=>?_
 have keep:∀b o,b≠X.env.locals->s.heap.get? b=some o->h'.get? b=some o:=λb o hb e=>by
  cases qb:X.base.get? b with
  |some ob=>have:=I.bk b ob qb;rw[e]at this;cases this;exact F'.keep b _ qb
  |none=>exact(N' (b,o) (aK _ (iD hb qb e))).1
 have hDn:=N' (D,_) aJ;have hD0:s.heap.get? D=none:=by
  cases qd:s.heap.get? D with
  |none=>rfl
  |some o=>exact absurd (hlt (D,o) (iD hDn.2.1 hDn.2.2 qd)) (bx _)
 refine⟨.ref D,_,I.newList (s':={s with heap:=h'}) (c:=c) rfl rfl keep (λm' hm'=>?_) hD0 hDn.2.1 hDn.1 (iM hi) (by rw[aI,he,aZ];lia),rfl,q D ns' (I.hok.free_of hD0) hp ho⟩;rw[rM hm' F.ns];exact F'.ns
end
noncomputable def Ite(K:aq)(l:Addr):It:=
 ⟨λi H=>∃xs x,SqL K H l xs/\xs[i]? = some x,
  λi H v H'=>∃p x,H p=none/\v=.ref p/\H'=upd H p (.tup [.int i,x])/\∀xs,SqL K H l xs->xs[i]? = some x,
  λi H=>∃xs,SqL K H l xs/\xs.length<=i⟩
theorem ya{P:av}{w:au}{K:aq}{es:List Expr}{ek:Nat}{epos:Pos}{e it l:Addr}(n1:e≠it)(n2:l≠e)(n3:l≠it) :
  Turn P w K (.Tuple es ek epos) (Ite K l) [e,it] e (λi h=>(∃old,IsEnum h e it ((i:Nat):Int) old)/\h.IsListIter it l i) where
 mem:=by simp
 obj:=λi h st b hb=>by
  obtain⟨⟨old,hz⟩,o1,e1,_,d1⟩:=st;have hb':b=e\/b=it:=by simpa using hb
  rcases hb' with q|q
  ·subst q;exact⟨_,hz,λv q=>by cases q⟩
  ·subst q;exact⟨o1,e1,λv q=>by rw[d1]at q;cases q⟩
 keep:=λi h h' st k=>by
  obtain⟨⟨old,hz⟩,h1⟩:=st;exact⟨⟨old,k e (by simp) _ hz⟩,h1.at λo q=>k it (by simp) o q⟩
 item:=by
  intro X hP hw hK hc i pins s σ H E I hf st hg;subst hP hw hK;obtain⟨⟨old,hz⟩,h1⟩:=st;obtain⟨xs,x,q1,hx⟩:=hg;obtain⟨its,r1,p1,z1⟩:=I.list q1;obtain⟨u1,hu1,ru1⟩:=r1.get hx;refine wpAny_pyNext_enum_item hz h1 p1.isList (x:=u1) (by simpa using hu1) n1 λh' a1 a2 a3 a4 hk=>?_
  have hkc:∀b o,b∉[e,it]->s.heap.get? b=some o->h'.get? b=some o:=λb o hb q=>hk b o (λz=>hb (by simp[z])) (λz=>hb (by simp[z])) q
  have I1:Inv X pins σ (upd H s.heap.objs.size (.tup [.int i,x])) {s with heap:=h',toks:=s.toks+1}:=I.turnNew (tk:=s.toks+1) (its:=[.int i s.toks,u1]) hf hkc (aD _) ⟨_,a3,rfl,_,rfl⟩ (.cons ⟨_,rfl⟩ (.cons ru1 .nil)) (by show 2<=aF;decide);have hpn:H s.heap.objs.size=none:=I.hok.fresh (aD _);have hfp:∀b∈[e,it],b≠s.heap.objs.size:=λb hb q=>by
   have hb':b=e\/b=it:=by simpa using hb
   obtain⟨o1,e1,_,d1⟩:=h1;have:b<s.heap.objs.size:=by
    rcases hb' with q|q
    ·subst q;exact aH hz
    ·subst q;exact aH e1
   rw[q]at this;exact bx _ this
  have hnone:∀b∈[e,it],(upd H s.heap.objs.size (.tup [.int i,x])) b=none:=λb hb=>by rw[qg (hfp b hb)];exact(hf b hb).1
  refine⟨_,rfl,?_⟩;refine wpAny_letOwnedTupleGo_enum (s:={s with heap:=h',toks:=s.toks+1}) a1 λh2' hz' hs'=>?_
  obtain⟨f0,f1,f2,f3,f4,f5⟩:=hf e (by simp);refine⟨.ref s.heap.objs.size,_,I1.turned (t':=s.toks+1) (it:=e) (λb o hb q=>(hs'.2 b hb).trans q) (hnone e (by simp)) f1 f3 f4 f5,rfl,⟨_,x,hpn,rfl,rfl,λzs hq=>by rw[I.list_inj hq q1];exact hx⟩,⟨⟨u1,?_⟩,a2.at λo q=>(hs'.2 it (Ne.symm n1)).trans q⟩,hnone⟩
  ·have:((i+1:Nat):Int)=(i:Int)+1:=by push_cast;rfl
   rw[this];exact hz'
 done:=by
  intro X hP hw hK hc i pins s σ H E I hf st hg;subst hP hw hK;obtain⟨⟨old,hz⟩,h1⟩:=st;obtain⟨xs,q1,hx⟩:=hg;obtain⟨its,r1,p1,z1⟩:=I.list q1;have hl:=r1.length;exact wpAny_pyNext_enum_end (I.ok.hd hc) hz h1 p1.isList (by simp;lia) λh' eb=>⟨rfl,I.turnAll (tk:=s.toks) hf λb o hb q=>eb b o (λz=>hb (by simp[z])) q⟩
 self:=λ_ _ _ _ _ st h=>by
  obtain⟨⟨old,hz⟩,_⟩:=st;exact wpAny_pyIter_enum hz h
noncomputable def sQ(K:aq)(ta:TA):TI:=λσ H R=>ta σ H λvs H1=>∃(l:Addr),vs=[.ref l]/\(∃xs,SqL K H1 l xs)/\R (Ite K l) H1
theorem v8{X:Cx}{es:List Expr}{ek:Nat}{epos p pos:Pos}{a:Expr}{ta:TA}(hg:Gl X "enumerate")(hm:X.mg "enumerate" = none)(hv:bB "enumerate" = some (.type "enumerate"))(ha:PA X [a] ta)
  (hs:aL [a] X.env=[(false,eval a X.env)]:=by rfl):PI X (.Tuple es ek epos) (.Call (.Name "enumerate" p) [a] [] pos) (sQ X.K ta):=by
 intro pins s σ H R I h;refine Call_ (fC I hg hm hv (eR (thn (ha pos pins s σ H _ I h) λus s1 ⟨vs,H1,I1,r1,q1⟩=>?_) (by rw[hs];rfl) (by rfl)));obtain⟨l,e,⟨xs,q2⟩,q⟩:=q1;subst e;cases r1 with
 |cons r rr=>
  cases rr;cases r;obtain⟨its1,v1,p1,_⟩:=I1.list q2;have lt1:l<s1.heap.objs.size:=by obtain⟨_,e,_⟩:=p1.isList;exact aH e
  refine call_enumerate_list p1.isList λh' hE hI hsz k=>?_
  have I2:Inv X pins σ H1 {s1 with heap:=h'}:=I1.kept (t':=s1.toks) k;refine wpAny_pyIter_enum hE ?_;refine⟨_,_,_,_,H1,rfl,I2,ya (P:=X.prog) (w:=X.w) (K:=X.K) (e:=s1.heap.objs.size+1) (it:=s1.heap.objs.size) (l:=l) (Nat.succ_ne_self _) (aV (Nat.lt_succ_of_lt lt1)) (aV lt1),⟨⟨_,hE⟩,hI⟩,λb hb=>?_,q⟩;have hb':b=s1.heap.objs.size+1\/b=s1.heap.objs.size:=by simpa using hb
  have:s1.heap.objs.size<=b:=by
   rcases hb' with q|q
   ·rw[q];exact Nat.le_succ _
   ·rw[q];exact aD _
  exact I1.fpOk this (I1.hok.fresh this)
end L2
namespace L2
open PySem PySem.Spec PyProof.Rows PySem.SeqAt
mutual
inductive dR(K:aq)(H:Hp):V->PyData->Prop
 |non:dR K H .non .none
 |bl (b:Bool):dR K H (.bl b) (.bool b)
 |int (i:Int):dR K H (.int i) (.int i)
 |str (x:Str):dR K H (.str x) (.str x)
 |lst {a:Addr}{xs:List V}{ds:List PyData}:SqL K H a xs->gv K H xs ds->dR K H (.ref a) (.list ds)
 |tup {a:Addr}{xs:List V}{ds:List PyData}:SqT K H a xs->gv K H xs ds->dR K H (.ref a) (.tuple ds)
inductive gv(K:aq)(H:Hp):List V->List PyData->Prop
 |nil:gv K H [] []
 |cons {x:V}{xs:List V}{d:PyData}{ds:List PyData}:dR K H x d->gv K H xs ds->gv K H (x::xs) (d::ds)
end
section
variable{X:Cx}{pins:List (Addr×Obj)}{σ:St}{H:Hp}{s:af}
theorem Inv.reads(I:Inv X pins σ H s){x:V}{d:PyData}(h:dR X.K H x d):∀{u:ae},RelV x u->∃as,Reads s.heap u d as:=
 h.rec (motive_1:=λx d _=>∀{u:ae},RelV x u->∃as,Reads s.heap u d as) (motive_2:=λxs ds _=>∀{us:List ae},Vals xs us->∃as,ReadsAll s.heap us ds as) (λr=>by cases r;exact⟨_,.none⟩) (λb _ r=>by cases r;exact⟨_,.bool b⟩) (λi _ r=>by obtain⟨t,rfl⟩:=r;exact⟨_,.int i t⟩) (λx _ r=>by obtain⟨t,rfl⟩:=r;exact⟨_,.str x t⟩)
  (λh _ g _ r=>by
   cases r;obtain⟨its,rv,pl,_⟩:=I.list h;obtain⟨as,ra⟩:=g rv;obtain⟨o,ho,hc,n,hd⟩:=pl.isList;exact⟨_,Reads.list ho hc hd (by simpa using ra)⟩)
  (λh _ g _ r=>by
   cases r;obtain⟨its,rv,pl,_⟩:=I.tuple h;obtain⟨as,ra⟩:=g rv;obtain⟨o,ho,hc,n,hd⟩:=pl;exact⟨_,Reads.tuple ho hc hd (by simpa using ra)⟩)
  (λr=>by cases r;exact⟨_,.nil⟩) (λ_ _ a b _ r=>by
   cases r with
   |cons r1 r2=>
    obtain⟨as,ra⟩:=a r1;obtain⟨bs,rb⟩:=b r2;exact⟨_,.cons ra rb⟩)
end
section
variable{X:Cx}
end
end L2
namespace L2
open PySem PySem.Spec PyProof.Rows
theorem gJ{α β:Type}{lt:Nat->Nat->Bool}{f:α->PySem.W.KasT β}:∀t:PySem.W.KasT α,qm lt (t.bind f)=qm lt (f (qm lt t))
 | .ret _=>rfl
 | .ask i j k=>gJ (k (lt i j))
theorem x9{a b:Int×Int}(h:ltP a b=true):ltP b a=false:=by
 unfold ltP at *;by_cases x:a.1=b.1
 ·rw[if_pos x]at h;rw[if_pos x.symm];simp only[decide_eq_true_eq]at h;exact decide_eq_false (by lia)
 ·rw[if_neg x]at h;rw[if_neg (λz=>x z.symm)];simp only[decide_eq_true_eq]at h;exact decide_eq_false (by lia)
structure Wk(lt:Nat->Nat->Bool):Prop where
 asym:∀a b,lt a b=true->lt b a=false
 neg:∀a b c,lt b a=false->lt c b=false->lt c a=false
section
variable{lt:Nat->Nat->Bool}
noncomputable def Asc(lt:Nat->Nat->Bool)(p:Array Nat)(m:Nat):Prop:=∀i j,i<j->j<m->lt (p.getD j 0) (p.getD i 0)=false
noncomputable def Dsc(lt:Nat->Nat->Bool)(p:Array Nat)(m:Nat):Prop:=∀i j,i<j->j<m->lt (p.getD i 0) (p.getD j 0)=false
theorem getD_at(p:Array Nat)(i:Nat):p.getD i 0=(p[i]?).getD 0:=by
 unfold Array.getD;split
 ·rename_i h;simp[h]
 ·rename_i h;simp[h]
theorem fj{p:Array Nat}{i j:Nat}(hj:j<=p.size)(k:Nat):(bp p i j).getD k 0=if i<=k/\k<j then p.getD (i+j-1-k) 0 else p.getD k 0:=by
 rw[getD_at,getD_at,getD_at];unfold bp;rw[getElem?_mirror_all hj];split<;>rfl
theorem iY(p:Array Nat)(i j:Nat):(bp p i j).size=p.size:=mirror_size _ _ _ _
theorem jt(p:Array Nat)(i j:Nat):(bp p i j).Perm p:=mirror_perm _ _ _ _
theorem Dsc.rev{p:Array Nat}{n:Nat}(h:Dsc lt p n)(hn:n<=p.size):Asc lt (bp p 0 n) n:=λi j hij hj=>by
 rw[fj hn,fj hn,if_pos (by lia),if_pos (by lia)];exact h _ _ (by lia) (by lia)
theorem j'(W:Wk lt){p:Array Nat}:∀(f n:Nat),1<=n->Asc lt p n->n<=qm lt (PySem.W.kas_asc p f n)/\qm lt (PySem.W.kas_asc p f n)<=n+f/\Asc lt p (qm lt (PySem.W.kas_asc p f n)) /\
  (qm lt (PySem.W.kas_asc p f n)<n+f->lt (p.getD (qm lt (PySem.W.kas_asc p f n)) 0) (p.getD (qm lt (PySem.W.kas_asc p f n)-1) 0)=true)
 | 0,n,_,h=>⟨aD _,aD _,h,λz=>absurd z (bx _)⟩
 |f+1,n,h1,h=>by
  have e:qm lt (PySem.W.kas_asc p (f+1) n)=qm lt (if lt (p.getD n 0) (p.getD (n-1) 0)=true then .ret n else PySem.W.kas_asc p f (n+1)):=rfl;rw[e];cases hc:lt (p.getD n 0) (p.getD (n-1) 0)with
  |true=>
   rw[if_pos rfl];exact⟨aD _,Nat.le_add_right _ _,h,λ_=>hc⟩
  |false=>
   rw[if_neg (by decide)];obtain⟨a1,a2,a3,a4⟩:=j' W f (n+1) (by lia) λi j hij hj=>by
    by_cases hjn:j<n
    ·exact h i j hij hjn
    ·have:j=n:=by lia
     subst this;by_cases hi:i=j-1
     ·subst hi;exact hc
     ·exact W.neg _ _ _ (h i (j-1) (by lia) (by lia)) hc
   exact⟨by lia,by lia,a3,λz=>a4 (by lia)⟩
noncomputable def Run(lt:Nat->Nat->Bool)(p:Array Nat)(n q:Nat):Prop:=∀i j,n-1-q<=i->i<n->n-1-q<=j->j<n->lt (p.getD i 0) (p.getD j 0)=false
theorem Dsc.run{p:Array Nat}{n q:Nat}(h:Dsc lt p n)(r:Run lt p n q)(hq:q<n)(hn:n<=p.size):Dsc lt (bp p (n-(q+1)) n) n:=λi j hij hj=>by
 rw[fj hn,fj hn];by_cases ci:n-(q+1)<=i
 ·rw[if_pos (by lia),if_pos (by lia)];exact r _ _ (by lia) (by lia) (by lia) (by lia)
 ·rw[if_neg (by lia)];split
  ·exact h _ _ (by lia) (by lia)
  ·exact h _ _ hij hj
theorem jh(W:Wk lt):∀(f:Nat) (p:Array Nat) (n q:Nat),1<=n->n+f<=p.size->q<n->Dsc lt p n->Run lt p n q ->
  (qm lt (bc f p n q)).1.Perm p/\(qm lt (bc f p n q)).1.size=p.size/\n<=(qm lt (bc f p n q)).2.1/\(qm lt (bc f p n q)).2.1<=n+f /\
  (qm lt (bc f p n q)).2.2<(qm lt (bc f p n q)).2.1/\Dsc lt (qm lt (bc f p n q)).1 (qm lt (bc f p n q)).2.1/\Run lt (qm lt (bc f p n q)).1 (qm lt (bc f p n q)).2.1 (qm lt (bc f p n q)).2.2
 | 0,p,n,q,h1,hs,hq,hd,hr=>⟨Array.Perm.refl _,rfl,aD _,aD _,hq,hd,hr⟩
 |f+1,p,n,q,h1,hs,hq,hd,hr=>by
  have e:qm lt (bc (f+1) p n q)=qm lt (if lt (p.getD n 0) (p.getD (n-1) 0)=true then (if q>0 then bc f (bp p (n-(q+1)) n) (n+1) 0 else bc f p (n+1) 0)
   else .ask (p.getD (n-1) 0) (p.getD n 0) λd=>if d=true then .ret (p,n,q)else bc f p (n+1) (q+1)):=rfl
  rw[e];have one:∀p':Array Nat,Run lt p' (n+1) 0:=λp' i j hi hi' hj hj'=>by
   have:i=j:=by lia
   subst this;cases z:lt (p'.getD i 0) (p'.getD i 0)with
   |false=>rfl
   |true=>have:=W.asym _ _ z;rw[z]at this;cases this
  have grow:∀p':Array Nat,Dsc lt p' n->(∀i,i<n->lt (p'.getD i 0) (p'.getD n 0)=false)->Dsc lt p' (n+1):=λp' hd' hn' i j hij hj=>by
   by_cases hjn:j<n
   ·exact hd' i j hij hjn
   ·have:j=n:=by lia
    subst this;exact hn' i hij
  have refl:∀a,lt a a=false:=λa=>by
   cases z:lt a a with
   |false=>rfl
   |true=>have:=W.asym _ _ z;rw[z]at this;cases this
  cases hc:lt (p.getD n 0) (p.getD (n-1) 0)with
  |true=>
   rw[if_pos rfl];have hc':=W.asym _ _ hc;have below:∀i,i<n->lt (p.getD i 0) (p.getD n 0)=false:=λi hi=>by
    by_cases z:i=n-1
    ·subst z;exact hc'
    ·exact W.neg _ _ _ hc' (hd i (n-1) (by lia) (by lia))
   by_cases h0:q>0
   ·rw[if_pos h0];have hsz:(bp p (n-(q+1)) n).size=p.size:=iY _ _ _;obtain⟨a1,a2,a3,a4,a5,a6,a7⟩:=jh W f (bp p (n-(q+1)) n) (n+1) 0 (by lia) (by rw[hsz];lia) (by lia) (grow _ (hd.run hr hq (by lia)) λi hi=>by
     rw[fj (by lia),fj (by lia),if_neg (show ¬ (n-(q+1)<=n/\n<n)by lia)];split
     ·exact below _ (by lia)
     ·exact below _ hi) (one _)
    exact⟨a1.trans (jt _ _ _),a2.trans hsz,by lia,by lia,a5,a6,a7⟩
   ·rw[if_neg h0];obtain⟨a1,a2,a3,a4,a5,a6,a7⟩:=jh W f p (n+1) 0 (by lia) (by lia) (by lia) (grow _ hd below) (one _);exact⟨a1,a2,by lia,by lia,a5,a6,a7⟩
  |false=>
   rw[if_neg (by decide)];have e2:qm lt (.ask (p.getD (n-1) 0) (p.getD n 0) λd=>if d=true then .ret (p,n,q)else bc f p (n+1) (q+1))=qm lt (if lt (p.getD (n-1) 0) (p.getD n 0)=true then .ret (p,n,q)else bc f p (n+1) (q+1)):=rfl;rw[e2];cases hd2:lt (p.getD (n-1) 0) (p.getD n 0)with
   |true=>
    rw[if_pos rfl];exact⟨Array.Perm.refl _,rfl,aD _,Nat.le_add_right _ _,hq,hd,hr⟩
   |false=>
    rw[if_neg (by decide)];obtain⟨a1,a2,a3,a4,a5,a6,a7⟩:=jh W f p (n+1) (q+1) (by lia) (by lia) (by lia) (grow _ hd λi hi=>by
     by_cases z:i=n-1
     ·subst z;exact hd2
     ·exact W.neg _ _ _ hd2 (hd i (n-1) (by lia) (by lia))) (λi j hi hi' hj hj'=>by
     by_cases zi:i=n
     ·by_cases zj:j=n
      ·rw[zi,zj];exact refl _
      ·rw[zi];exact W.neg _ _ _ (hr (n-1) j (by lia) (by lia) (by lia) (by lia)) hc
     ·by_cases zj:j=n
      ·rw[zj];exact W.neg _ _ _ hd2 (hr i (n-1) (by lia) (by lia) (by lia) (by lia))
      ·exact hr i j (by lia) (by lia) (by lia) (by lia))
    exact⟨a1,a2,by lia,by lia,a5,a6,a7⟩
end
section
variable{lt:Nat->Nat->Bool}
structure Part(lt:Nat->Nat->Bool)(p:Array Nat)(r:Nat×Array Nat):Prop where
 perm:r.2.Perm p
 size:r.2.size=p.size
 lo:1<=r.1
 hi:r.1<=p.size
 asc:Asc lt r.2 r.1
theorem mM(W:Wk lt){p:Array Nat}{n:Nat}(h1:1<=n)(hn:n<=p.size)(hd:Dsc lt p n):Part lt p (qm lt (PySem.W.kas_tail3 n p.size p)):=by
 unfold PySem.W.kas_tail3;rw[gJ];obtain⟨a1,a2,a3,_⟩:=j' W (p:=bp p 0 n) (p.size-n) n h1 (hd.rev hn);exact⟨jt _ _ _,iY _ _ _,bg h1 a1,by show qm lt (PySem.W.kas_asc (bp p 0 n) (p.size-n) n)<=_;lia,a3⟩
theorem Part.of{p p':Array Nat}{r:Nat×Array Nat}(h:Part lt p' r)(hp:p'.Perm p)(hs:p'.size=p.size):Part lt p r:=⟨h.perm.trans hp,h.size.trans hs,h.lo,hs▸h.hi,h.asc⟩
theorem oX(W:Wk lt){p:Array Nat}{n:Nat}(hn:n+1<=p.size)(hd:Dsc lt p (n+1)):Part lt p (qm lt (PySem.W.kas_descPart n p.size p)):=by
 unfold PySem.W.kas_descPart;rw[gJ];have refl:∀a,lt a a=false:=λa=>by
  cases z:lt a a with
  |false=>rfl
  |true=>have:=W.asym _ _ z;rw[z]at this;cases this
 obtain⟨a1,a2,a3,a4,a5,a6,a7⟩:=jh W (p.size-(n+1)) p (n+1) 0 (by lia) (by lia) (by lia) hd λi j hi hi' hj hj'=>by
  have:i=j:=by lia
  subst this;exact refl _
 generalize qm lt (bc (p.size-(n+1)) p (n+1) 0)=r at a1 a2 a3 a4 a5 a6 a7;split
 ·have hsz:(bp r.1 (r.2.1-(r.2.2+1)) r.2.1).size=p.size:=(iY _ _ _).trans a2;have T:=mM W (p:=bp r.1 (r.2.1-(r.2.2+1)) r.2.1) (n:=r.2.1) (by lia) (by rw[hsz];lia) (a6.run a7 a5 (by lia));rw[hsz]at T;exact T.of ((jt _ _ _).trans a1) hsz
 ·have T:=mM W (p:=r.1) (n:=r.2.1) (by lia) (by lia) a6;rw[a2]at T;exact T.of a1 a2
theorem xB(W:Wk lt){p:Array Nat}(h1:1<=p.size):Part lt p (qm lt (PySem.W.kas_count p.size p)):=by
 unfold PySem.W.kas_count;rw[gJ];obtain⟨a1,a2,a3,a4⟩:=j' W (p:=p) (p.size-1) 1 (aD _) λi j hij hj=>by lia
 generalize qm lt (PySem.W.kas_asc p (p.size-1) 1)=n at a1 a2 a3 a4;by_cases he:n=p.size
 ·rw[if_pos (by simp[he])];exact⟨Array.Perm.refl _,rfl,a1,by show n<=_;lia,a3⟩
 ·rw[if_neg (by simp[he])];have hlt:=a4 (by lia);have hle:=W.asym _ _ hlt;have start:∀p':Array Nat,(∀i,i<n->lt (p'.getD i 0) (p.getD (n-1) 0)=false/\lt (p.getD (n-1) 0) (p'.getD i 0)=false)->p'.getD n 0=p.getD n 0->Dsc lt p' (n+1):=λp' hp' en i j hij hj=>by
   by_cases hjn:j<n
   ·exact W.neg _ _ _ (hp' j hjn).2 (hp' i (by lia)).1
   ·have:j=n:=by lia
    subst this;rw[en];exact W.neg _ _ _ hle (hp' i hij).1
  by_cases h2:n>1
  ·rw[if_pos h2];have e2:∀t u:PySem.W.KasT (Nat×Array Nat),qm lt (.ask (p.getD 0 0) (p.getD (n-1) 0) λc=>if c=true then t else u)=qm lt (if lt (p.getD 0 0) (p.getD (n-1) 0)=true then t else u):=λ_ _=>rfl
   rw[e2];cases hc:lt (p.getD 0 0) (p.getD (n-1) 0)with
   |true=>
    rw[if_pos rfl];exact⟨Array.Perm.refl _,rfl,a1,by show n<=_;lia,a3⟩
   |false=>
    rw[if_neg (by decide)];have hsz:(bp p 0 n).size=p.size:=iY _ _ _;have all:∀i,i<n->lt (p.getD i 0) (p.getD (n-1) 0)=false/\lt (p.getD (n-1) 0) (p.getD i 0)=false:=λi hi=>by
     have up:lt (p.getD (n-1) 0) (p.getD i 0)=false:=by
      by_cases z:i=n-1
      ·rw[z];cases y:lt (p.getD (n-1) 0) (p.getD (n-1) 0)with
       |false=>rfl
       |true=>have:=W.asym _ _ y;rw[y]at this;cases this
      ·exact a3 i (n-1) (by lia) (by lia)
     refine⟨?_,up⟩;by_cases z:i=0
     ·rw[z];exact hc
     ·exact W.neg _ _ _ hc (a3 0 i (by lia) hi)
    have T:=oX W (p:=bp p 0 n) (n:=n) (by lia) (start _ (λi hi=>by rw[fj (by lia),if_pos (by lia)];exact all _ (by lia)) (by rw[fj (by lia),if_neg (by lia)]));rw[hsz]at T;exact T.of (jt _ _ _) hsz
  ·rw[if_neg h2];have:n=1:=by lia
   subst this;have refl:∀a,lt a a=false:=λa=>by
    cases z:lt a a with
    |false=>rfl
    |true=>have:=W.asym _ _ z;rw[z]at this;cases this
   exact oX W (by lia) (start p (λi hi=>by
    have:i=0:=by lia
    subst this;exact⟨refl _,refl _⟩) rfl)
theorem place_spec(W:Wk lt){p:Array Nat}{k:Nat}(hs:Asc lt p k):∀(f l r:Nat),l<=r->r<=k->r-l<=f->(∀i,i<l->lt (p.getD k 0) (p.getD i 0)=false)->(∀i,r<=i->i<k->lt (p.getD k 0) (p.getD i 0)=true) ->
  qm lt (PySem.W.kas_place p k f l r)<=k/\(∀i,i<qm lt (PySem.W.kas_place p k f l r)->lt (p.getD k 0) (p.getD i 0)=false)/\(∀i,qm lt (PySem.W.kas_place p k f l r)<=i->i<k->lt (p.getD k 0) (p.getD i 0)=true)
 | 0,l,r,h1,h2,h3,hl,hr=>⟨by show l<=k;lia,hl,λi hi=>hr i (by have:l<=i:=hi;lia)⟩
 |f+1,l,r,h1,h2,h3,hl,hr=>by
  unfold PySem.W.kas_place;by_cases hg:l >= r
  ·rw[if_pos hg];exact⟨by show l<=k;lia,hl,λi hi=>hr i (by have:l<=i:=hi;lia)⟩
  ·rw[if_neg hg];have e2:∀t u:PySem.W.KasT Nat,qm lt (.ask (p.getD k 0) (p.getD ((l+r)/2) 0) λc=>if c=true then t else u)=qm lt (if lt (p.getD k 0) (p.getD ((l+r)/2) 0)=true then t else u):=λ_ _=>rfl
   rw[e2];cases hc:lt (p.getD k 0) (p.getD ((l+r)/2) 0)with
   |true=>
    rw[if_pos rfl];refine place_spec W hs f l ((l+r)/2) (by lia) (by lia) (by lia) hl λi hi hik=>?_
    by_cases z:i=(l+r)/2
    ·rw[z];exact hc
    ·cases y:lt (p.getD k 0) (p.getD i 0)with
     |true=>rfl
     |false=>
      have:=W.neg _ _ _ (hs ((l+r)/2) i (by lia) hik) y;rw[hc]at this;cases this
   |false=>
    rw[if_neg (by decide)];refine place_spec W hs f ((l+r)/2+1) r (by lia) h2 (by lia) (λi hi=>?_) hr;by_cases z:i=(l+r)/2
    ·rw[z];exact hc
    ·exact W.neg _ _ _ (hs i ((l+r)/2) (by lia) (by lia)) hc
theorem o7{p:Array Nat}{k x:Nat}(hk:k<p.size)(hx:x<=k)(i:Nat):(bubble p k (k-x)).getD i 0=if i=x then p.getD k 0 else if x<i/\i<=k then p.getD (i-1) 0 else p.getD i 0:=by
 rw[getD_at,getElem?_bubble hk _ (by lia),show k-(k-x)=x by lia,getD_at,getD_at,getD_at];split
 ·rfl
 ·split<;>rfl
theorem mK(W:Wk lt):∀(f:Nat) (p:Array Nat) (k:Nat),k+f<=p.size->Asc lt p k->(qm lt (PySem.W.kas_bin f p k)).Perm p/\Asc lt (qm lt (PySem.W.kas_bin f p k)) (k+f)
 | 0,p,k,_,h=>⟨Array.Perm.refl _,h⟩
 |f+1,p,k,hs,h=>by
  unfold PySem.W.kas_bin;rw[gJ];obtain⟨a1,a2,a3⟩:=place_spec W h k 0 k (b8 _) (aD _) (by lia) (λi hi=>by lia) (λi hi hik=>by lia);generalize qm lt (PySem.W.kas_place p k k 0 k)=x at a1 a2 a3;have hsz:(bubble p k (k-x)).size=p.size:=bubble_size _ _ _;obtain⟨b1,b2⟩:=mK W f (bubble p k (k-x)) (k+1) (by rw[hsz];lia) λi j hij hj=>by
   rw[o7 (by lia) a1,o7 (by lia) a1];by_cases zj:j=x
   ·rw[if_pos zj,if_neg (by lia),if_neg (by lia)];exact a2 i (by lia)
   ·rw[if_neg zj];by_cases gj:x<j
    ·rw[if_pos (by lia)];by_cases zi:i=x
     ·rw[if_pos zi];exact W.asym _ _ (a3 (j-1) (by lia) (by lia))
     ·rw[if_neg zi];by_cases gi:x<i
      ·rw[if_pos (by lia)];exact h _ _ (by lia) (by lia)
      ·rw[if_neg (by lia)];exact h _ _ (by lia) (by lia)
    ·rw[if_neg (by lia),if_neg (by lia),if_neg (by lia)];exact h _ _ hij (by lia)
  refine⟨b1.trans (bubble_perm _ _ _),?_⟩;rw[show k+(f+1)=k+1+f by lia];exact b2
theorem wx(W:Wk lt){n:Nat}(hn:0<n):(qm lt (PySem.W.kas_sort n)).toList.Perm (aW n)/\Asc lt (qm lt (PySem.W.kas_sort n)) n:=by
 unfold PySem.W.kas_sort;rw[gJ];have hsz:(aW n).toArray.size=n:=by simp
 have C:=xB W (p:=(aW n).toArray) (by rw[hsz];lia);rw[hsz]at C;generalize qm lt (PySem.W.kas_count n (aW n).toArray)=r at C;have tl:∀q:Array Nat,q.Perm (aW n).toArray->q.toList.Perm (aW n):=λq hq=>by
  have:=Array.perm_iff_toList_perm.mp hq
  simpa using this
 have hh:=C.hi;have hl:=C.lo;have h2:=C.size;rw[hsz]at hh h2;split
 ·rename_i hlt
  rw[show max r.1 1=r.1 by lia];obtain⟨b1,b2⟩:=mK W (n-r.1) r.2 r.1 (by lia) C.asc;rw[show r.1+(n-r.1)=n by lia]at b2;exact⟨tl _ (b1.trans C.perm),b2⟩
 ·rename_i hlt
  have:r.1=n:=by lia
  refine⟨tl _ C.perm,?_⟩;have:=C.asc;rw[show r.1=n by lia]at this;exact this
end
theorem yO(f:Nat->Int×Int):Wk λi j=>ltP (f i) (f j):=by
 refine⟨λa b h=>x9 h,λa b c h1 h2=>?_⟩;unfold ltP at *;generalize f a=x at *;generalize f b=y at *;generalize f c=z at *;by_cases e1:y.1=x.1
 ·rw[if_pos e1]at h1;by_cases e2:z.1=y.1
  ·rw[if_pos e2]at h2;rw[if_pos (by lia)];have h1:=of_decide_eq_false h1;have h2:=of_decide_eq_false h2;exact decide_eq_false (by lia)
  ·rw[if_neg e2]at h2;have h2:=of_decide_eq_false h2;rw[if_neg (by lia)];exact decide_eq_false (by lia)
 ·rw[if_neg e1]at h1;have h1:=of_decide_eq_false h1;by_cases e2:z.1=y.1
  ·rw[if_neg (by lia)];exact decide_eq_false (by lia)
  ·rw[if_neg e2]at h2;have h2:=of_decide_eq_false h2;rw[if_neg (by lia)];exact decide_eq_false (by lia)
theorem xb(ks:List (Int×Int)):(cP ks).Perm (aW ks.length)/\((cP ks).map λi=>ks.getD i (0,0)).Pairwise λa b=>ltP b a=false:=by
 unfold cP;by_cases h2:ks.length<2
 ·rw[if_pos h2];refine⟨List.Perm.refl _,?_⟩;refine List.pairwise_iff_getElem.mpr λi j hi hj hij=>?_
  rw[aI,List.length_range]at hj;lia
 ·rw[if_neg h2];obtain⟨h1,h3⟩:=wx (yO λi=>ks.getD i (0,0)) (n:=ks.length) (by lia);refine⟨h1,?_⟩;have hlen:=h1.length_eq;rw[List.length_range]at hlen;refine List.pairwise_map.mpr (List.pairwise_iff_getElem.mpr λi j hi hj hij=>?_);have:=h3 i j hij (by lia);rw[getD_at,getD_at]at this;have gi:∀(q:Array Nat) (m:Nat) (hm:m<q.toList.length),(q[m]?).getD 0=q.toList[m]:=λq m hm=>by
   have:m<q.size:=by simpa using hm
   simp[this]
  rw[gi _ j hj,gi _ i hi]at this;exact this
end L2
namespace HT
open PySem PySem.Spec PyProof.Rows L2
section
variable{prog:av}{w:au}{A:aw}{E:ae->af->Prop}{s:af}
theorem B4{t sl:Addr}{items:Array ae}{vl vu:ae}{lo hi:Option Int}{Q:ae->af->Prop}(ht:IsTup s.heap t items)(hs:s.heap.IsSliceOf sl vl vu .none)(pl:IsPart vl lo)(pu:IsPart vu hi)
  (h0:sIx items.size 0 lo=0) (h1:sIx items.size items.size hi=items.size) (h:Q (.ref t) s):ai (aj prog w) A (getItem (.ref t) (.ref sl)) Q E s:=by
 have sk:s.TypeIs (.ref sl) "slice":=by obtain⟨o,a,b,_⟩:=id hs;exact⟨o,a,b⟩
 unfold getItem
 try with_reducible refine cM ?_
 first|refine ah (ax ?_)|skip
 have ty:=ht.typeIs;apply ah;apply wpAny_sequenceKey ty (by decide);apply ah;apply wpAny_callSpecial?_slot (name:=ag "__getitem__") ty slot_tuple_getitem;refine cL slot_tuple_getitem ty entry_tuple_getitem ?_ (args_tuple_getitem _ _);show ai _ _ (Builtin.Tuple.tupleItemsOf (.ref t)>>=_) _ _ s;apply ah;apply tupleItemsOf_ ht;apply ah;apply wpAny_typeOf sk;rw[if_pos (by decide)];apply ah;apply om hs pl pu;have yes:(((sIx items.size 0 lo:Nat):Int)==0&&(1:Int)==1&&(sIx items.size items.size hi-sIx items.size 0 lo)==items.size)=true:=by
  rw[h0,h1];simp
 show ai _ _ (if (((sIx items.size 0 lo:Nat):Int)==0&&(1:Int)==1&&(sIx items.size items.size hi-sIx items.size 0 lo)==items.size)=true then _ else _) _ _ s;rw[if_pos yes];apply ah;unfold Builtin.Tuple.tupleIsExact;refine ah (wpAny_typeOf ty (ax ?_));rw[if_pos (by rfl)];exact ah (wpAny_rule (ax ⟨_,rfl,ax h⟩))
end
end HT
namespace L2
open PySem PySem.Spec PyProof.Rows
noncomputable def Dt(K:aq):V->Option Int->Option Int->Hp->VK->Prop:=λx lo hi H Q=>∃a xs,x=.ref a/\SqT K H a xs/\HT.sIx xs.length 0 lo=0/\HT.sIx xs.length xs.length hi=xs.length/\Q x H
theorem AM{X:Cx}:SlR X (Dt X.K):=by
 intro pins s σ H x v vl vu lo hi sl Q I rx hs pl pu ⟨a,xs,e,hx,h0,h1,q⟩;subst e;have rx':=rx;cases rx;obtain⟨its,r,ht,hz⟩:=I.tuple hx;have hl:its.toArray.size=xs.length:=by rw[aO];exact r.length.symm
 exact⟨"tuple",_,slot_tuple_getitem.lookup,ht.typeIs,HT.B4 ht hs pl pu (by rw[hl];exact h0) (by rw[hl];exact h1) ⟨.ref a,H,I,rx',q⟩⟩
noncomputable def B_(K:aq)(C:Addr)(n:Nat)(tb:TS)(Eh:XK)(ts:TS):TS:=λD σ H=>tb {D with nx:=D.nx} σ H /\
 ∀(τ:St) (cls:ae) (H':Hp),τ.length=n->Eh cls none H'->bO K cls (.ref C)=some true/\ts {nx:=λ_ _=>False,rt:=D.rt} τ H'
theorem vP{X:Cx}{C:Addr}{cn:Str}{np hpos pos:Pos}{body:List Stmt}{b₀:Stmt}{suite:List Stmt}{tb ts:TS}{Eh:XK}(hex:X.ex=[])(hst:X.stack=X.env::X.outer)(hfr:X.env.frame=some X.env.locals)
  (hg:Gl X cn) (hm:X.mg cn=some (.ref C))
  (hb:∀pn Et,Passes (CX1 X.prog X.w) (X.inTry pn Et) Eh->PSs (X.inTry pn Et) body tb) (hs:∀x,PSs (X.held x) (b₀::suite) ts) (hd:(cn==("__debug__" : Str))=false:=by decide) :
  PS X (.Try body [.ExceptHandler (some (.Name cn np)) none (b₀::suite) hpos] [] [] pos) (B_ X.K C X.N.length tb Eh ts):=by
 intro pins s σ H D I h;obtain⟨h1,h2⟩:=h;refine wpAny_Try_except ?_;have okT:∀Et,(X.inTry (X.pn++pins) Et).Ok:=λEt=>
  ⟨I.ok.mod,I.ok.kind,I.ok.glob,I.ok.blt,I.ok.above,I.ok.inj,I.ok.has,I.ok.cab,I.ok.hd,I.ok.frames,I.ok.stk,I.ok.exf,I.ok.bs,I.ok.bsz,I.ok.noex,I.ok.exfs,I.ok.funs,I.ok.frf⟩
 have toT:∀{Et σ H s},Inv X pins σ H s->Inv (X.inTry (X.pn++pins) Et) [] σ H s:=λ{Et σ H s} J=>
  ⟨okT Et,J.os,J.bare,J.base,J.loc,J.cell,J.free,J.freeC,λp hp=>J.pin p (by simpa using hp),J.hok,J.len⟩
 have ofT:∀{Et pins' σ H s},Inv (X.inTry (X.pn++pins) Et) pins' σ H s->Inv X pins σ H s:=λ{Et pins' σ H s} J=>
  ⟨I.ok,J.os,J.bare,J.base,J.loc,J.cell,J.free,J.freeC,λp hp=>J.pin p (List.mem_append_left _ hp),J.hok,J.len⟩
 have hP:Passes (CX1 X.prog X.w) (X.inTry (X.pn++pins) λe s₁=>ai (aj X.prog X.w) X.A (noteFrame e X.env) (λ_ s₂=>ai (aj X.prog X.w) X.A (setFlight e none) (λ_ s₃=>
   ai (aj X.prog X.w) X.A (handleBy e X.env [.ExceptHandler (some (.Name cn np)) none (b₀::suite) hpos]) (SP X pins D) X.xe s₃) X.xe s₂) X.xe s₁) Eh:=by
  intro pins' σ' H' s' e s'' I' hcx;obtain⟨x,cls,H2,rfl,I2,F2,q⟩:=i8 (X:=X.inTry (X.pn++pins) _) rfl rfl I' hex hcx;have I3:Inv X pins σ' H2 s'':=ofT I2;have ap:∀{Et b},Apart (X.inTry (X.pn++pins) Et) pins' H2 b->Apart X pins H2 b:=λ{Et b} a=>⟨a.new,a.free,λp hp=>a.pin p (List.mem_append_left _ hp)⟩
  have F3:bX X pins H2 s''.heap x cls:=by
   obtain⟨oe,vs,T,oT,ts,a0,e1,e2,e3,e4,e5,e6,e7,e8,e9,e10⟩:=F2.tr;exact⟨ap F2.me,oe,vs,T,oT,ts,a0,e1,e2,e3,e4,e5,e6,e7,e8,e9,ap e10⟩
  obtain⟨oe,vs,_,_,_,_,e1,_,_,e4,_⟩:=id F3.tr;obtain⟨T,oT,tts,a0,W,hT,hTd,aT⟩:=bX.flying I3 F3;have hfrm:=I.ok.frames;rw[hst]at hfrm W;refine wpAny_looks_onW hfrm hfr W λh4 W4 u4=>?_
  refine wpAny_landsW W4 λh5 W5 u5=>?_
  rw[<-hst]at W5;obtain⟨I5,F5⟩:=bX.back I3 hex F3.me e1 e4 hT hTd aT W5 (u4.trans u5);obtain⟨oe5,vs5,T5,oT5,ts5,a5,g1,g2,g3,g4,g5,g6,g7,g8,g9,g10⟩:=id F5.tr;obtain⟨hx1,hx2⟩:=h2 σ' cls H2 I3.len q;have LT:PySem.W.Looks (aj X.prog X.w) h5 (typeOf (.ref x)) cls:=by
   subst g2;exact(PySem.W.Looks.ld g1).andThen .now
  refine wpAny_handleBy_cons (codeAny_handlers_test (f_ (I5.hold x) hg hm ?_ hd)) (by intro z;cases z);refine PySem.W.exm_one (K:=X.K) I5.kIn LT hx1 _ _ _ _ (λ_ _ e=>e) ?_;refine codeAny_handlers_suite ?_;obtain⟨T6,oT6,ts6,a6,W6,hT6,hTd6,aT6⟩:=bX.flying I5 F5;refine lands_againW W6 λh6 W6' u6=>?_
  obtain⟨I6,F6⟩:=bX.back I5 hex F5.me g1 g4 hT6 hTd6 aT6 W6' u6;refine bI (hs x pins _ _ _ _ (I6.hold x) hx2) (λf s9 r9=>?_) λ_ _ z=>aQ z
  cases f with
  |ret u=>
   obtain⟨v,σ9,H9,I9,rv,q9⟩:=r9;exact⟨v,_,H9,I9.unhold I.ok,rv,q9⟩
  |next=>obtain⟨_,_,_,z⟩:=r9;exact aQ z
  |brk=>obtain⟨_,_,_,z⟩:=r9;exact aQ z
  |cont=>obtain⟨_,_,_,z⟩:=r9;exact aQ z
 refine thn (hb _ _ hP [] s σ H _ (toT I) h1) λf s1 q=>?_
 cases f with
 |next=>obtain⟨σ1,H1,I1,q1⟩:=q;exact wpAny_execs_nil ⟨σ1,H1,ofT I1,q1⟩
 |brk=>obtain⟨σ1,H1,I1,q1⟩:=q;exact⟨σ1,H1,ofT I1,q1⟩
 |cont=>obtain⟨σ1,H1,I1,q1⟩:=q;exact⟨σ1,H1,ofT I1,q1⟩
 |ret u=>obtain⟨v,σ1,H1,I1,rv,q1⟩:=q;exact⟨v,σ1,H1,ofT I1,rv,q1⟩
section
variable{X:Cx}
noncomputable def D7:V->List V->Hp->VK->Prop:=λx vs H Q=>∃l xs j y,x=.ref l/\vs=[.int j,y]/\H l=some (.lst xs)/\xs.length<aF/\0<=j/\j<=xs.length/\Q .non (upd H l (.lst (xs.take j.toNat++y::xs.drop j.toNat)))
theorem xJ:MtM X "list.insert" D7:=by
 intro pins s σ H x vs v us Q I rx rv h;obtain⟨l,xs,j,y,rfl,rfl,hH,hz,hj,hj',q⟩:=h;cases rx;obtain⟨u,u2,rfl,ru,ru2⟩:=rv.two;obtain⟨t,rfl⟩:=ru;obtain⟨z,its,n,r,hl,e⟩:=I.lstM hH;have hsl:=aZ;have hfit:Builtin.List.listFitsIndex j=true:=by
  have a:¬ j<0:=by lia
  simp[Builtin.List.listFitsIndex];lia
 refine call_meets PySem.F.slot_list_insert ⟨_,e,rfl⟩ PySem.F.entry_list_insert (PySem.F.args_list_insert_3 _ _ _) (PySem.AutoSeq1.list_insert_list_int_val_1 l its.toArray n j t u2 (by simp[hfit]) (by rw[aO];lia)) ⟨e,?_⟩;refine⟨.non,_,I.lset (its':=its.take j.toNat++u2::its.drop j.toNat) hH e ?_ ((r.take _).append (.cons ru2 (r.drop _))) ?_,rfl,q⟩
 ·have hk:(if j<0 then (j+(its.toArray.size:Int)).toNat else min j.toNat its.toArray.size)=j.toNat:=by
   rw[if_neg (by lia),aO];lia
  show (its.toArray.extract 0 (if j<0 then (j+(its.toArray.size:Int)).toNat else min j.toNat its.toArray.size)).push u2++its.toArray.extract (if j<0 then (j+(its.toArray.size:Int)).toNat else min j.toNat its.toArray.size)=_;rw[hk];simp;apply List.take_of_length_le;simp
 ·simp;lia
end
section
variable{X:Cx}{tg:Expr}
end
section
variable{κ:Type} [DecidableEq κ]
noncomputable def cQ(kvs:List (κ×V))(k:κ):Option V:=(kvs.find? λkv=>decide (kv.1=k)).map (·.2)
noncomputable def putK(kvs:List (κ×V))(k:κ)(v:V):List (κ×V):=
 if (kvs.any λkv=>decide (kv.1=k))=true then kvs.map (λkv=>if kv.1=k then (kv.1,v)else kv)else kvs++[(k,v)]
theorem fF{p:κ×V}{r:List (κ×V)}{k:κ}(e:p.1=k):cQ (p::r) k=some p.2:=by simp[cQ,List.find?_cons,e]
theorem fH{p:κ×V}{r:List (κ×V)}{k:κ}(e:¬ p.1=k):cQ (p::r) k=cQ r k:=by simp[cQ,List.find?_cons,e]
theorem kL(k:κ):∀kvs:List (κ×V),(kvs.any λkv=>decide (kv.1=k))=(cQ kvs k).isSome
 | []=>rfl
 |p::r=>by
  rw[List.any_cons];by_cases e:p.1=k
  ·simp only[fF e,decide_eq_true e,Bool.true_or,Option.isSome_some]
  ·rw[fH e,decide_eq_false e,Bool.false_or];exact kL k r
theorem Cw(k j:κ)(y:V):∀kvs:List (κ×V),cQ (kvs.map λkv=>if kv.1=k then (kv.1,y)else kv) j=(cQ kvs j).map λx=>if j=k then y else x
 | []=>rfl
 |p::r=>by
  have ih:=Cw k j y r;rw[aS];by_cases h:p.1=k
  ·rw[if_pos h];by_cases e:p.1=j
   ·rw[fF (p:=(p.1,y)) e,fF e,Option.map_some,if_pos (e.symm.trans h)]
   ·rw[fH (p:=(p.1,y)) e,fH e,ih]
  ·rw[if_neg h];by_cases e:p.1=j
   ·rw[fF (p:=p) e,fF e,Option.map_some,if_neg (λz=>h (e.trans z))]
   ·rw[fH (p:=p) e,fH e,ih]
theorem lD(kvs:List (κ×V))(k:κ)(v:V):(putK kvs k v).length<=kvs.length+1:=by
 unfold putK;split
 ·rw[aI];lia
 ·rw[bL,br,List.length_nil];lia
theorem dm.isSome_eq{o:Option V}{u:Option ae}(r:dm o u):o.isSome=u.isSome:=by
 cases o with
 |none=>cases u with
  |none=>rfl
  |some _=>exact(show False from r).elim
 |some _=>cases u with
  |none=>exact(show False from r).elim
  |some _=>rfl
theorem dm.getD{o:Option V}{u:Option ae}{d:V}{d':ae}(r:dm o u)(rd:RelV d d'):RelV (o.getD d) (u.getD d'):=by
 cases o with
 |none=>cases u with
  |none=>exact rd
  |some _=>exact(show False from r).elim
 |some _=>cases u with
  |none=>exact(show False from r).elim
  |some _=>exact r
theorem KV.val{kvs:List (κ×V)}{vs:List (κ×ae)}(r:KV kvs vs)(k:κ):dm (cQ kvs k) (valueAt vs k):=by
 unfold KV at r
 induction r with
 |nil=>exact True.intro
 | @cons p q ps qs h t ih=>
  obtain⟨h1,h2⟩:=h;by_cases e:p.1=k
  ·have e':q.1=k:=h1.symm.trans e;have b:valueAt (q::qs) k=some q.2:=by simp[valueAt,List.find?_cons,e']
   rw[fF e,b];exact h2
  ·have e':¬ q.1=k:=λz=>e (h1.trans z)
   have b:valueAt (q::qs) k=valueAt qs k:=by simp[valueAt,List.find?_cons,e']
   rw[fH e,b];exact ih
theorem KV.any{kvs:List (κ×V)}{vs:List (κ×ae)}(r:KV kvs vs)(k:κ):(kvs.any λkv=>decide (kv.1=k))=vs.any λkv=>decide (kv.1=k):=by
 unfold KV at r
 induction r with
 |nil=>rfl
 |cons h t ih=>rw[List.any_cons,List.any_cons,ih,h.1]
theorem KV.repl{kvs:List (κ×V)}{vs:List (κ×ae)}(r:KV kvs vs)(k:κ){y:V}{u:ae}(ry:RelV y u) :
  KV (kvs.map λkv=>if kv.1=k then (kv.1,y)else kv) (vs.map λkv=>if kv.1=k then (kv.1,u)else kv):=by
 unfold KV at r ⊢
 induction r with
 |nil=>exact .nil
 | @cons p q ps qs h t ih=>
  rw[aS,aS];refine .cons ?_ ih;obtain⟨h1,h2⟩:=h;by_cases e:p.1=k
  ·rw[if_pos e,if_pos (h1.symm.trans e)];exact⟨h1,ry⟩
  ·rw[if_neg e,if_neg (λz=>e (h1.trans z))];exact⟨h1,h2⟩
theorem KV.put{kvs:List (κ×V)}{vs:List (κ×ae)}(r:KV kvs vs)(k:κ){y:V}{u:ae}(ry:RelV y u):KV (putK kvs k y) (stored vs k u):=by
 unfold putK stored;rw[r.any k];by_cases e:(vs.any λkv=>decide (kv.1=k))=true
 ·rw[if_pos e,if_pos e];exact r.repl k ry
 ·rw[if_neg e,if_neg e];exact Paired.snoc r ⟨rfl,ry⟩
theorem KV.length{kvs:List (κ×V)}{vs:List (κ×ae)}(r:KV kvs vs):kvs.length=vs.length:=Paired.length r
end
theorem fb{P:av}{w:au}{k:Key}{u:ae}(r:RelV (kV k) u):(zu P w).is k u=true:=by
 cases k with
 |inl i=>obtain⟨t,e⟩:=(show ∃t,u=ae.int i t from r);subst e;exact yW P w i t
 |inr x=>obtain⟨t,e⟩:=(show ∃t,u=ae.str x t from r);subst e;exact uB P w x t
theorem mY{P:av}{w:au}:∀{ks:List Key}{us:List ae},Vals (ks.map kV) us->ItemsAre (zu P w) ks us
 | [],_,r=>by rw[List.map_nil]at r;cases r;exact .nil
 |k::ks,_,r=>by
  rw[aS]at r;cases r with
  |cons h t=>exact .cons (fb h) (mY t)
abbrev KT(H:Hp):List (List Key×V)->List (List Key×Addr×ae)->Prop:=Paired λp q=>p.1=q.1/\H q.2.1=some (.tup (p.1.map kV))/\RelV p.2 q.2.2
theorem KT.val{H:Hp}{kvs:List (List Key×V)}{xs:List (List Key×Addr×ae)}(r:KT H kvs xs)(k:List Key):dm (cQ kvs k) ((atKey xs k).map (·.2)):=by
 induction r with
 |nil=>exact True.intro
 | @cons p q ps qs h t ih=>
  obtain⟨h1,_,h2⟩:=h;by_cases e:p.1=k
  ·have e':q.1=k:=h1.symm.trans e;have b:atKey (q::qs) k=some q.2:=by simp[atKey,List.find?_cons,e']
   rw[fF e,b];exact h2
  ·have e':¬ q.1=k:=λz=>e (h1.trans z)
   have b:atKey (q::qs) k=atKey qs k:=by simp[atKey,List.find?_cons,e']
   rw[fH e,b];exact ih
theorem KT.repl{H:Hp}{kvs:List (List Key×V)}{xs:List (List Key×Addr×ae)}(r:KT H kvs xs)(k:List Key){y:V}{u:ae}(ry:RelV y u) :
  KT H (kvs.map λkv=>if kv.1=k then (kv.1,y)else kv) (xs.map (putAt k u)):=by
 induction r with
 |nil=>exact .nil
 | @cons p q ps qs h t ih=>
  rw[aS,aS];refine .cons ?_ ih;obtain⟨h1,h2,h3⟩:=h;unfold putAt;by_cases e:p.1=k
  ·rw[if_pos e,if_pos (h1.symm.trans e)];exact⟨h1,h2,ry⟩
  ·rw[if_neg e,if_neg (λz=>e (h1.trans z))];exact⟨h1,h2,h3⟩
theorem KT.put{H:Hp}{kvs:List (List Key×V)}{xs:List (List Key×Addr×ae)}(r:KT H kvs xs)(k:List Key){b:Addr}{y:V}{u:ae}(hb:H b=some (.tup (k.map kV)))(ry:RelV y u) :
  KT H (putK kvs k y) (storedH xs k b u):=by
 have e:(kvs.any λkv=>decide (kv.1=k))=(atKey xs k).isSome:=by
  rw[kL,(r.val k).isSome_eq,Option.isSome_map]
 unfold putK storedH;rw[e];by_cases q:(atKey xs k).isSome=true
 ·rw[if_pos q,if_pos q];exact r.repl k ry
 ·rw[if_neg q,if_neg q];exact Paired.snoc r ⟨rfl,hb,ry⟩
theorem KT.keeps{H H':Hp}{kvs:List (List Key×V)}{xs:List (List Key×Addr×ae)}(r:KT H kvs xs)(ht:∀b ys,H b=some (.tup ys)->H' b=some (.tup ys)):KT H' kvs xs:=
 Paired.mapP r λ_ _ z=>⟨z.1,ht _ _ z.2.1,z.2.2⟩
section
variable{P:av}{w:au}{H:Hp}{h:Heap}{a:Addr}
theorem lW{u:HO}(ok:HOk P w H h)(e:Rd H a u):zC P w H h a u:=e.ok ok
theorem eZ{kvs:List (Key×V)}(ok:HOk P w H h)(e:Rd H a (.dK kvs)):kvs.length<=aF/\(a==sysModules)=false/\∃vs,KV kvs vs/\h.DictOf (zu P w) a vs:=
 show zC P w H h a (.dK kvs)from lW ok e
theorem gz{kvs:List (Key×V)}(ok:HOk P w H h)(e:H a=some (.dK kvs)):kvs.length<=aF/\(a==sysModules)=false/\∃vs,KV kvs vs/\h.DictOf (zu P w) a vs:=eZ ok (.inl e)
theorem fQ{ks:List Key}(ok:HOk P w H h)(e:H a=some (.tup (ks.map kV))):(tupleKind (zu P w)).is h ks a:=by
 obtain⟨_,its,r,o,h1,h2,n,h3⟩:=(show zC P w H h a (.tup (ks.map kV))from ok a _ e)
 exact⟨o,its.toArray,n,h1,h2,h3,by simpa using mY r⟩
theorem eW{kvs:List (List Key×V)}(ok:HOk P w H h)(e:Rd H a (.dT kvs)):kvs.length<=aF/\(a==sysModules)=false /\
  ∃xs,KT H kvs xs/\h.DictOfH (tupleKind (zu P w)) a xs:=by
 obtain⟨z,y,xs,r,o,es,ep,h1,h2,h3,h4,h5⟩:=(show zC P w H h a (.dT kvs)from lW ok e)
 refine⟨z,y,xs,r,o,es,ep,h1,h2,h3,h4,λx hx=>?_,h5⟩;have all:∀{l:List (List Key×V)}{m:List (List Key×Addr×ae)},KT H l m->∀x∈m,(tupleKind (zu P w)).is h x.1 x.2.1:=by
  intro l m q
  induction q with
  |nil=>intro x hx;exact nomatch hx
  | @cons p q ps qs hq t ih=>
   intro x hx;rcases aE.mp hx with e|hx
   ·subst e;exact fQ ok (by rw[<-hq.1];exact hq.2.1)
   ·exact ih x hx
 exact all r x hx
theorem vS{kvs:List (List Key×V)}(ok:HOk P w H h)(e:H a=some (.dT kvs)):kvs.length<=aF/\(a==sysModules)=false /\
  ∃xs,KT H kvs xs/\h.DictOfH (tupleKind (zu P w)) a xs:=eW ok (.inl e)
end
noncomputable def cN(H:Hp)(a:Addr)(y:V)(r:Option V):Prop:=
 (∃kvs k,Rd H a (.dK kvs)/\y=kV k/\r=cQ kvs k)\/∃kvs k b,Rd H a (.dT kvs)/\y=.ref b/\H b=some (.tup (k.map kV))/\r=cQ kvs k
noncomputable def jd(H:Hp)(a:Addr)(y v:V)(H':Hp):Prop:=
 (∃kvs k,H a=some (.dK kvs)/\y=kV k/\kvs.length<aF/\H'=upd H a (.dK (putK kvs k v))) \/
 ∃kvs k b,H a=some (.dT kvs)/\y=.ref b/\H b=some (.tup (k.map kV))/\kvs.length<aF/\H'=upd H a (.dT (putK kvs k v))
theorem cN.k{H:Hp}{a:Addr}{kvs:List (Key×V)}{k:Key}(e:H a=some (.dK kvs)):cN H a (kV k) (cQ kvs k):=.inl ⟨kvs,k,.inl e,rfl,rfl⟩
theorem jd.k{H:Hp}{a:Addr}{kvs:List (Key×V)}{k:Key}{v:V}(e:H a=some (.dK kvs))(hl:kvs.length<aF):jd H a (kV k) v (upd H a (.dK (putK kvs k v))):=.inl ⟨kvs,k,e,rfl,hl,rfl⟩
section
variable{X:Cx}{pins:List (Addr×Obj)}{σ:St}{H:Hp}{s:af}{a:Addr}{y v:V}{u r:ae}{o:Option V}{A:aw}{E:ae->af->Prop}
theorem Inv.big(I:Inv X pins σ H s):sysModules<s.heap.objs.size:=by
 have h:ak<s.heap.objs.size:=(I.mod.glob.keeps I.bk).lt;exact Nat.lt_trans (by decide) h
theorem ud{Q:ae->af->Prop}(hu:A.units+1<cLine)(I:Inv X pins σ H s)(g:cN H a y (some v))(ry:RelV y u)(h:∀w' s',Inv X pins σ H s'->RelV v w'->Q w' s') :
  ai (aj X.prog X.w) A (getItem (.ref a) u) Q E s:=by
 rcases g with ⟨kvs,k,e,ey,l⟩|⟨kvs,k,b,e,ey,eb,l⟩
 ·subst ey;obtain⟨z,hd,vs,rel,dd⟩:=eZ I.hok e;obtain⟨w',hw,rw'⟩:=dm.some_of (v:=v) (o:=valueAt vs k) (by rw[l];exact rel.val k);exact wpAny_getItem_of (fb ry) dd.mapOf hw (h w' _ (I.tok _) rw')
 ·subst ey;cases (show u=aU b from ry);obtain⟨z,hd,xs,rel,dd⟩:=eW I.hok e;obtain⟨w',hw,rw'⟩:=dm.some_of (v:=v) (o:=(atKey xs k).map (·.2)) (by rw[l];exact rel.val k);obtain⟨p,hp,hp2⟩:=bu.mp hw;refine wpAny_getItem_heap (tupleKind_room_in1 hu) (fQ I.hok eb) dd hp ?_;rw[hp2];exact h w' _ (I.tok _) rw'
theorem D5{Q:ae->af->Prop}(hu:A.units+1<cLine)(I:Inv X pins σ H s)(g:cN H a y o)(ry:RelV y u)(h:∀s',Inv X pins σ H s'->Q (.bool o.isSome) s') :
  ai (aj X.prog X.w) A (aR .In u (.ref a)) Q E s:=by
 rcases g with ⟨kvs,k,e,ey,l⟩|⟨kvs,k,b,e,ey,eb,l⟩
 ·subst ey;obtain⟨z,hd,vs,rel,dd⟩:=eZ I.hok e;refine wpAny_in_of (fb ry) hd dd.mapOf ?_;rw[<-(rel.val k).isSome_eq,<-l];exact h _ (I.tok _)
 ·subst ey;cases (show u=aU b from ry);obtain⟨z,hd,xs,rel,dd⟩:=eW I.hok e;refine wpAny_in_heap (tupleKind_room_in1 hu) (fQ I.hok eb) hd dd ?_;have q:=(rel.val k).isSome_eq;rw[Option.isSome_map]at q;rw[<-q,<-l];exact h _ (I.tok _)
theorem DO{Q:ae->af->Prop}(hu:A.units+1<cLine)(I:Inv X pins σ H s)(g:cN H a y o)(ry:RelV y u)(h:∀s',Inv X pins σ H s'->Q (.bool (!o.isSome)) s') :
  ai (aj X.prog X.w) A (aR .NotIn u (.ref a)) Q E s:=by
 rcases g with ⟨kvs,k,e,ey,l⟩|⟨kvs,k,b,e,ey,eb,l⟩
 ·subst ey;obtain⟨z,hd,vs,rel,dd⟩:=eZ I.hok e;refine wpAny_notIn_of (fb ry) hd dd.mapOf ?_;rw[<-(rel.val k).isSome_eq,<-l];exact h _ (I.tok _)
 ·subst ey;cases (show u=aU b from ry);obtain⟨z,hd,xs,rel,dd⟩:=eW I.hok e;refine wpAny_notIn_heap (tupleKind_room_in1 hu) (fQ I.hok eb) hd dd ?_;have q:=(rel.val k).isSome_eq;rw[Option.isSome_map]at q;rw[<-q,<-l];exact h _ (I.tok _)
theorem jz{h':Heap}{t':Nat}{ob:HO}(I:Inv X pins σ H s)(mu:Mut (H a))(hs:Heap.SameBut a s.heap h')(he:∃q,h'.get? a=some q)(new:zC X.prog X.w (upd H a ob) h' a ob) :
  Inv X pins σ (upd H a ob) {s with heap:=h',toks:=t'}:=
 I.write (x:=a) (e:=a) mu (.inl rfl) (λb q hb z=>(hs.2 b hb).trans z) he new
theorem kJ{P:av}{w:au}{H':Hp}{h':Heap}{kvs:List (Key×V)}{vs:List (Key×ae)}(z:kvs.length<=aF)(hd:(a==sysModules)=false)(rel:KV kvs vs)(dd:h'.DictOf (zu P w) a vs) :
  zC P w H' h' a (.dK kvs):=⟨z,hd,vs,rel,dd⟩
theorem xQ{H':Hp}{Q:Unit->af->Prop}(hu:A.units+1<cLine)(I:Inv X pins σ H s)(g:jd H a y v H')(ry:RelV y u)(rv:RelV v r)(h:∀s',Inv X pins σ H' s'->Q () s') :
  ai (aj X.prog X.w) A (setItem (.ref a) u r) Q E s:=by
 rcases g with ⟨kvs,k,e,ey,l,eH⟩|⟨kvs,k,b,e,ey,eb,l,eH⟩
 ·subst ey eH;obtain⟨z,hd,vs,rel,dd⟩:=gz I.hok e;have hz:vs.length<=sizeLine:=by rw[<-rel.length];exact z
  have hl:(putK kvs k v).length<=sizeLine:=by have:=lD kvs k v;lia
  refine wpAny_setItem_pairs (hsz:=hz) (fb ry) dd λh' dd' hs=>h _ ?_
  have he:∃q,h'.get? a=some q:=let ⟨q,_,_,hq,_⟩:=dd';⟨q,hq⟩
  exact jz I (by rw[e];exact True.intro) hs he (kJ hl hd (rel.put k rv) dd')
 ·subst ey eH;cases (show u=aU b from ry);obtain⟨z,hd,xs,rel,dd⟩:=vS I.hok e;have hz:xs.length<=sizeLine:=by rw[<-Paired.length rel];exact z
  have hl:(putK kvs k v).length<=sizeLine:=by have:=lD kvs k v;lia
  refine wpAny_setItem_heap (hsz:=hz) (tupleKind_room_in1 hu) (fQ I.hok eb) dd λh' dd' hs=>h _ ?_
  obtain⟨q,es,ep,hq,h2,h3,h4,_,h5⟩:=dd';refine jz I (by rw[e];exact True.intro) hs ⟨q,hq⟩ ⟨hl,hd,_,(rel.put k eb rv).keeps λc ys ec=>?_,q,es,ep,hq,h2,h3,h4,h5⟩;rw[qg (yo ec e (λz=>nomatch z))];exact ec
end
section
variable{X:Cx}{pins:List (Addr×Obj)}{σ:St}{H:Hp}{s:af}{a:Addr}{kvs:List (Key×V)}{k:Key}{u:ae}{A:aw}{E:ae->af->Prop}
end
theorem B8{X:Cx}{pins:List (Addr×Obj)}{σ:St}{H:Hp}{s:af}{a:Addr}{y:V}{o:Option V}(I:Inv X pins σ H s)(g:cN H a y o):s.TypeIs (.ref a) "dict":=by
 rcases g with ⟨kvs,k,e,_,_⟩|⟨kvs,k,b,e,_,_,_⟩
 ·obtain⟨_,_,vs,_,dd⟩:=eZ I.hok e;exact dd.typeIs
 ·obtain⟨_,_,xs,_,dd⟩:=eW I.hok e;exact dd.typeIs
section
variable{X:Cx}{o i e value:Expr}{pos pos' tpos:Pos}{td ty tv:TE}
end
theorem mH{P:av}{w:au}{H:Hp}(h:Heap)(hb:sysModules<h.objs.size):zC P w H (h.push {cls:=.type "dict",data:=.dict #[]}) h.objs.size (.dK []):=
 ⟨b8 _,beq_eq_false_iff_ne.mpr (Ne.symm (aV hb)),[],.nil,Heap.DictOf.new h⟩
noncomputable def Af:TE:=λ_ H Q=>∀p,H p=none->Q (.ref p) (upd H p (.dK []))
section
variable{X:Cx}{pos:Pos}
theorem Cs:PE X (.Dict [] [] pos) Af:=λpins s σ H Q I h=>
 wpAny_Dict_empty ⟨.ref s.heap.objs.size,_,I.laid (a:=s.heap.objs.size) (o:=.dK []) (t':=s.toks) (λ_ _ q=>Heap.get?_push_of_some _ q) (aD _) (mH s.heap I.big),rfl,h _ (I.hok.fresh (aD _))⟩
end
noncomputable def lE:List (TE×TE)->St->Hp->(List (V×V)->Hp->Prop)->Prop
 | [],_,H,Q=>Q [] H
 | (tk,tv)::r,σ,H,Q=>tk σ H λx H1=>tv σ H1 λy H2=>lE r σ H2 λps H3=>Q ((x,y)::ps) H3
abbrev VV:List (V×V)->List (ae×ae)->Prop:=Paired λp q=>RelV p.1 q.1/\RelV p.2 q.2
noncomputable def PPs(X:Cx)(pos:Pos)(keys:List (Option Expr))(values:List Expr)(trs:List (TE×TE)):Prop:=
 ∀(pins:List (Addr×Obj)) (s:af) (σ:St) (H:Hp) (Q:List (V×V)->Hp->Prop),Inv X pins σ H s->lE trs σ H Q ->
  ai (aj X.prog X.w) X.A (evalPairs (pairTrees keys values X.env pos)) (λvs s'=>∃ps H',Inv X pins σ H' s'/\VV ps vs/\Q ps H') X.xe s
theorem tW{X:Cx}{pos:Pos}:PPs X pos [] [] []:=λpins s σ H Q I h=>pairTrees_nil_walk ⟨[],H,I,.nil,h⟩
theorem sE{X:Cx}{pos:Pos}{k v:Expr}{ks:List (Option Expr)}{vs:List Expr}{tk tv:TE}{trs:List (TE×TE)}(hk:PE X k tk)(hv:PE X v tv)(hr:PPs X pos ks vs trs) :
  PPs X pos (some k::ks) (v::vs) ((tk,tv)::trs):=λpins s σ H Q I h=>
 pairTrees_cons_walk (thn (hk pins s σ H _ I h) λu s1 ⟨x,H1,I1,rx,q1⟩=>thn (hv pins s1 σ H1 _ I1 q1) λw2 s2 ⟨y,H2,I2,ry,q2⟩=>
  thn (hr pins s2 σ H2 _ I2 q2) λws s3 ⟨ps,H3,I3,rel,q3⟩=>⟨(x,y)::ps,H3,I3,.cons ⟨rx,ry⟩ rel,q3⟩)
noncomputable def eQ(kvs more:List (Key×V)):List (Key×V):=more.foldl (λacc kv=>putK acc kv.1 kv.2) kvs
theorem KV.merge:∀{more:List (Key×V)}{rs:List (Key×ae)}{kvs:List (Key×V)}{vs:List (Key×ae)},KV more rs->KV kvs vs->KV (eQ kvs more) (merged vs rs):=by
 intro more rs kvs vs r;unfold KV at r
 induction r generalizing kvs vs with
 |nil=>intro q;exact q
 | @cons p q ps qs h t ih=>
  intro r0;have e:KV (putK kvs p.1 p.2) (stored vs q.1 q.2):=by
   have:=r0.put p.1 h.2;rw[<-h.1];exact this
  exact ih e
theorem ki:∀(more kvs:List (Key×V)),(eQ kvs more).length<=kvs.length+more.length
 | [],kvs=>by show kvs.length<=kvs.length+0;lia
 |p::r,kvs=>by
  have h1:=ki r (putK kvs p.1 p.2);have h2:=lD kvs p.1 p.2;show (eQ (putK kvs p.1 p.2) r).length<=_;rw[br];lia
theorem lP{P:av}{w:au}:∀{kvs:List (Key×V)}{ws:List (ae×ae)},VV (kvs.map λkv=>(kV kv.1,kv.2)) ws->∃rs,Carries (zu P w) ws rs/\KV kvs rs
 | [],_,r=>by rw[List.map_nil]at r;cases r;exact⟨[],True.intro,.nil⟩
 |p::kvs,_,r=>by
  rw[aS]at r;cases r with
  | @cons a b as bs h t=>
   obtain⟨rs,c,q⟩:=lP (P:=P) (w:=w) t;obtain⟨b1,b2⟩:=b;exact⟨(p.1,b2)::rs,⟨fb h.1,rfl,c⟩,.cons ⟨rfl,h.2⟩ q⟩
noncomputable def DM(trs:List (TE×TE)):TE:=λσ H Q=>∀p,H p=none->lE trs σ (upd H p (.dK [])) λps H2=>H2 p=some (.dK [])/\∃kvs:List (Key×V),ps=kvs.map (λkv=>(kV kv.1,kv.2))/\kvs.length<=15/\Q (.ref p) (upd H2 p (.dK (eQ [] kvs)))
theorem wO{X:Cx}{pos:Pos}{keys:List (Option Expr)}{values:List Expr}{trs:List (TE×TE)}(h:PPs X pos keys values trs)(hall:keys.all (·.isSome)=true)(hl:keys.length=values.length)(h0:keys≠[])
  (h15:keys.length<=15):PE X (.Dict keys values pos) (DM trs):=by
 intro pins s σ H Q I q;have hn:=I.hok.fresh (aD s.heap.objs.size);have I1:=I.laid (a:=s.heap.objs.size) (o:=.dK []) (h':=s.heap.push {cls:=.type "dict",data:=.dict #[]}) (t':=s.toks) (λ_ _ q=>Heap.get?_push_of_some _ q) (aD _) (mH s.heap I.big);refine wpAny_Dict_walk (knd:=zu X.prog X.w) hall hl h0 h15 (thn (h pins _ σ _ _ I1 (q _ hn)) λws s2 ⟨ps,H2,I2,rel,e,kvs,ep,lk,q2⟩=>?_);subst ep;obtain⟨rs,c,rk⟩:=lP (P:=X.prog) (w:=X.w) rel;obtain⟨z,hd,vs0,r0,dd⟩:=gz I2.hok e;cases r0;refine⟨rs,c,dd,λh' dd' hs=>⟨.ref s.heap.objs.size,_,?_,rfl,q2⟩⟩;have hz:(eQ [] kvs).length<=sizeLine:=by
  have h1:=ki kvs [];rw[List.length_nil]at h1;rw[aZ];lia
 have he:∃q,h'.get? s.heap.objs.size=some q:=let ⟨q,_,_,hq,_⟩:=dd';⟨q,hq⟩
 exact jz I2 (by rw[e];exact True.intro) hs he (kJ hz hd (rk.merge .nil) dd')
structure M1(X:Cx)(o:Expr)(m:Str)(apos:Pos)(e:Expr)(cpos:Pos):Prop where
 base:attributeBase o m X.env (eval o X.env)=eval o X.env
 few:((backTo cpos (aL [e] X.env)).all (λx=>!x.1)&&(backToKw cpos (keywordEach [] X.env)).all (λx=>x.1.isSome)
  && decide (([e]:List Expr).length+([]:List Keyword).length+(if ([]:List Keyword).isEmpty then 0 else 1)<30))=true
 line:(apos.endLine==cpos.line)=true
 trees:backTo cpos (aL [e] X.env)=[(false,eval e X.env)]
structure M2(X:Cx)(o:Expr)(m:Str)(apos:Pos)(e f:Expr)(cpos:Pos):Prop where
 base:attributeBase o m X.env (eval o X.env)=eval o X.env
 few:((backTo cpos (aL [e,f] X.env)).all (λx=>!x.1)&&(backToKw cpos (keywordEach [] X.env)).all (λx=>x.1.isSome)
  && decide (([e,f]:List Expr).length+([]:List Keyword).length+(if ([]:List Keyword).isEmpty then 0 else 1)<30))=true
 line:(apos.endLine==cpos.line)=true
 trees:backTo cpos (aL [e,f] X.env)=[(false,eval e X.env),(false,eval f X.env)]
noncomputable def IsD(H:Hp)(a:Addr):Prop:=(∃kvs,Rd H a (.dK kvs))\/∃kvs,Rd H a (.dT kvs)
theorem pP{X:Cx}{pins:List (Addr×Obj)}{σ:St}{H:Hp}{s:af}{a:Addr}(I:Inv X pins σ H s)(d:IsD H a) :
  s.TypeIs (.ref a) "dict"/\(∀b,aU a=.ref b->∃ob,s.heap.get? b=some ob/\ob.dict=none)/\(a==sysModules)=false:=by
 rcases d with ⟨kvs,e⟩|⟨kvs,e⟩
 ·obtain⟨_,hd,vs,_,dd⟩:=eZ I.hok e;refine⟨dd.typeIs,λb q=>?_,hd⟩;cases q;obtain⟨ob,_,_,h1,h2,_⟩:=dd;exact⟨ob,h1,h2.2.1⟩
 ·obtain⟨_,hd,xs,_,dd⟩:=eW I.hok e;refine⟨dd.typeIs,λb q=>?_,hd⟩;cases q;obtain⟨ob,_,_,h1,h2,_⟩:=dd;exact⟨ob,h1,h2.2.1⟩
section
variable{X:Cx}{pins:List (Addr×Obj)}{σ:St}{H:Hp}{s:af}{a:Addr}{y d:V}{u r:ae}{o:Option V}{A:aw}{E:ae->af->Prop}
theorem Ac{Q:ae->af->Prop}(hu:A.units+1<cLine)(I:Inv X pins σ H s)(g:cN H a y o)(ry:RelV y u)(h:∀w' s',Inv X pins σ H s'->RelV (o.getD .non) w'->Q w' s') :
  ai (aj X.prog X.w) A (call (.builtin "dict.get") [.ref a,u]) Q E s:=by
 rcases g with ⟨kvs,k,e,ey,l⟩|⟨kvs,k,b,e,ey,eb,l⟩
 ·subst ey;obtain⟨z,hd,vs,rel,dd⟩:=eZ I.hok e;refine call_meetsIn PySem.F.slot_dict_get dd.typeIs PySem.F.entry_dict_get (PySem.F.args_dict_get_2 _ _) (meets_dict_get (zu X.prog X.w) a (fb ry) hd) ⟨_,dd.mapOf,h _ _ (I.tok _) ?_⟩;rw[l];exact(rel.val k).getD rfl
 ·subst ey;cases (show u=aU b from ry);obtain⟨z,hd,xs,rel,dd⟩:=eW I.hok e;refine call_meetsIn PySem.F.slot_dict_get dd.typeIs PySem.F.entry_dict_get (PySem.F.args_dict_get_2 _ _) (meetsH_dict_get (tupleKind (zu X.prog X.w)) a b hd) ⟨tupleKind_room_in1 hu,k,xs,fQ I.hok eb,dd,h _ _ (I.tok _) ?_⟩;rw[l];exact(rel.val k).getD rfl
theorem Ap{Q:ae->af->Prop}(hu:A.units+1<cLine)(I:Inv X pins σ H s)(g:cN H a y o)(ry:RelV y u)(rd:RelV d r)(h:∀w' s',Inv X pins σ H s'->RelV (o.getD d) w'->Q w' s') :
  ai (aj X.prog X.w) A (call (.builtin "dict.get") [.ref a,u,r]) Q E s:=by
 rcases g with ⟨kvs,k,e,ey,l⟩|⟨kvs,k,b,e,ey,eb,l⟩
 ·subst ey;obtain⟨z,hd,vs,rel,dd⟩:=eZ I.hok e;refine call_meetsIn PySem.F.slot_dict_get dd.typeIs PySem.F.entry_dict_get (PySem.F.args_dict_get_3 _ _ _) (meets_dict_get_default (zu X.prog X.w) a (fb ry) hd r) ⟨_,dd.mapOf,h _ _ (I.tok _) ?_⟩;rw[l];exact(rel.val k).getD rd
 ·subst ey;cases (show u=aU b from ry);obtain⟨z,hd,xs,rel,dd⟩:=eW I.hok e;refine call_meetsIn PySem.F.slot_dict_get dd.typeIs PySem.F.entry_dict_get (PySem.F.args_dict_get_3 _ _ _) (meetsH_dict_get_default (tupleKind (zu X.prog X.w)) a b hd r) ⟨tupleKind_room_in1 hu,k,xs,fQ I.hok eb,dd,h _ _ (I.tok _) ?_⟩;rw[l];exact(rel.val k).getD rd
end
noncomputable def xU(td ty:TE):TE:=λσ H Q=>td σ H λx H1=>∃a,x=.ref a/\IsD H1 a/\ty σ H1 λy H2=>∃o,cN H2 a y o/\Q (o.getD .non) H2
noncomputable def D1(td ty tx:TE):TE:=λσ H Q=>td σ H λx H1=>∃a,x=.ref a/\IsD H1 a/\ty σ H1 λy H2=>tx σ H2 λz H3=>∃o,cN H3 a y o/\Q (o.getD z) H3
section
variable{X:Cx}{o e f:Expr}{apos cpos:Pos}{td ty tx:TE}
theorem BU(hu:X.A.units+1<cLine)(ho:PE X o td)(he:PE X e ty)(m:M1 X o "get" apos e cpos):PE X (.Call (.Attribute o "get" apos) [e] [] cpos) (xU td ty):=by
 intro pins s σ H Q I h;refine wpAny_Call_method m.base m.few m.line PySem.F.plainAttrs_dict PySem.F.slot_dict_get PySem.F.type_dict_get (thn (ho pins s σ H _ I h) λu s1 ⟨x,H1,I1,rx,a,ex,d,q1⟩=>?_);subst ex;obtain rfl:u=aU a:=rx;obtain⟨t1,t2,_⟩:=pP I1 d;refine⟨t1,t2,?_⟩;rw[m.trees];refine Calls.callWith_builtin rfl (Calls.evalArgs_plain (Calls.spliced_cons (thn (he pins s1 σ H1 _ I1 q1) λiv s2 ⟨y,H2,I2,ry,ov,g,q2⟩=>Calls.spliced_nil ?_)));exact Ac hu I2 g ry λw' s3 I3 rw'=>⟨_,H2,I3,rw',q2⟩
theorem D2(hu:X.A.units+1<cLine)(ho:PE X o td)(he:PE X e ty)(hf:PE X f tx)(m:M2 X o "get" apos e f cpos):PE X (.Call (.Attribute o "get" apos) [e,f] [] cpos) (D1 td ty tx):=by
 intro pins s σ H Q I h;refine wpAny_Call_method m.base m.few m.line PySem.F.plainAttrs_dict PySem.F.slot_dict_get PySem.F.type_dict_get (thn (ho pins s σ H _ I h) λu s1 ⟨x,H1,I1,rx,a,ex,d,q1⟩=>?_);subst ex;obtain rfl:u=aU a:=rx;obtain⟨t1,t2,_⟩:=pP I1 d;refine⟨t1,t2,?_⟩;rw[m.trees];refine Calls.callWith_builtin rfl (Calls.evalArgs_plain (Calls.spliced_cons (thn (he pins s1 σ H1 _ I1 q1) λiv s2 ⟨y,H2,I2,ry,q2⟩=>
  Calls.spliced_cons (thn (hf pins s2 σ H2 _ I2 q2) λfv s3 ⟨z,H3,I3,rz,ov,g,q3⟩=>Calls.spliced_nil ?_))))
 exact Ap hu I3 g ry rz λw' s4 I4 rw'=>⟨_,H3,I4,rw',q3⟩
end
section
variable{X:Cx}{pins:List (Addr×Obj)}{σ:St}{H:Hp}{s:af}{a:Addr}{kvs:List (Key×V)}{A:aw}{E:ae->af->Prop}
end
section
variable{X:Cx}{pins:List (Addr×Obj)}{σ:St}{H:Hp}{s:af}{a:Addr}{y:V}{u:ae}{A:aw}{E:ae->af->Prop}
end
section
variable{X:Cx}
end
end L2
namespace HT
open PySem PySem.Spec PyProof.Rows L2
section
variable{prog:av}{w:au}{A:aw}{E:ae->af->Prop}{s:af}
theorem s_{l:Addr}{its:Array ae}{Q:List ae->af->Prop}(ht:IsTup s.heap l its)(hz:its.size<=aF)
  (h:Q its.toList {s with heap:=(s.heap.push (aY "list" #[] 0)).update s.heap.objs.size (bD (· ++ its))}) :
  ai (aj prog w) A (collect (.ref l)) Q E s:=by
 obtain⟨o,ho,hc,n,hd⟩:=id ht;unfold collect;apply ah;apply wpAny_runValue;apply codeAny_builtin entry_proto_collect';show ai _ _ (do again (.builtin "list.__iadd__" ⟨[<-newList [],.ref l],[]⟩)) _ _ s;apply ah;refine wpAny_newList (hsz:=b8 _) ?_;refine ax ⟨Code.quiet_builtin _ (by decide +kernel),?_⟩;apply codeAny_builtin entry_list_iadd';show ai _ _ (Builtin.List.listExtendWith (.ref s.heap.objs.size) (.ref l) (.ref s.heap.objs.size)) _ _ ({s with heap:=s.heap.push (aY "list" #[] 0)}:af);have hS:(s.heap.push (aY "list" #[] 0)).get? s.heap.objs.size=some (aY "list" #[] 0):=Heap.get?_push_size _ rfl;have hT:=Heap.get?_push_of_some (aY "list" #[] 0) ho;unfold Builtin.List.listExtendWith;apply ah;refine wpAny_typeOf (T:="tuple") ⟨o,hT,hc⟩ ?_;rw[if_pos (by simp)];apply ah;refine listItems_at hT hd ?_;apply ah;refine listItems_at hS rfl ?_;rw[if_neg (by simp)];apply ah;refine listUpdate_at hS rfl ?_ (b8 _) (by show (#[]++its).size<=aF+1;rw[Array.size_append];show 0+its.size<=_;lia);apply ax;show ai (aj prog w) A (load s.heap.objs.size>>=λo=>match o.data with
  | .seq xs _=>pure xs.toList
  |_=>unsupported "internal:collect") Q E _
 apply ah;refine wpAny_load (get?_update_seq hS _) ?_;show ai _ _ (pure ((#[]:Array ae)++its).toList) Q E _;rw[show ((#[]:Array ae)++its).toList=its.toList by simp];exact ax h
theorem Dm{l:Addr}{vs:List ae}{ns:List Int}{Q:ae->af->Prop}(ht:IsTup s.heap l vs.toArray)(hI:a8 vs ns)(h64:vs.length<64)
  (h:∀(out:Array ae) (ns':List Int),a8 out.toList ns'->ns'.Perm ns->ns'.Pairwise (·<=·)->Q (.ref (s.heap.objs.size+1)) {s with heap:=sortedAll s.heap vs out}) :
  ai (aj prog w) A (call (.builtin "sorted") [.ref l]) Q E s:=by
 refine Calls.call_function_entry kind_sorted plain_sorted entry_sorted (args_sorted1 _) ?_;unfold Builtin.«sorted»;apply ah (m:=checkCount "sorted" 1 1 _);apply ax;apply ah;refine s_ ht (by rw[aO,aZ];lia) ?_;apply ah;refine wpAny_newList (hsz:=by rw[aZ];show vs.length<=_;lia) ?_;have hz:((s.heap.push (aY "list" #[] 0)).update s.heap.objs.size (bD (· ++ vs.toArray))).objs.size=s.heap.objs.size+1:=by rw[Heap.size_update,size_push']
 have hL:(((s.heap.push (aY "list" #[] 0)).update s.heap.objs.size (bD (· ++ vs.toArray))).push (aY "list" vs.toArray 0)).get? (s.heap.objs.size+1)=some (aY "list" vs.toArray 0):=hz▸Heap.get?_push_size _ rfl;show ai _ _ _ _ _ ({s with heap:=((s.heap.push (aY "list" #[] 0)).update s.heap.objs.size (bD (· ++ vs.toArray))).push (aY "list" vs.toArray 0)}:af);rw[hz];apply ah;apply cM;refine cL slot_list_sort ⟨_,hL,rfl⟩ entry_list_sort (list_sort_tree hL hI h64 λout ns' a1 a2 a3=>⟨_,rfl,?_⟩) (args_list_sort _);exact ax ⟨_,rfl,h out ns' a1 a2 a3⟩
end
end HT
namespace L2
open PySem PySem.Spec PyProof.Rows
variable{X:Cx}
noncomputable def CL(K:aq):List V->Hp->VK->Prop:=λvs H Q=>∃(l:Addr) (ns:List Int),vs=[.ref l]/\SqT K H l (ns.map V.int)/\ns.length<64/\∀(D:Addr) (ms:List Int),H D=none->ms.Perm ns->ms.Pairwise (·<=·)->Q (.ref D) (upd H D (.lst (ms.map V.int)))
theorem wo:zq X (.builtin "sorted") (CL X.K):=by
 intro pins s σ H xs us Q I r ⟨l,ns,e,hl,h64,q⟩;subst e;obtain⟨u,rfl,ru⟩:=r.one;cases ru;obtain⟨its,rv,ht,hz⟩:=I.tuple hl;have hI:=intsAre_of rv;have hle:=a8.length hI;refine HT.Dm ht hI (by rw[hle];exact h64) λout ns' a1 a2 a3=>?_
 obtain⟨c,hc⟩:=sortedAll_at s.heap its out;have keep:∀b o,s.heap.get? b=some o->(sortedAll s.heap its out).get? b=some o:=λb o e=>sortedAll_old e
 have hn:H (s.heap.objs.size+1)=none:=I.hok.fresh (Nat.le_succ _);have hl':ns'.length=ns.length:=a2.length_eq;exact⟨.ref (s.heap.objs.size+1),_,I.laid (t':=s.toks) (o:=.lst (ns'.map V.int)) keep (Nat.le_succ _) ⟨by rw[aI,aZ];lia,out.toList,c,iM a1,by rw[Array.toArray_toList];exact hc⟩,rfl,q _ ns' hn a2 a3⟩
noncomputable def bh(kvs:List (Int×Int)):List (Key×V):=kvs.map λp=>(Sum.inl p.1,V.int p.2)
noncomputable def atK(kvs:List (Int×Int))(i:Int):Option Int:=(kvs.find? λp=>decide (p.1=i)).map (·.2)
noncomputable def bP(kvs:List (Int×Int))(i v:Int):List (Int×Int):=if (kvs.any λp=>decide (p.1=i))=true then kvs.map (λp=>if p.1=i then (p.1,v)else p)else kvs++[(i,v)]
noncomputable def cX(kvs more:List (Int×Int)):List (Int×Int):=more.foldl (λacc p=>bP acc p.1 p.2) kvs
theorem mO(a i:Int):decide ((Sum.inl a:Key)=Sum.inl i)=decide (a=i):=decide_eq_decide.mpr ⟨λh=>Sum.inl.inj h,λh=>by rw[h]⟩
theorem kQ(kvs:List (Int×Int))(i:Int):cQ (bh kvs) (Sum.inl i)=(atK kvs i).map V.int:=by
 rw[cQ,atK,bh]
 induction kvs with
 |nil=>rfl
 |cons p r ih=>
  rw[aS,List.find?_cons,List.find?_cons];rw[show decide ((Sum.inl p.1,V.int p.2).fst=(Sum.inl i:Key))=decide (p.1=i)from mO p.1 i];cases decide (p.1=i)with
  |true=>rfl
  |false=>exact ih
theorem mJ(kvs:List (Int×Int))(i:Int):((bh kvs).any λkv=>decide (kv.1=Sum.inl i))=kvs.any λp=>decide (p.1=i):=by
 rw[bh,List.any_map]
 congr 1
 funext p;exact mO p.1 i
theorem pV(kvs:List (Int×Int))(i:Int):(cQ (bh kvs) (Sum.inl i)).isSome=kvs.any λp=>decide (p.1=i):=by
 rw[<-kL,mJ]
theorem nD(kvs:List (Int×Int))(i v:Int):putK (bh kvs) (Sum.inl i) (V.int v)=bh (bP kvs i v):=by
 rw[putK,bP,mJ];by_cases h:(kvs.any λp=>decide (p.1=i))=true
 ·rw[if_pos h,if_pos h,bh,bh,b7,b7];refine List.map_congr_left λp _=>?_
  show (if (Sum.inl p.1:Key)=Sum.inl i then ((Sum.inl p.1:Key),V.int v)else (Sum.inl p.1,V.int p.2))=_;by_cases e:p.1=i
  ·rw[if_pos (by rw[e])];show _=((Sum.inl (if p.1=i then (p.1,v)else p).1:Key),V.int (if p.1=i then (p.1,v)else p).2)
   rw[if_pos e]
  ·rw[if_neg (λz=>e (Sum.inl.inj z))];show _=((Sum.inl (if p.1=i then (p.1,v)else p).1:Key),V.int (if p.1=i then (p.1,v)else p).2)
   rw[if_neg e]
 ·rw[if_neg h,if_neg h,bh,bh,List.map_append];rfl
theorem pk:∀(ms kvs:List (Int×Int)),eQ (bh kvs) (bh ms)=bh (cX kvs ms)
 | [],kvs=>rfl
 |p::r,kvs=>by
  show eQ (putK (bh kvs) (Sum.inl p.1) (V.int p.2)) (bh r)=_;rw[nD,pk r];rfl
theorem lp(kvs:List (Int×Int)):(bh kvs).length=kvs.length:=aI ..
section
variable{X:Cx}
noncomputable def uc:V->List V->Hp->VK->Prop:=λx vs H Q=>∃a b ks ms,x=.ref a/\vs=[.ref b]/\a≠b/\H a=some (.dK ks)/\H b=some (.dK ms)/\ks.length+ms.length<=aF/\Q .non (upd H a (.dK (eQ ks ms)))
theorem yd:MtM X "dict.update" uc:=by
 intro pins s σ H x vs v us Q I rx rv h;obtain⟨a,b,ks,ms,rfl,rfl,hab,ha,hb,hz,q⟩:=h;cases rx;obtain⟨u,rfl,ru⟩:=rv.one;cases ru;obtain⟨z,hd,vs,rel,dd⟩:=gz I.hok ha;obtain⟨z2,hd2,vs2,rel2,dd2⟩:=gz I.hok hb;refine call_meetsIn PySem.F.slot_dict_update dd.typeIs PySem.F.entry_dict_update (PySem.F.args_dict_update_2 _ _) (meets_dict_update (zu X.prog X.w) a b hab hd2)
  ⟨vs,vs2,dd,dd2,by rw[<-rel.length,<-rel2.length];exact hz,λh' dd' _ hs=>?_⟩
 have he:∃q,h'.get? a=some q:=let ⟨q,_,_,hq,_⟩:=dd';⟨q,hq⟩
 have hl:(eQ ks ms).length<=sizeLine:=bg (ki ms ks) hz;exact⟨.non,_,jz (t':=s.toks) I (by rw[ha];exact True.intro) hs he (kJ hl hd (rel2.merge rel) dd'),rfl,q⟩
noncomputable def ub:List V->Hp->VK->Prop:=λvs H Q=>∃(l:Addr) (kvs:List (Int×Int)),vs=[.ref l]/\H l=some (.dK (bh kvs))/\kvs.length<64/\∀(D:Addr) (ms:List Int),H D=none->ms.Perm (kvs.map (·.1))->ms.Pairwise (·<=·)->Q (.ref D) (upd H D (.lst (ms.map V.int)))
theorem lF{P:av}{w:au}:∀{ks:List (Int×Int)}{vs:List (Key×ae)}{xs:List ae},KV (bh ks) vs->xs.length=vs.length->(∀(j:Nat) (v:ae),xs[j]? = some v->∃k x,vs[j]? = some (k,x)/\(zu P w).is k v=true)->a8 xs (ks.map (·.1))
 | [],vs,xs,r,hl,h=>by
  cases r;cases xs with
  |nil=>exact .nil
  |cons _ _=>cases hl
 |p::ks,vs,xs,r,hl,h=>by
  cases r with
  | @cons a b as bs h1 t=>
   cases xs with
   |nil=>cases hl
   |cons x xs=>
    obtain⟨k,y,e1,e2⟩:=h 0 x rfl;cases e1;obtain⟨z1,_⟩:=h1;have z1:Sum.inl p.1=k:=z1;subst z1;obtain⟨tk,rfl⟩:∃t,x=ae.int p.1 t:=ae.isInt_shape (k:=p.1) (v:=x) e2;exact .cons _ _ (lF t (by simpa using hl) λj v e=>h (j+1) v e)
theorem Cr{prog:av}{w:au}{A:aw}{E:ae->af->Prop}{s:af}{T:String}{r d:Addr}{n:Nat}{P:Nat->ae->Prop}{OK:Heap->Prop}{R:List ae->af->Prop}(K:PySem.W.KdlSrc prog w T r d n P OK)(hh:A.handled=none)(hok:OK s.heap)(hn:n<=aF)
  (h:∀(h':Heap) (tk:Nat) (acc:Array ae),s.heap.objs.size<h'.objs.size->(∀b o,s.heap.get? b=some o->h'.get? b=some o)->ItemsOf P acc n->R acc.toList {s with heap:=h',toks:=tk}) :
  ai (aj prog w) A (collect (.ref r)) R E s:=by
 have hlt:=K.there _ hok;unfold collect;refine ah (wpAny_runValue (codeAny_builtin F.entry_proto_collect ?_));rw[aw.under_plainId F.plain_proto_collect _];show ai _ A.in1 (newList []>>=λl=>again (.builtin "list.__iadd__" ⟨[l,.ref r],[]⟩)) _ _ s;refine ah (cY ?_);refine ax ⟨plainId_quiet F.plain_list_iadd _,codeAny_builtin F.entry_list_iadd ?_⟩;rw[aw.under_plainId F.plain_list_iadd _];have hS:(s.heap.push {cls:=.type "list",data:=.seq ([]:List ae).toArray}).get? s.heap.objs.size=some {cls:=.type "list",data:=.seq #[]}:=Heap.get?_push_size _ rfl;show ai _ A.in1 (Builtin.List.listExtendWith (.ref s.heap.objs.size) (.ref r) (.ref s.heap.objs.size)) _ _ _;refine bI (PySem.W.kdl_extend (A:=A) (R:=λq s'=>∃h' tk acc c,q=.ok (.ret (.ref s.heap.objs.size))/\s'={s with heap:=h',toks:=tk}/\(∀b o,s.heap.get? b=some o->h'.get? b=some o)/\h'.get? s.heap.objs.size=some {cls:=.type "list",data:=.seq acc c}/\ItemsOf P acc n)
  K hh (K.keep _ _ hok λb _ o e=>Heap.get?_push_of_some _ e) _ (Nat.ne_of_gt hlt.1) (Nat.ne_of_gt hlt.2) (.ref s.heap.objs.size) 0 hS
  (λh' tk acc c k1 k2 k3=>⟨h',tk,acc,c,rfl,rfl,λb o e=>k1 b o (aV (aH e)) (Heap.get?_push_of_some _ e),k2,k3⟩) hn) (λf s' x=>?_) λe s' x=>?_
 ·have fin:∀{q:Result}{s':af},(∃h' tk acc c,q=.ok (.ret (.ref s.heap.objs.size))/\s'={s with heap:=h',toks:=tk}/\(∀b o,s.heap.get? b=some o->h'.get? b=some o)/\h'.get? s.heap.objs.size=some {cls:=.type "list",data:=.seq acc c}/\ItemsOf P acc n)->∃u,q=.ok (.ret u)/\ai (aj prog w) A (match (u:ae)with|aU a=>load a>>=λo=>(match o.data with | .seq xs _=>pure xs.toList|_=>unsupported "internal:collect")|_=>unsupported "internal:collect") R E s':=by
   rintro q s' ⟨h',tk,acc,c,rfl,rfl,k1,k2,k3⟩;exact⟨_,rfl,ah (wpAny_load k2 (ax (h h' tk acc (aH k2) k1 k3)))⟩
  cases f with
  |done f=>
   obtain⟨u,e,z⟩:=fin x;cases e;exact z
  |again c=>
   refine⟨x.1,codeAny_mono x.2 λq s2 y=>?_⟩;obtain⟨u,rfl,z⟩:=fin y;exact z
 ·obtain⟨_,_,_,_,z,_⟩:=x;cases z
theorem wm(hc:X.calm=true):zq X (.builtin "sorted") ub:=by
 intro pins s σ H xs us Q I r ⟨l,kvs,e,hl,h64,q⟩;subst e;obtain⟨u,rfl,ru⟩:=r.one;cases ru;obtain⟨z,hd,vs,rel,dd⟩:=gz I.hok hl;obtain⟨ep,hat⟩:=dd.dictAt;have hlen:vs.length=kvs.length:=by rw[<-rel.length];exact aI ..
 have hn:vs.length<=sizeLine:=by rw[aZ];lia
 refine Calls.call_function_entry kind_sorted plain_sorted entry_sorted (args_sorted1 _) ?_;unfold Builtin.«sorted»;refine ah (m:=checkCount "sorted" 1 1 _) (ax ?_);refine ah (Cr (A:=X.A.in1) (PySem.W.kdl_dict (knd:=zu X.prog X.w) (kvs:=vs) (ep:=ep) hd) (I.ok.hd hc) hat hn λh' tk acc hsz hk hacc=>?_);have hla:acc.toList.length=vs.length:=by rw[Array.length_toList];exact hacc.1
 have hI:a8 acc.toList (kvs.map (·.1)):=lF (P:=X.prog) (w:=X.w) rel hla λj v e=>hacc.2 j v (by rw[<-Array.getElem?_toList];exact e)
 refine ah (wpAny_newList ?_ (by rw[hla];exact hn));have hL:(h'.push (aY "list" acc.toList.toArray 0)).get? h'.objs.size=some (aY "list" acc.toList.toArray 0):=Heap.get?_push_size _ rfl;refine ah (cM ?_);refine cL slot_list_sort ⟨_,hL,rfl⟩ entry_list_sort (list_sort_tree hL hI (by rw[hla,hlen];exact h64) λout ns' a1 a2 a3=>⟨_,rfl,?_⟩) (args_list_sort _);obtain⟨c,hc⟩:=sortedHeap_at (out:=out) hL;have hle:=a8.length a1;refine ax ⟨_,rfl,.ref h'.objs.size,_,I.laid (t':=tk) (o:=.lst (ns'.map V.int)) (λb o e=>?_) (Nat.le_of_lt hsz) ⟨by rw[aI,a2.length_eq,aI,aZ];lia,out.toList,c,iM a1,by rw[Array.toArray_toList];exact hc⟩,rfl,q _ ns' (I.hok.fresh (Nat.le_of_lt hsz)) a2 a3⟩;have e1:=hk b o e;have hb:=aH e1;show (sortedHeap _ _ _ _).get? b=some o;rw[sortedHeap_old (aV hb) (by rw[b6];exact Nat.lt_succ_of_lt hb)];exact Heap.get?_push_of_some _ e1
theorem xZ(hu:X.A.units+64<cLine):OpR X (aR .In) (λx y H Q=>∃a kvs i,y=.ref a/\x=.int i/\H a=some (.dK (bh kvs))/\Q (.bl (kvs.any λp=>decide (p.1=i))) H):=by
 intro pins s σ H x y v u Q I rx ry ⟨a,kvs,i,e1,e2,ha,q⟩;subst e1 e2;obtain rfl:u=aU a:=ry;refine D5 (by lia) I (cN.k (k:=Sum.inl i) ha) rx λs' I'=>⟨.bl _,H,I',rfl,?_⟩
 rw[pV];exact q
theorem Dz(hu:X.A.units+64<cLine):OpR X (aR .NotIn) (λx y H Q=>∃a kvs i,y=.ref a/\x=.int i/\H a=some (.dK (bh kvs))/\Q (.bl (!kvs.any λp=>decide (p.1=i))) H):=by
 intro pins s σ H x y v u Q I rx ry ⟨a,kvs,i,e1,e2,ha,q⟩;subst e1 e2;obtain rfl:u=aU a:=ry;refine DO (by lia) I (cN.k (k:=Sum.inl i) ha) rx λs' I'=>⟨.bl _,H,I',rfl,?_⟩
 rw[pV];exact q
theorem Ao{prog:av}{w:au}{A:aw}{E:ae->af->Prop}{s:af}{e b:Expr}{o i:ae}{T id:String}{Q:ae->af->Prop}(hT:s.TypeIs o T)(hl:typeLookup (.type T) "__getitem__" = pure (some (.builtin id)))
  (h:ai (aj prog w) A (getItem o i) Q E s) (hs:subscripted b false o i=operate [o,i] (getItem o i)):ai (aj prog w) A (subscriptTail e b o i) Q E s:=by
 unfold subscriptTail;refine ah ?_;rw[getitemInPython_of_ne hT.not_modules];refine ah (wpAny_specialOf hT hl ?_);have fin:ai (aj prog w) A (subscripted b false o i) (λr s'=>ai (aj prog w) A (letTemporaryGo e o r>>=λ_=>pure r) Q E s') E s:=by
  rw[hs];exact wpAny_operating (bI h (λr s' z=>ah (wpAny_letTemporaryGo (ax z))) λ_ _ x=>x)
 first
  |exact ax (ah fin)
  |exact ah (ax (ah fin))
  |exact ah fin
noncomputable def mF:R2:=λx y H Q=>∃a kvs i v,x=.ref a/\y=.int i/\H a=some (.dK (bh kvs))/\atK kvs i=some v/\Q (.int v) H
theorem rW(hu:X.A.units+64<cLine):IxR X mF:=by
 intro value slice pins s σ H x y v u Q I rx ry ⟨a,kvs,i,z,e1,e2,ha,he,q⟩ hs;subst e1 e2;obtain rfl:v=aU a:=rx;have g:cN H a (.int i) (some (.int z)):=by
  have:=cN.k (k:=Sum.inl i) ha;rw[kQ,he]at this;exact this
 exact Ao (B8 I g) PySem.F.slot_dict_getitem.lookup (ud (by lia) I g ry λw' s' I' rw'=>⟨_,H,I',rw',q⟩) hs
theorem fG.or{r r':V->V->V->Hp->(Hp->Prop)->Prop}(h:fG X r)(h':fG X r'):fG X (λx y v H Q=>r x y v H Q\/r' x y v H Q):=by
 intro pins s σ H o i v ov iv u Q I ro ri rv q;rcases q with q|q
 ·exact h pins s σ H o i v ov iv u Q I ro ri rv q
 ·exact h' pins s σ H o i v ov iv u Q I ro ri rv q
noncomputable def rL:V->V->V->Hp->(Hp->Prop)->Prop:=λo i v H Q=>∃a kvs k z,o=.ref a/\i=.int k/\v=.int z/\H a=some (.dK (bh kvs))/\kvs.length<aF/\Q (upd H a (.dK (bh (bP kvs k z))))
theorem uH(hu:X.A.units+64<cLine):fG X rL:=by
 intro pins s σ H o i v ov iv u Q I ro ri rv ⟨a,kvs,k,z,e1,e2,e3,ha,hz,q⟩;subst e1 e2 e3;obtain rfl:ov=aU a:=ro;refine xQ (by lia) I (jd.k (k:=Sum.inl k) (v:=.int z) ha (by rw[lp];exact hz)) ri rv λs' I'=>⟨_,I',?_⟩
 rw[nD];exact q
noncomputable def xi:List V->Hp->VK->Prop:=λvs H Q=>∃(l:Addr) (kvs:List (Int×Int)),vs=[.ref l]/\H l=some (.dK (bh kvs))/\∀D,H D=none->Q (.ref D) (upd H D (.lst (kvs.map λp=>V.int p.1)))
theorem Aj(hc:X.calm=true):zq X (.type "list") xi:=by
 intro pins s σ H xs us Q I r ⟨l,kvs,e,hl,q⟩;subst e;obtain⟨u,rfl,ru⟩:=r.one;cases ru;obtain⟨z,hd,vs,rel,dd⟩:=gz I.hok hl;obtain⟨ep,hat⟩:=dd.dictAt;have hlen:vs.length=kvs.length:=by rw[<-rel.length];exact aI ..
 have hn:vs.length<=sizeLine:=by rw[<-rel.length];exact z
 refine PySem.W.kdl_call (PySem.W.kdl_dict (knd:=zu X.prog X.w) (kvs:=vs) (ep:=ep) hd) (I.ok.hd hc) hat hn λh' tk acc c k1 k2 k3=>?_
 have hla:acc.toList.length=vs.length:=by rw[Array.length_toList];exact k3.1
 have hI:a8 acc.toList (kvs.map (·.1)):=lF (P:=X.prog) (w:=X.w) rel hla λj v e=>k3.2 j v (by rw[<-Array.getElem?_toList];exact e)
 have hn':H s.heap.objs.size=none:=I.hok.fresh (aD _);have e:(kvs.map λp=>V.int p.1)=(kvs.map (·.1)).map V.int:=by rw[b7];rfl
 refine⟨.ref s.heap.objs.size,_,I.laid (t':=tk) (o:=.lst ((kvs.map (·.1)).map V.int)) k1 (aD _) ⟨by rw[aI,aI,<-hlen];exact hn,acc.toList,c,iM hI,by rw[Array.toArray_toList];exact k2⟩,rfl,?_⟩;rw[<-e];exact q _ hn'
end
noncomputable def iH(kX:Str->Option aM)(NX NY:List Str)(cap:List (Option Nat))(scope:aP):Bool:=
 (scope.kind==.function)&&(scope.names.all λy=>(y.2 != .cell||scope.names.lookup y.1==some .cell)&&(y.2 != .local||scope.names.lookup y.1==some .local)&&(y.2 != .free||kX y.1==some .cell||kX y.1==some .free)) &&
 (cap.length==NY.length)&&(aW cap.length).all λi=>match cap[i]? with
  |some (some j)=>(match NY[i]?,NX[j]? with
   |some x,some y=>x==y&&scope.names.lookup x==some .free&&(kX x==some .cell||kX x==some .free)
   |_,_=>false)
  |_=>true
theorem dH.of{X:Cx}{NY:List Str}{cap:List (Option Nat)}{scope:aP}(h:iH X.env.kindOf X.N NY cap scope=true):dH X NY cap scope:=by
 unfold iH at h;simp only[aG,List.all_eq_true,beq_iff_eq]at h;obtain⟨⟨⟨h1,h2⟩,h3⟩,h4⟩:=h;refine⟨h1,λy hy e=>?_,λy hy e=>?_,λy hy e=>?_,h3,λi j hc=>?_⟩
 ·have:=(h2 y hy).1.1;rw[e]at this
  simpa using this
 ·have:=(h2 y hy).1.2;rw[e]at this
  simpa using this
 ·have:=(h2 y hy).2;rw[e]at this
  simpa using this
 ·have hi:i<cap.length:=(List.getElem?_eq_some_iff.mp hc).1;have:=h4 i (List.mem_range.mpr hi);rw[hc]at this;dsimp only at this;split at this
  ·rename_i x y e1 e2
   simp only[aG,beq_iff_eq,bG]at this;obtain⟨⟨e3,e4⟩,e5⟩:=this;subst e3;exact⟨x,e1,e2,e4,e5⟩
  ·cases this
end L2
namespace WB
open PySem PySem.Spec PyProof.Rows L2
section
variable{P:av}{w:au}{K:aq}{mg:Str->Option ae}{base:Heap}{f g:Addr}{fd gd:bz}
theorem _root_.L2.Fun.ok1{x qual:Str}{st:Stmt}{f:Addr}{fd:bz}{N ps:List Str}{k:Nat}{sp:Sp}(F:Fun K x qual st f fd)(S:fR N ps (qW st))(len:∀vs H Q E,sp vs H Q E->vs.length=ps.length)
  (hbody:∀(cdv:ae) (A:aw) (outer:List Env) (s:af) (H:Hp) (vs:List V) (Q:VK) (E:XK),cb k (A.deeper (envOfC qual (qW st) s.heap.objs.size f cdv))->sp vs H Q E ->
   ∃t,PSs (dC (CX1 P w) P w K mg base N qual (qW st) f cdv A outer s H E) (dh st) t/\t {nx:=λ_ H'=>Q .non H',rt:=Q} (start N vs) H):eU P w K mg base (CX1 P w) (k+1) f fd ps sp:=by
 obtain⟨oc,od,kV,doc,pm,an,cdv,ct,osl,rfl,lk,hcd⟩:=F.ex;exact tY lk hcd S len λA outer s H vs Q E hr hsp=>hbody cdv A outer s H vs Q E hr hsp
end
noncomputable def uY(H:Hp)(ps:List Addr)(ks:List (Int×Int)):Prop:=ps.length=ks.length/\∀(i:Nat) p k,ps[i]? = some p->ks[i]? = some k->H p=some (.tup [.int k.1,.int k.2])
structure Built(H0:Hp)(acc:Addr)(ks:List (Int×Int))(H:Hp):Prop where
 ex:∃ps:List Addr,H acc=some (.lst (ps.map V.ref))/\uY H ps ks
 same:∀b o,b≠acc->H0 b=some o->H b=some o
end WB
set_option genSizeOf false
set_option genSizeOfSpec false
namespace EV
open PySem L2
inductive D where
 |non|bl (b:Bool)|int (i:Int)|str (x:Str)|tup (xs:List D)|lst (xs:List D)|fn (x:Str)|exn (c:Str)|dic (kvs:List (Int×Int))
inductive R(α:Type) where
 |ok (a:α)|ex (c:Str)|no
noncomputable def R.bind{α β:Type}:R α->(α->R β)->R β
 | .ok a,f=>f a
 | .ex c,_=>.ex c
 | .no,_=>.no
@[simp] theorem R.bind_ok{α β:Type}(a:α)(f:α->R β):(R.ok a).bind f=f a:=rfl
@[simp] theorem R.bind_ex{α β:Type}(c:Str)(f:α->R β):(R.ex c:R α).bind f=.ex c:=rfl
@[simp] theorem R.bind_no{α β:Type}(f:α->R β):(R.no:R α).bind f=.no:=rfl
inductive O2 where
 |add|sub|mul|fdiv|mod|pow|shl|shr|band|bor|bxor
 deriving DecidableEq
inductive C2 where
 |eq|ne|lt|le|gt|ge|isin|notin|is|isnot
 deriving DecidableEq
inductive B1 where
 |len|tuple|list|sorted|all|any|sum|min|max|abs|int|bool
 deriving DecidableEq
inductive Cl where
 |ty (n:String)|ex (x:Str)
 deriving DecidableEq
inductive Tg where
 |nm (i:Nat)|tp (is:List Nat)
mutual
inductive E where
 |var (i:Nat)|own (i:Nat)|con (d:D)|glb (x:Str)|fnv (x:Str)
 |op (o:O2) (a b:E)|neg (a:E)|inv (a:E)|not (a:E)|and (a b:E)|or (a b:E)
 |cmp (c:C2) (a b:E)|cmp2 (c c':C2) (a b d:E)|cmp3 (c c' c'':C2) (a b d e:E)
 |ite (t:T) (a b:E)
 |tup (es:Es)|lst (es:Es)
 |ix (a b:E)|sl (a:E) (lo hi:OE)
 |call (f:Str) (es:Es)|callE (f:E) (es:Es)
 |bi (b:B1) (es:Es)
 |rtup (a:It)|rlst (a:It)
 |isi (a:E) (c:Cl)
 |comp (it:It) (cap:List (Option Nat)) (tg:Tg) (t:T) (elt:E)
 |mth (ix:Bool) (a:E)
 |cnt (a b:E)
 |mxk (mx:Bool) (a:E)
 |dic
 |callo (f:Str) (es:Es)
 |comp2 (it:It) (cap:List (Option Nat)) (tg:Tg) (it2:It) (tg2:Tg) (t:T) (elt:E)
 |fst2 (t0:Str) (a:E) (t1:Str) (b:E) (t2:Str)
 |sset (ln:Bool) (a:E)
 |rev (a:E)
 |dic1 (a b:E)
 |dget (a b:E)
 |dget2 (a b d:E)
 |lsd (a:E)
inductive OE where
 |none|some (e:E)
inductive Es where
 |nil|cons (e:E) (es:Es)
inductive It where
 |seq (e:E)|rng (a:E)|rng2 (a b:E)|enum (e:E)|zip (a b:E)|rng3 (a b k:E)
inductive T where
 |yes|val (e:E)|cmp (c:C2) (a b:E)|cmp2 (c c':C2) (a b d:E)|and (a b:T)|or (a b:T)|not (a:T)
end
noncomputable def SZ:Nat:=1000000
noncomputable def small(j:Int):Bool:=decide (-(2^64)<j)&&decide (j<2^64)
noncomputable def opI:O2->Int->Int->R D
 | .add,i,j=>.ok (.int (i+j))
 | .sub,i,j=>.ok (.int (i-j))
 | .mul,i,j=>if small i||small j then .ok (.int (i * j))else .no
 | .fdiv,i,j=>if 0<j/\j<1000000000000000000000000000000 then .ok (.int (i/j))else .no
 | .mod,i,j=>if 0<j then .ok (.int (i%j))else .no
 | .pow,i,j=>if 0<=j/\j<=1000000/\i.natAbs<2^64 then .ok (.int (i^j.toNat))else .no
 | .shl,i,j=>if 0<=j/\j<=1000000/\i.natAbs<2^64 then .ok (.int (i * 2^j.toNat))else .no
 | .shr,i,j=>if 0<=j then .ok (.int (i/2^j.toNat))else .no
 | .band,i,j=>.ok (.int (Builtin.bitAnd i j))
 | .bor,i,j=>.ok (.int (Builtin.bitOr i j))
 | .bxor,i,j=>.ok (.int (Builtin.bitXor i j))
noncomputable def pW:D->Bool
 | .lst _=>true
 |_=>false
noncomputable def op2(o:O2):D->D->R D
 | .int i,.int j=>opI o i j
 | .tup xs,.tup ys=>if o=.add/\xs.length+ys.length<=SZ then .ok (.tup (xs++ys))else .no
 | .lst xs,.lst ys=>if o=.add/\xs.length+ys.length<=SZ then .ok (.lst (xs++ys))else .no
 |_,_=>.no
mutual
noncomputable def D.plain:D->Bool
 | .non=>true
 | .bl _=>true
 | .int _=>true
 | .str x=>PyData.strOk x
 | .tup xs=>plainAll xs
 | .lst xs=>plainAll xs
 | .fn _=>false
 | .exn _=>false
 | .dic _=>false
noncomputable def plainAll:List D->Bool
 | []=>true
 |x::xs=>x.plain&&plainAll xs
end
mutual
noncomputable def D.deep:D->Nat
 | .tup xs=>fu xs+1
 | .lst xs=>fu xs+1
 |_=>0
noncomputable def fu:List D->Nat
 | []=>0
 |x::xs=>max x.deep (fu xs)
end
mutual
noncomputable def D.eqv:D->D->Bool
 | .non,.non=>true
 | .bl a,.bl b=>a==b
 | .bl a,.int j=>(if a then 1 else 0)==j
 | .int i,.bl b=>i==(if b then 1 else 0)
 | .int i,.int j=>i==j
 | .str x,.str y=>x==y
 | .tup xs,.tup ys=>eqvAll xs ys
 | .lst xs,.lst ys=>eqvAll xs ys
 |_,_=>false
noncomputable def eqvAll:List D->List D->Bool
 | [],[]=>true
 |x::xs,y::ys=>x.eqv y&&eqvAll xs ys
 |_,_=>false
end
noncomputable def D.asks(d:D):Bool:=d.plain&&decide (d.deep<=20)
mutual
noncomputable def D.noL:D->Bool
 | .non=>true
 | .bl _=>true
 | .int _=>true
 | .str _=>true
 | .tup xs=>kZ xs
 |_=>false
noncomputable def kZ:List D->Bool
 | []=>true
 |x::xs=>x.noL&&kZ xs
end
noncomputable def ints?:List D->Option (List Int)
 | []=>some []
 | .int i::r=>(ints? r).map (i :: ·)
 |_=>none
noncomputable def bools?:List D->Option (List Bool)
 | []=>some []
 | .bl i::r=>(bools? r).map (i :: ·)
 |_=>none
noncomputable def pairs?:List D->Option (List (Int×Int))
 | []=>some []
 | .tup [.int i,.int j]::r=>(pairs? r).map ((i,j) :: ·)
 |_=>none
noncomputable def seq?:D->Option (List D)
 | .tup xs=>some xs
 | .lst xs=>some xs
 |_=>none
noncomputable def er:List Int->List Int->Bool
 | [],[]=>false
 | [],_::_=>true
 |_::_,[]=>false
 |a::r,b::t=>if a=b then er r t else decide (a<b)
noncomputable def i6(c:C2)(i j:Int):Option Bool:=
 match c with
 | .lt=>some (decide (i<j))
 | .le=>some (decide (i<=j))
 | .gt=>some (decide (j<i))
 | .ge=>some (decide (j<=i))
 | .eq=>some (decide (i=j))
 | .ne=>some (!decide (i=j))
 |_=>none
noncomputable def inD(x:D)(xs:List D):Bool:=xs.any λy=>y.eqv x
noncomputable def d_:D->Bool
 | .non=>true
 |_=>false
noncomputable def isB(n:Bool):D->D->R Bool
 | .bl a,.bl b=>.ok (n != (a==b))
 |_,_=>.no
noncomputable def dq(a b:D):R Bool:=match b with
 | .dic kvs=>(match a with
  | .int i=>.ok (kvs.any λp=>decide (p.1=i))
  |_=>.no)
 |_=>.no
noncomputable def qi:C2->D->D->R Bool
 | .is,a,b=>if d_ b then .ok (d_ a)else isB false a b
 | .isnot,a,b=>if d_ b then .ok (!d_ a)else isB true a b
 | .isin,a,b=>match seq? b with
  |some xs=>if a.asks&&xs.all D.asks then .ok (inD a xs)else .no
  |none=>dq a b
 | .notin,a,b=>match seq? b with
  |some xs=>if a.asks&&xs.all D.asks then .ok (!inD a xs)else .no
  |none=>(dq a b).bind λr=>.ok (!r)
 | .eq,a,b=>if a.asks&&b.asks then .ok (a.eqv b)else .no
 | .ne,a,b=>if a.asks&&b.asks then .ok (!a.eqv b)else .no
 | .lt,.tup xs,.tup ys=>match ints? xs,ints? ys with
  |some ns,some ms=>.ok (er ns ms)
  |_,_=>.no
 |c,.int i,.int j=>match i6 c i j with
  |some b=>.ok b
  |none=>.no
 |_,_,_=>.no
noncomputable def truth:D->R Bool
 | .non=>.ok false
 | .bl b=>.ok b
 | .int i=>.ok (i != 0)
 | .tup xs=>.ok (!xs.isEmpty)
 | .lst xs=>.ok (!xs.isEmpty)
 |_=>.no
noncomputable def ixD:D->D->R D
 | .tup xs,.int i=>match atI xs i with|some d=>.ok d|none=>.no
 | .lst xs,.int i=>match atI xs i with|some d=>.ok d|none=>.no
 | .dic kvs,.int i=>match atK kvs i with|some v=>.ok (.int v)|none=>.no
 |_,_=>.no
noncomputable def cutD(xs:List D)(lo hi:Option Int):List D:=(xs.drop (HT.sIx xs.length 0 lo)).take (HT.sIx xs.length xs.length hi-HT.sIx xs.length 0 lo)
noncomputable def slD:D->Option Int->Option Int->R D
 | .tup xs,lo,hi=>.ok (.tup (cutD xs lo hi))
 | .lst xs,lo,hi=>.ok (.lst (cutD xs lo hi))
 |_,_,_=>.no
noncomputable def insI(i:Int):List Int->List Int
 | []=>[i]
 |j::r=>if i<=j then i::j::r else j::insI i r
noncomputable def sortI:List Int->List Int
 | []=>[]
 |i::r=>insI i (sortI r)
noncomputable def fE(p:Int×Int):List (Int×Int)->List (Int×Int)
 | []=>[p]
 |q::r=>if ltP q p then q::fE p r else p::q::r
noncomputable def zw:List (Int×Int)->List (Int×Int)
 | []=>[]
 |p::r=>fE p (zw r)
noncomputable def pairD(p:Int×Int):D:=.tup [.int p.1,.int p.2]
noncomputable def de(d:D)(k:List D->R D):R D:=match d with | .lst xs=>k xs|_=>.no
noncomputable def ibR(d:D)(f:Int->R D)(q:Bool->R D):R D:=match d with | .int i=>f i | .bl b=>q b|_=>.no
noncomputable def iiR(d e:D)(k:Int->Int->R D):R D:=match d,e with | .int i,.int j=>k i j|_,_=>.no
noncomputable def cF{α β:Type}(o:Option α)(k:α->R β):R β:=match o with|some a=>k a|none=>.no
noncomputable def m8(p:List Int):List (List Int)->List (List Int)
 | []=>[p]
 |q::r=>if er q p then q::m8 p r else p::q::r
noncomputable def oG:List (List Int)->List (List Int)
 | []=>[]
 |p::r=>m8 p (oG r)
noncomputable def eA(xs:List D):R D:=.no
noncomputable def oU(mx:Bool)(i:Int):List Int->Int
 | []=>i
 |j::r=>oU mx (if mx then (if i<j then j else i)else (if j<i then j else i)) r
noncomputable def i7(x:D)(f:List (Int×Int)->R D):R D:=match x with
 | .dic kvs=>f kvs
 |_=>.no
noncomputable def gP(kvs:List (Int×Int))(y:D):R D:=match y with
 | .int i=>.ok (match atK kvs i with|some v=>.int v|none=>.non)
 |_=>.no
noncomputable def gU(kvs:List (Int×Int))(y z:D):R D:=match y with
 | .int i=>.ok (match atK kvs i with|some v=>.int v|none=>z)
 |_=>.no
noncomputable def lY(x:D):R D:=match x with
 | .lst xs=>.ok (.lst xs)
 | .dic kvs=>.ok (.lst (kvs.map λp=>.int p.1))
 |_=>.no
noncomputable def b11(b:B1)(d:D):R D:=match b with
 | .len=>cF (seq? d) λxs=>.ok (.int xs.length)
 | .tuple=>cF (seq? d) λxs=>.ok (.tup xs)
 | .list=>cF (seq? d) λxs=>.ok (.lst xs)
 | .all=>de d λxs=>cF (bools? xs) λbs=>.ok (.bl (bs.all id))
 | .any=>de d λxs=>cF (bools? xs) λbs=>.ok (.bl (bs.any id))
 | .sorted=>match d with
  | .tup xs=>if xs.length<64 then cF (ints? xs) λns=>.ok (.lst ((sortI ns).map D.int))else .no
  | .dic kvs=>if kvs.length<64 then .ok (.lst ((sortI (kvs.map (·.1))).map D.int))else .no
  |d=>de d λxs=>if xs.length<64 then (match ints? xs with
   |some ns=>.ok (.lst ((sortI ns).map D.int))
   |none=>match pairs? xs with
    |some ps=>.ok (.lst ((zw ps).map pairD))
    |none=>eA xs)else eA xs
 | .abs=>ibR d (λi=>.ok (.int (if i<0 then -i else i))) λ_=>.no
 | .int=>ibR d (λi=>.ok (.int i)) λb=>.ok (.int (if b then 1 else 0))
 | .bool=>ibR d (λi=>.ok (.bl (i != 0))) λb=>.ok (.bl b)
 | .min=>.no
 | .max=>.no
 | .sum=>de d λxs=>cF (ints? xs) λns=>.ok (.int ns.sum)
noncomputable def b12(b:B1)(d e:D):R D:=match b with
 | .min=>iiR d e λi j=>.ok (.int (if j<i then j else i))
 | .max=>iiR d e λi j=>.ok (.int (if j>i then j else i))
 |_=>.no
noncomputable def jn(ix:Bool)(x:D):R D:=de x λxs=>cF (bools? xs) λbs=>if ix then cF (bs.findIdx? id) λj=>.ok (.int (j:Int))else .ok (.int ((bs.countP id:Nat):Int))
noncomputable def nY(ln:Bool)(d:D):R D:=.no
noncomputable def b1(b:B1):List D->R D
 | [d]=>b11 b d
 | [d,e]=>b12 b d e
 |_=>.no
noncomputable def tyD:D->Option String
 | .non=>some "NoneType"
 | .bl _=>some "bool"
 | .int _=>some "int"
 | .str _=>some "str"
 | .tup _=>some "tuple"
 | .lst _=>some "list"
 | .dic _=>some "dict"
 |_=>none
noncomputable def cD(lo:Int)(n:Nat):List D:=(aW n).map λ(i:Nat)=>.int (lo+(i:Int))
noncomputable def dD:Nat->List D->List D
 |_,[]=>[]
 |k,x::r=>.tup [.int k,x]::dD (k+1) r
noncomputable def cg:List D->List D->List D
 |x::xs,y::ys=>.tup [x,y]::cg xs ys
 |_,_=>[]
noncomputable def zo(j:Int):Bool:=decide (-1000000<=j)&&decide (j<=1000000)
abbrev Env:=List (Option D)
structure W where
 call:Str->List D->R D
 glb:Str->Option D
 sub:Str->Cl->Option Bool
 cat:Str->Str->Bool
noncomputable def cc(w:W)(x:D)(c:Cl):R D:=match tyD x,c with
 |some t,.ty n=>if n = "ValueError" then .no else .ok (.bl (fO t n))
 |none,c=>match x with
  | .exn k=>match w.sub k c with|some b=>.ok (.bl b)|none=>.no
  |_=>.no
 |_,_=>.no
noncomputable def zM(τ:Env)(i:Nat):R D:=match τ[i]? with
 |some (some d)=>.ok d
 |_=>.no
noncomputable def setAll:List Nat->List D->Env->R Env
 | [],[],τ=>.ok τ
 |i::is,d::ds,τ=>setAll is ds (τ.set i (some d))
 |_,_,_=>.no
noncomputable def store:Tg->D->Env->R Env
 | .nm i,d,τ=>.ok (τ.set i (some d))
 | .tp is,.tup ds,τ=>if ds.length=is.length then setAll is ds τ else .no
 |_,_,_=>.no
noncomputable def dU(cap:List (Option Nat))(τ:Env):Env:=cap.map λo=>o.bind λj=>(τ[j]?).join
noncomputable def noEx{α:Type}:R α->R α
 | .ok a=>.ok a
 |_=>.no
noncomputable def cG(body:D->Env->R (Env×List D)):List D->Env->List D->R (List D)
 | [],_,acc=>.ok acc
 |x::r,τ,acc=>(body x τ).bind λp=>cG body r p.1 (acc++p.2)
mutual
noncomputable def evE(w:W):E->Env->R D
 | .var i,τ=>zM τ i
 | .own i,τ=>zM τ i
 | .con d,_=>.ok d
 | .glb x,_=>match w.glb x with|some d=>.ok d|none=>.no
 | .fnv x,_=>.no
 | .op o a b,τ=>(evE w a τ).bind λx=>(evE w b τ).bind λy=>op2 o x y
 | .neg a,τ=>(evE w a τ).bind λx=>match x with | .int i=>.ok (.int (-i))|_=>.no
 | .inv a,_=>.no
 | .not a,τ=>(evE w a τ).bind λx=>match x with | .bl b=>.ok (.bl (!b))|_=>.no
 | .and a b,τ=>(evE w a τ).bind λx=>match x with | .bl true=>evE w b τ | .bl false=>.ok (.bl false)|_=>.no
 | .or a b,τ=>(evE w a τ).bind λx=>match x with | .bl true=>.ok (.bl true) | .bl false=>evE w b τ|_=>.no
 | .cmp c a b,τ=>(evE w a τ).bind λx=>(evE w b τ).bind λy=>(qi c x y).bind λr=>.ok (.bl r)
 | .cmp2 c c' a b d,τ=>(evE w a τ).bind λx=>(evE w b τ).bind λy=>(qi c x y).bind λr=>if r then (evE w d τ).bind λz=>(qi c' y z).bind λr'=>.ok (.bl r')else .ok (.bl false)
 | .cmp3 c c' c'' a b d e,τ=>(evE w a τ).bind λx=>(evE w b τ).bind λy=>(qi c x y).bind λr=>if r then (evE w d τ).bind λz=>(qi c' y z).bind λr'=>if r' then (evE w e τ).bind λu=>(qi c'' z u).bind λr''=>.ok (.bl r'')else .ok (.bl false)else .ok (.bl false)
 | .ite t a b,τ=>(evT w t τ).bind λr=>if r then evE w a τ else evE w b τ
 | .tup es,τ=>(zz w es τ).bind λds=>.ok (.tup ds)
 | .lst es,τ=>(zz w es τ).bind λds=>.ok (.lst ds)
 | .ix a b,τ=>(evE w a τ).bind λx=>(evE w b τ).bind λy=>ixD x y
 | .sl a lo hi,τ=>(evE w a τ).bind λx=>(evO w lo τ).bind λl=>(evO w hi τ).bind λh=>slD x l h
 | .call f es,τ=>(zz w es τ).bind λds=>w.call f ds
 | .callE f es,_=>.no
 | .bi b es,τ=>(zz w es τ).bind λds=>b1 b ds
 | .rtup a,_=>.no
 | .rlst a,_=>.no
 | .isi a c,τ=>(evE w a τ).bind λx=>cc w x c
 | .comp it cap tg t elt,τ=>(evI w it τ).bind λds=>if SZ<ds.length then .no else (cG (λx σ=>noEx ((store tg x σ).bind λσ'=>(evT w t σ').bind λr=>if r then (evE w elt σ').bind λd=>.ok (σ',[d])else .ok (σ',[]))) ds (dU cap τ) []).bind λout=>.ok (.lst out)
 | .mth ix a,τ=>(evE w a τ).bind λx=>jn ix x
 | .cnt a b,_=>.no
 | .mxk mx a,_=>.no
 | .dic,_=>.ok (.dic [])
 | .callo f es,τ=>(zz w es τ).bind λds=>(w.call f ds).bind λd=>if d.noL then .ok d else .no
 | .comp2 it cap tg it2 tg2 t elt,_=>.no
 | .fst2 t0 a t1 b t2,_=>.no
 | .sset ln a,τ=>(evE w a τ).bind (nY ln)
 | .rev a,_=>.no
 | .dic1 a b,τ=>(evE w a τ).bind λx=>(evE w b τ).bind λy=>iiR x y λi j=>.ok (.dic [(i,j)])
 | .dget a b,τ=>(evE w a τ).bind λx=>i7 x λkvs=>(evE w b τ).bind λy=>gP kvs y
 | .dget2 a b d,τ=>(evE w a τ).bind λx=>i7 x λkvs=>(evE w b τ).bind λy=>(evE w d τ).bind λz=>gU kvs y z
 | .lsd a,τ=>(evE w a τ).bind lY
noncomputable def evO(w:W):OE->Env->R (Option Int)
 | .none,_=>.ok none
 | .some e,τ=>(evE w e τ).bind λx=>match x with | .int i=>.ok (some i)|_=>.no
noncomputable def zz(w:W):Es->Env->R (List D)
 | .nil,_=>.ok []
 | .cons e es,τ=>(evE w e τ).bind λd=>(zz w es τ).bind λds=>.ok (d::ds)
noncomputable def evI(w:W):It->Env->R (List D)
 | .seq e,τ=>(evE w e τ).bind λx=>match seq? x with|some xs=>.ok xs|none=>.no
 | .rng a,τ=>(evE w a τ).bind λx=>match x with | .int j=>if zo j then .ok (cD 0 j.toNat)else .no|_=>.no
 | .rng2 a b,τ=>(evE w a τ).bind λx=>(evE w b τ).bind λy=>match x,y with | .int i,.int j=>if zo i&&zo j then .ok (cD i (j-i).toNat)else .no|_,_=>.no
 | .enum e,τ=>(evE w e τ).bind λx=>match x with | .lst xs=>.ok (dD 0 xs)|_=>.no
 | .zip a b,τ=>(evE w a τ).bind λx=>(evE w b τ).bind λy=>match x,y with
  | .tup xs,.tup ys=>if xs.length=ys.length then .ok (cg xs ys)else .no
  | .lst xs,.lst ys=>if xs.length=ys.length then .ok (cg xs ys)else .no
  |_,_=>.no
 | .rng3 a b k,_=>.no
noncomputable def evT(w:W):T->Env->R Bool
 | .yes,_=>.ok true
 | .val e,τ=>(evE w e τ).bind λx=>truth x
 | .cmp c a b,τ=>(evE w a τ).bind λx=>(evE w b τ).bind λy=>qi c x y
 | .cmp2 c c' a b d,τ=>(evE w a τ).bind λx=>(evE w b τ).bind λy=>(qi c x y).bind λr=>if r then (evE w d τ).bind λz=>qi c' y z else .ok false
 | .and a b,τ=>(evT w a τ).bind λr=>if r then evT w b τ else .ok false
 | .or a b,τ=>(evT w a τ).bind λr=>if r then .ok true else evT w b τ
 | .not a,τ=>(evT w a τ).bind λr=>.ok (!r)
end
theorem zg:∀{w i τ},@Eq (R D) (evE w (.var i) τ) (zM τ i):=rfl
theorem zb:∀{w i τ},@Eq (R D) (evE w (.own i) τ) (zM τ i):=rfl
theorem zc:∀{w d τ},@Eq (R D) (evE w (.con d) τ) (.ok d):=rfl
theorem zh:∀{w x τ},@Eq (R D) (evE w (.glb x) τ) (match w.glb x with|some d=>.ok d|none=>.no):=rfl
theorem zk:∀{w x τ},@Eq (R D) (evE w (.fnv x) τ) (.no):=rfl
theorem zf:∀{w o a b τ},@Eq (R D) (evE w (.op o a b) τ) ((evE w a τ).bind λx=>(evE w b τ).bind λy=>op2 o x y):=rfl
theorem za:∀{w a τ},@Eq (R D) (evE w (.neg a) τ) ((evE w a τ).bind λx=>match x with | .int i=>.ok (.int (-i))|_=>.no):=rfl
theorem zm:∀{w a τ},@Eq (R D) (evE w (.inv a) τ) (.no):=rfl
theorem ze:∀{w a τ},@Eq (R D) (evE w (.not a) τ) ((evE w a τ).bind λx=>match x with | .bl b=>.ok (.bl (!b))|_=>.no):=rfl
theorem qq:∀{w a b τ},@Eq (R D) (evE w (.and a b) τ) ((evE w a τ).bind λx=>match x with | .bl true=>evE w b τ | .bl false=>.ok (.bl false)|_=>.no):=rfl
theorem qw:∀{w a b τ},@Eq (R D) (evE w (.or a b) τ) ((evE w a τ).bind λx=>match x with | .bl true=>.ok (.bl true) | .bl false=>evE w b τ|_=>.no):=rfl
theorem qF:∀{w c a b τ},@Eq (R D) (evE w (.cmp c a b) τ) ((evE w a τ).bind λx=>(evE w b τ).bind λy=>(qi c x y).bind λr=>.ok (.bl r)):=rfl
theorem qA:∀{w c c' a b d τ},@Eq (R D) (evE w (.cmp2 c c' a b d) τ) ((evE w a τ).bind λx=>(evE w b τ).bind λy=>(qi c x y).bind λr=>if r then (evE w d τ).bind λz=>(qi c' y z).bind λr'=>.ok (.bl r')else .ok (.bl false)):=rfl
theorem qx:∀{w c c' c'' a b d e τ},@Eq (R D) (evE w (.cmp3 c c' c'' a b d e) τ) ((evE w a τ).bind λx=>(evE w b τ).bind λy=>(qi c x y).bind λr=>if r then (evE w d τ).bind λz=>(qi c' y z).bind λr'=>if r' then (evE w e τ).bind λu=>(qi c'' z u).bind λr''=>.ok (.bl r'')else .ok (.bl false)else .ok (.bl false)):=rfl
theorem qM:∀{w t a b τ},@Eq (R D) (evE w (.ite t a b) τ) ((evT w t τ).bind λr=>if r then evE w a τ else evE w b τ):=rfl
theorem qD:∀{w es τ},@Eq (R D) (evE w (.tup es) τ) ((zz w es τ).bind λds=>.ok (.tup ds)):=rfl
theorem qH:∀{w es τ},@Eq (R D) (evE w (.lst es) τ) ((zz w es τ).bind λds=>.ok (.lst ds)):=rfl
theorem qu:∀{w a b τ},@Eq (R D) (evE w (.ix a b) τ) ((evE w a τ).bind λx=>(evE w b τ).bind λy=>ixD x y):=rfl
theorem qC:∀{w a lo hi τ},@Eq (R D) (evE w (.sl a lo hi) τ) ((evE w a τ).bind λx=>(evO w lo τ).bind λl=>(evO w hi τ).bind λh=>slD x l h):=rfl
theorem qB:∀{w f es τ},@Eq (R D) (evE w (.call f es) τ) ((zz w es τ).bind λds=>w.call f ds):=rfl
theorem qN:∀{w f es τ},@Eq (R D) (evE w (.callE f es) τ) (.no):=rfl
theorem qp:∀{w b es τ},@Eq (R D) (evE w (.bi b es) τ) ((zz w es τ).bind λds=>b1 b ds):=rfl
theorem qG:∀{w a τ},@Eq (R D) (evE w (.rtup a) τ) (.no):=rfl
theorem qK:∀{w a τ},@Eq (R D) (evE w (.rlst a) τ) (.no):=rfl
theorem qy:∀{w a c τ},@Eq (R D) (evE w (.isi a c) τ) ((evE w a τ).bind λx=>cc w x c):=rfl
theorem qr:∀{w it cap tg t elt τ},@Eq (R D) (evE w (.comp it cap tg t elt) τ) ((evI w it τ).bind λds=>if SZ<ds.length then .no else (cG (λx σ=>noEx ((store tg x σ).bind λσ'=>(evT w t σ').bind λr=>if r then (evE w elt σ').bind λd=>.ok (σ',[d])else .ok (σ',[]))) ds (dU cap τ) []).bind λout=>.ok (.lst out)):=rfl
theorem qI:∀{w ix a τ},@Eq (R D) (evE w (.mth ix a) τ) ((evE w a τ).bind λx=>jn ix x):=rfl
theorem qQ:∀{w a b τ},@Eq (R D) (evE w (.cnt a b) τ) (.no):=rfl
theorem qT:∀{w mx a τ},@Eq (R D) (evE w (.mxk mx a) τ) (.no):=rfl
theorem qt:∀{w τ},@Eq (R D) (evE w (.dic) τ) (.ok (.dic [])):=rfl
theorem qE:∀{w f es τ},@Eq (R D) (evE w (.callo f es) τ) ((zz w es τ).bind λds=>(w.call f ds).bind λd=>if d.noL then .ok d else .no):=rfl
theorem qO:∀{w it cap tg it2 tg2 t elt τ},@Eq (R D) (evE w (.comp2 it cap tg it2 tg2 t elt) τ) (.no):=rfl
theorem qR:∀{w t0 a t1 b t2 τ},@Eq (R D) (evE w (.fst2 t0 a t1 b t2) τ) (.no):=rfl
theorem qJ:∀{w ln a τ},@Eq (R D) (evE w (.sset ln a) τ) ((evE w a τ).bind (nY ln)):=rfl
theorem qS:∀{w a τ},@Eq (R D) (evE w (.rev a) τ) (.no):=rfl
theorem qL:∀{w a b τ},@Eq (R D) (evE w (.dic1 a b) τ) ((evE w a τ).bind λx=>(evE w b τ).bind λy=>iiR x y λi j=>.ok (.dic [(i,j)])):=rfl
theorem qV:∀{w a b τ},@Eq (R D) (evE w (.dget a b) τ) ((evE w a τ).bind λx=>i7 x λkvs=>(evE w b τ).bind λy=>gP kvs y):=rfl
theorem qU:∀{w a b d τ},@Eq (R D) (evE w (.dget2 a b d) τ) ((evE w a τ).bind λx=>i7 x λkvs=>(evE w b τ).bind λy=>(evE w d τ).bind λz=>gU kvs y z):=rfl
theorem qP:∀{w a τ},@Eq (R D) (evE w (.lsd a) τ) ((evE w a τ).bind lY):=rfl
theorem eS:∀{w τ},@Eq (R Bool) (evT w (.yes) τ) (.ok true):=rfl
theorem fc:∀{w e τ},@Eq (R Bool) (evT w (.val e) τ) ((evE w e τ).bind λx=>truth x):=rfl
theorem eX:∀{w c a b τ},@Eq (R Bool) (evT w (.cmp c a b) τ) ((evE w a τ).bind λx=>(evE w b τ).bind λy=>qi c x y):=rfl
theorem fm:∀{w c c' a b d τ},@Eq (R Bool) (evT w (.cmp2 c c' a b d) τ) ((evE w a τ).bind λx=>(evE w b τ).bind λy=>(qi c x y).bind λr=>if r then (evE w d τ).bind λz=>qi c' y z else .ok false):=rfl
theorem fk:∀{w a b τ},@Eq (R Bool) (evT w (.and a b) τ) ((evT w a τ).bind λr=>if r then evT w b τ else .ok false):=rfl
theorem ft:∀{w a b τ},@Eq (R Bool) (evT w (.or a b) τ) ((evT w a τ).bind λr=>if r then .ok true else evT w b τ):=rfl
theorem fo:∀{w a τ},@Eq (R Bool) (evT w (.not a) τ) ((evT w a τ).bind λr=>.ok (!r)):=rfl
mutual
inductive S where
 |set (tg:Tg) (e:E)
 |app (i:Nat) (e:E)
 |seti (i:Nat) (k e:E)
 |exp (e:E)
 |ret (e:E)|retN
 |ite (t:T) (a b:Ss)
 |for (tg:Tg) (it:It) (b:Ss)
 |while (t:T) (b:Ss)
 |raise (c:Str) (es:Es)
 |try (b:Ss) (c:Str) (i:Option Nat) (h:Ss)
 |ins (i:Nat) (k e:E)
 |pass|brk|cnt|unk
 |par (i j:Nat) (a b:E)
 |par3 (i j k:Nat) (a b c:E)
 |dupd (i:Nat) (e:E)
 |pop0 (j i:Nat)
inductive Ss where
 |nil|cons (s:S) (r:Ss)
end
inductive O where
 |nx (τ:Env)|rt (d:D)|bk (τ:Env)|ct (τ:Env)|ex (c:Str)|no
noncomputable def R.out{α:Type}:R α->(α->O)->O
 | .ok a,f=>f a
 | .ex c,_=>.ex c
 | .no,_=>.no
@[simp] theorem R.out_ok{α:Type}(a:α)(f:α->O):(R.ok a).out f=f a:=rfl
@[simp] theorem R.out_ex{α:Type}(c:Str)(f:α->O):(R.ex c:R α).out f=.ex c:=rfl
@[simp] theorem R.out_no{α:Type}(f:α->O):(R.no:R α).out f=.no:=rfl
noncomputable def cR(tg:Tg)(body:Env->O):List D->Env->O
 | [],τ=>.nx τ
 |x::r,τ=>(store tg x τ).out λτ'=>match body τ' with
  | .nx σ=>cR tg body r σ
  | .ct σ=>cR tg body r σ
  | .bk σ=>.nx σ
  |o=>o
noncomputable def dE(test:Env->R Bool)(body:Env->O):Nat->Env->O
 | 0,_=>.no
 |n+1,τ=>(test τ).out λb=>if b then (match body τ with
  | .nx σ=>dE test body n σ
  | .ct σ=>dE test body n σ
  | .bk σ=>.nx σ
  |o=>o)else .nx τ
noncomputable def fh:Nat:=100000
noncomputable def O.noEx:O->O
 | .ex _=>.no
 |o=>o
noncomputable def O.rtOnly:O->O
 | .rt d=>.rt d
 |_=>.no
noncomputable def dt(τ:Env)(i:Option Nat)(k:Str):Env:=match i with
 |none=>τ.map λ_=>none
 |some i=>(τ.map λ_=>none).set i (some (.exn k))
noncomputable def ig(x n d:D)(i:Nat)(τ:Env):O:=match x with
 | .lst xs=>(match n with
  | .int j=>if 0<=j/\j<=xs.length/\xs.length<SZ then .nx (τ.set i (some (.lst (xs.take j.toNat++d::xs.drop j.toNat))))else .no
  |_=>.no)
 |_=>.no
mutual
noncomputable def evS(w:W):S->Env->O
 | .set tg e,τ=>(evE w e τ).out λd=>(store tg d τ).out .nx
 | .app i e,τ=>(zM τ i).out λx=>match x with
  | .lst xs=>(evE w e τ).out λd=>if xs.length<SZ then .nx (τ.set i (some (.lst (xs++[d]))))else .no
  |_=>.no
 | .seti i k e,τ=>(evE w e τ).out λd=>(zM τ i).out λx=>(evE w k τ).out λn=>match x,n with
  | .lst xs,.int j=>match ixN xs.length j with
   |some m=>.nx (τ.set i (some (.lst (xs.set m d))))
   |none=>.no
  | .dic kvs,.int j=>(match d with
   | .int v=>if kvs.length<SZ then .nx (τ.set i (some (.dic (bP kvs j v))))else .no
   |_=>.no)
  |_,_=>.no
 | .exp e,τ=>(evE w e τ).out λ_=>.nx τ
 | .ret e,τ=>(evE w e τ).out .rt
 | .retN,_=>.rt .non
 | .ite t a b,τ=>(evT w t τ).out λr=>if r then qe w a τ else qe w b τ
 | .for tg it b,τ=>((evI w it τ).out λds=>cR tg (λσ=>qe w b σ) ds τ).noEx
 | .while t b,τ=>(dE (λσ=>evT w t σ) (λσ=>qe w b σ) fh τ).noEx
 | .raise c es,τ=>(zz w es τ).out λ_=>.ex c
 | .try b c i h,τ=>match qe w b τ with
  | .ex k=>if w.cat k c=true then (qe w h (dt τ i k)).rtOnly else .no
  |o=>o
 | .ins i k e,τ=>(zM τ i).out λx=>match x with
  | .lst xs=>(evE w k τ).out λn=>(evE w e τ).out λd=>ig (.lst xs) n d i τ
  |_=>.no
 | .unk,_=>.no
 | .pass,τ=>.nx τ
 | .brk,τ=>.bk τ
 | .cnt,τ=>.ct τ
 | .par i j a b,_=>.no
 | .par3 i j k a b c,_=>.no
 | .dupd i e,τ=>(zM τ i).out λx=>match x with
  | .dic kvs=>(evE w e τ).out λd=>(match d with
   | .dic ms=>if kvs.length+ms.length<SZ then .nx (τ.set i (some (.dic (cX kvs ms))))else .no
   |_=>.no)
  |_=>.no
 | .pop0 j i,τ=>(zM τ i).out λx=>match x with
  | .lst xs=>(match xs with
   |y::r=>.nx ((τ.set i (some (.lst r))).set j (some y))
   | []=>.no)
  |_=>.no
noncomputable def qe(w:W):Ss->Env->O
 | .nil,τ=>.nx τ
 | .cons s r,τ=>match evS w s τ with
  | .nx σ=>qe w r σ
  |o=>o
end
theorem b9:∀{w tg e τ},@Eq (O) (evS w (.set tg e) τ) ((evE w e τ).out λd=>(store tg d τ).out .nx):=rfl
theorem bY:∀{w i e τ},@Eq (O) (evS w (.app i e) τ) ((zM τ i).out λx=>match x with
  | .lst xs=>(evE w e τ).out λd=>if xs.length<SZ then .nx (τ.set i (some (.lst (xs++[d]))))else .no
  |_=>.no):=rfl
theorem ck:∀{w i k e τ},@Eq (O) (evS w (.seti i k e) τ) ((evE w e τ).out λd=>(zM τ i).out λx=>(evE w k τ).out λn=>match x,n with
  | .lst xs,.int j=>match ixN xs.length j with
   |some m=>.nx (τ.set i (some (.lst (xs.set m d))))
   |none=>.no
  | .dic kvs,.int j=>(match d with
   | .int v=>if kvs.length<SZ then .nx (τ.set i (some (.dic (bP kvs j v))))else .no
   |_=>.no)
  |_,_=>.no):=rfl
theorem cf:∀{w e τ},@Eq (O) (evS w (.exp e) τ) ((evE w e τ).out λ_=>.nx τ):=rfl
theorem zL:∀{w e τ},@Eq (O) (evS w (.ret e) τ) ((evE w e τ).out .rt):=rfl
theorem b_:∀{w τ},@Eq (O) (evS w (.retN) τ) (.rt .non):=rfl
theorem bU:∀{w t a b τ},@Eq (O) (evS w (.ite t a b) τ) ((evT w t τ).out λr=>if r then qe w a τ else qe w b τ):=rfl
theorem bV:∀{w tg it b τ},@Eq (O) (evS w (.for tg it b) τ) (((evI w it τ).out λds=>cR tg (λσ=>qe w b σ) ds τ).noEx):=rfl
theorem cq:∀{w t b τ},@Eq (O) (evS w (.while t b) τ) ((dE (λσ=>evT w t σ) (λσ=>qe w b σ) fh τ).noEx):=rfl
theorem zO:∀{w c es τ},@Eq (O) (evS w (.raise c es) τ) ((zz w es τ).out λ_=>.ex c):=rfl
theorem zH:∀{w b c i h τ},@Eq (O) (evS w (.try b c i h) τ) (match qe w b τ with
  | .ex k=>if w.cat k c=true then (qe w h (dt τ i k)).rtOnly else .no
  |o=>o):=rfl
theorem zX:∀{w i k e τ},@Eq (O) (evS w (.ins i k e) τ) ((zM τ i).out λx=>match x with
  | .lst xs=>(evE w k τ).out λn=>(evE w e τ).out λd=>ig (.lst xs) n d i τ
  |_=>.no):=rfl
theorem zZ:∀{w τ},@Eq (O) (evS w (.unk) τ) (.no):=rfl
theorem zW:∀{w τ},@Eq (O) (evS w (.pass) τ) (.nx τ):=rfl
theorem zR:∀{w τ},@Eq (O) (evS w (.brk) τ) (.bk τ):=rfl
theorem zY:∀{w τ},@Eq (O) (evS w (.cnt) τ) (.ct τ):=rfl
theorem zT:∀{w i j a b τ},@Eq (O) (evS w (.par i j a b) τ) (.no):=rfl
theorem zU:∀{w i j k a b c τ},@Eq (O) (evS w (.par3 i j k a b c) τ) (.no):=rfl
theorem cj:∀{w i e τ},@Eq (O) (evS w (.dupd i e) τ) ((zM τ i).out λx=>match x with
  | .dic kvs=>(evE w e τ).out λd=>(match d with
   | .dic ms=>if kvs.length+ms.length<SZ then .nx (τ.set i (some (.dic (cX kvs ms))))else .no
   |_=>.no)
  |_=>.no):=rfl
theorem zS:∀{w j i τ},@Eq (O) (evS w (.pop0 j i) τ) ((zM τ i).out λx=>match x with
  | .lst xs=>(match xs with
   |y::r=>.nx ((τ.set i (some (.lst r))).set j (some y))
   | []=>.no)
  |_=>.no):=rfl
structure Fn where
 ps:Nat
 N:Nat
 fr:Bool
 body:Ss
noncomputable def zV(w:W)(f:Fn)(ds:List D):R D:=if ds.length=f.ps then (match qe w f.body (ds.map some++bN (f.N-f.ps) none)with
  | .nx _=>if f.fr then .no else .ok .non
  | .rt d=>.ok d
  | .ex c=>.ex c
  |_=>.no)else .no
structure Pr where
 fns:Str->Option Fn
 glb:Str->Option D
 sub:Str->Cl->Option Bool
 cat:Str->Str->Bool
noncomputable def qa(p:Pr):Nat->Str->List D->R D
 | 0,_,_=>.no
 |k+1,x,ds=>match p.fns x with
  |some f=>zV ⟨qa p k,p.glb,p.sub,p.cat⟩ f ds
  |none=>.no
inductive GK where
  |fn (fresh:Bool)|val|bi (b:B1)|rng|enum|zip|isi|ty (n:String) (b:Option B1)|exc|exk|set
  deriving DecidableEq
structure Cc where
  nm:List (Str×aM)
  N:List Str
  own:List Str
  G:List (Str×GK)
  calm:Bool
  fnc:Bool
  thr:Bool
  GH:List (Str×GK)
  oc:List Str
  frz:Bool
noncomputable def loc(c:Cc)(x:Str):Option Nat:=
  if x == "__debug__" ||x == "__classdict__" then none else
  match c.nm.lookup x with
  |some .local|some .cell|some .free=>let i:=c.N.findIdx (· == x);if c.N[i]? = some x then some i else none
  |_=>none
noncomputable def bK(c:Cc)(x:Str):Option Nat:=
  match c.nm.lookup x with
  |some .local=>loc c x
  |some .cell=>if c.fnc||c.oc.contains x then loc c x else none
  |_=>none
noncomputable def glob(c:Cc)(x:Str):Option GK:=
  if x == "__debug__" ||x == "__name__" then none else
  match c.nm.lookup x with
  |some .globalImplicit=>c.G.lookup x
  |_=>none
noncomputable def esc:E->Bool
  | .own _=>false
  |_=>true
noncomputable def dW:Es->Bool
  | .nil=>true
  | .cons e es=>esc e&&dW es
noncomputable def isL:E->Bool
  | .lst _=>true
  | .rlst _=>true
  | .comp .. => true
  |_=>false
noncomputable def tP:O2->Bool
  | .add=>true
  | .mul=>true
  |_=>false
noncomputable def fresh(c:Cc):E->Bool
  | .op o a b=>tP o&&isL a||o==.add&&isL b
  | .lst _=>true
  | .rlst _=>true
  | .comp .. => true
  | .comp2 .. => true
  | .dic=>true
  | .dic1 .. => true
  | .lsd _=>true
  | .bi .list _=>true
  | .bi .sorted _=>true
  | .call f _=>c.G.lookup f==some (.fn true)
  |_=>false
noncomputable def o2:Operator->Option O2
  | .Add=>some .add
  | .Sub=>some .sub
  | .Mult=>some .mul
  | .FloorDiv=>some .fdiv
  | .Mod=>some .mod
  | .Pow=>some .pow
  | .RShift=>some .shr
  |_=>none
noncomputable def c2:CmpOp->C2
  | .Eq=>.eq
  | .NotEq=>.ne
  | .Lt=>.lt
  | .LtE=>.le
  | .Gt=>.gt
  | .GtE=>.ge
  | .Is=>.is
  | .IsNot=>.isnot
  | .In=>.isin
  | .NotIn=>.notin
noncomputable def eF:Expr->Bool
  | .ListComp .. => true
  | .SetComp .. => true
  | .DictComp .. => true
  |_=>false
noncomputable def zA:Expr->Bool
  | .Set .. => false
  |_=>true
noncomputable def iX(names nm:List (Str×aM)):List (Str×aM):=names.map λ(n,k)=>if k==bR&&(nm.lookup n==some .cell)then (n,aM.cell)else (n,k)
noncomputable def bW(names:List (Str×aM)):List Str:=(names.filter λp=>p.2==.local||p.2==.free||p.2==.cell).map (·.1)
noncomputable def gn(c:Cc)(names:List (Str×aM)):List (Option Nat):=(bW names).map λx=>if names.lookup x==some .free then loc c x else none
noncomputable def gq:List Expr->Option (List Str)
  | []=>some []
  | .Name x _::r=>(gq r).map (x :: ·)
  |_=>none
noncomputable def cTg(c:Cc):Expr->Option Tg
  | .Name x _=>if c.own.contains x then none else (bK c x).map .nm
  | .Tuple es _ _=>if c.calm then do
      let xs <-gq es
      if xs.any c.own.contains then none else
      let is <-xs.mapM (bK c)
      if is.Nodup then some (.tp is)else none
    else none
  |_=>none
noncomputable def isStar:Expr->Bool
  | .Starred .. => true
  |_=>false
noncomputable def isSlice:Expr->Bool
  | .Slice .. => true
  |_=>false
noncomputable def isTup:Expr->Bool
  | .Tuple .. => true
  |_=>false
noncomputable def gw(it:It)(tg:Expr):Bool:=match it with
  | .enum _=>isTup tg
  | .zip .. => isTup tg
  |_=>true
noncomputable def jg(c:Cc):Expr->Option Cl
  | .Name x _=>match glob c x with
    |some (.ty n _)=>some (.ty n)
    |some .exc=>some (.ex x)
    |some .exk=>some (.ex x)
    |_=>none
  |_=>none
noncomputable def vr(c:Cc)(x:Str)(i:Nat):E:=if c.own.contains x then .own i else .var i
noncomputable def cMt(c:Cc)(o:Expr)(m:Str)(ap:Pos)(as:List Expr)(cp:Pos):Option E:=match o with
  | .Name x _=>match as with
    | [a]=>match a with
      | .Constant k _ _=>match k with
        | .bool b=>match loc c x with
          |some i=>if b&&ap.endLine==cp.line then (if m = "count" then some (.mth false (vr c x i))else if m = "index" then some (.mth true (vr c x i))else none)else none
          |none=>none
        |_=>none
      |_=>none
    |_=>none
  |_=>none
noncomputable def baseOk:Expr->Bool
  | .Call (.Name _ _) (_::_) _ _=>true
  | .Name .. => true
  |_=>false
noncomputable def owned:It->Bool
  | .seq (.own _)=>true
  | .enum (.own _)=>true
  | .zip (.own _) _=>true
  | .zip _ (.own _)=>true
  |_=>false
noncomputable def q_:Expr->Bool
  | .UnaryOp .USub (.Constant (.int i) _ _) _=>decide (i=1)
  |_=>false
noncomputable def um(c:Cc)(b:B1)(_:List Expr):Option Expr:=none
noncomputable def kC(c:Cc)(t:String):List Expr->Option Expr
  | [a]=>match a with
    | .Name x _=>if t == "list" && c.calm&&c.own.contains x then some a else none
    |_=>none
  |_=>none
noncomputable def kH:Expr->Bool
  | .ListComp _ gs _ _=>gs.length==2
  |_=>false
mutual
noncomputable def cE:Nat->Cc->Expr->Option E
  | 0,_,_=>none
  |n+1,c,e=>match e with
    | .Name x _=>match loc c x with
      |some i=>if c.own.contains x then some (.own i)else some (.var i)
      |none=>match glob c x with
        |some .val=>some (.glb x)
        |some (.fn _)=>some (.fnv x)
        |_=>none
    | .Constant k _ _=>match k with
      | .int i=>some (.con (.int i))
      | .bool i=>some (.con (.bl i))
      | .none=>some (.con .non)
      | .str x=>some (.con (.str x))
      |_=>none
    | .BinOp a op b _=>do
      let o <-o2 op
      let a <-cE n c a
      let b <-cE n c b
      some (.op o a b)
    | .UnaryOp op a _=>do
      let a <-cE n c a
      match op with
      | .USub=>some (.neg a)
      | .Invert=>some (.inv a)
      | .Not=>some (.not a)
      |_=>none
    | .BoolOp op vs _=>cBo n c op vs
    | .Compare a ops bs _=>match ops,bs with
      | [o],[b]=>do
        let a <-cE n c a
        let b' <-cE n c b
        if zA b then some (.cmp (c2 o) a b')else none
      | [o,o'],[b,d]=>do
        let a <-cE n c a
        let b' <-cE n c b
        let d' <-cE n c d
        if zA b&&zA d then some (.cmp2 (c2 o) (c2 o') a b' d')else none
      | [o,o',o''],[b,d,f]=>do
        let a <-cE n c a
        let b' <-cE n c b
        let d' <-cE n c d
        let f' <-cE n c f
        if zA b&&zA d&&zA f then some (.cmp3 (c2 o) (c2 o') (c2 o'') a b' d' f')else none
      |_,_=>none
    | .Dict ks vs _=>match ks with
      | []=>if vs.isEmpty then some .dic else none
      |k::r=>match k with
        |some k=>match vs with
          |v::q=>if r.isEmpty&&q.isEmpty then (do
              let k <-cE n c k
              let v <-cE n c v
              some (.dic1 k v))else none
          | []=>none
        |none=>none
    | .IfExp t a b _=>do
      let t <-cT n c t
      let a <-cE n c a
      let b <-cE n c b
      if esc a&&esc b then some (.ite t a b)else none
    | .Tuple es _ _=>do
      let es <-cEs n c es
      if dW es then some (.tup es)else none
    | .List es _=>do
      let es <-cEs n c es
      if dW es then some (.lst es)else none
    | .Subscript a b _=>match b with
      | .Slice lo hi st _=>match st with
        |some s=>if lo.isNone&&hi.isNone&&q_ s then (cE n c a).map .rev else none
        |none=>do
          let a <-cE n c a
          let lo <-cO n c lo
          let hi <-cO n c hi
          some (.sl a lo hi)
      |b=>do
        if isSlice b then none else
        let a <-cE n c a
        let b <-cE n c b
        some (.ix a b)
    | .ListComp elt gs sc _=>match gs with
     | [⟨tgt,it,ifs,asy⟩]=>do
      if !(asy==0) || !c.calm || !zA it then none else
      let c':Cc:={c with nm:=iX sc.names c.nm,N:=bW sc.names,fnc:=false,oc:=iJ sc.names}
      let cap:=gn c sc.names
      if !iH (λx=>c.nm.lookup x) c.N (bW sc.names) cap sc || !decide (bW sc.names).Nodup then none else
      let it <-cI n c it
      let tg <-cTg c' tgt
      let t <-fw n c' ifs
      let elt <-cE n c' elt
      if esc elt&&gw it tgt then some (.comp it cap tg t elt)else none
     |_=>none
    | .Call fe as ks cp=>match ks with
     | []=>match fe with
      | .Name f _=>match loc c f with
        |some _=>none
        |none=>match glob c f with
          |some (.fn _)=>do
            let es <-cEs n c as
            if dW es && !as.isEmpty then some (.call f es)else if !as.isEmpty then some (.callo f es)else none
          |some (.bi b)=>match um c b as with
            |some a=>(cE n c a).map (.sset (b==.len))
            |none=>do
              let es <-cEs n c as
              if !as.isEmpty&&(c.calm||b==.len||b==.abs)then some (.bi b es)else none
          |some (.ty t (some b))=>match as with
            | [.Call (.Name g p) as' [] q]=>if loc c g==none&&glob c g==some .rng then (if c.calm&&(t == "tuple" ||t == "list")then (match as' with
                | [a]=>if isStar a then none else do
                  let a <-cE n c a
                  some (if t = "tuple" then .rtup (.rng a)else .rlst (.rng a))
                | [a,d]=>if isStar a||isStar d then none else do
                  let a <-cE n c a
                  let d <-cE n c d
                  some (if t = "tuple" then .rtup (.rng2 a d)else .rlst (.rng2 a d))
                | [a,d,k]=>if isStar a||isStar d||isStar k then none else do
                  let a <-cE n c a
                  let d <-cE n c d
                  let k <-cE n c k
                  if t == "tuple" then some (.rtup (.rng3 a d k))else none
                |_=>none)
                else none)
              else do
                let es <-cEs n c as
                some (.bi b es)
            |_=>match kC c t as with
             |some a=>(cE n c a).map .lsd
             |none=>do
              let es <-cEs n c as
              if !as.isEmpty then some (.bi b es)else none
          |some .isi=>match as with
            | [a,k]=>do
              if isStar a then none else
              let a <-cE n c a
              let k <-jg c k
              some (.isi a k)
            |_=>none
          |_=>none
      | .Attribute o m ap=>match cMt c o m ap as cp with
        |some e=>some e
        |none=>match as with
          | [a]=>do
            if !baseOk o||isStar a || !(m == "count" ||m == "get") || !(ap.endLine==cp.line)then none else
            let o' <-cE n c o
            let a' <-cE n c a
            if m == "get" then some (.dget o' a')else if esc a' then some (.cnt o' a')else none
          | [a,d]=>do
            if !baseOk o||isStar a||isStar d || !(m == "get") || !(ap.endLine==cp.line)then none else
            let o' <-cE n c o
            let a' <-cE n c a
            let d' <-cE n c d
            if esc d' then some (.dget2 o' a' d')else none
          |_=>none
      |_=>none
     |_=>none
    |_=>none
noncomputable def fw:Nat->Cc->List Expr->Option T
  | 0,_,_=>none
  |n+1,c,ifs=>match ifs with
    | []=>some .yes
    | [t]=>cT n c t
    |_=>none
noncomputable def cBo:Nat->Cc->BoolOp->List Expr->Option E
  | 0,_,_,_=>none
  |n+1,c,op,vs=>match vs with
    | []=>none
    | [a]=>do
      let a <-cE n c a
      if esc a then some a else none
    |a::b::r=>do
      let a <-cE n c a
      let r <-cBo n c op (b::r)
      match op with
      | .And=>some (.and a r)
      | .Or=>some (.or a r)
noncomputable def cO:Nat->Cc->Option Expr->Option OE
  | 0,_,_=>none
  |n+1,c,o=>match o with
    |none=>some .none
    |some e=>(cE n c e).map .some
noncomputable def cEs:Nat->Cc->List Expr->Option Es
  | 0,_,_=>none
  |n+1,c,es=>match es with
    | []=>some .nil
    |e::r=>do
      if isStar e then none else
      let e <-cE n c e
      let r <-cEs n c r
      some (.cons e r)
noncomputable def cI:Nat->Cc->Expr->Option It
  | 0,_,_=>none
  |n+1,c,e=>match e with
    | .Call (.Name f p) as [] q=>match loc c f with
      |some _=>(cE n c (.Call (.Name f p) as [] q)).map .seq
      |none=>match glob c f with
        |some .rng=>(match as with
          | [a]=>if isStar a then none else (cE n c a).map .rng
          | [a,b]=>if isStar a||isStar b then none else do
            let a <-cE n c a
            let b <-cE n c b
            some (.rng2 a b)
          | [a,b,d]=>if isStar a||isStar b||isStar d then none else do
            let a <-cE n c a
            let b <-cE n c b
            let d <-cE n c d
            some (.rng3 a b d)
          |_=>none)
        |some .enum=>(match as with
          | [a]=>if isStar a then none else (cE n c a).map .enum
          |_=>none)
        |some .zip=>(match as with
          | [a,b]=>if isStar a||isStar b then none else do
            let a <-cE n c a
            let b <-cE n c b
            some (.zip a b)
          |_=>none)
        |_=>(cE n c (.Call (.Name f p) as [] q)).map .seq
    |e=>(cE n c e).map .seq
noncomputable def cT:Nat->Cc->Expr->Option T
  | 0,_,_=>none
  |n+1,c,e=>match e with
    | .UnaryOp .Not a _=>(cT n c a).map .not
    | .BoolOp op vs _=>cTs n c op vs
    | .IfExp .. => none
    | .Compare a ops bs _=>match ops,bs with
      | [o],[b]=>do
        let a <-cE n c a
        let b' <-cE n c b
        if zA b then some (.cmp (c2 o) a b')else none
      | [o,o'],[b,d]=>do
        let a <-cE n c a
        let b' <-cE n c b
        let d' <-cE n c d
        if zA b&&zA d then some (.cmp2 (c2 o) (c2 o') a b' d')else none
      | [o,o',o''],[b,d,f]=>do
        let a <-cE n c a
        let b' <-cE n c b
        let d' <-cE n c d
        let f' <-cE n c f
        if zA b&&zA d&&zA f then some (.val (.cmp3 (c2 o) (c2 o') (c2 o'') a b' d' f'))else none
      |_,_=>none
    |e=>(cE n c e).map .val
noncomputable def cTs:Nat->Cc->BoolOp->List Expr->Option T
  | 0,_,_,_=>none
  |n+1,c,op,vs=>match vs with
    | []=>none
    | [a]=>cT n c a
    |a::b::r=>do
      let a <-cT n c a
      let r <-cTs n c op (b::r)
      match op with
      | .And=>some (.and a r)
      | .Or=>some (.or a r)
end
noncomputable def fV(c:Cc):Cc:={c with calm:=false,thr:=false,G:=c.GH,GH:=[]}

noncomputable def jW:Expr->Option (Str×Str×Pos×Expr×Pos)
  | .Call f as ks cp=>match f with
    | .Attribute o m ap=>match o with
      | .Name x _=>match as with
        | [a]=>if ks.isEmpty then some (x,m,ap,a,cp)else none
        |_=>none
      |_=>none
    |_=>none
  |_=>none
noncomputable def ll:Expr->Option (Str×Pos×Expr×Expr×Pos)
  | .Call f as ks cp=>match f with
    | .Attribute o m ap=>match o with
      | .Name x _=>match as with
        | [k,a]=>if ks.isEmpty&&m == "insert" then some (x,ap,k,a,cp)else none
        |_=>none
      |_=>none
    |_=>none
  |_=>none
noncomputable def kn:Expr->Option (Str×Pos×Pos)
  | .Call f as ks cp=>match f with
    | .Attribute o m ap=>match o with
      | .Name x _=>match as with
        | [a]=>match a with
          | .Constant k _ _=>match k with
            | .int i=>if ks.isEmpty&&m == "pop" && decide (i=0)then some (x,ap,cp)else none
            |_=>none
          |_=>none
        |_=>none
      |_=>none
    |_=>none
  |_=>none
noncomputable def raiseOf:Expr->Option (Str×Expr×List Expr)
  | .Call f as ks _=>match f with
    | .Name x _=>match as with
      |a::as=>if ks.isEmpty then some (x,a,as)else none
      |_=>none
    |_=>none
  |_=>none
noncomputable def jM:Expr->Bool
  | .Tuple es _ _=>es.all (foldedForSure 8)
  |_=>false
noncomputable def rj(ts:List Expr)(e:Expr):Option (Str×Str×Expr×Expr):=none
noncomputable def km(ts:List Expr)(e:Expr):Option (Str×Str×Str×Expr×Expr×Expr):=match ts with
  | [.Name x px,.Name y py,.Name z pz]=>match e with
    | .Tuple [a,b,d] _ _=>if !isStar a && !isStar b && !isStar d && !([a,b,d].all (foldedForSure 8)) && !([a,b,d].all (constantsAlone 8))&&(px.line==py.line)&&(px.line==pz.line)then some (x,y,z,a,b,d)else none
    |_=>none
  |_=>none
mutual
noncomputable def cS:Nat->Cc->Bool->Stmt->Option S
  | 0,_,_,_=>none
  |n+1,c,fr,s=>match s with
    | .Assign ts e _=>match ts with
      | [t]=>match t with
        | .Name x _=>match kn e with
         |some (y,ap,cp)=>do
          let i <-bK c x
          let j <-loc c y
          if c.own.contains y && !c.own.contains x&&ap.endLine==cp.line && !c.frz then some (.pop0 i j)else none
         |none=>do
          if kH e then none else
          let i <-bK c x
          let e' <-cE n c e
          if c.own.contains x then (if fresh c e' && !c.frz then some (.set (.nm i) e')else none)else if esc e' then some (.set (.nm i) e')else none
        | .Tuple ts k p=>match rj ts e with
          |some (x,y,a,b)=>if !(c.nm.lookup x==some .local)then (do
              let tg <-cTg c (.Tuple ts k p)
              let e' <-cE n c e
              if !esc e' then none else some (.set tg e'))else do
            let i <-bK c x
            let j <-bK c y
            let a' <-cE n c a
            let b' <-cE n c b
            if !c.calm || !(c.nm.lookup x==some .local) || !(c.nm.lookup y==some .local)||(i==j)||c.own.contains x || !esc a'||isStar a||isStar b then none else
            if c.own.contains y then (if fresh c b' && !c.frz then some (.par i j a' b')else none)else if esc b' then some (.par i j a' b')else none
          |none=>match km ts e with
            |some (x,y,z,a,b,d)=>do
              let i <-bK c x
              let j <-bK c y
              let l <-bK c z
              let a' <-cE n c a
              let b' <-cE n c b
              let d' <-cE n c d
              if !c.calm || !(c.nm.lookup x==some .local) || !(c.nm.lookup y==some .local) || !(c.nm.lookup z==some .local)||(i==j)||(i==l)||(j==l)||c.own.contains x||c.own.contains y||c.own.contains z || !esc a' || !esc b' || !esc d' then none else some (.par3 i j l a' b' d')
            |none=>do
              let tg <-cTg c (.Tuple ts k p)
              let e' <-cE n c e
              if (isTup e && !jM e)||eF e || !esc e' then none else some (.set tg e')
        | .Subscript a k _=>match a with
          | .Name x _=>do
            let i <-bK c x
            let e' <-cE n c e
            let k' <-cE n c k
            if c.own.contains x&&esc e' && !isSlice k && !eF e && !c.frz then some (.seti i k' e')else none
          |_=>none
        |_=>none
      |_=>none
    | .Expr e _=>match ll e with
      |some (x,ap,k,a,cp)=>do
        let i <-bK c x
        let k' <-cE n c k
        let a' <-cE n c a
        if c.own.contains x&&esc a' && !isStar k && !isStar a&&ap.endLine==cp.line && !c.frz then some (.ins i k' a')else none
      |none=>match jW e with
      |some (x,m,ap,a,cp)=>do
        let i <-bK c x
        let a' <-cE n c a
        if m == "update" then (if c.own.contains x&&esc a' && !isStar a&&ap.endLine==cp.line && !c.frz then some (.dupd i a')else none)else
        if m == "append" && c.own.contains x&&esc a' && !isStar a&&ap.endLine==cp.line && !c.frz then some (.app i a')else none
      |none=>do
        if eF e then none else
        let e' <-cE n c e
        some (.exp e')
    | .Return o _=>match o with
      |some e=>do
        let e' <-cE n c e
        if fr then (match e with
          | .Name y _=>if c.own.contains y then (loc c y).map (λi=>.ret (.own i))else none
          |_=>if fresh c e' then some (.ret e')else none)
        else some (.ret e')
      |none=>if fr then none else some .retN
    | .If t a b _=>do
      let t <-cT n c t
      let a <-cSs n c fr a
      let b <-cSs n c fr b
      some (.ite t a b)
    | .For tg it b els _=>do
      if !els.isEmpty || !c.calm || !zA it then none else
      let tg' <-cTg c tg
      let it <-cI n c it
      if !gw it tg then none else
      let b <-cSs n {c with frz:=c.frz||owned it} fr b
      some (.for tg' it b)
    | .While t b els _=>do
      if !els.isEmpty || !c.calm then none else
      let t <-cT n c t
      let b <-cSs n c fr b
      some (.while t b)
    | .Raise o o' _=>match o with
      |some r=>match raiseOf r with
        |some (x,a,as)=>do
          if !o'.isNone || !c.calm || !c.thr then none else
          match glob c x with
          |some .exc=>do
            let es <-cEs n c (a::as)
            some (.raise x es)
          |_=>none
        |none=>none
      |none=>none
    | .Try b hs els fin _=>match hs with
      | [.ExceptHandler ty y h _]=>match ty with
        |some (.Name x _)=>do
          if !els.isEmpty || !fin.isEmpty || !c.calm || !c.fnc||fr||h.isEmpty || !c.own.isEmpty||c.frz then none else
          let b <-cSs n {c with thr:=false} fr b
          let h <-cSs n (fV c) fr h
          if !(glob c x==some .exc||glob c x==some .exk)then none else
          match y with
          |none=>some (.try b x none h)
          |some y=>do
            let i <-bK c y
            if c.nm.lookup y==some .local then some (.try b x (some i) h)else none
        |_=>none
      |_=>none
    | .Pass _=>some .pass
    | .Break _=>some .brk
    | .Continue _=>some .cnt
    |_=>none
noncomputable def cSs:Nat->Cc->Bool->List Stmt->Option Ss
  | 0,_,_,_=>none
  |n+1,c,fr,ss=>match ss with
    | []=>some .nil
    |s::r=>do
      let r <-cSs n c fr r
      some (.cons ((cS n c fr s).getD .unk) r)
end
noncomputable def Cn(c:Cc):Stmt->Bool
  | .For _ (.Name x _) _ _ _=>c.own.contains x
  |_=>false
noncomputable def xX(n:Nat)(c:Cc):Stmt->Bool
  | .For _ _ (.Assign [.Name x _] e _::_) _ _=>c.own.contains x&&(match cE n c e with
    |some e'=>!fresh c e'
    |none=>false)
  |_=>false
noncomputable def noOwn(c:Cc):Cc:={c with own:=[],frz:=false}
noncomputable def fq(n:Nat)(c:Cc)(fr:Bool):List Stmt->Option Ss
  | []=>some .nil
  |s::r=>if Cn c s||xX n c s then cSs n (noOwn c) fr (s::r)else do
    let r' <-fq n c fr r
    some (.cons ((cS n c fr s).getD .unk) r')
noncomputable def argNames(a:Arguments):List Str:=a.args.map (·.arg)
noncomputable def ez(a:Arguments)(sc:aP):List Str:=argNames a++((sc.names.filter λp=>p.2==.local||p.2==.cell).map (·.1)).filter λx=>!(argNames a).contains x
noncomputable def gG(N ps:List Str)(sc:aP):Bool:=
  sc.kind==.function && !sc.isCoroutine && !sc.isGenerator&&decide N.Nodup&&decide (N.take ps.length=ps)&&ps.all (λx=>sc.names.lookup x==some .local||sc.names.lookup x==some .cell)&&sc.names.all λy=>y.2 != .free
noncomputable def iy:Nat:=60
noncomputable def cFn(G GH:List (Str×GK))(own:List Str)(fr:Bool)(st:Stmt):Option Fn:=do
  let a:=qY st
  let sc:=qW st
  let N:=ez a sc
  if !gG N (argNames a) sc||(argNames a).any own.contains then none else
  let b <-fq iy ⟨sc.names,N,own,G,true,true,true,GH,[],false⟩ fr (dh st)
  some ⟨(argNames a).length,N.length,fr,b⟩
noncomputable def gk(GU:List (Str×GK))(own:List Str)(fr:Bool)(st:Stmt):Option Fn:=do
  let a:=qY st
  let sc:=qW st
  let N:=ez a sc
  if !gG N (argNames a) sc||(argNames a).any own.contains then none else
  let b <-fq iy ⟨sc.names,N,own,GU,false,true,false,[],[],false⟩ fr (dh st)
  some ⟨(argNames a).length,N.length,fr,b⟩
end EV

namespace EV
open PySem PySem.Spec PyProof.Rows L2
structure Gc where
 K:aq
 fnA:Str->Option Addr
 clA:Str->Option Addr
mutual
inductive Rep(g:Gc)(H:Hp):D->V->Prop
 |non:Rep g H .non .non
 |bl (b:Bool):Rep g H (.bl b) (.bl b)
 |int (i:Int):Rep g H (.int i) (.int i)
 |str (x:Str):Rep g H (.str x) (.str x)
 |tup {a:Addr}{xs:List V}{ds:List D}:SqT g.K H a xs->qZ g H ds xs->Rep g H (.tup ds) (.ref a)
 |lst {a:Addr}{xs:List V}{ds:List D}:SqL g.K H a xs->qZ g H ds xs->Rep g H (.lst ds) (.ref a)
 |fn {x:Str}{a:Addr}:g.fnA x=some a->Rep g H (.fn x) (.ref a)
 |exn {c:Str}{a C:Addr}:g.clA c=some C->H a=some (gK a (.ref C))->Rep g H (.exn c) (.ref a)
 |dic {a:Addr}{kvs:List (Int×Int)}:H a=some (.dK (bh kvs))->Rep g H (.dic kvs) (.ref a)
inductive qZ(g:Gc)(H:Hp):List D->List V->Prop
 |nil:qZ g H [] []
 |cons {d:D}{ds:List D}{x:V}{xs:List V}:Rep g H d x->qZ g H ds xs->qZ g H (d::ds) (x::xs)
end
theorem zN{K:aq}{H H':Hp}{a:Addr}{xs:List V}(e:qf H H')(h:SqT K H a xs):SqT K H' a xs:=by
 rcases h with (h|⟨o,h⟩)|h
 ·exact .inl (.inl (e _ _ h))
 ·exact .inl (.inr ⟨o,e _ _ h⟩)
 ·exact .inr h
section
variable{g:Gc}{H H':Hp}
theorem jl{a b:Bool}(h:(a&&b)=true):a=true/\b=true:=by rw[aG]at h;exact h
theorem Rep.mono(e:qf H H'){d:D}{v:V}(h:Rep g H d v):Rep g H' d v:=
 h.rec (motive_1:=λd v _=>Rep g H' d v) (motive_2:=λd v _=>qZ g H' d v) .non .bl .int .str (λq _ r=>.tup (zN e q) r) (λq _ r=>.lst (e.seq q) r) .fn (λq r=>.exn q (e _ _ r)) (λq=>.dic (e _ _ q)) .nil (λ_ _ a b=>.cons a b)
theorem qZ.mono(e:qf H H'){d:List D}{v:List V}(h:qZ g H d v):qZ g H' d v:=
 h.rec (motive_1:=λd v _=>Rep g H' d v) (motive_2:=λd v _=>qZ g H' d v) .non .bl .int .str (λq _ r=>.tup (zN e q) r) (λq _ r=>.lst (e.seq q) r) .fn (λq r=>.exn q (e _ _ r)) (λq=>.dic (e _ _ q)) .nil (λ_ _ a b=>.cons a b)
theorem qZ.length{ds:List D}:∀{vs:List V},qZ g H ds vs->ds.length=vs.length:=by
 induction ds with
 |nil=>intro vs h;cases h;rfl
 |cons d ds ih=>intro vs h;cases h with|cons _ r=>exact congrArg (· + 1) (ih r)
theorem qZ.get{ds:List D}:∀{vs:List V}{i:Nat}{d:D},qZ g H ds vs->ds[i]? = some d->∃v,vs[i]? = some v/\Rep g H d v:=by
 induction ds with
 |nil=>intro vs i d h e;cases e
 |cons d ds ih=>
  intro vs i d' h e;cases h with
  |cons h t=>cases i with
   |zero=>cases e;exact⟨_,rfl,h⟩
   |succ i=>exact ih (i:=i) t e
theorem qZ.append{ds:List D}:∀{es:List D}{vs us:List V},qZ g H ds vs->qZ g H es us->qZ g H (ds++es) (vs++us):=by
 induction ds with
 |nil=>intro es vs us h s;cases h;exact s
 |cons d ds ih=>intro es vs us h s;cases h with|cons r t=>exact .cons r (ih t s)
theorem qZ.take{ds:List D}:∀{vs:List V} (n:Nat),qZ g H ds vs->qZ g H (ds.take n) (vs.take n):=by
 induction ds with
 |nil=>intro vs n h;cases h;cases n<;>exact .nil
 |cons d ds ih=>intro vs n h;cases h with|cons r t=>cases n with
  |zero=>exact .nil
  |succ n=>exact .cons r (ih n t)
theorem qZ.drop{ds:List D}:∀{vs:List V} (n:Nat),qZ g H ds vs->qZ g H (ds.drop n) (vs.drop n):=by
 induction ds with
 |nil=>intro vs n h;cases h;cases n<;>exact .nil
 |cons d ds ih=>intro vs n h;cases n with
  |zero=>exact h
  |succ n=>cases h with|cons r t=>exact ih n t
theorem qZ.set{d:D}{v:V}(r:Rep g H d v){ds:List D}:∀{vs:List V} (i:Nat),qZ g H ds vs->qZ g H (ds.set i d) (vs.set i v):=by
 induction ds with
 |nil=>intro vs i h;cases h;exact .nil
 |cons d' ds ih=>intro vs i h;cases h with|cons q t=>cases i with
  |zero=>exact .cons r t
  |succ i=>exact .cons q (ih i t)
theorem qZ.ints{ds:List D}:∀{vs:List V}{ns:List Int},qZ g H ds vs->ints? ds=some ns->vs=ns.map V.int/\ds=ns.map D.int:=by
 induction ds with
 |nil=>intro vs ns h e;cases h;cases e;exact⟨rfl,rfl⟩
 |cons d ds ih=>
  intro vs ns h e;cases h with
  |cons h t=>cases d with
   |int i=>
    obtain⟨ms,e1,rfl⟩:=bu.mp (show (ints? ds).map (i :: ·)=some ns from e);obtain⟨h1,h2⟩:=ih t e1;cases h;exact⟨by rw[h1];rfl,by rw[h2];rfl⟩
   |_=>cases (show none=some ns from e)
theorem qZ.bools{ds:List D}:∀{vs:List V}{ns:List Bool},qZ g H ds vs->bools? ds=some ns->vs=ns.map V.bl:=by
 induction ds with
 |nil=>intro vs ns h e;cases h;cases e;rfl
 |cons d ds ih=>
  intro vs ns h e;cases h with
  |cons h t=>cases d with
   |bl i=>
    obtain⟨ms,e1,rfl⟩:=bu.mp (show (bools? ds).map (i :: ·)=some ns from e);have h1:=ih t e1;cases h;rw[h1];rfl
   |_=>cases (show none=some ns from e)
theorem qZ.ofInts:∀(ns:List Int),qZ g H (ns.map D.int) (ns.map V.int)
 | []=>.nil
 |i::r=>.cons (.int i) (qZ.ofInts r)
end
structure Sh where
 o:Addr->Bool
 h:Addr->Bool
 z:L2.St
 y:Hp
noncomputable def hid(H:Hp)(S:Sh):Hp:=λb=>if S.h b=true then none else H b
noncomputable def cH(S:Sh)(a:Addr):Sh:=⟨S.o,λb=>S.h b||b==a,S.z,S.y⟩
theorem bq{H:Hp}{S:Sh}{b:Addr}{o:HO}:hid H S b=some o↔S.h b=false/\H b=some o:=by
 unfold hid;cases h:S.h b<;>simp
theorem zK{H:Hp}{S:Sh}:qf (hid H S) H:=λ_ _ h=>(bq.mp h).2
theorem qo{H H':Hp}{S:Sh}(e:qf H H'):qf (hid H S) (hid H' S):=λb o h=>bq.mpr ⟨(bq.mp h).1,e _ _ (bq.mp h).2⟩
noncomputable def Sub(S:Sh)(H:Hp):Prop:=∀a,(S.h a=true\/S.o a=true)->H a≠none
theorem Sub.same{S:Sh}{H H':Hp}(h:Sub S H)(e:qf H H'):Sub S H':=λa s n=>by
 cases q:H a with
 |none=>exact h a s q
 |some o=>rw[e _ _ q]at n;cases n
theorem Sub.free{S:Sh}{H:Hp}(h:Sub S H){p:Addr}(n:H p=none):S.h p=false:=by
 cases q:S.h p with
 |false=>rfl
 |true=>exact absurd n (h p (.inl q))
theorem Sub.freeO{S:Sh}{H:Hp}(h:Sub S H){p:Addr}(n:H p=none):S.o p=false:=by
 cases q:S.o p with
 |false=>rfl
 |true=>exact absurd n (h p (.inr q))
theorem zr{H:Hp}{p:Addr}{o:HO}(n:H p=none):qf H (upd H p o):=λb u h=>by
 rw[qg (λz=>by rw[z,n]at h;cases h)];exact h
theorem ko{H:Hp}{S:Sh}{p:Addr}{o:HO}(hs:Sub S H)(n:H p=none):hid (upd H p o) S p=some o:=bq.mpr ⟨hs.free n,zx⟩
theorem jb{H:Hp}{S:Sh}{p:Addr}{o:HO}(n:H p=none):qf (hid H S) (hid (upd H p o) (cH S p)):=λb u h=>by
 obtain⟨h1,h2⟩:=bq.mp h;have hb:b≠p:=λz=>by rw[z,n]at h2;cases h2
 refine bq.mpr ⟨?_,by rw[qg hb];exact h2⟩;show (S.h b||b==p)=false;rw[h1]
 simpa using hb
theorem nL{H:Hp}{S:Sh}{p:Addr}:qf (hid H (cH S p)) (hid H S):=λb u h=>by
 obtain⟨h1,h2⟩:=bq.mp h;refine bq.mpr ⟨?_,h2⟩;have h1:(S.h b||b==p)=false:=h1;simp at h1;exact h1.1
inductive cW(g:Gc)(H:Hp):D->HO->Prop
 |lst {ds:List D}{vs:List V}:qZ g H ds vs->cW g H (.lst ds) (.lst vs)
 |dic (kvs:List (Int×Int)):cW g H (.dic kvs) (.dK (bh kvs))
theorem cW.mono{g:Gc}{H H':Hp}{d:D}{o:HO}(e:qf H H')(h:cW g H d o):cW g H' d o:=by
 cases h with
 |lst r=>exact .lst (r.mono e)
 |dic k=>exact .dic k
theorem cW.rep{g:Gc}{H H':Hp}{d:D}{o:HO}{a:Addr}(h:cW g H d o)(e:qf H H')(ha:H' a=some o):Rep g H' d (.ref a):=by
 cases h with
 |lst r=>exact .lst (SqL.of ha) (r.mono e)
 |dic k=>exact .dic ha
noncomputable def zJ(g:Gc)(H:Hp)(S:Sh)(d:D)(v:V):Prop:=
 Rep g (hid H S) d v\/∃a o,S.o a=true/\v=.ref a/\H a=some o/\cW g (hid H S) d o
noncomputable def Fr(g:Gc)(H0:Hp)(S:Sh)(H:Hp)(d:D)(v:V):Prop:=
 ∃a o,v=.ref a/\H0 a=none/\H a=some o/\cW g (hid H (cH S a)) d o
section
variable{g:Gc}{H H' H0:Hp}{S:Sh}{d:D}{v:V}
theorem zJ.mono(e:qf H H')(h:zJ g H S d v):zJ g H' S d v:=by
 rcases h with h|⟨a,o,h1,h2,h3,h4⟩
 ·exact .inl (h.mono (qo e))
 ·exact .inr ⟨a,o,h1,h2,e _ _ h3,h4.mono (qo e)⟩
theorem zJ.rep(h:zJ g H S d v):Rep g H d v:=by
 rcases h with h|⟨a,o,h1,rfl,h3,h4⟩
 ·exact h.mono zK
 ·exact h4.rep zK h3
theorem zJ.lst{ds:List D}(h:zJ g H S (.lst ds) v):∃a vs,v=.ref a/\SqL g.K H a vs/\qZ g (hid H S) ds vs:=by
 rcases h with h|⟨a,o,h1,rfl,h3,h4⟩
 ·cases h with
  |lst h r=>exact⟨_,_,rfl,zK.seq h,r⟩
 ·cases h4 with
  |lst r=>exact⟨a,_,rfl,SqL.of h3,r⟩
theorem zJ.dic{kvs:List (Int×Int)}(h:zJ g H S (.dic kvs) v):∃a,v=.ref a/\H a=some (.dK (bh kvs)):=by
 rcases h with h|⟨a,o,h1,rfl,h3,h4⟩
 ·cases h with
  |dic h=>exact⟨_,rfl,zK _ _ h⟩
 ·cases h4 with
  |dic k=>exact⟨a,rfl,h3⟩
theorem zJ.strong(h:zJ g H S d v)(n:∀ds,d≠.lst ds)(n2:∀k,d≠.dic k:=by intro _ z;cases z):Rep g (hid H S) d v:=by
 rcases h with h|⟨a,o,h1,rfl,h3,h4⟩
 ·exact h
 ·cases h4 with
  |lst r=>exact absurd rfl (n _)
  |dic k=>exact absurd rfl (n2 _)
theorem zJ.tup{ds:List D}(h:zJ g H S (.tup ds) v):∃a vs,v=.ref a/\SqT g.K H a vs/\qZ g (hid H S) ds vs:=by
 cases h.strong (by intro _ z;cases z)with
 |tup h2 r=>exact⟨_,_,rfl,zN zK h2,r⟩
theorem zJ.seq{ds:List D}(h:zJ g H S d v)(e:seq? d=some ds):∃a vs,v=.ref a/\(SqL g.K H a vs\/SqT g.K H a vs)/\qZ g (hid H S) ds vs:=by
 cases d with
 |tup xs=>cases e;obtain⟨a,vs,h1,h2,h3⟩:=h.tup;exact⟨a,vs,h1,.inr h2,h3⟩
 |lst xs=>cases e;obtain⟨a,vs,h1,h2,h3⟩:=h.lst;exact⟨a,vs,h1,.inl h2,h3⟩
 |_=>cases e
theorem zJ.int{i:Int}(h:zJ g H S (.int i) v):v=.int i:=by cases h.strong (by intro _ z;cases z);rfl
theorem zJ.bl{b:Bool}(h:zJ g H S (.bl b) v):v=.bl b:=by cases h.strong (by intro _ z;cases z);rfl
theorem gE{ds:List D}{vs:List V}{p:Addr}(hs:Sub S H)(n:H p=none)(r:qZ g (hid H S) ds vs):Rep g (hid (upd H p (.tup vs)) S) (.tup ds) (.ref p):=
 .tup (SqT.of (ko hs n)) (r.mono (qo (zr n)))
theorem dS{ds:List D}{vs:List V}{p:Addr}(hs:Sub S H)(n:H p=none)(r:qZ g (hid H S) ds vs):Rep g (hid (upd H p (.lst vs)) S) (.lst ds) (.ref p):=
 .lst (SqL.of (ko hs n)) (r.mono (qo (zr n)))
theorem eI{ds:List D}{vs:List V}{p:Addr}(e:qf H0 H)(n:H p=none)(r:qZ g (hid H S) ds vs):Fr g H0 S (upd H p (.lst vs)) (.lst ds) (.ref p):=
 ⟨p,_,rfl,e.free n,zx,.lst (r.mono (jb n))⟩
theorem yY{kvs:List (Int×Int)}{p:Addr}(hs:Sub S H)(n:H p=none):Rep g (hid (upd H p (.dK (bh kvs))) S) (.dic kvs) (.ref p):=.dic (ko hs n)
theorem yB{kvs:List (Int×Int)}{p:Addr}(e:qf H0 H)(n:H p=none):Fr g H0 S (upd H p (.dK (bh kvs))) (.dic kvs) (.ref p):=⟨p,_,rfl,e.free n,zx,.dic kvs⟩
end
end EV
namespace L2
open PySem PySem.Spec PyProof.Rows
section
variable{X:Cx}
end
end L2
namespace EV
open PySem PySem.Spec PySem.P PyProof.Rows L2
mutual
noncomputable def D.py:D->PyData
 | .non=>.none
 | .bl b=>.bool b
 | .int i=>.int i
 | .str x=>.str x
 | .tup xs=>.tuple (pys xs)
 | .lst xs=>.list (pys xs)
 | .fn _=>.none
 | .exn _=>.none
 | .dic _=>.none
noncomputable def pys:List D->List PyData
 | []=>[]
 |x::xs=>x.py::pys xs
end
mutual
theorem nq:∀{d:D},d.plain=true->d.py.canLay0=true
 | .non,_ | .bl _,_ | .int _,_=>by simp[D.py,PyData.canLay0]
 | .str x,h=>by simpa[D.py,PyData.canLay0,D.plain]using h
 | .tup xs,h=>by simp only[D.py,PyData.canLay0];exact jR (by simpa[D.plain]using h)
 | .lst xs,h=>by simp only[D.py,PyData.canLay0];exact jR (by simpa[D.plain]using h)
 | .fn _,h | .exn _,h | .dic _,h=>by simp[D.plain]at h
theorem jR:∀{ds:List D},plainAll ds=true->PyData.canLayAll0 (pys ds)=true
 | [],_=>by simp[pys,PyData.canLayAll0]
 |x::xs,h=>by
  simp only[plainAll,aG]at h;simp only[pys,PyData.canLayAll0,aG];exact⟨nq h.1,jR h.2⟩
end
mutual
theorem ng:∀(d:D),d.py.depth=d.deep
 | .non | .bl _ | .int _ | .str _ | .fn _ | .exn _ | .dic _=>by simp[D.py,PyData.depth,D.deep]
 | .tup xs=>by simp only[D.py,PyData.depth,D.deep];rw[jZ xs]
 | .lst xs=>by simp only[D.py,PyData.depth,D.deep];rw[jZ xs]
theorem jZ:∀(ds:List D),PyData.depthAll (pys ds)=fu ds
 | []=>by simp[pys,PyData.depthAll,fu]
 |x::xs=>by simp only[pys,PyData.depthAll,fu];rw[ng x,jZ xs]
end
mutual
theorem lj:∀(a b:D),a.plain=true->b.plain=true->PyData.eqv a.py b.py=a.eqv b
 | .tup xs,.tup ys,h,h'=>by simp only[D.py,PyData.eqv,D.eqv];exact kx xs ys (by simpa[D.plain]using h) (by simpa[D.plain]using h')
 | .lst xs,.lst ys,h,h'=>by simp only[D.py,PyData.eqv,D.eqv];exact kx xs ys (by simpa[D.plain]using h) (by simpa[D.plain]using h')
 | .fn _,_,h,_=>by simp[D.plain]at h
 | .exn _,_,h,_=>by simp[D.plain]at h
 | .dic _,_,h,_=>by simp[D.plain]at h
 | .non,b,_,h' | .bl _,b,_,h' | .int _,b,_,h' | .str _,b,_,h'=>by cases b<;>simp[D.py,PyData.eqv,D.eqv,D.plain]at h' ⊢
 | .tup _,.non,_,_ | .tup _,.bl _,_,_ | .tup _,.int _,_,_ | .tup _,.str _,_,_ | .tup _,.lst _,_,_=>by simp[D.py,PyData.eqv,D.eqv]
 | .lst _,.non,_,_ | .lst _,.bl _,_,_ | .lst _,.int _,_,_ | .lst _,.str _,_,_ | .lst _,.tup _,_,_=>by simp[D.py,PyData.eqv,D.eqv]
 | .tup _,.fn _,_,h' | .tup _,.exn _,_,h' | .lst _,.fn _,_,h' | .lst _,.exn _,_,h' | .tup _,.dic _,_,h' | .lst _,.dic _,_,h'=>by simp[D.plain]at h'
theorem kx:∀(xs ys:List D),plainAll xs=true->plainAll ys=true->PyData.eqvAll (pys xs) (pys ys)=eqvAll xs ys
 | [],[],_,_=>by simp[pys,PyData.eqvAll,eqvAll]
 |x::xs,y::ys,h,h'=>by
  simp only[plainAll,aG]at h h';simp only[pys,PyData.eqvAll,eqvAll];rw[lj x y h.1 h'.1,kx xs ys h.2 h'.2]
 | [],_::_,_,_=>by simp[pys,PyData.eqvAll,eqvAll]
 |_::_,[],_,_=>by simp[pys,PyData.eqvAll,eqvAll]
end
theorem Rep.data{g:Gc}{H:Hp}{d:D}{v:V}(h:Rep g H d v):d.plain=true->dR g.K H v d.py:=
 h.rec (motive_1:=λd v _=>d.plain=true->dR g.K H v d.py) (motive_2:=λds vs _=>plainAll ds=true->gv g.K H vs (pys ds)) (λ_=>.non) (λb _=>.bl b) (λb _=>.int b) (λb _=>.str b) (λq _ r p=>.tup q (r p)) (λq _ r p=>.lst q (r p)) (λ_ p=>nomatch p) (λ_ _ p=>nomatch p) (λ_ p=>nomatch p) (λ_=>.nil) (λ_ _ a b p=>.cons (a (jl p).1) (b (jl p).2))
theorem hV{d:D}:d.asks=true↔d.plain=true/\d.deep<=20:=by simp[D.asks]
section
variable{X:Cx}{g:Gc}
theorem OpR.imp{f:ae->ae->Sem ae}{r r':R2}(h:OpR X f r)(i:∀x y H Q,r' x y H Q->r x y H Q):OpR X f r':=
 λpins s σ H x y v u Q I rx ry q=>h pins s σ H x y v u Q I rx ry (i _ _ _ _ q)
noncomputable def BD(K:aq):R2:=λx y H Q=>∃l b xs zs,x=.ref l/\y=.ref b/\SqL K H l xs/\SqL K H b zs/\xs.length+zs.length<=aF/\∀p,H p=none->Q (.ref p) (upd H p (.lst (xs++zs)))
theorem DY:OpR X (binaryOp .Add) (BD X.K):=by
 intro pins s σ H x y v u Q I rx ry h;obtain⟨l,b,xs,zs,rfl,rfl,hH,hB,hz,q⟩:=h;cases rx;cases ry;obtain⟨its,r,pl,z⟩:=I.list hH;obtain⟨its2,r2,pl2,z2⟩:=I.list hB;have l1:=r.length;have l2:=r2.length;obtain⟨⟨cls,dd,data,sl⟩,ho,hc,n,hd⟩:=pl.isList;obtain⟨⟨cls2,dd2,data2,sl2⟩,ho2,hc2,n2,hd2⟩:=pl2.isList;simp only at hc hd hc2 hd2;subst hc hd hc2 hd2;refine concat_meets ⟨_,ho,rfl⟩ ⟨_,ho2,rfl⟩ noFill_list_add seq_list_add PySem.F.slot_list_add PySem.F.entry_list_add (PySem.F.args_list_add_2 _ _) (list_addW l b its.toArray its2.toArray n n2 dd dd2 sl sl2 (by rw[aO,aO];lia)) ⟨ho,ho2,?_⟩;have ea:its.toArray++its2.toArray=(its++its2).toArray:=by simp
 rw[ea];exact⟨.ref _,_,I.lnew (t':=s.toks) (r.append r2) (by rw[bL];lia),rfl,q _ I.fresh⟩
noncomputable def rOp(g:Gc)(o:O2):R2:=λx y H Q=>∃S da db,Sub S H/\zJ g H S da x/\zJ g H S db y /\
 match op2 o da db with
 | .ok d=>∀v H',qf H H'->Rep g (hid H' S) d v->(pW da=true->Fr g H S H' d v)->Q v H'
 |_=>False
theorem gW{o:O2}(ho:o≠.add)(hm:o≠.mul){da db d:D}(h:op2 o da db=.ok d):∃i j,da=.int i/\db=.int j/\opI o i j=.ok d:=by
 unfold op2 at h;split at h
 ·exact⟨_,_,rfl,rfl,h⟩
 ·rw[if_neg (λz=>ho z.1)]at h;cases h
 ·rw[if_neg (λz=>ho z.1)]at h;cases h
 ·cases h
theorem lS{j:Int}(h:small j=true):-(2^64)<j/\j<2^64:=by simpa[small]using h
theorem o_{n:Nat}(h:n<=SZ):n<=sizeLine:=bg h (by rw[aZ];decide)
theorem log2_small{j:Int}(h1:0<j)(h2:j<1000000000000000000000000000000):j.natAbs.log2<9000:=by
 have h3:j.natAbs<2^100:=by
  have:(2:Nat)^100=1267650600228229401496703205376:=by decide +kernel
  rw[this];lia
 have:=(Nat.log2_lt (n:=j.natAbs) (k:=100) (by lia)).mpr h3;lia
theorem uF:OpR X (binaryOp .FloorDiv) (rI (λ_ j=>0<j/\j<1000000000000000000000000000000) λi j=>.int (i/j)):=L2.opI λi j _ _ _ _ _ hc q=>by
 have h1:(0:Int)<j:=hc.1;exact floordiv_int (by lia) (by rw[Int.fdiv_eq_ediv_of_nonneg i (by lia)];exact q) (.inl (PyProof.noPylong_of_log2 (log2_small hc.1 hc.2)))
theorem Co(hK:X.K=g.K){op:Operator}{o:O2}(h:o2 op=some o):OpR X (binaryOp op) (rOp g o):=by
 have two:∀{f:ae->ae->Sem ae}{C:Int->Int->Prop}{q:Int->Int->Int} (o:O2),OpR X f (rI C λi j=>.int (q i j))->(∀da db d,op2 o da db=.ok d->∃i j,da=.int i/\db=.int j/\C i j/\d=.int (q i j))->OpR X f (rOp g o):=λo k e=>by
  refine OpR.imp k λx y H Q ⟨S,da,db,hs,ra,rb,m⟩=>?_
  cases e1:op2 o da db with
  |ok d=>
   rw[e1]at m;obtain⟨i,j,rfl,rfl,c,rfl⟩:=e da db d e1;exact⟨i,j,ra.int,rb.int,c,m _ _ (qf.refl _) (.int _) (λz=>nomatch z)⟩
  |ex c=>rw[e1]at m;exact m.elim
  |no=>rw[e1]at m;exact m.elim
 have two0:∀{f:ae->ae->Sem ae}{q:Int->Int->Int} (o:O2),OpR X f (rI0 λi j=>.int (q i j))->(∀da db d,op2 o da db=.ok d->∃i j,da=.int i/\db=.int j/\d=.int (q i j))->OpR X f (rOp g o):=λ{f q} o k e=>
  two (C:=λ_ _=>True) (q:=q) o (OpR.imp k λx y H Q ⟨i,j,h1,h2,_,h3⟩=>⟨i,j,h1,h2,h3⟩) λda db d h=>by
   obtain⟨i,j,h1,h2,h3⟩:=e da db d h;exact⟨i,j,h1,h2,trivial,h3⟩
 cases op<;>simp only[o2,b5]at h<;>first|subst h|cases h
 ·-- Add
  refine OpR.imp (Bc.or (Bx.or DY)) λx y H Q ⟨S,da,db,hs,ra,rb,m⟩=>?_
  cases da with
  |int i=>
   cases db with
   |int j=>exact .inl ⟨i,j,ra.int,rb.int,m _ _ (qf.refl _) (.int _) (λz=>nomatch z)⟩
   |_=>exact m.elim
  |tup xs=>
   cases db with
   |tup ys=>
    simp only[op2,true_and]at m;split at m
    ·rename_i e
     split at e<;>cases e
     rename_i hz
     obtain⟨a,vs,rfl,h1,r1⟩:=ra.tup;obtain⟨b,us,rfl,h2,r2⟩:=rb.tup;refine .inr (.inl ⟨a,b,vs,us,rfl,rfl,by rw[hK];exact h1,by rw[hK];exact h2,by rw[<-r1.length,<-r2.length];exact o_ hz,λe=>?_,λ_ e=>?_,λ_ _ p hp=>?_⟩)
     ·subst e;cases r1;exact m _ _ (qf.refl _) (rb.strong (by intro _ z;cases z)) (λz=>nomatch z)
     ·subst e;cases r2;rw[List.append_nil]at m;exact m _ _ (qf.refl _) (ra.strong (by intro _ z;cases z)) (λz=>nomatch z)
     ·exact m _ _ (zr hp) (gE hs hp (r1.append r2)) (λz=>nomatch z)
    ·exact m.elim
   |_=>exact m.elim
  |lst xs=>
   cases db with
   |lst ys=>
    simp only[op2,true_and]at m;split at m
    ·rename_i e
     split at e<;>cases e
     rename_i hz
     obtain⟨a,vs,rfl,h1,r1⟩:=ra.lst;obtain⟨b,us,rfl,h2,r2⟩:=rb.lst;refine .inr (.inr ⟨a,b,vs,us,rfl,rfl,by rw[hK];exact h1,by rw[hK];exact h2,by rw[<-r1.length,<-r2.length];exact o_ hz,λp hp=>?_⟩);exact m _ _ (zr hp) (dS hs hp (r1.append r2)) (λ_=>eI (qf.refl _) hp (r1.append r2))
    ·exact m.elim
   |_=>exact m.elim
  |_=>exact m.elim
 ·exact two0 .sub y7 λda db d h=>by obtain⟨i,j,rfl,rfl,h'⟩:=gW (by decide) (by decide) h;clear h;rename _=>h;cases h;exact⟨_,_,rfl,rfl,rfl⟩
 ·refine OpR.imp sf λx y H Q ⟨S,da,db,hs,ra,rb,m⟩=>?_
  cases e1:op2 .mul da db with
  |ok d=>
   rw[e1]at m;unfold op2 at e1;split at e1
   ·simp only[opI]at e1;split at e1
    ·rename_i i j hc
     cases e1;refine⟨i,j,ra.int,rb.int,?_,m _ _ (qf.refl _) (.int _) (λz=>nomatch z)⟩;rcases(by simpa using hc)with z|z
     ·exact .inl (lS z)
     ·exact .inr (lS z)
    ·cases e1
   ·rw[if_neg (λz=>nomatch z.1)]at e1;cases e1
   ·rw[if_neg (λz=>nomatch z.1)]at e1;cases e1
   ·cases e1
  |ex c=>rw[e1]at m;exact m.elim
  |no=>rw[e1]at m;exact m.elim
 ·exact two .mod wC λda db d h=>by obtain⟨i,j,rfl,rfl,h'⟩:=gW (by decide) (by decide) h;clear h;rename _=>h;simp only[opI]at h;split at h<;>cases h;rename_i hc;exact⟨_,_,rfl,rfl,hc,rfl⟩
 ·exact two .pow yP λda db d h=>by obtain⟨i,j,rfl,rfl,h'⟩:=gW (by decide) (by decide) h;clear h;rename _=>h;simp only[opI]at h;split at h<;>cases h;rename_i hc;exact⟨_,_,rfl,rfl,hc,rfl⟩
 ·exact two .shr uv λda db d h=>by obtain⟨i,j,rfl,rfl,h'⟩:=gW (by decide) (by decide) h;clear h;rename _=>h;simp only[opI]at h;split at h<;>cases h;rename_i hc;exact⟨_,_,rfl,rfl,hc,rfl⟩
 ·exact two .fdiv uF λda db d h=>by obtain⟨i,j,rfl,rfl,h'⟩:=gW (by decide) (by decide) h;clear h;rename _=>h;simp only[opI]at h;split at h<;>cases h;rename_i hc;exact⟨_,_,rfl,rfl,hc,rfl⟩
theorem jc(hK:X.K=g.K){pins:List (Addr×Obj)}{σ:L2.St}{H:Hp}{s:af}(I:Inv X pins σ H s){d:D}{v:V}{u:ae}(r:Rep g H d v)(a:d.asks=true)(ru:RelV v u):∃as,Reads s.heap u d.py as/\d.py.canLay0=true/\d.py.depth<=20:=by
 obtain⟨h1,h2⟩:=hV.mp a;have h:=r.data h1;rw[<-hK]at h;obtain⟨as,q⟩:=I.reads h ru;exact⟨as,q,nq h1,by rw[ng];exact h2⟩
theorem pD:∀(a b:List Int),er a b=HT.lexLt a b
 | [],[]=>by simp[er,HT.lexLt]
 | [],_::_=>by simp[er,HT.lexLt]
 |_::_,[]=>by simp[er,HT.lexLt]
 |a::r,b::t=>by
  simp only[er,HT.lexLt];rw[pD r t]
  try (by_cases h:a=b<;>simp[h])
noncomputable def rCm(g:Gc)(c:C2):R2:=λx y H Q=>∃S da db,zJ g H S da x/\zJ g H S db y /\
 match qi c da db with
 | .ok b=>Q (.bl b) H
 |_=>False
open Classical in
noncomputable def dP(h:Heap)(q:PyData)(u:ae):Bool:=if e:∃d as,Reads h u d as then PyData.eqv e.choose q else false
theorem lQ{h:Heap}{q d:PyData}{u:ae}{as:List Addr}(r:Reads h u d as):dP h q u=PyData.eqv d q:=by
 have e:∃d as,Reads h u d as:=⟨d,as,r⟩
 unfold dP;rw[dif_pos e];obtain⟨bs,r'⟩:=e.choose_spec;rw[(PySem.Reads.unique r' d as r).1]
theorem any_eq(hK:X.K=g.K){pins:List (Addr×Obj)}{σ:L2.St}{H:Hp}{s:af}(I:Inv X pins σ H s){da:D}(ha:da.asks=true){ds:List D}:∀{vs:List V}{us:List ae},qZ g H ds vs->Vals vs us->ds.all D.asks=true ->
  us.any (dP s.heap da.py)=inD da ds/\∀u∈us,∃d as,Reads s.heap u d as/\d.canLay0=true/\d.depth<=20:=by
 induction ds with
 |nil=>intro vs us h r _;cases h;cases r;exact⟨rfl,λu h=>nomatch h⟩
 |cons d ds ih=>
  intro vs us h q e;cases h with
  |cons h r=>cases q with
   |cons q t=>
    rw[List.all_cons,aG]at e;obtain⟨as,h1,h2,h3⟩:=jc hK I h e.1 q;obtain⟨i1,i2⟩:=ih r t e.2;refine⟨?_,λu hu=>?_⟩
    ·rw[List.any_cons,i1,lQ h1,lj _ _ (hV.mp e.1).1 (hV.mp ha).1]
     rfl
    ·rcases aE.mp hu with rfl|hu
     ·exact⟨_,as,h1,h2,h3⟩
     ·exact i2 u hu
theorem A9{A:aw}{s:af}{u v:ae}{d:PyData}{as:List Addr}{q:PyData}{bs:List Addr}(hu:A.units+60<cLine)(r:Reads s.heap u d as)(r':Reads s.heap v q bs)(h1:d.canLay0=true)(h2:q.canLay0=true)(h3:d.depth<=20):SeqAt.EqAt A.in1 s u v (dP s.heap q u):=by
 rw[lQ r];refine SeqAt.eqAt_reads d q A.in1 s u v as bs r r' h1 h2 ?_;have:min d.depth q.depth<=d.depth:=Nat.min_le_left _ _;show A.units+1+_<_;lia
theorem mz(hK:X.K=g.K)(hu:X.A.units+64<cLine)(neg:Bool):OpR X (aR (if neg then .NotIn else .In)) (λx y H Q=>∃S da db ds,zJ g H S da x/\zJ g H S db y/\seq? db=some ds/\da.asks=true/\ds.all D.asks=true/\Q (.bl (if neg then !inD da ds else inD da ds)) H):=by
 intro pins s σ H x y v u Q I rx ry h;obtain⟨S,da,db,ds,ra,rb,es,aa,ad,q⟩:=h;obtain⟨as,h1,h2,h3⟩:=jc hK I ra.rep aa rx;obtain⟨a,vs,rfl,hsq,rr⟩:=rb.seq es;cases ry;have go:∀{its:List ae},Vals vs its->(∀w∈its.toArray,SeqAt.EqAt X.A.in1 s w v (dP s.heap da.py w))/\its.toArray.any (dP s.heap da.py)=inD da ds:=λ{its} rv=>by
  obtain⟨i1,i2⟩:=any_eq hK I aa (rr.mono zK) rv ad;refine⟨λw hw=>?_,by simpa using i1⟩;obtain⟨d,bs,r1,r2,r3⟩:=i2 w (by simpa using hw);exact A9 (Nat.lt_of_le_of_lt (Nat.add_le_add_left (by decide) _) hu) r1 h1 r2 h2 r3
 rcases hsq with hsq|hsq
 ·obtain⟨its,rv,pl,_⟩:=I.list (by rw[hK];exact hsq);obtain⟨g1,g2⟩:=go rv;cases neg with
  |false=>exact SeqAt.in_listAt (dP s.heap da.py) pl.isList g1 ⟨.bl _,H,I,rfl,by rw[g2];exact q⟩
  |true=>exact SeqAt.notIn_listAt (dP s.heap da.py) pl.isList g1 ⟨.bl _,H,I,rfl,by rw[g2];exact q⟩
 ·obtain⟨its,rv,pl,_⟩:=I.tuple (by rw[hK];exact hsq);obtain⟨g1,g2⟩:=go rv;cases neg with
  |false=>exact SeqAt.in_tupleAt (dP s.heap da.py) pl g1 ⟨.bl _,H,I,rfl,by rw[g2];exact q⟩
  |true=>exact SeqAt.notIn_tupleAt (dP s.heap da.py) pl g1 ⟨.bl _,H,I,rfl,by rw[g2];exact q⟩
theorem nI(hK:X.K=g.K)(hu:X.A.units+64<cLine)(neg:Bool):OpR X (aR (if neg then .NotEq else .Eq)) (λx y H Q=>∃S da db,zJ g H S da x/\zJ g H S db y/\da.asks=true/\db.asks=true/\Q (.bl (if neg then !da.eqv db else da.eqv db)) H):=by
 intro pins s σ H x y v u Q I rx ry h;obtain⟨S,da,db,ra,rb,aa,ab,q⟩:=h;obtain⟨as,h1,h2,h3⟩:=jc hK I ra.rep aa rx;obtain⟨bs,k1,k2,k3⟩:=jc hK I rb.rep ab ry;have e:=lj da db (hV.mp aa).1 (hV.mp ab).1;have room:X.A.units+min da.py.depth db.py.depth<cLine:=by
  have:min da.py.depth db.py.depth<=da.py.depth:=Nat.min_le_left _ _;lia
 cases neg with
 |false=>exact SeqAt.compareEq_reads h1 k1 h2 k2 room ⟨.bl _,H,I,by rw[e];rfl,q⟩
 |true=>exact SeqAt.compareNe_reads h1 k1 h2 k2 room ⟨.bl _,H,I,by rw[e];rfl,q⟩
theorem zJ.non_iff{S:Sh}{H:Hp}{d:D}{v:V}(r:zJ g H S d v):decide (v=.non)=d_ d:=by
 cases r.rep<;>rfl
theorem eh{op:CmpOp}{c:C2}{r:R2}(h:OpR X (aR op) r)(k:∀S da db b x y H Q,zJ g H S da x->zJ g H S db y->qi c da db=.ok b->Q (.bl b) H->r x y H Q):OpR X (aR op) (rCm g c):=by
 refine OpR.imp h λx y H Q ⟨S,da,db,ra,rb,m⟩=>?_
 cases e:qi c da db with
 |ok b=>rw[e]at m;exact k S da db b x y H Q ra rb e m
 |ex c'=>rw[e]at m;exact m.elim
 |no=>rw[e]at m;exact m.elim
theorem uk:OpR X (aR .Is) (λx y H Q=>∃a b,x=.bl a/\y=.bl b/\Q (.bl (a==b)) H):=by
 intro pins s σ H x y v u Q I rx ry h;obtain⟨a,b,rfl,rfl,q⟩:=h;cases rx;cases ry;exact is_bool (i9 I q rfl)
theorem xO:OpR X (aR .IsNot) (λx y H Q=>∃a b,x=.bl a/\y=.bl b/\Q (.bl (!(a==b))) H):=by
 intro pins s σ H x y v u Q I rx ry h;obtain⟨a,b,rfl,rfl,q⟩:=h;cases rx;cases ry;exact isnot_bool (i9 I q rfl)
theorem rf{n:Bool}{a b:EV.D}{c:Bool}(h:isB n a b=.ok c):∃x y,a=.bl x/\b=.bl y/\c=(n != (x==y)):=by
 unfold isB at h;split at h
 ·cases h;exact⟨_,_,rfl,rfl,rfl⟩
 ·cases h
theorem oE{da db:D}{b:Bool}(h:dq da db=.ok b):∃kvs i,db=.dic kvs/\da=.int i/\b=kvs.any λp=>decide (p.1=i):=by
 unfold dq at h;split at h
 ·split at h
  ·cases h;exact⟨_,_,rfl,rfl,rfl⟩
  ·cases h
 ·cases h
theorem dF(hK:X.K=g.K)(hu:X.A.units+64<cLine)(op:CmpOp):OpR X (aR op) (rCm g (c2 op)):=by
 cases op
 ·exact eh (nI hK hu false) λS da db b x y H Q ra rb e q=>by
   simp only[c2,qi]at e;split at e<;>cases e
   rename_i a
   simp only[aG]at a;exact⟨S,da,db,ra,rb,a.1,a.2,q⟩
 ·exact eh (nI hK hu true) λS da db b x y H Q ra rb e q=>by
   simp only[c2,qi]at e;split at e<;>cases e
   rename_i a
   simp only[aG]at a;exact⟨S,da,db,ra,rb,a.1,a.2,q⟩
 ·exact eh (sV.or (x4 (by lia))) λS da db b x y H Q ra rb e q=>by
   simp only[c2]at e;cases da with
   |int i=>
    cases db with
    |int j=>cases e;exact .inl ⟨i,j,ra.int,rb.int,q⟩
    |_=>cases e
   |tup xs=>
    cases db with
    |tup ys=>
     simp only[qi]at e;split at e
     ·rename_i ns ms e1 e2
      cases e;obtain⟨a,vs,rfl,h1,r1⟩:=ra.tup;obtain⟨b,us,rfl,h2,r2⟩:=rb.tup;obtain⟨rfl,_⟩:=r1.ints e1;obtain⟨rfl,_⟩:=r2.ints e2;exact .inr ⟨a,b,ns,ms,rfl,rfl,by rw[hK];exact h1,by rw[hK];exact h2,pD ns ms▸q⟩
     ·cases e
    |_=>cases e
   |_=>cases db<;>cases e
 ·exact eh rV λS da db b x y H Q ra rb e q=>by
   cases da with
   |int i=>
    cases db with
    |int j=>cases e;exact⟨_,_,ra.int,rb.int,q⟩
    |_=>cases e
   |_=>cases e
 ·exact eh Cq λS da db b x y H Q ra rb e q=>by
   cases da with
   |int i=>
    cases db with
    |int j=>cases e;exact⟨_,_,ra.int,rb.int,q⟩
    |_=>cases e
   |_=>cases e
 ·exact eh Dl λS da db b x y H Q ra rb e q=>by
   cases da with
   |int i=>
    cases db with
    |int j=>cases e;exact⟨_,_,ra.int,rb.int,q⟩
    |_=>cases e
   |_=>cases e
 ·exact eh (x6.or uk) λS da db b x y H Q ra rb e q=>by
   simp only[c2,qi]at e;split at e
   ·rename_i hd
    cases e;have hd:db=.non:=by cases db<;>first|rfl|cases hd
    subst hd;cases rb.rep;exact .inl ⟨rfl,by rw[ra.non_iff];exact q⟩
   ·obtain⟨a,c,rfl,rfl,rfl⟩:=rf e;cases ra.rep;cases rb.rep;exact .inr ⟨a,c,rfl,rfl,by cases a<;>cases c<;>exact q⟩
 ·exact eh (yF.or xO) λS da db b x y H Q ra rb e q=>by
   simp only[c2,qi]at e;split at e
   ·rename_i hd
    cases e;have hd:db=.non:=by cases db<;>first|rfl|cases hd
    subst hd;cases rb.rep;exact .inl ⟨rfl,by rw[ra.non_iff];exact q⟩
   ·obtain⟨a,c,rfl,rfl,rfl⟩:=rf e;cases ra.rep;cases rb.rep;exact .inr ⟨a,c,rfl,rfl,by cases a<;>cases c<;>exact q⟩
 ·exact eh ((mz hK hu false).or (xZ hu)) λS da db b x y H Q ra rb e q=>by
   simp only[c2,qi]at e;split at e
   ·rename_i xs es
    split at e<;>cases e
    rename_i a
    simp only[aG]at a;exact .inl ⟨S,da,db,xs,ra,rb,es,a.1,a.2,q⟩
   ·obtain⟨kvs,i,rfl,rfl,rfl⟩:=oE e;obtain⟨l,rfl,hl⟩:=rb.dic;exact .inr ⟨l,kvs,i,rfl,ra.int,hl,q⟩
 ·exact eh ((mz hK hu true).or (Dz hu)) λS da db b x y H Q ra rb e q=>by
   simp only[c2,qi]at e;split at e
   ·rename_i xs es
    split at e<;>cases e
    rename_i a
    simp only[aG]at a;exact .inl ⟨S,da,db,xs,ra,rb,es,a.1,a.2,q⟩
   ·cases ed:dq da db with
    |ok r=>
     rw[ed]at e;obtain⟨kvs,i,rfl,rfl,rfl⟩:=oE ed;obtain⟨l,rfl,hl⟩:=rb.dic;cases e;exact .inr ⟨l,kvs,i,rfl,ra.int,hl,q⟩
    |ex z=>rw[ed]at e;cases e
    |no=>rw[ed]at e;cases e
end
abbrev ef(g:Gc)(H:Hp)(S:Sh):List D->List V->Prop:=Paired (zJ g H S)
section
variable{X:Cx}{g:Gc}
theorem pF{H:Hp}{ds:List D}{vs:List V}{i:Int}{d:D}(r:qZ g H ds vs)(e:atI ds i=some d):∃v,atI vs i=some v/\Rep g H d v:=by
 unfold atI at e ⊢;rw[<-r.length];cases q:ixN ds.length i with
 |none=>rw[q]at e;cases e
 |some j=>rw[q]at e;exact r.get e
noncomputable def vL(g:Gc):R2:=λx y H Q=>∃S da db,zJ g H S da x/\zJ g H S db y /\
 match ixD da db with
 | .ok d=>∀v,Rep g (hid H S) d v->Q v H
 |_=>False
theorem tw(hK:X.K=g.K)(hu:X.A.units+64<cLine):IxR X (vL g):=by
 have k:IxR X (λx y H Q=>(oy X.K x y H Q\/rm X.K x y H Q)\/mF x y H Q):=(xh.or vw).or (rW hu);intro value slice pins s σ H x y v u Q I rx ry h hs;refine k value slice pins s σ H x y v u Q I rx ry ?_ hs;obtain⟨S,da,db,ra,rb,m⟩:=h;cases da with
 |tup xs=>
  cases db with
  |int i=>
   simp only[ixD]at m;cases e:atI xs i with
   |none=>rw[e]at m;exact m.elim
   |some d=>
    rw[e]at m;obtain⟨a,vs,rfl,h1,r1⟩:=ra.tup;obtain⟨w,h2,h3⟩:=pF r1 e;exact .inl (.inr ⟨a,vs,i,w,rfl,rb.int,by rw[hK];exact h1,h2,m w h3⟩)
  |_=>exact m.elim
 |lst xs=>
  cases db with
  |int i=>
   simp only[ixD]at m;cases e:atI xs i with
   |none=>rw[e]at m;exact m.elim
   |some d=>
    rw[e]at m;obtain⟨a,vs,rfl,h1,r1⟩:=ra.lst;obtain⟨w,h2,h3⟩:=pF r1 e;exact .inl (.inl ⟨a,vs,i,w,rfl,rb.int,by rw[hK];exact h1,h2,m w h3⟩)
  |_=>exact m.elim
 |dic kvs=>
  cases db with
  |int i=>
   simp only[ixD]at m;cases e:atK kvs i with
   |none=>rw[e]at m;exact m.elim
   |some v=>
    rw[e]at m;obtain⟨a,rfl,h1⟩:=ra.dic;exact .inr ⟨a,kvs,i,v,rfl,rb.int,h1,e,m _ (.int v)⟩
  |_=>exact m.elim
 |_=>exact m.elim
noncomputable def u_(g:Gc):V->Option Int->Option Int->Hp->VK->Prop:=λx lo hi H Q=>∃S da,Sub S H/\zJ g H S da x /\
 match slD da lo hi with
 | .ok d=>∀v H',qf H H'->Rep g (hid H' S) d v->Q v H'
 |_=>False
theorem oW{H:Hp}{ds:List D}{vs:List V}(r:qZ g H ds vs)(lo hi:Option Int):qZ g H (cutD ds lo hi) (eV vs lo hi):=by
 unfold cutD eV;rw[r.length];exact(r.drop _).take _
theorem yx(hK:X.K=g.K):SlR X (u_ g):=by
 intro pins s σ H x v vl vu lo hi sl Q I rx hs pl pu h;obtain⟨S,da,hS,ra,m⟩:=h;cases da with
 |lst xs=>
  obtain⟨a,vs,rfl,h1,r1⟩:=ra.lst;exact BB pins s σ H _ v vl vu lo hi sl Q I rx hs pl pu ⟨a,vs,rfl,by rw[hK];exact h1,λp hp=>m _ _ (zr hp) (dS hS hp (oW r1 lo hi))⟩
 |tup xs=>
  obtain⟨a,vs,rfl,h1,r1⟩:=ra.tup;simp only[slD]at m;by_cases hw:HT.sIx xs.length 0 lo=0/\HT.sIx xs.length xs.length hi=xs.length
  ·have e:cutD xs lo hi=xs:=by unfold cutD;rw[hw.1,hw.2];simp
   rw[e]at m;rw[r1.length]at hw;exact AM pins s σ H _ v vl vu lo hi sl Q I rx hs pl pu ⟨a,vs,rfl,by rw[hK];exact h1,hw.1,hw.2,m _ _ (qf.refl _) (ra.strong (by intro _ z;cases z))⟩
  ·rw[r1.length]at hw;exact tX pins s σ H _ v vl vu lo hi sl Q I rx hs pl pu ⟨a,vs,rfl,by rw[hK];exact h1,hw,λp hp=>m _ _ (zr hp) (gE hS hp (oW r1 lo hi))⟩
 |_=>exact m.elim
noncomputable def b1V:B1->ae
 | .len=>.builtin "len"
 | .tuple=>.type "tuple"
 | .list=>.type "list"
 | .sorted=>.builtin "sorted"
 | .all=>.builtin "all"
 | .any=>.builtin "any"
 | .sum=>.builtin "sum"
 | .min=>.builtin "min"
 | .max=>.builtin "max"
 | .abs=>.builtin "abs"
 | .int=>.type "int"
 | .bool=>.type "bool"
noncomputable def rB1(g:Gc)(b:B1):List V->Hp->VK->Prop:=λvs H Q=>∃S ds,Sub S H/\ef g H S ds vs /\
 match b1 b ds with
 | .ok d=>∀v H',qf H H'->Rep g (hid H' S) d v->(b=.list\/b=.sorted->Fr g H S H' d v)->Q v H'
 |_=>False
theorem zq.imp{f:ae}{r r':List V->Hp->VK->Prop}(h:zq X f r)(i:∀xs H Q,r' xs H Q->r xs H Q):zq X f r':=
 λpins s σ H xs us Q I rv q=>h pins s σ H xs us Q I rv (i _ _ _ q)
theorem dN{f:ae}{b:B1}{r:List V->Hp->VK->Prop}(h:zq X f r)
  (k:∀S ds d vs H Q,Sub S H->ef g H S ds vs->b1 b ds=.ok d->(∀v H',qf H H'->Rep g (hid H' S) d v->(b=.list\/b=.sorted->Fr g H S H' d v)->Q v H')->r vs H Q):zq X f (rB1 g b):=by
 refine zq.imp h λvs H Q ⟨S,ds,hs,rs,m⟩=>?_
 cases e:b1 b ds with
 |ok d=>rw[e]at m;exact k S ds d vs H Q hs rs e m
 |ex c=>rw[e]at m;exact m.elim
 |no=>rw[e]at m;exact m.elim
theorem fS{b:B1}(hb:∀x y,b12 b x y=.no){ds:List D}{d:D}(h:b1 b ds=.ok d):∃x,ds=[x]/\b11 b x=.ok d:=by
 match ds,h with
 | [x],h=>exact⟨x,rfl,h⟩
 | [x,y],h=>have h:b12 b x y=.ok d:=h;rw[hb]at h;cases h
 | [],h=>cases h
 |_::_::_::_,h=>cases h
theorem jx{x r:D}{k:List D->R D}(h:de x k=.ok r):∃xs,x=.lst xs/\k xs=.ok r:=by
 cases x with
 |lst xs=>exact⟨xs,rfl,h⟩
 |_=>cases h
theorem lq{x r:D}{f:Int->R D}{q:Bool->R D}(h:ibR x f q=.ok r):(∃i,x=.int i/\f i=.ok r)\/(∃b,x=.bl b/\q b=.ok r):=by
 cases x with
 |int i=>exact .inl ⟨i,rfl,h⟩
 |bl i=>exact .inr ⟨i,rfl,h⟩
 |_=>cases h
theorem pR{x y r:D}{k:Int->Int->R D}(h:iiR x y k=.ok r):∃i j,x=.int i/\y=.int j/\k i j=.ok r:=by
 cases x with
 |int i=>
  cases y with
  |int j=>exact⟨i,j,rfl,rfl,h⟩
  |_=>cases h
 |_=>cases h
theorem ja{α β:Type}{o:Option α}{k:α->R β}{r:β}(h:cF o k=.ok r):∃a,o=some a/\k a=.ok r:=by
 cases o with
 |some a=>exact⟨a,rfl,h⟩
 |none=>cases h
theorem kj{b:B1}{ds:List D}{d:D}{q:List D->R D}(h:b1 b ds=.ok d)(e:∀x,b1 b [x]=cF (seq? x) q)(n:ds.length≠1->b1 b ds=.no):∃x xs,ds=[x]/\seq? x=some xs/\q xs=.ok d:=by
 match ds with
 | []=>rw[n (by simp)]at h;cases h
 | [x]=>
  rw[e]at h;cases z:seq? x with
  |none=>rw[z]at h;cases h
  |some xs=>rw[z]at h;exact⟨x,xs,rfl,z,h⟩
 |x::y::r=>rw[n (by simp)]at h;cases h
theorem Dg(hK:X.K=g.K):zq X (.builtin "len") (rB1 g .len):=dN yM λS ds d vs H Q hs rs h q=>by
 obtain⟨x,xs,rfl,e,h⟩:=kj (q:=λxs=>.ok (.int xs.length)) h (λ_=>rfl) (λn=>by match ds,n with | [],_=>rfl | [_,_],_=>rfl|_::_::_::_,_=>rfl);cases h;cases rs with
 |cons r rs=>
  cases rs;obtain⟨a,us,rfl,h1,r1⟩:=r.seq e;exact⟨a,us,rfl,by rw[hK];exact h1,by rw[<-r1.length];exact q _ _ (qf.refl _) (.int _) (by simp)⟩
theorem CZ(hK:X.K=g.K):zq X (.type "tuple") (rB1 g .tuple):=dN uO λS ds d vs H Q hs rs h q=>by
 obtain⟨x,xs,rfl,e,h⟩:=kj (q:=λxs=>.ok (.tup xs)) h (λ_=>rfl) (λn=>by match ds,n with | [],_=>rfl | [_,_],_=>rfl|_::_::_::_,_=>rfl);cases h;cases rs with
 |cons r rs=>
  cases rs;cases x with
  |lst ys=>
   cases e;obtain⟨a,us,rfl,h1,r1⟩:=r.lst;exact⟨a,us,rfl,.inl ⟨by rw[hK];exact h1,λp hp=>q _ _ (zr hp) (gE hs hp r1) (by simp)⟩⟩
  |tup ys=>
   cases e;have z:=r.strong (by intro _ z;cases z);obtain⟨a,us,rfl,h1,r1⟩:=r.tup;exact⟨a,us,rfl,.inr ⟨by rw[hK];exact h1,q _ _ (qf.refl _) z (by simp)⟩⟩
  |_=>cases e
theorem CM(hK:X.K=g.K):zq X (.type "list") (rB1 g .list):=dN p5 λS ds d vs H Q hs rs h q=>by
 obtain⟨x,xs,rfl,e,h⟩:=kj (q:=λxs=>.ok (.lst xs)) h (λ_=>rfl) (λn=>by match ds,n with | [],_=>rfl | [_,_],_=>rfl|_::_::_::_,_=>rfl);cases h;cases rs with
 |cons r rs=>
  cases rs;obtain⟨a,us,rfl,h1,r1⟩:=r.seq e;exact⟨a,us,rfl,by rw[hK];exact h1,λp hp=>q _ _ (zr hp) (dS hs hp r1) λ_=>eI (qf.refl _) hp r1⟩
theorem DN(hc:X.calm=true)(al:Bool):zq X (.builtin (if al then "all" else "any")) (λxs H Q=>∃(l:Addr) (bs:List Bool),xs=[.ref l]/\SqL X.K H l (bs.map V.bl)/\Q (.bl (if al then bs.all id else bs.any id)) H):=by
 intro pins s σ H xs us Q I r h;obtain⟨l,bs,rfl,hl,q⟩:=h;obtain⟨u,rfl,ru⟩:=r.one;cases ru;obtain⟨its,rv,pl,hz⟩:=I.list hl;have e:=jY (A:=X.A) rv;subst e;have hlt:l<s.heap.objs.size:=by obtain⟨_,e,_⟩:=pl.isList;exact aH e
 have tr:TruthOf X.prog X.w X.A.in1 (λi v=>(bs.map bt).toArray[i]? = some v) (λi=>(bs[i]?).getD al):=λi v s' Q' E' hP hQ=>by
  have hv:(bs.map bt)[i]? = some v:=by simpa using hP
  rw[List.getElem?_map]at hv;cases e:bs[i]? with
  |none=>rw[e]at hv;cases hv
  |some b=>
   rw[e]at hv;cases hv;simp only[e,Option.getD_some]at hQ;exact bF hQ
 have wk:=Walks.list (prog:=X.prog) (w:=X.w) (A:=X.A.in1) (I.ok.hd hc) s.heap.objs.size l (aV hlt) (bs.map bt).toArray;cases al with
 |true=>
  refine call_all_walk (wpAny_pyIter_list pl.isList ?_);refine⟨s.heap.objs.size,[s.heap.objs.size,l],[s.heap.objs.size],_,_,_,_,rfl,wk,⟨⟨_,Heap.get?_push_size _ rfl,rfl,rfl⟩,pl.isList.push _⟩,tr,λh' tk hk=>?_⟩;have e:((aW (bs.map bt).toArray.size).all λi=>(bs[i]?).getD true)=bs.all id:=by
   rw[aO,aI];exact LSm.range_all bs
  rw[e];exact⟨.bl _,H,I.kept (LSm.kept_iter hk),rfl,q⟩
 |false=>
  refine call_any_walk (wpAny_pyIter_list pl.isList ?_);refine⟨s.heap.objs.size,[s.heap.objs.size,l],[s.heap.objs.size],_,_,_,_,rfl,wk,⟨⟨_,Heap.get?_push_size _ rfl,rfl,rfl⟩,pl.isList.push _⟩,tr,λh' tk hk=>?_⟩;have e:((aW (bs.map bt).toArray.size).any λi=>(bs[i]?).getD false)=bs.any id:=by
   rw[aO,aI,Bool.eq_iff_iff];simp only[cz,List.mem_range,id];constructor
   ·rintro⟨i,hi,e⟩;rw[List.getElem?_eq_getElem hi]at e;exact⟨_,List.getElem_mem hi,e⟩
   ·rintro⟨b,hb,e⟩;obtain⟨i,hi,rfl⟩:=List.getElem_of_mem hb;exact⟨i,hi,by rw[List.getElem?_eq_getElem hi];exact e⟩
  rw[e];exact⟨.bl _,H,I.kept (LSm.kept_iter hk),rfl,q⟩
theorem mv(hK:X.K=g.K)(hc:X.calm=true)(al:Bool):zq X (.builtin (if al then "all" else "any")) (rB1 g (if al then .all else .any)):=dN (DN hc al) λS ds d vs H Q hs rs h q=>by
 obtain⟨xs,bs,rfl,e,rfl⟩:∃xs bs,ds=[.lst xs]/\bools? xs=some bs/\d=.bl (if al then bs.all id else bs.any id):=by
  cases al
  ·obtain⟨x,rfl,h'⟩:=fS (λ_ _=>rfl) h;obtain⟨xs,rfl,h'⟩:=jx h';obtain⟨bs,e,h'⟩:=ja h';cases h';exact⟨xs,bs,rfl,e,rfl⟩
  ·obtain⟨x,rfl,h'⟩:=fS (λ_ _=>rfl) h;obtain⟨xs,rfl,h'⟩:=jx h';obtain⟨bs,e,h'⟩:=ja h';cases h';exact⟨xs,bs,rfl,e,rfl⟩
 cases rs with
 |cons r rs=>
  cases rs;obtain⟨a,us,rfl,h1,r1⟩:=r.lst;have e2:=r1.bools e;subst e2;exact⟨a,bs,rfl,by rw[hK];exact h1,q _ _ (qf.refl _) (.bl _) (by cases al<;>simp)⟩
end
end EV
namespace TS
open PySem PyProof.Rows
structure Cmp(prog:av)(w:au)(A:aw)(s:af)(κ:SortKind)(D:aB->Prop)(LT:aB->aB->Bool):Prop where
 lt:∀x y,D x->D y->∀Q:Bool->af->Prop,Q (LT x y) s->ai (aj prog w) A (keyLt' κ x.1 y.1) Q (λ_ _=>False) s
 asym:∀x y,LT x y=true->LT y x=false
 neg:∀x y z,LT y x=false->LT z y=false->LT z x=false
section
variable{prog:av}{w:au}{A:aw}{E:ae->af->Prop}{s:af}{κ:SortKind}{D:aB->Prop}{LT:aB->aB->Bool}
end
section
variable{LT:aB->aB->Bool}
abbrev df:Keyed:=(ae.none,ae.none)
noncomputable def at'(a:Array aB)(i:Nat):Keyed:=a.getD i df
variable{a b out:Array aB}{ia ib:Nat}
end
section
variable{prog:av}{w:au}{A:aw}{E:ae->af->Prop}{s:af}{κ:SortKind}{D:aB->Prop}{LT:aB->aB->Bool}
end
section
variable{LT:aB->aB->Bool}
variable{a b out:Array aB}{na nb:Nat}
end
section
variable{prog:av}{w:au}{A:aw}{E:ae->af->Prop}{s:af}{κ:SortKind}{D:aB->Prop}{LT:aB->aB->Bool}
end
structure SB(κ:SortKind)(p:Array (Nat×Nat×Nat))(a₁:Array aB)(lo:Nat)(st:SortSt):Prop where
 kd:kindOf st=κ
 fl:failedOf st=none
 pn:pendingOf st=p
 pm:(arrOf st).Perm a₁
 lw:∀i,i<lo->at' (arrOf st) i=at' a₁ i
noncomputable def Kr(R:aB->Int)(xs:Array aB)(i:Nat):Int:=R (at' xs i)
noncomputable def Seg(R:aB->Int)(xs:Array aB)(lo n:Nat):Prop:=∀i j,i<=j->j<n->Kr R xs (lo+i)<=Kr R xs (lo+j)
noncomputable def Dsc(R:aB->Int)(xs:Array aB)(lo n:Nat):Prop:=∀i j,i<=j->j<n->Kr R xs (lo+j)<=Kr R xs (lo+i)
section
variable{prog:av}{w:au}{A:aw}{E:ae->af->Prop}{s:af}{κ:SortKind}{D:aB->Prop}{LT:aB->aB->Bool}{R:aB->Int}{p:Array (Nat×Nat×Nat)}{a₁:Array aB}{lo:Nat}
theorem SB.size{st:SortSt}(h:SB κ p a₁ lo st):(arrOf st).size=a₁.size:=h.pm.size_eq
end
section
variable{prog:av}{w:au}{A:aw}{E:ae->af->Prop}{s:af}{κ:SortKind}{D:aB->Prop}{LT:aB->aB->Bool}{R:aB->Int}{p:Array (Nat×Nat×Nat)}{a₁:Array aB}{lo:Nat}{xs:Array aB}
theorem Seg.one:Seg R xs lo 1:=λi j a b=>by rw[show i=j by lia];exact Int.le_refl _
theorem Dsc.one:Dsc R xs lo 1:=λi j a b=>by rw[show i=j by lia];exact Int.le_refl _
noncomputable def Flat(R:aB->Int)(xs:Array aB)(lo m neq:Nat):Prop:=∀i,lo+m-(neq+1)<=i->i<lo+m->Kr R xs i=Kr R xs (lo+m-1)
theorem Flat.zero{m:Nat}:Flat R xs lo m 0:=λi a b=>by rw[show i=lo+m-1 by lia]
end
section
variable{prog:av}{w:au}{A:aw}{E:ae->af->Prop}{s:af}{κ:SortKind}{D:aB->Prop}{LT:aB->aB->Bool}{R:aB->Int}
end
section
variable{prog:av}{w:au}{A:aw}{E:ae->af->Prop}{s:af}{κ:SortKind}{D:aB->Prop}{LT:aB->aB->Bool}{R:aB->Int}
end
noncomputable def pr(x:Nat×Nat×Nat):Nat×Nat:=(x.1,x.2.1)
noncomputable def Runs(R:aB->Int)(a:Array aB):Nat->List (Nat×Nat)->Nat->Prop
 |b,[],e=>b=e
 |b,x::l,e=>x.1=b/\1<=x.2/\Seg R a b x.2/\Runs R a (b+x.2) l e
section
variable{R:aB->Int}{a a':Array aB}
end
structure SR(κ:SortKind)(R:aB->Int)(a₁:Array aB)(lo:Nat)(st:SortSt):Prop where
 kd:kindOf st=κ
 fl:failedOf st=none
 pm:(arrOf st).Perm a₁
 rn:Runs R (arrOf st) 0 ((pendingOf st).toList.map pr) lo
 le:lo<=a₁.size
section
variable{prog:av}{w:au}{A:aw}{E:ae->af->Prop}{s:af}{κ:SortKind}{D:aB->Prop}{LT:aB->aB->Bool}{R:aB->Int}{a₁:Array aB}{lo:Nat}
theorem SR.sz{st:SortSt}(h:SR κ R a₁ lo st):(arrOf st).size=a₁.size:=h.pm.size_eq
end
section
variable{prog:av}{w:au}{A:aw}{E:ae->af->Prop}{s:af}{κ:SortKind}{D:aB->Prop}{LT:aB->aB->Bool}{R:aB->Int}{a₁:Array aB}{lo:Nat}
end
section
variable{prog:av}{w:au}{A:aw}{E:ae->af->Prop}{s:af}
end
end TS
namespace TS
open PySem PySem.W PyProof.Rows
section
variable{M:Model}{A:aw}{E:ae->af->Prop}{s:af}
end
section
variable{M:Model}{A:aw}{E:ae->af->Prop}{s:af}
end
section
variable{prog:av}{w:au}{A:aw}{E:ae->af->Prop}{s:af}
end
end TS
namespace L2
open PySem PySem.Spec PyProof.Rows TS
end L2
namespace L2
open PySem PySem.Spec PyProof.Rows
section
variable{X:Cx}
theorem nk{A:aw}{s:af}{bs:List Bool}{prog:av}:∀y∈(bs.map bt).toArray,SeqAt.EqAt A s y (.bool true) (y==.bool true):=by
 intro y hy;have hy':y∈bs.map ae.bool:=by simpa using hy
 obtain⟨b,_,rfl⟩:=aN.mp hy';have:=SeqAt.EqAt.bool_bool (A:=A) (s:=s) b true;have e2:(bt b==bt true)=(b==true):=by cases b<;>decide
 rw[e2];exact this
noncomputable def Bw(K:aq):V->List V->Hp->VK->Prop:=λx vs H Q=>∃(l:Addr) (bs:List Bool),x=.ref l/\vs=[.bl true]/\SqL K H l (bs.map V.bl)/\Q (.int ((bs.countP id:Nat):Int)) H
theorem yE:MtM X "list.count" (Bw X.K):=by
 intro pins s σ H x vs v us Q I rx rv h;obtain⟨l,bs,rfl,rfl,hH,q⟩:=h;cases rx;obtain⟨u,rfl,ru⟩:=rv.one;cases ru;obtain⟨its,r,⟨o,n,e,hc,hd,hs⟩,hz⟩:=I.list hH;have ei:=jY (A:=X.A) r;subst ei;obtain⟨oc,od,oo,os⟩:=o;simp only at hc hd hs;subst hc hd hs;refine call_meets F.slot_list_count ⟨_,e,rfl⟩ F.entry_list_count (F.args_list_count_2 _ _) (SeqAt.list_countAt l _ n none os (.bool true) (λy=>y==.bool true)) ⟨e,nk (prog:=X.prog),?_⟩;refine⟨.int ((bs.countP id:Nat):Int),H,I.tok _,⟨s.toks,?_⟩,q⟩;have:(List.map bt bs).countP (λy=>y==bt true)=bs.countP id:=by
  rw[List.countP_map]
  congr 1
  funext b;cases b<;>rfl
 rw[show ((List.map bt bs).toArray.toList)=List.map bt bs from rfl,this]
noncomputable def sC(K:aq):V->List V->Hp->VK->Prop:=λx vs H Q=>∃(l:Addr) (bs:List Bool) (j:Nat),x=.ref l/\vs=[.bl true]/\SqL K H l (bs.map V.bl)/\bs.findIdx? id=some j/\Q (.int (j:Int)) H
theorem xg:MtM X "list.index" (sC X.K):=by
 intro pins s σ H x vs v us Q I rx rv h;obtain⟨l,bs,j,rfl,rfl,hH,hj,q⟩:=h;cases rx;obtain⟨u,rfl,ru⟩:=rv.one;cases ru;obtain⟨its,r,⟨o,n,e,hc,hd,hs⟩,hz⟩:=I.list hH;have ei:=jY (A:=X.A) r;subst ei;obtain⟨oc,od,oo,os⟩:=o;simp only at hc hd hs;subst hc hd hs;obtain⟨hjl,h1,h2⟩:=List.findIdx?_eq_some_iff_getElem.mp hj;have hz':bs.length<=sizeLine:=by simpa using hz
 refine call_meets F.slot_list_index ⟨_,e,rfl⟩ F.entry_list_index (F.args_list_index_2 _ _) (SeqAt.list_indexAt l _ n none os (.bool true) (λy=>y==.bool true) j (by simpa using hjl) (by rw[aZ]at hz';lia) ?_ ?_) ⟨e,nk (prog:=X.prog),?_⟩
 ·have:bs[j]=true:=h1;simp[this]
 ·intro m hm hmj;have hm':m<bs.length:=by simpa using hm
  have:bs[m]=false:=by simpa using h2 m hmj
  simp[this]
 ·exact⟨.int (j:Int),H,I.tok _,⟨s.toks,rfl⟩,q⟩
end
theorem uA{its:List ae}{ns:List Int}(hi:a8 its ns):∃ps:Array (Int×Tok),its.toArray=intItems ps/\ns=ps.toList.map Prod.fst:=by
 rcases hi.allInts.items with ⟨ps,hx⟩
 refine⟨ps,hx,?_⟩;have z:numsOf its.toArray.toList=ns:=hi.numsOf;rw[hx,nums_intItems]at z;exact z.symm
section
variable{X:Cx}
theorem wX(hc:X.calm=true):zq X (.builtin "sum") (λxs H Q=>∃(l:Addr) (ns:List Int),xs=[.ref l]/\SqL X.K H l (ns.map V.int)/\Q (.int ns.sum) H):=by
 intro pins s σ H xs us Q I r h;obtain⟨l,ns,rfl,hl,q⟩:=h;obtain⟨u,rfl,ru⟩:=r.one;cases ru;obtain⟨its,rv,pl,hz⟩:=I.list hl;obtain⟨ps,hx,e1⟩:=uA (intsAre_of rv);refine sum_intListG (I.ok.hd hc) (hx▸pl.isList) λh' tk t' hk=>?_
 have e2:preSum (numAt ps) ps.size=ns.sum:=by
  rw[preSum_eq,e1];exact congrArg List.sum (List.take_of_length_le (by simp))
 rw[e2];exact⟨.int _,H,I.kept hk,⟨_,rfl⟩,q⟩
end
end L2
namespace EV
open PySem PySem.Spec PySem.P PyProof.Rows L2
theorem insI_perm(i:Int):∀l,(insI i l).Perm (i::l)
 | []=>.refl _
 |j::r=>by
  unfold insI;split
  ·exact .refl _
  ·exact((insI_perm i r).cons j).trans (.swap ..)
theorem sortI_perm:∀l,(sortI l).Perm l
 | []=>.refl _
 |i::r=>(insI_perm i _).trans ((sortI_perm r).cons i)
theorem rP(i:Int):∀{l:List Int},l.Pairwise (·<=·)->(insI i l).Pairwise (·<=·)
 | [],_=>by simp[insI]
 |j::r,h=>by
  unfold insI;obtain⟨h1,h2⟩:=List.pairwise_cons.mp h;split
  ·rename_i hij
   refine List.pairwise_cons.mpr ⟨λx hx=>?_,h⟩;rcases aE.mp hx with rfl|hx
   ·exact hij
   ·exact Int.le_trans hij (h1 x hx)
  ·rename_i hij
   refine List.pairwise_cons.mpr ⟨λx hx=>?_,rP i h2⟩;rcases aE.mp ((insI_perm i r).mem_iff.mp hx)with rfl|hx
   ·lia
   ·exact h1 x hx
theorem jq:∀l:List Int,(sortI l).Pairwise (·<=·)
 | []=>.nil
 |i::r=>rP i (jq r)
theorem iF{l m:List Int}(h1:m.Perm l)(h2:m.Pairwise (·<=·)):m=sortI l:=PySem.W.ksm_same (h1.trans (sortI_perm l).symm) h2 (jq l)
theorem lI(p:Int×Int):∀l,(fE p l).Perm (p::l)
 | []=>.refl _
 |j::r=>by
  unfold fE;split
  ·exact((lI p r).cons j).trans (.swap ..)
  ·exact .refl _
theorem iU:∀l,(zw l).Perm l
 | []=>.refl _
 |i::r=>(lI i _).trans ((iU r).cons i)
theorem pE{a b:Int×Int}:ltP a b=true↔a.1<b.1\/(a.1=b.1/\a.2<b.2):=by
 unfold ltP;by_cases h:a.1=b.1
 ·simp[h]
 ·simp[h]
theorem jS{a b:Int×Int}:ltP a b=false↔b.1<a.1\/(a.1=b.1/\b.2<=a.2):=by
 rw[<-dB,pE];lia
theorem rB(p:Int×Int):∀{l:List (Int×Int)},l.Pairwise (λa b=>ltP b a=false)->(fE p l).Pairwise (λa b=>ltP b a=false)
 | [],_=>by simp[fE]
 |j::r,h=>by
  unfold fE;obtain⟨h1,h2⟩:=List.pairwise_cons.mp h;split
  ·rename_i hij
   rw[pE]at hij;refine List.pairwise_cons.mpr ⟨λx hx=>?_,rB p h2⟩;rcases aE.mp ((lI p r).mem_iff.mp hx)with rfl|hx
   ·rw[jS];lia
   ·exact h1 x hx
  ·rename_i hij
   have hij':ltP j p=false:=by simpa using hij
   refine List.pairwise_cons.mpr ⟨λx hx=>?_,h⟩;rcases aE.mp hx with rfl|hx
   ·exact hij'
   ·have:=h1 x hx;rw[jS]at this hij' ⊢;lia
theorem iW:∀l:List (Int×Int),(zw l).Pairwise (λa b=>ltP b a=false)
 | []=>.nil
 |i::r=>rB i (iW r)
theorem Cj{l m:List (Int×Int)}(h1:m.Perm l)(h2:m.Pairwise (λa b=>ltP b a=false)):m=zw l:=
 (h1.trans (iU l).symm).eq_of_pairwise (λa b _ _ z1 z2=>by rw[jS]at z1 z2;exact Prod.ext (by lia) (by lia)) h2 (iW l)
theorem map_getD{α:Type}(d:α)(l:List α):(aW l.length).map (λi=>l.getD i d)=l:=by
 refine List.ext_getElem (by simp) λi h1 h2=>?_
 simp at h1;simp[h1]
theorem yn(ks:List (Int×Int)):(cP ks).map (λi=>ks.getD i (0,0))=zw ks:=by
 obtain⟨h1,h2⟩:=xb ks;refine Cj ?_ h2;have:=h1.map λi=>ks.getD i (0,0)
 rw[map_getD]at this;exact this
section
variable{X:Cx}{g:Gc}
theorem qZ.pairs{H:Hp}{ds:List D}:∀{vs:List V}{ps:List (Int×Int)},qZ g H ds vs->pairs? ds=some ps->ds=ps.map pairD/\∃as:List Addr,vs=as.map V.ref/\as.length=ps.length/\∀(i:Nat) a p,as[i]? = some a->ps[i]? = some p->SqT g.K H a [.int p.1,.int p.2]:=by
 induction ds with
 |nil=>intro vs ps h e;cases h;cases e;exact⟨rfl,[],rfl,rfl,λi a p h=>by cases h⟩
 |cons d ds ih=>
  intro vs ps h e;have no:∀{P:Prop},pairs? (d::ds)=none->P:=λz=>by rw[z]at e;cases e
  cases h with
  |cons h t=>cases d with
   |tup xs=>cases xs with
    |nil=>exact no rfl
    |cons a xs=>cases a with
     |int x=>cases xs with
      |nil=>exact no rfl
      |cons b xs=>cases b with
       |int y=>cases xs with
        |cons _ _=>exact no rfl
        |nil=>
         obtain⟨ms,e1,rfl⟩:=bu.mp (show (pairs? ds).map ((x,y) :: ·)=some ps from e);obtain⟨h1,as,h2,h3,h4⟩:=ih t e1;cases h with
         | @tup a xs _ q r=>
          obtain⟨rfl,_⟩:=r.ints (ns:=[x,y]) rfl;refine⟨by rw[h1];rfl,a::as,by rw[h2];rfl,congrArg (· + 1) h3,λi b p hb hp=>?_⟩;cases i with
          |zero=>cases hb;cases hp;exact q
          |succ i=>exact h4 i b p hb hp
       |_=>exact no rfl
     |_=>exact no rfl
   |_=>exact no rfl
theorem xY(hK:X.K=g.K)(hu:X.A.units+64<cLine)(hc:X.calm=true):zq X (.builtin "sorted") (rB1 g .sorted):=dN (((Eb.or xk).or wo).or (wm hc)) λS ds d vs H Q hs rs h q=>by
 obtain⟨x,rfl,h'⟩:=fS (λ_ _=>rfl) h;by_cases htu:∃xs,x=.tup xs
 ·obtain⟨xs,rfl⟩:=htu;have h':(if xs.length<64 then cF (ints? xs) λns=>.ok (.lst ((sortI ns).map D.int))else .no)=R.ok d:=h';split at h'
  ·rename_i hz
   obtain⟨ns,e,h2⟩:=ja h';cases h2;cases rs with
   |cons r rs=>
    cases rs;obtain⟨a,us,rfl,h1,r1⟩:=r.tup;obtain⟨rfl,rfl⟩:=r1.ints e;refine .inl (.inr ⟨a,ns,rfl,by rw[hK];exact h1,by simpa using hz,λp ms hp pm pw=>?_⟩);rw[iF pm pw];exact q _ _ (zr hp) (dS hs hp (qZ.ofInts _)) λ_=>eI (qf.refl _) hp (qZ.ofInts _)
  ·cases h'
 by_cases hdi:∃kvs,x=.dic kvs
 ·obtain⟨kvs,rfl⟩:=hdi;have h':(if kvs.length<64 then R.ok (D.lst ((sortI (kvs.map (·.1))).map D.int))else .no)=R.ok d:=h';split at h'
  ·rename_i hz
   cases h';cases rs with
   |cons r rs=>
    cases rs;obtain⟨a,rfl,h1⟩:=r.dic;refine .inr ⟨a,kvs,rfl,h1,hz,λp ms hp pm pw=>?_⟩;rw[iF pm pw];exact q _ _ (zr hp) (dS hs hp (qZ.ofInts _)) λ_=>eI (qf.refl _) hp (qZ.ofInts _)
  ·cases h'
 refine .inl (.inl ?_);have h':(de x λxs=>if xs.length<64 then (match ints? xs with
   |some ns=>.ok (.lst ((sortI ns).map D.int))
   |none=>match pairs? xs with
    |some ps=>.ok (.lst ((zw ps).map pairD))
    |none=>eA xs)else eA xs)=.ok d:=by cases x<;>first|exact absurd ⟨_,rfl⟩ htu|exact absurd ⟨_,rfl⟩ hdi|exact h'
 obtain⟨xs,rfl,h2⟩:=jx h'
 replace h:=h2
 cases rs with
 |cons r rs=>
  cases rs;obtain⟨a,us,rfl,h1,r1⟩:=r.lst;have big:eA xs=.ok d->False:=λh=>by cases h
  by_cases hz:xs.length<64
  ·rw[if_pos hz]at h;cases e:ints? xs with
   |some ns=>
    rw[e]at h;cases h;obtain⟨rfl,rfl⟩:=r1.ints e;refine .inl ⟨a,ns,rfl,by rw[hK];exact h1,by simpa using hz,λp ms hp pm pw=>?_⟩;rw[iF pm pw];exact q _ _ (zr hp) (dS hs hp (qZ.ofInts _)) λ_=>eI (qf.refl _) hp (qZ.ofInts _)
   |none=>
    rw[e]at h;cases e2:pairs? xs with
    |none=>rw[e2]at h;exact(big h).elim
    |some ps=>
     rw[e2]at h;cases h;obtain⟨rfl,as,rfl,hl,hp⟩:=r1.pairs e2;refine .inr ⟨a,as,ps,rfl,by rw[hK];exact h1,hl.symm,by rw[aI]at hz;lia,λi p k h1 h2=>by rw[hK];exact zN zK (hp i p k h1 h2),λp hn=>?_⟩;have hR:qZ g (hid H S) ((zw ps).map pairD) ((cP ps).map λi=>(as.map V.ref).getD i .non):=by
      rw[<-yn,b7];have:∀l:List Nat,(∀i∈l,i<ps.length)->qZ g (hid H S) (l.map (pairD∘λi=>ps.getD i (0,0))) (l.map λi=>(as.map V.ref).getD i .non):=by
       intro l
       induction l with
       |nil=>intro _;exact .nil
       |cons i l ih=>
        intro hl';have hi:=hl' i aJ;refine .cons ?_ (ih λj hj=>hl' j (aK _ hj));obtain⟨v,e1,e2⟩:=r1.get (i:=i) (d:=pairD (ps.getD i (0,0))) (by simp[hi]);have e3:(as.map V.ref).getD i .non=v:=by rw[List.getD_eq_getElem?_getD,e1];rfl
        show Rep g (hid H S) (pairD (ps.getD i (0,0))) ((as.map V.ref).getD i .non);rw[e3];exact e2
      exact this _ λi hi=>l_ i hi
     exact q _ _ (zr hn) (dS hs hn hR) λ_=>eI (qf.refl _) hn hR
  ·rw[if_neg hz]at h;exact(big h).elim
theorem lR(hK:X.K=g.K)(hc:X.calm=true)(mx:Bool):zq X (.builtin (if mx then "max" else "min")) (rB1 g (if mx then .max else .min)):=by
 have two:∀{S:Sh}{H:Hp}{x y:D}{vs:List V}{i j:Int},x=.int i->y=.int j->ef g H S [x,y] vs->vs=[.int i,.int j]:=by
  intro S H x y vs i j hx hy rs;subst hx hy;cases rs with
  |cons r1 rs=>
   cases rs with
   |cons r2 rs=>cases rs;rw[r1.int,r2.int]
 have inv:∀{b:B1}{ds:List D}{d:D},b1 b ds=.ok d->(∃x,ds=[x]/\b11 b x=.ok d)\/∃x y,ds=[x,y]/\b12 b x y=.ok d:=by
  intro b ds d h
  match ds,h with
  | [x],h=>exact .inl ⟨x,rfl,h⟩
  | [x,y],h=>exact .inr ⟨x,y,rfl,h⟩
  | [],h=>cases h
  |_::_::_::_,h=>cases h
 cases mx
 ·exact dN (wL hc) λS ds d vs H Q hs rs h q=>by
   rcases inv h with ⟨x,rfl,h'⟩|⟨x,y,rfl,h'⟩
   ·cases h'
   ·obtain⟨i,j,hx,hy,h'⟩:=pR h';cases h';exact⟨i,j,two hx hy rs,q _ _ (qf.refl _) (.int _) (by simp)⟩
 ·exact dN (tJ hc) λS ds d vs H Q hs rs h q=>by
   rcases inv h with ⟨x,rfl,h'⟩|⟨x,y,rfl,h'⟩
   ·cases h'
   ·obtain⟨i,j,hx,hy,h'⟩:=pR h';cases h';exact⟨i,j,two hx hy rs,q _ _ (qf.refl _) (.int _) (by simp)⟩
theorem kr{S:Sh}{H:Hp}{vs:List V}{i:Int}(rs:ef g H S [.int i] vs):vs=[.int i]:=by
 cases rs with
 |cons r1 rs=>cases rs;rw[r1.int]
theorem nc{S:Sh}{H:Hp}{vs:List V}{i:Bool}(rs:ef g H S [.bl i] vs):vs=[.bl i]:=by
 cases rs with
 |cons r1 rs=>cases rs;rw[r1.bl]
theorem w8:zq X (.builtin "abs") (rB1 g .abs):=dN xA λS ds d vs H Q hs rs h q=>by
 obtain⟨x,rfl,h'⟩:=fS (λ_ _=>rfl) h;rcases lq h' with ⟨i,rfl,h'⟩|⟨i,rfl,h'⟩
 ·cases h';exact⟨i,kr rs,q _ _ (qf.refl _) (.int _) (by simp)⟩
 ·cases h'
theorem sg:zq X (.type "int") (rB1 g .int):=dN Dj λS ds d vs H Q hs rs h q=>by
 obtain⟨x,rfl,h'⟩:=fS (λ_ _=>rfl) h;rcases lq h' with ⟨i,rfl,h'⟩|⟨i,rfl,h'⟩
 ·cases h';exact .inl ⟨i,kr rs,q _ _ (qf.refl _) (.int _) (by simp)⟩
 ·cases h';exact .inr ⟨i,nc rs,q _ _ (qf.refl _) (.int _) (by simp)⟩
theorem xa:zq X (.type "bool") (rB1 g .bool):=dN uq λS ds d vs H Q hs rs h q=>by
 obtain⟨x,rfl,h'⟩:=fS (λ_ _=>rfl) h;rcases lq h' with ⟨i,rfl,h'⟩|⟨i,rfl,h'⟩
 ·cases h';exact .inl ⟨i,kr rs,q _ _ (qf.refl _) (.bl _) (by simp)⟩
 ·cases h';exact .inr ⟨i,nc rs,q _ _ (qf.refl _) (.bl _) (by simp)⟩
theorem AE(hK:X.K=g.K)(hc:X.calm=true):zq X (.builtin "sum") (rB1 g .sum):=dN (wX hc) λS ds d vs H Q hs rs h q=>by
 obtain⟨x,rfl,h'⟩:=fS (λ_ _=>rfl) h;obtain⟨xs,rfl,h'⟩:=jx h';obtain⟨ns,e,h'⟩:=ja h';cases h';cases rs with
 |cons r rs=>
  cases rs;obtain⟨a,us,rfl,h1,r1⟩:=r.lst;obtain⟨rfl,rfl⟩:=r1.ints e;exact⟨a,ns,rfl,by rw[hK];exact h1,q _ _ (qf.refl _) (.int _) (by simp)⟩
theorem mG(hK:X.K=g.K)(hu:X.A.units+64<cLine):∀b,(X.calm=true\/b=.len\/b=.abs\/b=.tuple\/b=.list\/b=.int\/b=.bool)->zq X (b1V b) (rB1 g b)
 | .len,_=>Dg hK
 | .tuple,_=>CZ hK
 | .list,_=>CM hK
 | .sorted,h=>xY hK hu (by simpa using h)
 | .all,h=>mv hK (by simpa using h) true
 | .any,h=>mv hK (by simpa using h) false
 | .sum,h=>AE hK (by simpa using h)
 | .min,h=>lR hK (by simpa using h) false
 | .max,h=>lR hK (by simpa using h) true
 | .abs,_=>w8
 | .int,_=>sg
 | .bool,_=>xa
theorem m4{H:Hp}{ds:List D}{vs:List V}(r:qZ g H ds vs):ds.isEmpty=vs.isEmpty:=by cases r<;>rfl
theorem xf(hK:X.K=g.K){S:Sh}{H:Hp}{d:D}{v:V}{b:Bool}(r:zJ g H S d v)(e:truth d=.ok b):kG X.K v H b:=by
 cases d with
 |non=>cases r.rep;cases e;exact rfl
 |bl c=>cases r.rep;cases e;exact rfl
 |int i=>cases r.rep;cases e;exact rfl
 |tup xs=>
  cases e;obtain⟨a,vs,rfl,h1,r1⟩:=r.tup;exact .inr (.inl ⟨vs,by rw[hK];exact h1,by rw[m4 r1]⟩)
 |lst xs=>
  cases e;obtain⟨a,vs,rfl,h1,r1⟩:=r.lst;exact .inl ⟨vs,by rw[hK];exact h1,by rw[m4 r1]⟩
 |_=>cases e
theorem vQ(hK:X.K=g.K):zq X (.builtin "isinstance") (λxs H Q=>∃S d v n t,xs=[v,.ty n]/\zJ g H S d v/\tyD d=some t/\n∈["int","bool","str","list","tuple"]/\Q (.bl (fO t n)) H):=by
 intro pins s σ H xs us Q I r h;obtain⟨S,d,v,n,t,rfl,rd,ht,hn,q⟩:=h;obtain⟨u,cu,rfl,rx,rc⟩:=r.two;cases rc;have fin:∀tk,EP X pins σ Q (.bool (fO t n)) {s with toks:=tk}:=λtk=>⟨.bl _,H,I.tok tk,rfl,q⟩
 have kb:t∈["NoneType","bool","int","str","list","tuple","dict"]->bf X.K (.type t) (.type n)=some (fO t n):=λh=>Dr h hn
 cases d with
 |non=>cases ht;cases rd.rep;exact gI I rx .non (kb (by simp)) fin
 |bl c=>cases ht;cases rd.rep;exact gI I rx (.bl c) (kb (by simp)) fin
 |int i=>cases ht;cases rd.rep;exact gI I rx (.int i) (kb (by simp)) fin
 |str i=>cases ht;cases rd.rep;exact gI I rx (.str i) (kb (by simp)) fin
 |tup xs=>
  cases ht;obtain⟨a,vs,rfl,h1,_⟩:=rd.tup;cases rx;obtain⟨its,_,⟨o,e1,e2,_⟩,_⟩:=I.tuple (by rw[hK];exact h1);exact bH PySem.W.kitx_tuple I.kIn ⟨o,e1,e2⟩ (kb (by simp)) (λz=>nomatch z) fin
 |lst xs=>
  cases ht;obtain⟨a,vs,rfl,h1,_⟩:=rd.lst;cases rx;obtain⟨its,_,pl,_⟩:=I.list (by rw[hK];exact h1);obtain⟨o,e1,e2,_⟩:=pl.isList;exact bH PySem.W.kitx_list I.kIn ⟨o,e1,e2⟩ (kb (by simp)) (λz=>nomatch z) fin
 |dic=>
  cases ht;cases rd.rep with
  |dic h1=>exact gI I rx (.dK h1) (kb (by simp)) fin
 |_=>cases ht
end
theorem CI{o:O2}{a b:Int}{c:Str}:opI o a b≠.ex c:=by
 cases o<;>simp only[opI]<;>(try split)<;>intro h<;>cases h
theorem CF{o:O2}{a b:D}{c:Str}:op2 o a b≠.ex c:=by
 unfold op2;split
 ·exact CI
 all_goals ((try split)<;>intro h<;>cases h)
theorem Bv{n:Bool}{a b:D}{c:Str}:isB n a b≠.ex c:=by
 unfold isB;split<;>intro h<;>cases h
theorem pA{a b:D}{c:Str}:dq a b≠.ex c:=by
 unfold dq;split<;>(try split)<;>intro h<;>cases h
theorem vD{a b:D}{c:Str}:((dq a b).bind λr=>R.ok !r)≠.ex c:=by
 intro h;cases e:dq a b with
 |ok r=>rw[e]at h;cases h
 |ex z=>exact pA e
 |no=>rw[e]at h;cases h
theorem vV{o:C2}{a b:D}{c:Str}:qi o a b≠.ex c:=by
 unfold qi;split<;>(try split)<;>(try split)<;>intro h<;>first|(cases h;done)|exact Bv h|exact pA h|exact vD h
theorem A5{a:D}{c:Str}:truth a≠.ex c:=by
 unfold truth;split<;>intro h<;>cases h
theorem vZ{a b:D}{c:Str}:ixD a b≠.ex c:=by
 unfold ixD;split<;>(try split)<;>intro h<;>cases h
theorem Dc{a:D}{l h:Option Int}{c:Str}:slD a l h≠.ex c:=by
 unfold slD;split<;>(try split)<;>intro h<;>cases h
theorem iV{x:D}{k:List D->R D}{c:Str}(h:∀xs,k xs≠.ex c):de x k≠.ex c:=by
 cases x with
 |lst xs=>exact h xs
 |_=>intro z;cases z
theorem kg{x:D}{f:Int->R D}{q:Bool->R D}{c:Str}(h:∀i,f i≠.ex c)(h':∀i,q i≠.ex c):ibR x f q≠.ex c:=by
 cases x with
 |int i=>exact h i
 |bl i=>exact h' i
 |_=>intro z;cases z
theorem rE{x y:D}{k:Int->Int->R D}{c:Str}(h:∀i j,k i j≠.ex c):iiR x y k≠.ex c:=by
 cases x with
 |int i=>
  cases y with
  |int j=>exact h i j
  |_=>intro z;cases z
 |_=>intro z;cases z
theorem fM{α β:Type}{o:Option α}{k:α->R β}{c:Str}(h:∀a,k a≠.ex c):cF o k≠.ex c:=by
 cases o with
 |some a=>exact h a
 |none=>intro z;cases z
theorem cJ{α:Type}{a:α}{c:Str}:R.ok a≠.ex c:=by intro z;cases z
theorem eE{α:Type}{c:Str}:(R.no:R α)≠.ex c:=by intro z;cases z
theorem nh{xs:List D}{c:Str}:eA xs≠.ex c:=eE
theorem A8{b:B1}{d:D}{c:Str}:b11 b d≠.ex c:=by
 cases b with
 |len=>exact fM λ_=>cJ
 |tuple=>exact fM λ_=>cJ
 |list=>exact fM λ_=>cJ
 |all=>exact iV λ_=>fM λ_=>cJ
 |any=>exact iV λ_=>fM λ_=>cJ
 |sorted=>
  by_cases h:∃xs,d=.tup xs
  ·obtain⟨xs,rfl⟩:=h;show (if xs.length<64 then cF (ints? xs) λns=>R.ok (D.lst ((sortI ns).map D.int))else R.no)≠R.ex c;split
   ·exact fM λ_=>cJ
   ·exact eE
  by_cases h':∃kvs,d=.dic kvs
  ·obtain⟨kvs,rfl⟩:=h';show (if kvs.length<64 then R.ok (D.lst ((sortI (kvs.map (·.1))).map D.int))else R.no)≠R.ex c;split
   ·exact cJ
   ·exact eE
  have e:b11 .sorted d=de d λxs=>if xs.length<64 then (match ints? xs with
    |some ns=>.ok (.lst ((sortI ns).map D.int))
    |none=>match pairs? xs with
     |some ps=>.ok (.lst ((zw ps).map pairD))
     |none=>eA xs)else eA xs:=by cases d<;>first|exact absurd ⟨_,rfl⟩ h|exact absurd ⟨_,rfl⟩ h'|rfl
  rw[e];refine iV λ_=>?_
  split
  ·split
   ·exact cJ
   ·split
    ·exact cJ
    ·exact nh
  ·exact nh
 |abs=>exact kg (λ_=>cJ) λ_=>eE
 |int=>exact kg (λ_=>cJ) λ_=>cJ
 |bool=>exact kg (λ_=>cJ) λ_=>cJ
 |sum=>exact iV λ_=>fM λ_=>cJ
 |min=>exact eE
 |max=>exact eE
theorem By{b:B1}{ds:List D}{c:Str}:b1 b ds≠.ex c:=by
 match ds with
 | []=>exact eE
 | [_]=>exact A8
 | [x,y]=>
  cases b with
  |min=>exact rE λ_ _=>cJ
  |max=>exact rE λ_ _=>cJ
  |_=>exact eE
 |_::_::_::_=>exact eE
structure a9(g:Gc)(c:Cc)(e:E)(S:Sh)(H:Hp)(d:D)(v:V)(H':Hp):Prop where
 same:qf H H'
 rb:zJ g H' S d v
 st:esc e=true->Rep g (hid H' S) d v
 fr:fresh c e=true->Fr g H S H' d v
structure SE(g:Gc)(c:Cc)(τ:Env)(σ:L2.St)(H:Hp)(S:Sh):Prop where
 len:τ.length=σ.length
 val:∀(i:Nat) (d:D),τ[i]? = some (some d)->∃v,σ[i]? = some (some v)/\zJ g H S d v/\∀x,c.N[i]? = some x->c.own.contains x=false->Rep g (hid H S) d v
 sub:Sub S H
theorem SE.up{g:Gc}{c:Cc}{τ:Env}{σ:L2.St}{H H':Hp}{S:Sh}(s:SE g c τ σ H S)(e:qf H H'):SE g c τ σ H' S:=
 ⟨s.len,λi d h=>let ⟨v,h1,h2,h3⟩:=s.val i d h;⟨v,h1,h2.mono e,λx a b=>(h3 x a b).mono (qo e)⟩,s.sub.same e⟩
noncomputable def tR{α:Type}(g:Gc)(E:XK)(H:Hp)(r:R α)(k:α->Prop):Prop:=match r with
 | .ok a=>k a
 | .ex c=>∀H' C,qf H H'->g.clA c=some C->E (.ref C) none H'
 | .no=>False
theorem tR.up{α:Type}{g:Gc}{E:XK}{H H':Hp}{r:R α}{k:α->Prop}(h:tR g E H r k)(e:qf H H'):tR g E H' r k:=by
 cases r with
 |ok a=>exact h
 |ex c=>exact λH2 C e2 hc=>h H2 C (e.trans e2) hc
 |no=>exact h
theorem tR.imp{α:Type}{g:Gc}{E:XK}{H:Hp}{r:R α}{k k':α->Prop}(h:tR g E H r k)(i:∀a,k a->k' a):tR g E H r k':=by
 cases r with
 |ok a=>exact i a h
 |ex c=>exact h
 |no=>exact h
section
variable(w:W)(g:Gc)(c:Cc)(E:XK)
noncomputable def tE(e:EV.E):TE:=λσ H Q=>∃τ S,SE g c τ σ H S/\tR g E H (evE w e τ) λd=>∀v H',a9 g c e S H d v H'->Q v H'
noncomputable def tT(t:T):TT:=λσ H Q=>∃τ S,SE g c τ σ H S/\tR g E H (evT w t τ) λb=>∀H',qf H H'->Q b H'
noncomputable def tA(es:Es):TA:=λσ H Q=>∃τ S,SE g c τ σ H S/\tR g E H (zz w es τ) λds=>∀vs H',qf H H'->ef g H' S ds vs->(dW es=true->qZ g (hid H' S) ds vs)->Q vs H'
noncomputable def tOe(o:OE):TO:=λσ H Q=>∃τ S,SE g c τ σ H S/\tR g E H (evO w o τ) λi=>∀H',qf H H'->Q i H'
noncomputable def Goes(g:Gc)(J:L2.It)(ds:List D)(H:Hp)(S:Sh):Prop:=
 (∀i,ds.length<=i->J.stop i H)/\∀i d,ds[i]? = some d->J.go i H/\∀x H',J.yld i H x H'->qf H H'/\Rep g (hid H' S) d x
noncomputable def tIt(it:It):TI:=λσ H R=>∃τ S,SE g c τ σ H S/\tR g E H (evI w it τ) λds=>∀J H',qf H H' ->
 (∀H2 S2,qf H' H2->qf (hid H' S) (hid H2 S2)->Sub S2 H2->Goes g J ds H2 S2)->(owned it=false->∀H2 S2,qf (hid H' S) (hid H2 S2)->Sub S2 H2->Goes g J ds H2 S2)->R J H'
end
theorem PE.imp{X:Cx}{e:Expr}{t t':TE}(h:PE X e t)(i:∀σ H Q,t' σ H Q->t σ H Q):PE X e t':=λpins s σ H Q I q=>h pins s σ H Q I (i _ _ _ q)
theorem PT.imp{X:Cx}{e:Expr}{t t':TT}(h:PT X e t)(i:∀σ H Q,t' σ H Q->t σ H Q):PT X e t':=λpins s σ H Q I q=>h pins s σ H Q I (i _ _ _ q)
theorem PW.imp{X:Cx}{e:Expr}{t t':TT}(h:PW X e t)(i:∀σ H Q,t' σ H Q->t σ H Q):PW X e t':=λwh pins s σ H Q I q=>h wh pins s σ H Q I (i _ _ _ q)
theorem PA.imp{X:Cx}{e:List Expr}{t t':TA}(h:PA X e t)(i:∀σ H Q,t' σ H Q->t σ H Q):PA X e t':=λpos pins s σ H Q I q=>h pos pins s σ H Q I (i _ _ _ q)
theorem PO.imp{X:Cx}{e:Option Expr}{t t':TO}(h:PO X e t)(i:∀σ H Q,t' σ H Q->t σ H Q):PO X e t':=λpins s σ H Q I q=>h pins s σ H Q I (i _ _ _ q)
theorem PI.imp{X:Cx}{tg e:Expr}{t t':TI}(h:PI X tg e t)(i:∀σ H Q,t' σ H Q->t σ H Q):PI X tg e t':=λpins s σ H Q I q=>h pins s σ H Q I (i _ _ _ q)
theorem PS.imp{X:Cx}{e:Stmt}{t t':TS}(h:PS X e t)(i:∀D σ H,t' D σ H->t D σ H):PS X e t':=λpins s σ H Q I q=>h pins s σ H Q I (i _ _ _ q)
theorem PSs.imp{X:Cx}{e:List Stmt}{t t':TS}(h:PSs X e t)(i:∀D σ H,t' D σ H->t D σ H):PSs X e t':=λpins s σ H Q I q=>h pins s σ H Q I (i _ _ _ q)
section
variable{w:W}{g:Gc}{c:Cc}{E:XK}{τ:Env}{σ:L2.St}{H H0:Hp}{S:Sh}
theorem zl{α:Type}{e:EV.E}{f:D->R α}{P:α->Prop}{Q:VK}(se:SE g c τ σ H S)(h:tR g E H ((evE w e τ).bind f) P)(k:∀d v H',evE w e τ=.ok d->a9 g c e S H d v H'->tR g E H' (f d) P->Q v H'):tE w g c E e σ H Q:=by
 refine⟨τ,S,se,?_⟩;cases q:evE w e τ with
 |ok d=>rw[q]at h;exact λv H' p=>k d v H' q p (tR.up h p.same)
 |ex x=>rw[q]at h;exact h
 |no=>rw[q]at h;exact h
theorem ju{α:Type}{t:T}{f:Bool->R α}{P:α->Prop}{Q:Bool->Hp->Prop}(se:SE g c τ σ H S)(h:tR g E H ((evT w t τ).bind f) P)(k:∀b H',evT w t τ=.ok b->qf H H'->tR g E H' (f b) P->Q b H'):tT w g c E t σ H Q:=by
 refine⟨τ,S,se,?_⟩;cases q:evT w t τ with
 |ok d=>rw[q]at h;exact λH' p=>k d H' q p (tR.up h p)
 |ex x=>rw[q]at h;exact h
 |no=>rw[q]at h;exact h
theorem fT{α:Type}{es:Es}{f:List D->R α}{P:α->Prop}{Q:List V->Hp->Prop}(se:SE g c τ σ H S)(h:tR g E H ((zz w es τ).bind f) P)
  (k:∀ds vs H',zz w es τ=.ok ds->qf H H'->ef g H' S ds vs->(dW es=true->qZ g (hid H' S) ds vs)->tR g E H' (f ds) P->Q vs H'):tA w g c E es σ H Q:=by
 refine⟨τ,S,se,?_⟩;cases q:zz w es τ with
 |ok d=>rw[q]at h;exact λvs H' p r r'=>k d vs H' q p r r' (tR.up h p)
 |ex x=>rw[q]at h;exact h
 |no=>rw[q]at h;exact h
theorem mi{α:Type}{o:OE}{f:Option Int->R α}{P:α->Prop}{Q:Option Int->Hp->Prop}(se:SE g c τ σ H S)(h:tR g E H ((evO w o τ).bind f) P)(k:∀b H',evO w o τ=.ok b->qf H H'->tR g E H' (f b) P->Q b H'):tOe w g c E o σ H Q:=by
 refine⟨τ,S,se,?_⟩;cases q:evO w o τ with
 |ok d=>rw[q]at h;exact λH' p=>k d H' q p (tR.up h p)
 |ex x=>rw[q]at h;exact h
 |no=>rw[q]at h;exact h
theorem a9.of{e:EV.E}{d:D}{v:V}{H':Hp}(s:qf H H')(r:Rep g (hid H' S) d v)(f:fresh c e=false):a9 g c e S H d v H':=⟨s,.inl r,λ_=>r,λz=>by rw[f]at z;cases z⟩
theorem a9.new{e:EV.E}{d:D}{v:V}{H':Hp}(s:qf H H')(r:Rep g (hid H' S) d v)(f:Fr g H S H' d v):a9 g c e S H d v H':=⟨s,.inl r,λ_=>r,λ_=>f⟩
theorem Fr.low{d:D}{v:V}{H1 H':Hp}(f:Fr g H1 S H' d v)(e:qf H H1):Fr g H S H' d v:=by
 obtain⟨a,o,h1,h3,h4,h5⟩:=f;exact⟨a,o,h1,e.free h3,h4,h5⟩
end
noncomputable def b1N:B1->Str
 | .len=>"len"
 | .tuple=>"tuple"
 | .list=>"list"
 | .sorted=>"sorted"
 | .all=>"all"
 | .any=>"any"
 | .sum=>"sum"
 | .min=>"min"
 | .max=>"max"
 | .abs=>"abs"
 | .int=>"int"
 | .bool=>"bool"
theorem r_:∀b,bB (b1N b)=some (b1V b)
 | .len | .tuple | .list | .sorted | .all | .any | .sum | .min | .max | .abs | .int | .bool=>by decide +kernel
noncomputable def spF(w:W)(g:Gc)(x:Str)(fr:Bool):Sp:=λvs H Q E=>∃S ds,Sub S H/\qZ g (hid H S) ds vs /\
 tR g E H (w.call x ds) λd=>∀v H',qf H H'->Rep g (hid H' S) d v->(fr=true->Fr g H S H' d v)->Q v H'
structure iR(w:W)(g:Gc)(P:av)(wl:au)(mg:Str->Option ae)(base:Heap)(A:aw)(calm:Bool)(x:Str)(f:Addr)(fr:Bool):Prop where
 at_:mg x=some (.ref f)
 kp:cA g.K (.ref f)=true
 fn:∃k fd ps,Binds g.K fd ps []/\((calm=true/\eU P wl g.K mg base (CX1 P wl) k f fd ps (spF w g x fr)/\cb k A)\/(calm=false/\hZ P wl g.K mg base (CX1 P wl) k f fd ps (spF w g x fr)/\dX k A))
noncomputable def GM(w:W)(g:Gc)(P:av)(wl:au)(mg:Str->Option ae)(base:Heap)(A:aw)(calm:Bool)(x:Str):GK->Prop
 | .fn fr=>∃f,g.fnA x=some f/\iR w g P wl mg base A calm x f fr
 | .val=>∃u v d,mg x=some u/\RelV v u/\w.glb x=some d/\∀H,Rep g H d v
 | .bi b=>mg x=none/\x=b1N b/\∃id,b1V b=.builtin id
 | .rng=>mg x=none/\x = "range"
 | .enum=>mg x=none/\x = "enumerate"
 | .zip=>mg x=none/\x = "zip"
 | .isi=>mg x=none/\x = "isinstance"
 | .ty n b=>mg x=none/\bB x=some (.type n)/\(n∈["int","bool","str","list","tuple"]\/n = "ValueError")/\∀b',b=some b'->x=b1N b'/\b1V b'=.type n
 | .exc=>∃C,mg x=some (.ref C)/\g.clA x=some C
 | .exk=>∃C,mg x=some (.ref C)/\g.clA x=some C
 | .set=>mg x=none/\bB x=some (.type "set")
structure XO(w:W)(g:Gc)(c:Cc)(E:XK)(X:Cx):Prop where
 K:X.K=g.K
 nm:X.env.scope.names=c.nm
 N:X.N=c.N
 nd:c.N.Nodup
 calm:c.calm=true->X.calm=true
 units:X.A.units+64<cLine
 fn:∀x,(c.fnc=true\/c.oc.contains x=true)->X.fn x=true
 kind:X.env.scope.kind=.function
 pass:Passes (CX1 X.prog X.w) X E
 gok:∀x k,c.G.lookup x=some k->GM w g X.prog X.w X.mg X.base X.A X.calm x k
 fns:X.calm=true->∀x f,g.fnA x=some f->∃fr,iR w g X.prog X.w X.mg X.base X.A X.calm x f fr
 -- what isinstance says of a caught error
 sub:∀k cl b,w.sub k cl=some b->∃C cv,g.clA k=some C/\cV g.K C/\bf g.K (.ref C) cv=some b/\match cl with
  | .ty n=>n = "ValueError"/\cv=.type n
  | .ex x=>∃D,g.clA x=some D/\cv=.ref D
section
variable{w:W}{g:Gc}{c:Cc}{E:XK}{X:Cx}
theorem zy{x:Str}{i:Nat}(h:loc c x=some i):c.N[i]? = some x/\(c.nm.lookup x=some .local\/c.nm.lookup x=some .cell\/c.nm.lookup x=some .free)/\(x==("__debug__" : Str))=false/\(x==("__classdict__" : Str))=false:=by
 unfold loc at h;split at h
 ·cases h
 ·rename_i hd
  have hd':(x==("__debug__" : Str))=false/\(x==("__classdict__" : Str))=false:=by simpa using hd
  have fin:∀{j},(if c.N[j]? = some x then some j else none)=some i->c.N[i]? = some x:=λ{j} z=>by
   split at z
   ·cases z;assumption
   ·cases z
  split at h
  ·rename_i q;exact⟨fin h,.inl q,hd'⟩
  ·rename_i q;exact⟨fin h,.inr (.inl q),hd'⟩
  ·rename_i q;exact⟨fin h,.inr (.inr q),hd'⟩
  ·cases h
theorem zt{x:Str}{k:GK}(h:glob c x=some k):c.nm.lookup x=some .globalImplicit/\c.G.lookup x=some k/\(x==("__debug__" : Str))=false/\x≠"__name__":=by
 unfold glob at h;split at h
 ·cases h
 ·rename_i hd
  have hd':(x==("__debug__" : Str))=false/\(x==("__name__" : Str))=false:=by simpa using hd
  split at h
  ·rename_i q;exact⟨q,h,hd'.1,by simpa using hd'.2⟩
  ·cases h
theorem XO.gl(O:XO w g c E X){x:Str}{k:GK}(h:glob c x=some k):Gl X x:=by
 show X.env.scope.names.lookup x=_;rw[O.nm];exact(zt h).1
theorem XO.gm(O:XO w g c E X){x:Str}{k:GK}(h:glob c x=some k):GM w g X.prog X.w X.mg X.base X.A X.calm x k:=O.gok x k (zt h).2.1
theorem qh{e:Expr}{es:List Expr}{env:PySem.Env}(h:isStar e=false):aL (e::es) env=(false,eval e env)::aL es env:=by
 cases e<;>first|rfl|(simp[isStar]at h)
theorem iO{es:List Expr}{env:PySem.Env}{pos:Pos}:(∀e∈es,isStar e=false)->(backTo pos (aL es env)).any (·.1)=false:=by
 induction es with
 |nil=>intro _;rfl
 |cons e es ih=>
  intro h;rw[qh (h e aJ)];show (false||(backTo pos (aL es env)).any (·.1))=false;rw[ih λe he=>h e (aK _ he)]
  rfl
theorem ff:∀{n:Nat}{es:List Expr}{ir:Es},cEs n c es=some ir->∀e∈es,isStar e=false
 | 0,_,_,h=>by simp[cEs]at h
 |n+1,[],_,_=>by simp
 |n+1,e::es,ir,h=>by
  simp only[cEs]at h;cases hs:isStar e with
  |true=>simp[hs]at h
  |false=>
   simp only[hs,bZ,if_false,aC,aA]at h;obtain⟨_,_,r,hr,_⟩:=h;intro x hx;rcases aE.mp hx with rfl|hx
   ·exact hs
   ·exact ff hr x hx
theorem nR{x:Str}{f:Addr}{fr:Bool}{e:Expr}{es:List Expr}{p pos:Pos}{t:TA}(O:XO w g c E X)(C:iR w g X.prog X.w X.mg X.base X.A X.calm x f fr)(hg:Gl X x)(hd:(x==("__debug__" : Str))=false)(ha:PA X (e::es) t)
  (hs:∀z∈e::es,isStar z=false):PE X (.Call (.Name x p) (e::es) [] pos) (kc (spF w g x fr) [] E t):=by
 obtain⟨k,fd,ps,hb,h⟩:=C.fn;have he:=qh (es:=es) (env:=X.env) (hs e aJ);have hp:=iO (env:=X.env) (pos:=pos) λz hz=>hs z (aK _ hz)
 rw[<-O.K]at hb h;rcases h with ⟨_,F,r⟩|⟨_,F,r⟩
 ·exact Bu F r hg C.at_ (by rw[O.K];exact C.kp) hb .nil O.pass ha hd he hp
 ·exact wZ F r hg C.at_ (by rw[O.K];exact C.kp) hb .nil O.pass ha hd he hp
end
end EV
namespace L2
open PySem PySem.Spec PyProof.Rows
section
variable{X:Cx}
end
end L2
namespace EV
open PySem PySem.Spec PySem.P PyProof.Rows L2
section
variable{w:W}{g:Gc}{c:Cc}{E:XK}{X:Cx}{a b d f:Expr}{ia ib id' if':EV.E}{pos p2:Pos}{ta tb:T}
theorem jA{e:Expr}{v:V}{dd:D}(h:PE X e (tC v))(r:∀H,Rep g H dd v):PE X e (tE w g c E (.con dd)):=PE.imp h λσ H Q ⟨τ,S,se,k⟩=>k v H (a9.of (qf.refl _) (r _) rfl)
theorem lg{x:Str}{i:Nat}(O:XO w g c E X)(h:loc c x=some i):PE X (.Name x pos) (tE w g c E (if c.own.contains x then .own i else .var i)):=by
 obtain⟨h1,h2,h3,h4⟩:=zy h;refine PE.imp (fP (i:=i) (by rw[O.N];exact h1) (by unfold eB;rw[O.nm];exact h2) h3 h4) λσ H Q ⟨τ,S,se,k⟩=>?_
 have key:∀e,evE w e τ=zM τ i->fresh c e=false->(esc e=true->c.own.contains x=false)->tR g E H (evE w e τ) (λd=>∀v H',a9 g c e S H d v H'->Q v H')->fi i σ H Q:=λe e1 e2 e3 k=>by
  rw[e1]at k;unfold zM at k;cases q:τ[i]? with
  |none=>rw[q]at k;exact k.elim
  |some o=>
   cases o with
   |none=>rw[q]at k;exact k.elim
   |some d=>
    rw[q]at k;obtain⟨v,z1,z2,z3⟩:=se.val i d q;exact⟨v,z1,k v H ⟨qf.refl _,z2,λz=>z3 x h1 (e3 z),λz=>by rw[e2]at z;cases z⟩⟩
 cases ho:c.own.contains x with
 |true=>rw[ho]at k;exact key (.own i) (by simp[zg,zb,zc,zh,zk,zf,za,zm,ze,qq,qw,qF,qA,qx,qM,qD,qH,qu,qC,qB,qN,qp,qG,qK,qy,qr,qI,qQ,qT,qt,qE,qO,qR,qJ,qS,qL,qV,qU,qP]) rfl (by intro z;cases z) k
 |false=>rw[ho]at k;exact key (.var i) (by simp[zg,zb,zc,zh,zk,zf,za,zm,ze,qq,qw,qF,qA,qx,qM,qD,qH,qu,qC,qB,qN,qp,qG,qK,qy,qr,qI,qQ,qT,qt,qE,qO,qR,qJ,qS,qL,qV,qU,qP]) rfl (λ_=>ho) k
theorem rY{x:Str}(O:XO w g c E X)(h:glob c x=some .val):PE X (.Name x pos) (tE w g c E (.glb x)):=by
 obtain⟨u,v,d,h1,h2,h3,h4⟩:=O.gm h;refine PE.imp (kE (O.gl h) h1 h2 (zt h).2.2.1) λσ H Q ⟨τ,S,se,k⟩=>?_
 simp only[zg,zb,zc,zh,zk,zf,za,zm,ze,qq,qw,qF,qA,qx,qM,qD,qH,qu,qC,qB,qN,qp,qG,qK,qy,qr,qI,qQ,qT,qt,qE,qO,qR,qJ,qS,qL,qV,qU,qP,h3]at k;exact k v H (a9.of (qf.refl _) (h4 _) rfl)
theorem tI{x:Str}{fr:Bool}(O:XO w g c E X)(h:glob c x=some (.fn fr)):PE X (.Name x pos) (tE w g c E (.fnv x)):=λpins s σ H Q I ⟨τ,S,se,kk⟩=>by
 simp only[zg,zb,zc,zh,zk,zf,za,zm,ze,qq,qw,qF,qA,qx,qM,qD,qH,qu,qC,qB,qN,qp,qG,qK,qy,qr,qI,qQ,qT,qt,qE,qO,qR,qJ,qS,qL,qV,qU,qP]at kk;exact aQ kk
theorem pj{τ:EV.Env}{e:EV.E}{d:D}(h:isL e=true)(he:evE w e τ=.ok d):pW d=true:=by
 cases e<;>first|(cases h;done)|skip
 ·simp only[zg,zb,zc,zh,zk,zf,za,zm,ze,qq,qw,qF,qA,qx,qM,qD,qH,qu,qC,qB,qN,qp,qG,qK,qy,qr,qI,qQ,qT,qt,qE,qO,qR,qJ,qS,qL,qV,qU,qP]at he;cases q:zz w ‹_› τ with
  |ok ds=>rw[q]at he;cases he;rfl
  |ex z=>rw[q]at he;cases he
  |no=>rw[q]at he;cases he
 ·simp only[zg,zb,zc,zh,zk,zf,za,zm,ze,qq,qw,qF,qA,qx,qM,qD,qH,qu,qC,qB,qN,qp,qG,qK,qy,qr,qI,qQ,qT,qt,qE,qO,qR,qJ,qS,qL,qV,qU,qP]at he;cases he
 ·simp only[zg,zb,zc,zh,zk,zf,za,zm,ze,qq,qw,qF,qA,qx,qM,qD,qH,qu,qC,qB,qN,qp,qG,qK,qy,qr,qI,qQ,qT,qt,qE,qO,qR,qJ,qS,qL,qV,qU,qP]at he;cases q:evI w ‹_› τ with
  |ok ds=>
   rw[q]at he;simp only[R.bind_ok]at he;split at he
   ·cases he
   ·generalize cG _ _ _ _=r at he;cases r with
    |ok o=>cases he;rfl
    |ex z=>cases he
    |no=>cases he
  |ex z=>rw[q]at he;cases he
  |no=>rw[q]at he;cases he
theorem u9(O:XO w g c E X){op:Operator}{o:O2}(ho:o2 op=some o)(ha:PE X a (tE w g c E ia))(hb:PE X b (tE w g c E ib)):PE X (.BinOp a op b pos) (tE w g c E (.op o ia ib)):=
 PE.imp (tZ (Co O.K ho) ha hb) λσ H Q ⟨τ,S,se,k⟩=>by
  simp only[zg,zb,zc,zh,zk,zf,za,zm,ze,qq,qw,qF,qA,qx,qM,qD,qH,qu,qC,qB,qN,qp,qG,qK,qy,qr,qI,qQ,qT,qt,qE,qO,qR,qJ,qS,qL,qV,qU,qP]at k;refine zl se k λda va H1 e1 p1 k1=>zl (se.up p1.same) k1 λdb vb H2 e2 p2 k2=>⟨S,da,db,(se.up (p1.same.trans p2.same)).sub,p1.rb.mono p2.same,p2.rb,?_⟩
  cases q:op2 o da db with
  |ok r=>
   rw[q]at k2;exact λv H' s r f=>k2 v H' ⟨(p1.same.trans p2.same).trans s,.inl r,λ_=>r,λz=>by
    simp only[fresh,bG,aG,beq_iff_eq]at z;refine(f ?_).low (p1.same.trans p2.same);rcases z with z|⟨rfl,z⟩
    ·exact pj z.2 e1
    ·have:=pj z e2;cases db<;>first|(cases this;done)|skip
     cases da<;>first|rfl|(cases q;done)⟩
  |ex z=>exact CF q
  |no=>rw[q]at k2;exact k2
theorem wc(ha:PE X a (tE w g c E ia)):PE X (.UnaryOp .USub a pos) (tE w g c E (.neg ia)):=
 PE.imp (xG CB ha) λσ H Q ⟨τ,S,se,k⟩=>by
  simp only[zg,zb,zc,zh,zk,zf,za,zm,ze,qq,qw,qF,qA,qx,qM,qD,qH,qu,qC,qB,qN,qp,qG,qK,qy,qr,qI,qQ,qT,qt,qE,qO,qR,qJ,qS,qL,qV,qU,qP]at k;refine zl se k λda va H1 e1 p1 k1=>?_
  cases da with
  |int i=>exact⟨i,p1.rb.int,k1 _ _ (a9.of p1.same (.int _) rfl)⟩
  |_=>exact k1.elim
theorem rR(O:XO w g c E X)(ix:Bool){x:Str}{i:Nat}{ap cp p q:Pos}{kk:Nat}(h:loc c x=some i)(hl:(ap.endLine==cp.line)=true) :
  PE X (.Call (.Attribute (.Name x p) (if ix then "index" else "count") ap) [.Constant (.bool true) kk q] [] cp) (tE w g c E (.mth ix (if c.own.contains x then .own i else .var i))):=by
 have hst:=qh (e:=.Constant (.bool true) kk q) (es:=[]) (env:=X.env) rfl;have pa:PA X [.Constant (.bool true) kk q] _:=zE pK c_ hst;have hK:=O.K;cases ix with
 |false=>
  refine PE.imp (gb (X:=X) (apos:=ap) (cpos:=cp) PySem.F.plainAttrs_list PySem.F.slot_list_count (by rfl) yE (lg O h) pa rfl (by rw[hst];rfl) hl hst rfl) λσ H Q ⟨τ,S,se,k⟩=>?_
  simp only[zg,zb,zc,zh,zk,zf,za,zm,ze,qq,qw,qF,qA,qx,qM,qD,qH,qu,qC,qB,qN,qp,qG,qK,qy,qr,qI,qQ,qT,qt,qE,qO,qR,qJ,qS,qL,qV,qU,qP]at k;refine zl se k λda va H1 e1 p1 k1=>?_
  cases da with
  |lst xs=>
   obtain⟨a,vs,rfl,h1,h2⟩:=p1.rb.lst;simp only[jn,de]at k1;cases e:bools? xs with
   |none=>rw[e]at k1;exact k1.elim
   |some bs=>
    rw[e]at k1;have:=h2.bools e;subst this;exact⟨.inl ⟨rfl,_,by rw[hK];exact h1⟩,a,bs,rfl,rfl,by rw[hK];exact h1,k1 _ _ (a9.of p1.same (.int _) rfl)⟩
  |_=>exact k1.elim
 |true=>
  refine PE.imp (gb (X:=X) (apos:=ap) (cpos:=cp) PySem.F.plainAttrs_list PySem.F.slot_list_index (by rfl) xg (lg O h) pa rfl (by rw[hst];rfl) hl hst rfl) λσ H Q ⟨τ,S,se,k⟩=>?_
  simp only[zg,zb,zc,zh,zk,zf,za,zm,ze,qq,qw,qF,qA,qx,qM,qD,qH,qu,qC,qB,qN,qp,qG,qK,qy,qr,qI,qQ,qT,qt,qE,qO,qR,qJ,qS,qL,qV,qU,qP]at k;refine zl se k λda va H1 e1 p1 k1=>?_
  cases da with
  |lst xs=>
   obtain⟨a,vs,rfl,h1,h2⟩:=p1.rb.lst;simp only[jn,de]at k1;cases e:bools? xs with
   |none=>rw[e]at k1;exact k1.elim
   |some bs=>
    rw[e]at k1;have:=h2.bools e;subst this;simp only[cF]at k1;rw[if_pos trivial]at k1;cases ej:bs.findIdx? id with
    |none=>rw[ej]at k1;exact k1.elim
    |some j=>
     rw[ej]at k1;exact⟨.inl ⟨rfl,_,by rw[hK];exact h1⟩,a,bs,j,rfl,rfl,by rw[hK];exact h1,ej,k1 _ _ (a9.of p1.same (.int _) rfl)⟩
  |_=>exact k1.elim
theorem xr(O:XO w g c E X){o:Expr}{m:Str}{ap cp:Pos}{as:List Expr}{e:EV.E}(h:cMt c o m ap as cp=some e):PE X (.Call (.Attribute o m ap) as [] cp) (tE w g c E e):=by
 unfold cMt at h;split at h
 ·split at h
  ·split at h
   ·split at h
    ·split at h
     ·rename_i hx
      split at h
      ·rename_i hb
       simp only[aG]at hb;obtain⟨rfl,hl⟩:=hb;split at h
       ·rename_i hm
        subst hm;cases h;exact rR O false hx hl
       ·split at h
        ·rename_i hm
         subst hm;cases h;exact rR O true hx hl
        ·cases h
      ·cases h
     ·cases h
    ·cases h
   ·cases h
  ·cases h
 ·cases h
theorem nJ{o:Expr}{m:Str}(h:baseOk o=true):attributeBase o m X.env (eval o X.env)=eval o X.env:=by
 unfold baseOk at h;split at h
 ·rfl
 ·rfl
 ·cases h
theorem xP(O:XO w g c E X){o:Expr}{ap cp:Pos}(hb:baseOk o=true)(ho:PE X o (tE w g c E ia))(ha:PE X a (tE w g c E ib))(hs:isStar a=false)(hl:(ap.endLine==cp.line)=true) :
  PE X (.Call (.Attribute o "count" ap) [a] [] cp) (tE w g c E (.cnt ia ib)):=λpins s σ H Q I ⟨τ,S,se,kk⟩=>by
 simp only[zg,zb,zc,zh,zk,zf,za,zm,ze,qq,qw,qF,qA,qx,qM,qD,qH,qu,qC,qB,qN,qp,qG,qK,qy,qr,qI,qQ,qT,qt,qE,qO,qR,qJ,qS,qL,qV,qU,qP]at kk;exact aQ kk
theorem B3(ha:PE X a (tE w g c E ia)):PE X (.UnaryOp .Invert a pos) (tE w g c E (.inv ia)):=λpins s σ H Q I ⟨τ,S,se,kk⟩=>by
 simp only[zg,zb,zc,zh,zk,zf,za,zm,ze,qq,qw,qF,qA,qx,qM,qD,qH,qu,qC,qB,qN,qp,qG,qK,qy,qr,qI,qQ,qT,qt,qE,qO,qR,qJ,qS,qL,qV,qU,qP]at kk;exact aQ kk
theorem x_(ha:PE X a (tE w g c E ia)):PE X (.UnaryOp .Not a pos) (tE w g c E (.not ia)):=
 PE.imp (B2 ha) λσ H Q ⟨τ,S,se,k⟩=>by
  simp only[zg,zb,zc,zh,zk,zf,za,zm,ze,qq,qw,qF,qA,qx,qM,qD,qH,qu,qC,qB,qN,qp,qG,qK,qy,qr,qI,qQ,qT,qt,qE,qO,qR,qJ,qS,qL,qV,qU,qP]at k;refine zl se k λda va H1 e1 p1 k1=>?_
  cases da with
  |bl i=>exact⟨i,p1.rb.bl,k1 _ _ (a9.of p1.same (.bl _) rfl)⟩
  |_=>exact k1.elim
theorem a9.pass{e e':EV.E}{S:Sh}{H H1 H':Hp}{dd:D}{v:V}(s:qf H H1)(p:a9 g c e S H1 dd v H')(h:esc e=true)(f:fresh c e'=false):a9 g c e' S H dd v H':=a9.of (s.trans p.same) (p.st h) f
theorem BE{rest:List Expr}{ir:EV.E}(ha:PE X a (tE w g c E ia))(hb:PE X (.BoolOp .And (b::rest) pos) (tE w g c E ir))(he:esc ir=true):PE X (.BoolOp .And (a::b::rest) pos) (tE w g c E (.and ia ir)):=
 PE.imp (DA ha hb) λσ H Q ⟨τ,S,se,k⟩=>by
  simp only[zg,zb,zc,zh,zk,zf,za,zm,ze,qq,qw,qF,qA,qx,qM,qD,qH,qu,qC,qB,qN,qp,qG,qK,qy,qr,qI,qQ,qT,qt,qE,qO,qR,qJ,qS,qL,qV,qU,qP]at k;refine zl se k λda va H1 e1 p1 k1=>?_
  cases da with
  |bl i=>
   refine⟨i,p1.rb.bl,?_⟩;cases i with
   |true=>
    refine⟨τ,S,se.up p1.same,tR.imp k1 λd hk v H' p=>hk v H' (p.pass p1.same he rfl)⟩
   |false=>exact k1 _ _ (a9.of p1.same (.bl _) rfl)
  |_=>exact k1.elim
theorem CU{rest:List Expr}{ir:EV.E}(ha:PE X a (tE w g c E ia))(hb:PE X (.BoolOp .Or (b::rest) pos) (tE w g c E ir))(he:esc ir=true):PE X (.BoolOp .Or (a::b::rest) pos) (tE w g c E (.or ia ir)):=
 PE.imp (wW ha hb) λσ H Q ⟨τ,S,se,k⟩=>by
  simp only[zg,zb,zc,zh,zk,zf,za,zm,ze,qq,qw,qF,qA,qx,qM,qD,qH,qu,qC,qB,qN,qp,qG,qK,qy,qr,qI,qQ,qT,qt,qE,qO,qR,qJ,qS,qL,qV,qU,qP]at k;refine zl se k λda va H1 e1 p1 k1=>?_
  cases da with
  |bl i=>
   refine⟨i,p1.rb.bl,?_⟩;cases i with
   |false=>
    refine⟨τ,S,se.up p1.same,tR.imp k1 λd hk v H' p=>hk v H' (p.pass p1.same he rfl)⟩
   |true=>exact k1 _ _ (a9.of p1.same (.bl _) rfl)
  |_=>exact k1.elim
theorem gy{op:CmpOp}{b:Expr}(h:zA b=true):behindInMarks op b=false:=by cases b<;>first|rfl|(simp[zA]at h)
theorem dJ{o:C2}{S:Sh}{H:Hp}{da db:D}{va vb:V}{r:R Bool}{P:Bool->Prop}{Q:VK}(ra:zJ g H S da va)(rb:zJ g H S db vb)(q:tR g E H (qi o da db) P)(k:∀z,qi o da db=.ok z->P z->Q (.bl z) H):rCm g o va vb H Q:=by
 refine⟨S,da,db,ra,rb,?_⟩;cases e:qi o da db with
 |ok z=>rw[e]at q;exact k z e q
 |ex z=>exact vV e
 |no=>rw[e]at q;exact q
theorem tR.bnd{α β:Type}{H:Hp}{r:R α}{f:α->R β}{P:β->Prop}(h:tR g E H (r.bind f) P):tR g E H r λa=>tR g E H (f a) P:=by
 cases r with
 |ok a=>exact h
 |ex z=>exact h
 |no=>exact h
theorem wt(O:XO w g c E X){op:CmpOp}(ha:PE X a (tE w g c E ia))(hb:PE X b (tE w g c E ib))(hs:zA b=true):PE X (.Compare a [op] [b] pos) (tE w g c E (.cmp (c2 op) ia ib)):=
 PE.imp (BX (dF O.K O.units op) ha hb (gy hs)) λσ H Q ⟨τ,S,se,k⟩=>by
  simp only[zg,zb,zc,zh,zk,zf,za,zm,ze,qq,qw,qF,qA,qx,qM,qD,qH,qu,qC,qB,qN,qp,qG,qK,qy,qr,qI,qQ,qT,qt,qE,qO,qR,qJ,qS,qL,qV,qU,qP]at k;refine zl se k λda va H1 e1 p1 k1=>zl (se.up p1.same) k1 λdb vb H2 e2 p2 k2=>?_
  exact dJ (r:=.no) (p1.rb.mono p2.same) p2.rb (tR.bnd k2) λz _ q=>q _ _ (a9.of (p1.same.trans p2.same) (.bl _) rfl)
theorem Bd(O:XO w g c E X){op:CmpOp}(ha:PE X a (tE w g c E ia))(hb:PE X b (tE w g c E ib))(hs:zA b=true):PT X (.Compare a [op] [b] pos) (tT w g c E (.cmp (c2 op) ia ib)):=
 PT.imp (yT (dF O.K O.units op) ha hb (gy hs)) λσ H Q ⟨τ,S,se,k⟩=>by
  simp only[eS,fc,eX,fm,fk,ft,fo]at k;refine zl se k λda va H1 e1 p1 k1=>zl (se.up p1.same) k1 λdb vb H2 e2 p2 k2=>?_
  exact dJ (r:=.no) (p1.rb.mono p2.same) p2.rb k2 λz _ q=>⟨z,rfl,q _ (p1.same.trans p2.same)⟩
theorem yg(O:XO w g c E X){op op':CmpOp}(ha:PE X a (tE w g c E ia))(hb:PE X b (tE w g c E ib))(hd:PE X d (tE w g c E id'))(hs':zA d=true):PE X (.Compare a [op,op'] [b,d] pos) (tE w g c E (.cmp2 (c2 op) (c2 op') ia ib id')):=
 PE.imp (Ar (dF O.K O.units op) (dF O.K O.units op') ha hb hd (gy hs')) λσ H Q ⟨τ,S,se,k⟩=>by
  simp only[zg,zb,zc,zh,zk,zf,za,zm,ze,qq,qw,qF,qA,qx,qM,qD,qH,qu,qC,qB,qN,qp,qG,qK,qy,qr,qI,qQ,qT,qt,qE,qO,qR,qJ,qS,qL,qV,qU,qP]at k;refine zl se k λda va H1 e1 p1 k1=>zl (se.up p1.same) k1 λdb vb H2 e2 p2 k2=>?_
  have s2:=p1.same.trans p2.same;refine dJ (r:=.no) (p1.rb.mono p2.same) p2.rb (tR.bnd k2) λz _ q=>⟨z,rfl,?_⟩
  cases z with
  |true=>
   exact zl (se.up s2) q λdd vd H3 e3 p3 k3=>dJ (r:=.no) (p2.rb.mono p3.same) p3.rb (tR.bnd k3) λz _ q=>q _ _ (a9.of (s2.trans p3.same) (.bl _) rfl)
  |false=>exact q _ _ (a9.of s2 (.bl _) rfl)
theorem DL(O:XO w g c E X){op op':CmpOp}(ha:PE X a (tE w g c E ia))(hb:PE X b (tE w g c E ib))(hd:PE X d (tE w g c E id'))(hs':zA d=true):PT X (.Compare a [op,op'] [b,d] pos) (tT w g c E (.cmp2 (c2 op) (c2 op') ia ib id')):=
 PT.imp (tU (dF O.K O.units op) (dF O.K O.units op') ha hb hd (gy hs')) λσ H Q ⟨τ,S,se,k⟩=>by
  simp only[eS,fc,eX,fm,fk,ft,fo]at k;refine zl se k λda va H1 e1 p1 k1=>zl (se.up p1.same) k1 λdb vb H2 e2 p2 k2=>?_
  have s2:=p1.same.trans p2.same;refine dJ (r:=.no) (p1.rb.mono p2.same) p2.rb (tR.bnd k2) λz _ q=>⟨z,rfl,?_⟩
  cases z with
  |true=>
   exact zl (se.up s2) q λdd vd H3 e3 p3 k3=>dJ (r:=.no) (p2.rb.mono p3.same) p3.rb k3 λz _ q=>⟨z,rfl,q _ (s2.trans p3.same)⟩
  |false=>exact⟨false,rfl,q _ s2⟩
theorem D6(O:XO w g c E X){op op' op'':CmpOp}(ha:PE X a (tE w g c E ia))(hb:PE X b (tE w g c E ib))(hd:PE X d (tE w g c E id'))(hf:PE X f (tE w g c E if'))(hs':zA f=true):PE X (.Compare a [op,op',op''] [b,d,f] pos) (tE w g c E (.cmp3 (c2 op) (c2 op') (c2 op'') ia ib id' if')):=
 PE.imp (AU (dF O.K O.units op) (dF O.K O.units op') (dF O.K O.units op'') ha hb hd hf (gy hs')) λσ H Q ⟨τ,S,se,k⟩=>by
  simp only[zg,zb,zc,zh,zk,zf,za,zm,ze,qq,qw,qF,qA,qx,qM,qD,qH,qu,qC,qB,qN,qp,qG,qK,qy,qr,qI,qQ,qT,qt,qE,qO,qR,qJ,qS,qL,qV,qU,qP]at k;refine zl se k λda va H1 e1 p1 k1=>zl (se.up p1.same) k1 λdb vb H2 e2 p2 k2=>?_
  have s2:=p1.same.trans p2.same;refine dJ (r:=.no) (p1.rb.mono p2.same) p2.rb (tR.bnd k2) λz _ q=>⟨z,rfl,?_⟩
  cases z with
  |true=>
   refine zl (se.up s2) q λdd vd H3 e3 p3 k3=>dJ (r:=.no) (p2.rb.mono p3.same) p3.rb (tR.bnd k3) λz _ q=>⟨z,rfl,?_⟩
   have s3:=s2.trans p3.same;cases z with
   |true=>exact zl (se.up s3) q λdf vf H4 e4 p4 k4=>dJ (r:=.no) (p3.rb.mono p4.same) p4.rb (tR.bnd k4) λz _ q=>q _ _ (a9.of (s3.trans p4.same) (.bl _) rfl)
   |false=>exact q _ _ (a9.of s3 (.bl _) rfl)
  |false=>exact q _ _ (a9.of s2 (.bl _) rfl)
theorem wz{a b c d:Expr}{ta tb tc td:TE}{pos:Pos}{op op' op'':CmpOp}{r r' r'':R2}(ho:OpR X (aR op) r)(ho':OpR X (aR op') r')(ho'':OpR X (aR op'') r'')(ha:PE X a ta)(hb:PE X b tb)(hc:PE X c tc)(hd:PE X d td)
  (hm:lastMarks [op,op',op''] [b,c,d]=false):PT X (.Compare a [op,op',op''] [b,c,d] pos) (kO (nH r r' r'' ta tb tc td)):=by
 intro pins s σ H Q I h;refine isTrue_chain (thn (ha pins s σ H _ I h) λv s1 ⟨x,H1,I1,r1,q1⟩=>test_link (thn (hb pins s1 σ H1 _ I1 q1) λu s2 ⟨y,H2,I2,r2,q2⟩=>
  thn (ho pins s2 σ H2 x y v u _ I2 r1 r2 q2) λd s3 ⟨z,H3,I3,r3,k,e,q3⟩=>?_)) hm
 subst e;cases r3;refine bF ?_;cases k with
 |false=>
  obtain⟨k',e',q'⟩:=q3;cases e';exact ite_ff ⟨H3,I3,q'⟩
 |true=>
  refine ite_tt (test_link (thn (hc pins s3 σ H3 _ I3 q3) λw' s4 ⟨z',H4,I4,r4,q4⟩=>thn (ho' pins s4 σ H4 y z' u w' _ I4 r2 r4 q4) λd' s5 ⟨z2,H5,I5,r5,k2,e2,q5⟩=>?_));subst e2;cases r5;refine bF ?_;cases k2 with
  |false=>
   obtain⟨k',e',q'⟩:=q5;cases e';exact ite_ff ⟨H5,I5,q'⟩
  |true=>
   refine ite_tt (test_last (thn (hd pins s5 σ H5 _ I5 q5) λw'' s6 ⟨z3,H6,I6,r6,q6⟩=>thn (ho'' pins s6 σ H6 z' z3 w' w'' _ I6 r4 r6 q6) λd'' s7 ⟨z4,H7,I7,r7,k4,e4,q7⟩=>?_));subst e4;cases r7;exact bF ⟨H7,I7,q7⟩
theorem R.bind_assoc{α β γ:Type}(r:R α)(f:α->R β)(h:β->R γ):(r.bind f).bind h=r.bind λa=>(f a).bind h:=by cases r<;>rfl
theorem tM(O:XO w g c E X){op op' op'':CmpOp}(ha:PE X a (tE w g c E ia))(hb:PE X b (tE w g c E ib))(hd:PE X d (tE w g c E id'))(hf:PE X f (tE w g c E if'))(hs':zA f=true):PT X (.Compare a [op,op',op''] [b,d,f] pos) (tT w g c E (.val (.cmp3 (c2 op) (c2 op') (c2 op'') ia ib id' if'))):=
 PT.imp (wz (dF O.K O.units op) (dF O.K O.units op') (dF O.K O.units op'') ha hb hd hf (gy hs')) λσ H Q ⟨τ,S,se,k⟩=>by
  simp only[eS,fc,eX,fm,fk,ft,fo,zg,zb,zc,zh,zk,zf,za,zm,ze,qq,qw,qF,qA,qx,qM,qD,qH,qu,qC,qB,qN,qp,qG,qK,qy,qr,qI,qQ,qT,qt,qE,qO,qR,qJ,qS,qL,qV,qU,qP,R.bind_assoc]at k;refine zl se k λda va H1 e1 p1 k1=>zl (se.up p1.same) k1 λdb vb H2 e2 p2 k2=>?_
  have s2:=p1.same.trans p2.same;refine dJ (r:=.no) (p1.rb.mono p2.same) p2.rb (tR.bnd k2) λz _ q=>⟨z,rfl,?_⟩
  cases z with
  |true=>
   simp only[if_true,R.bind_assoc]at q;refine zl (se.up s2) q λdd vd H3 e3 p3 k3=>dJ (r:=.no) (p2.rb.mono p3.same) p3.rb (tR.bnd k3) λz _ q=>⟨z,rfl,?_⟩
   have s3:=s2.trans p3.same;cases z with
   |true=>
    simp only[if_true,R.bind_assoc]at q;exact zl (se.up s3) q λdf vf H4 e4 p4 k4=>dJ (r:=.no) (p3.rb.mono p4.same) p4.rb (tR.bnd k4) λz _ q=>⟨z,rfl,q _ (s3.trans p4.same)⟩
   |false=>exact⟨false,rfl,q _ s3⟩
  |false=>exact⟨false,rfl,q _ s2⟩
theorem El(ht:PT X d (tT w g c E ta))(ha:PE X a (tE w g c E ia))(hb:PE X b (tE w g c E ib))(h1:esc ia=true)(h2:esc ib=true):PE X (.IfExp d a b pos) (tE w g c E (.ite ta ia ib)):=
 PE.imp (AZ ht ha hb) λσ H Q ⟨τ,S,se,k⟩=>by
  simp only[zg,zb,zc,zh,zk,zf,za,zm,ze,qq,qw,qF,qA,qx,qM,qD,qH,qu,qC,qB,qN,qp,qG,qK,qy,qr,qI,qQ,qT,qt,qE,qO,qR,qJ,qS,qL,qV,qU,qP]at k;refine ju se k λz H1 e1 s1 k1=>?_
  cases z with
  |true=>exact⟨τ,S,se.up s1,tR.imp k1 λdd hk v H' p=>hk v H' (p.pass s1 h1 rfl)⟩
  |false=>exact⟨τ,S,se.up s1,tR.imp k1 λdd hk v H' p=>hk v H' (p.pass s1 h2 rfl)⟩
theorem uZ:PA X [] (tA w g c E .nil):=PA.imp c_ λσ H Q ⟨τ,S,se,k⟩=>k [] H (qf.refl _) .nil λ_=>.nil
theorem vH{es:List Expr}{ies:Es}(ha:PE X a (tE w g c E ia))(hr:PA X es (tA w g c E ies))(hs:isStar a=false):PA X (a::es) (tA w g c E (.cons ia ies)):=
 PA.imp (zE ha hr (qh hs)) λσ H Q ⟨τ,S,se,k⟩=>by
  simp only[zz]at k;refine zl se k λda va H1 e1 p1 k1=>fT (se.up p1.same) k1 λds vs H2 e2 s2 r2 r2' k2=>k2 _ _ (p1.same.trans s2) (.cons (p1.rb.mono s2) r2) λz=>?_
  simp only[dW,aG]at z;exact .cons ((p1.st z.1).mono (qo s2)) (r2' z.2)
theorem jB:∀{es:Es}{τ:Env}{ds:List D}{l:List Expr}{n:Nat},cEs n c l=some es->zz w es τ=.ok ds->ds.length=l.length
 |_,_,_,l,0,h,_=>by simp[cEs]at h
 |es,τ,ds,[],n+1,h,e=>by
  simp only[cEs,b5]at h;subst h;simp only[zz,R.ok.injEq]at e;subst e;rfl
 |es,τ,ds,x::l,n+1,h,e=>by
  simp only[cEs]at h;cases hs:isStar x with
  |true=>simp[hs]at h
  |false=>
   simp only[hs,bZ,if_false,aC,aA]at h;obtain⟨i1,_,r,hr,h⟩:=h;cases h;simp only[zz]at e;cases q:evE w i1 τ with
   |ok z=>
    rw[q]at e;simp only[R.bind_ok]at e;cases q2:zz w r τ with
    |ok zs=>
     rw[q2]at e;cases e;simp[jB hr q2]
    |ex z=>rw[q2]at e;cases e
    |no=>rw[q2]at e;cases e
   |ex z=>rw[q]at e;cases e
   |no=>rw[q]at e;cases e
theorem kN{n:Nat}(h:n<=100000):n<=sizeLine:=bg h (by rw[aZ];decide)
theorem si{es:List Expr}{ies:Es}{k:Nat}(ha:PA X es (tA w g c E ies))(he:dW ies=true)(hl:∀τ ds,zz w ies τ=.ok ds->ds.length<=100000):PE X (.Tuple es k pos) (tE w g c E (.tup ies)):=
 PE.imp (vt ha) λσ H Q ⟨τ,S,se,k⟩=>by
  simp only[zg,zb,zc,zh,zk,zf,za,zm,ze,qq,qw,qF,qA,qx,qM,qD,qH,qu,qC,qB,qN,qp,qG,qK,qy,qr,qI,qQ,qT,qt,qE,qO,qR,qJ,qS,qL,qV,qU,qP]at k;refine fT se k λds vs H1 e1 s1 r1 r1' k1=>?_
  have r:=r1' he;exact⟨by rw[<-r.length];exact kN (hl _ _ e1),λp hp=>k1 _ _ (a9.of (s1.trans (zr hp)) (gE (se.sub.same s1) hp r) rfl)⟩
theorem tL{es:List Expr}{ies:Es}(ha:PA X es (tA w g c E ies))(he:dW ies=true)(hl:∀τ ds,zz w ies τ=.ok ds->ds.length<=100000):PE X (.List es pos) (tE w g c E (.lst ies)):=
 PE.imp (xC ha) λσ H Q ⟨τ,S,se,k⟩=>by
  simp only[zg,zb,zc,zh,zk,zf,za,zm,ze,qq,qw,qF,qA,qx,qM,qD,qH,qu,qC,qB,qN,qp,qG,qK,qy,qr,qI,qQ,qT,qt,qE,qO,qR,qJ,qS,qL,qV,qU,qP]at k;refine fT se k λds vs H1 e1 s1 r1 r1' k1=>?_
  have r:=r1' he;exact⟨by rw[<-r.length];exact kN (hl _ _ e1),λp hp=>k1 _ _ (a9.new (s1.trans (zr hp)) (dS (se.sub.same s1) hp r) (eI s1 hp r))⟩
theorem vU{b:Expr}(h:isSlice b=false):o4 b:=λo i=>by cases b<;>first|rfl|(simp[isSlice]at h)
theorem w_(O:XO w g c E X)(ha:PE X a (tE w g c E ia))(hb:PE X b (tE w g c E ib))(hs:isSlice b=false):PE X (.Subscript a b pos) (tE w g c E (.ix ia ib)):=
 PE.imp (wG (tw O.K O.units) ha hb (vU hs)) λσ H Q ⟨τ,S,se,k⟩=>by
  simp only[zg,zb,zc,zh,zk,zf,za,zm,ze,qq,qw,qF,qA,qx,qM,qD,qH,qu,qC,qB,qN,qp,qG,qK,qy,qr,qI,qQ,qT,qt,qE,qO,qR,qJ,qS,qL,qV,qU,qP]at k;refine zl se k λda va H1 e1 p1 k1=>zl (se.up p1.same) k1 λdb vb H2 e2 p2 k2=>⟨S,da,db,p1.rb.mono p2.same,p2.rb,?_⟩
  cases q:ixD da db with
  |ok r=>rw[q]at k2;exact λv r=>k2 v H2 (a9.of (p1.same.trans p2.same) r rfl)
  |ex z=>exact vZ q
  |no=>rw[q]at k2;exact k2
theorem tK(O:XO w g c E X){lo hi:Option Expr}{il ih:OE}(ha:PE X a (tE w g c E ia))(hl:PO X lo (tOe w g c E il))(hh:PO X hi (tOe w g c E ih)):PE X (.Subscript a (.Slice lo hi none p2) pos) (tE w g c E (.sl ia il ih)):=
 PE.imp (CC (yx O.K) ha hl hh) λσ H Q ⟨τ,S,se,k⟩=>by
  simp only[zg,zb,zc,zh,zk,zf,za,zm,ze,qq,qw,qF,qA,qx,qM,qD,qH,qu,qC,qB,qN,qp,qG,qK,qy,qr,qI,qQ,qT,qt,qE,qO,qR,qJ,qS,qL,qV,qU,qP]at k;refine zl se k λda va H1 e1 p1 k1=>mi (se.up p1.same) k1 λl H2 e2 s2 k2=>mi (se.up (p1.same.trans s2)) k2 λh H3 e3 s3 k3=>?_
  have s:=(p1.same.trans s2).trans s3;refine⟨S,da,se.sub.same s,p1.rb.mono (s2.trans s3),?_⟩;cases q:slD da l h with
  |ok r=>rw[q]at k3;exact λv H' s' r=>k3 v H' (a9.of (s.trans s') r rfl)
  |ex z=>exact Dc q
  |no=>rw[q]at k3;exact k3
theorem BQ:PO X none (tOe w g c E .none):=PO.imp xw λσ H Q ⟨τ,S,se,k⟩=>k H (qf.refl _)
theorem Bs(ha:PE X a (tE w g c E ia)):PO X (some a) (tOe w g c E (.some ia)):=PO.imp (CK ha) λσ H Q ⟨τ,S,se,k⟩=>by
 simp only[evO]at k;refine zl se k λda va H1 e1 p1 k1=>?_
 cases da with
 |int i=>exact⟨i,p1.rb.int,k1 _ p1.same⟩
 |_=>exact k1.elim
theorem wd(O:XO w g c E X){x:Str}{fr:Bool}{e:Expr}{es:List Expr}{ies:Es}(h:glob c x=some (.fn fr))(ha:PA X (e::es) (tA w g c E ies))(he:dW ies=true)(hs:∀z∈e::es,isStar z=false):PE X (.Call (.Name x p2) (e::es) [] pos) (tE w g c E (.call x ies)):=by
 obtain⟨f,h1,h2⟩:=O.gm h;refine PE.imp (nR O h2 (O.gl h) (zt h).2.2.1 ha hs) λσ H Q ⟨τ,S,se,k⟩=>?_
 simp only[zg,zb,zc,zh,zk,zf,za,zm,ze,qq,qw,qF,qA,qx,qM,qD,qH,qu,qC,qB,qN,qp,qG,qK,qy,qr,qI,qQ,qT,qt,qE,qO,qR,qJ,qS,qL,qV,qU,qP]at k;refine fT se k λds vs H1 e1 s1 r1 r1' k1=>⟨S,ds,se.sub.same s1,by rw[List.append_nil];exact r1' he,tR.imp k1 λdd hk v H' s' r f=>hk v H' ⟨s1.trans s',.inl r,λ_=>r,λz=>?_⟩⟩
 simp only[fresh,(zt h).2.1,beq_iff_eq,b5,GK.fn.injEq]at z;exact(f z).low s1
noncomputable def LD(o:HO):Prop:=(∃vs,o=.lst vs)\/∃m,o=.dK m
theorem cW.ld{H:Hp}{d:D}{o:HO}(h:cW g H d o):LD o:=by
 cases h with
 |lst r=>exact .inl ⟨_,rfl⟩
 |dic k=>exact .inr ⟨_,rfl⟩
theorem Ei{H:Hp}{S S':Sh}(hL:∀a,S'.h a=false->S.h a=true->∃o,H a=some o/\LD o){K:aq}{a:Addr}{xs:List V}(q:SqT K (hid H S') a xs):SqT K (hid H S) a xs:=by
 have key:∀o:HO,¬ LD o->hid H S' a=some o->hid H S a=some o:=λo ho z=>by
  obtain⟨z1,z2⟩:=bq.mp z;refine bq.mpr ⟨?_,z2⟩;cases y:S.h a with
  |false=>rfl
  |true=>
   obtain⟨o',e,ld⟩:=hL a z1 y;rw[z2]at e;cases e;exact absurd ld ho
 rcases q with (q|⟨o,q⟩)|q
 ·exact .inl (.inl (key _ (by rintro(⟨_,z⟩|⟨_,z⟩)<;>cases z) q))
 ·exact .inl (.inr ⟨o,key _ (by rintro(⟨_,z⟩|⟨_,z⟩)<;>cases z) q⟩)
 ·exact .inr q
theorem xF{H:Hp}{S S':Sh}(hL:∀a,S'.h a=false->S.h a=true->∃o,H a=some o/\LD o){d:D}{v:V}(hn:d.noL=true)(h:Rep g (hid H S') d v):Rep g (hid H S) d v:=
 h.rec (motive_1:=λd v _=>d.noL=true->Rep g (hid H S) d v) (motive_2:=λd v _=>kZ d=true->qZ g (hid H S) d v) (λ_=>.non) (λb _=>.bl b) (λb _=>.int b) (λb _=>.str b) (λq _ r p=>.tup (Ei hL q) (r p)) (λ_ _ _ p=>nomatch p) (λ_ p=>nomatch p) (λ_ _ p=>nomatch p) (λ_ p=>nomatch p) (λ_=>.nil) (λ_ _ a b p=>.cons (a (jl p).1) (b (jl p).2)) hn
noncomputable def ip(S:Sh)(L:List Addr):Sh:=⟨λ_=>false,λb=>S.h b && !L.contains b,S.z,S.y⟩
theorem l5{H:Hp}{S:Sh}{L:List Addr}:qf (hid H S) (hid H (ip S L)):=λb o h=>by
 obtain⟨h1,h2⟩:=bq.mp h;exact bq.mpr ⟨by show (S.h b&&_)=false;rw[h1];rfl,h2⟩
theorem AK{H:Hp}{S:Sh}{L:List Addr}{a:Addr}:qf (hid H (ip S L)) (hid H (ip S (a::L))):=λb o h=>by
 obtain⟨h1,h2⟩:=bq.mp h;refine bq.mpr ⟨?_,h2⟩;have h1:(S.h b && !L.contains b)=false:=h1;show (S.h b && !(a::L).contains b)=false;cases q:S.h b with
 |false=>rfl
 |true=>
  rw[q]at h1;have h1:L.contains b=true:=by simpa using h1
  simp only[List.contains_cons,h1,Bool.or_true];rfl
theorem seen{H:Hp}{S:Sh}:∀{ds:List D}{vs:List V},ef g H S ds vs->∃L:List Addr,(∀a∈L,∃o,H a=some o/\LD o)/\qZ g (hid H (ip S L)) ds vs
 |_,_,.nil=>⟨[],by simp,.nil⟩
 |_,_,.cons r t=>by
  obtain⟨L,h1,h2⟩:=seen t;rcases r with r|⟨a,o,z1,rfl,z4,z5⟩
  ·exact⟨L,h1,.cons (r.mono l5) h2⟩
  ·refine⟨a::L,λb hb=>?_,.cons (z5.rep l5 (bq.mpr ⟨?_,z4⟩)) (h2.mono AK)⟩
   ·rcases aE.mp hb with rfl|hb
    ·exact⟨o,z4,z5.ld⟩
    ·exact h1 b hb
   ·show (S.h a && !(a::L).contains a)=false;simp
theorem D3(O:XO w g c E X){x:Str}{fr:Bool}{e:Expr}{es:List Expr}{ies:Es}(h:glob c x=some (.fn fr))(ha:PA X (e::es) (tA w g c E ies))(hs:∀z∈e::es,isStar z=false):PE X (.Call (.Name x p2) (e::es) [] pos) (tE w g c E (.callo x ies)):=by
 obtain⟨f,h1,h2⟩:=O.gm h;refine PE.imp (nR O h2 (O.gl h) (zt h).2.2.1 ha hs) λσ H Q ⟨τ,S,se,k⟩=>?_
 simp only[zg,zb,zc,zh,zk,zf,za,zm,ze,qq,qw,qF,qA,qx,qM,qD,qH,qu,qC,qB,qN,qp,qG,qK,qy,qr,qI,qQ,qT,qt,qE,qO,qR,qJ,qS,qL,qV,qU,qP]at k;refine fT se k λds vs H1 e1 s1 r1 r1' k1=>?_
 obtain⟨L,hL,rr⟩:=seen r1;refine⟨ip S L,ds,λa ha=>?_,by rw[List.append_nil];exact rr,?_⟩
 ·refine se.sub.same s1 a ?_;rcases ha with ha|ha
  ·have ha:(S.h a && !L.contains a)=true:=ha;exact .inl (aG _ _▸ha).1
  ·cases ha
 ·cases q:w.call x ds with
  |ok d=>
   rw[q]at k1;simp only[R.bind_ok]at k1;split at k1
   ·rename_i hd
    intro v H' s' r _;refine k1 v H' (a9.of (s1.trans s') (xF (λa z1 z2=>?_) hd r) rfl);have z1:(S.h a && !L.contains a)=false:=z1;rw[z2]at z1;obtain⟨us,e,ld⟩:=hL a (by simpa using z1);exact⟨us,s' _ _ e,ld⟩
   ·exact k1.elim
  |ex z=>rw[q]at k1;exact λH' C sm hc=>k1 H' C sm hc
  |no=>rw[q]at k1;exact k1.elim
theorem uj(ha:PE X a (tE w g c E ia))(hb:PE X b (tE w g c E ib)):PE X (.Dict [some a] [b] pos) (tE w g c E (.dic1 ia ib)):=by
 refine PE.imp (wO (sE ha hb tW) rfl rfl (by simp) (by simp)) λσ H Q ⟨τ,S,se,k⟩ p hp=>?_
 simp only[zg,zb,zc,zh,zk,zf,za,zm,ze,qq,qw,qF,qA,qx,qM,qD,qH,qu,qC,qB,qN,qp,qG,qK,qy,qr,qI,qQ,qT,qt,qE,qO,qR,qJ,qS,qL,qV,qU,qP]at k;have s0:qf H (upd H p (.dK [])):=zr hp;show tE w g c E ia σ (upd H p (.dK [])) λx H1=>tE w g c E ib σ H1 λy H2=>_
 refine zl (se.up s0) (tR.up k s0) λda va H1 e1 p1 k1=>?_
 refine zl ((se.up s0).up p1.same) k1 λdb vb H2 e2 p2 k2=>?_
 cases da with
 |int i=>cases db with
  |int j=>
   have h1:=p1.rb.int;have h2:=p2.rb.int;subst h1 h2;refine⟨p2.same _ _ (p1.same _ _ zx),[(Sum.inl i,.int j)],rfl,by simp,k2 _ _ ?_⟩;have sm:qf H (upd H2 p (.dK (bh [(i,j)]))):=λb o hb=>by
    rw[qg (λz=>by rw[z,hp]at hb;cases hb)];exact p2.same _ _ (p1.same _ _ (s0 _ _ hb))
   exact a9.new (d:=.dic [(i,j)]) sm (.dic (bq.mpr ⟨se.sub.free hp,zx⟩)) ⟨p,_,rfl,hp,zx,.dic [(i,j)]⟩
  |_=>exact k2.elim
 |_=>exact k2.elim
theorem sO(O:XO w g c E X){o:Expr}{ap cp:Pos}(hb:baseOk o=true)(ho:PE X o (tE w g c E ia))(ha:PE X a (tE w g c E ib))(hs:isStar a=false)(hl:(ap.endLine==cp.line)=true) :
  PE X (.Call (.Attribute o "get" ap) [a] [] cp) (tE w g c E (.dget ia ib)):=by
 have hst:=qh (es:=[]) (env:=X.env) hs;have hu:=O.units;refine PE.imp (BU (by lia) ho ha ⟨nJ hb,by rw[hst];rfl,hl,by rw[hst];rfl⟩) λσ H Q ⟨τ,S,se,k⟩=>?_
 simp only[zg,zb,zc,zh,zk,zf,za,zm,ze,qq,qw,qF,qA,qx,qM,qD,qH,qu,qC,qB,qN,qp,qG,qK,qy,qr,qI,qQ,qT,qt,qE,qO,qR,qJ,qS,qL,qV,qU,qP]at k;refine zl se k λda va H1 e1 p1 k1=>?_
 cases da with
 |dic kvs=>
  obtain⟨l,rfl,h1⟩:=p1.rb.dic;refine⟨l,rfl,.inl ⟨_,.inl h1⟩,zl (se.up p1.same) k1 λdb vb H2 e2 p2 k2=>?_⟩;cases db with
  |int i=>
   have h2:=p2.rb.int;subst h2;refine⟨_,cN.k (k:=Sum.inl i) (p2.same _ _ h1),?_⟩;rw[kQ];cases e:atK kvs i with
   |none=>simp only[gP,e]at k2;exact k2 _ _ (a9.of (p1.same.trans p2.same) .non rfl)
   |some v=>simp only[gP,e]at k2;exact k2 _ _ (a9.of (p1.same.trans p2.same) (.int v) rfl)
  |_=>exact k2.elim
 |_=>exact k1.elim
theorem xn(O:XO w g c E X){o d:Expr}{id:EV.E}{ap cp:Pos}(hb:baseOk o=true)(ho:PE X o (tE w g c E ia))(ha:PE X a (tE w g c E ib))(hd:PE X d (tE w g c E id))(hs:isStar a=false)(hsd:isStar d=false)(hes:esc id=true)(hl:(ap.endLine==cp.line)=true) :
  PE X (.Call (.Attribute o "get" ap) [a,d] [] cp) (tE w g c E (.dget2 ia ib id)):=by
 have hst:=qh (es:=[]) (env:=X.env) hsd;have hst2:=qh (es:=[d]) (env:=X.env) hs;have hu:=O.units;refine PE.imp (D2 (by lia) ho ha hd ⟨nJ hb,by rw[hst2,hst];rfl,hl,by rw[hst2,hst];rfl⟩) λσ H Q ⟨τ,S,se,k⟩=>?_
 simp only[zg,zb,zc,zh,zk,zf,za,zm,ze,qq,qw,qF,qA,qx,qM,qD,qH,qu,qC,qB,qN,qp,qG,qK,qy,qr,qI,qQ,qT,qt,qE,qO,qR,qJ,qS,qL,qV,qU,qP]at k;refine zl se k λda va H1 e1 p1 k1=>?_
 cases da with
 |dic kvs=>
  obtain⟨l,rfl,h1⟩:=p1.rb.dic;refine⟨l,rfl,.inl ⟨_,.inl h1⟩,zl (se.up p1.same) k1 λdb vb H2 e2 p2 k2=>zl ((se.up p1.same).up p2.same) k2 λdz vz H3 e3 p3 k3=>?_⟩;cases db with
  |int i=>
   have h2:=p2.rb.int;subst h2;refine⟨_,cN.k (k:=Sum.inl i) (p3.same _ _ (p2.same _ _ h1)),?_⟩;rw[kQ];cases e:atK kvs i with
   |none=>simp only[gU,e]at k3;exact k3 _ _ (a9.of ((p1.same.trans p2.same).trans p3.same) (p3.st hes) rfl)
   |some v=>simp only[gU,e]at k3;exact k3 _ _ (a9.of ((p1.same.trans p2.same).trans p3.same) (.int v) rfl)
  |_=>exact k3.elim
 |_=>exact k1.elim
theorem wQ(O:XO w g c E X)(hc:X.calm=true){x:Str}{bb:Option B1}(h:glob c x=some (.ty "list" bb))(ha:PE X a (tE w g c E ia))(hs:isStar a=false):PE X (.Call (.Name x p2) [a] [] pos) (tE w g c E (.lsd ia)):=by
 obtain⟨h1,h2,_,h3⟩:=O.gm h;have hK:=O.K;refine PE.imp (rT (p5.or (Aj hc)) (O.gl h) h1 h2 (zE ha c_ (qh hs)) (zt h).2.2.2 (zt h).2.2.1 (qh hs)) λσ H Q ⟨τ,S,se,k⟩=>?_
 simp only[zg,zb,zc,zh,zk,zf,za,zm,ze,qq,qw,qF,qA,qx,qM,qD,qH,qu,qC,qB,qN,qp,qG,qK,qy,qr,qI,qQ,qT,qt,qE,qO,qR,qJ,qS,qL,qV,qU,qP]at k;refine zl se k λda va H1 e1 p1 k1=>?_
 cases da with
 |lst xs=>
  obtain⟨l,vs,rfl,q1,q2⟩:=p1.rb.lst;refine .inl ⟨l,vs,rfl,.inl (by rw[hK];exact q1),λp hp=>?_⟩;exact k1 _ _ (a9.new (p1.same.trans (zr hp)) (dS (se.sub.same p1.same) hp q2) ((eI (qf.refl _) hp q2).low p1.same))
 |dic kvs=>
  obtain⟨l,rfl,q1⟩:=p1.rb.dic;refine .inr ⟨l,kvs,rfl,q1,λp hp=>?_⟩;have r:qZ g (hid H1 S) (kvs.map λp=>D.int p.1) (kvs.map λp=>V.int p.1):=by
   have:=qZ.ofInts (g:=g) (H:=hid H1 S) (kvs.map (·.1));rw[b7,b7]at this;exact this
  exact k1 _ _ (a9.new (p1.same.trans (zr hp)) (dS (se.sub.same p1.same) hp r) ((eI (qf.refl _) hp r).low p1.same))
 |_=>exact k1.elim
theorem yG:PE X (.Dict [] [] pos) (tE w g c E .dic):=PE.imp Cs λσ H Q ⟨τ,S,se,k⟩ p hp=>by
 simp only[zg,zb,zc,zh,zk,zf,za,zm,ze,qq,qw,qF,qA,qx,qM,qD,qH,qu,qC,qB,qN,qp,qG,qK,qy,qr,qI,qQ,qT,qt,qE,qO,qR,qJ,qS,qL,qV,qU,qP]at k;exact k _ _ (a9.new (zr hp) (yY (kvs:=[]) se.sub hp) (yB (kvs:=[]) (qf.refl _) hp))
theorem pU{b:B1}{S:Sh}{H0 H:Hp}{ds:List D}{vs:List V}{Q:VK}{ies:Es}(s:qf H0 H)(hS:Sub S H)(r:ef g H S ds vs)(k:tR g E H (b1 b ds) λd=>∀v H',a9 g c (.bi b ies) S H0 d v H'->Q v H'):rB1 g b vs H Q:=by
 refine⟨S,ds,hS,r,?_⟩;cases q:b1 b ds with
 |ok d=>
  rw[q]at k;exact λv H' s' r' f=>k v H' ⟨s.trans s',.inl r',λ_=>r',λz=>by
   have:b=.list\/b=.sorted:=by cases b<;>simp[fresh]at z ⊢
   exact(f this).low s⟩
 |ex z=>exact By q
 |no=>rw[q]at k;exact k
theorem A4(O:XO w g c E X){x:Str}{b:B1}{e:Expr}{es:List Expr}{ies:Es}(h:glob c x=some (.bi b))(hc:X.calm=true\/b=.len\/b=.abs)(ha:PA X (e::es) (tA w g c E ies))(hs:∀z∈e::es,isStar z=false):PE X (.Call (.Name x p2) (e::es) [] pos) (tE w g c E (.bi b ies)):=by
 obtain⟨h1,h2,id,h3⟩:=O.gm h;have hb:=r_ b;rw[<-h2,h3]at hb;have hcall:=mG (X:=X) (g:=g) O.K O.units b (by rcases hc with z|z|z;exact .inl z;exact .inr (.inl z);exact .inr (.inr (.inl z)));rw[h3]at hcall;refine PE.imp (mW hcall (O.gl h) h1 hb ha (zt h).2.2.2 (zt h).2.2.1 (qh (hs e aJ)) (iO λz hz=>hs z (aK _ hz))) λσ H Q ⟨τ,S,se,k⟩=>?_
 simp only[zg,zb,zc,zh,zk,zf,za,zm,ze,qq,qw,qF,qA,qx,qM,qD,qH,qu,qC,qB,qN,qp,qG,qK,qy,qr,qI,qQ,qT,qt,qE,qO,qR,qJ,qS,qL,qV,qU,qP]at k;exact fT se k λds vs H1 e1 s1 r1 r1' k1=>pU (ies:=ies) s1 (se.sub.same s1) r1 k1
theorem DG(O:XO w g c E X){x:Str}{n:String}{b:B1}{e:Expr}{es:List Expr}{ies:Es}(h:glob c x=some (.ty n (some b)))(ha:PA X (e::es) (tA w g c E ies))(hs:∀z∈e::es,isStar z=false):PE X (.Call (.Name x p2) (e::es) [] pos) (tE w g c E (.bi b ies)):=by
 obtain⟨h1,h2,_,h3⟩:=O.gm h;obtain⟨_,h4⟩:=h3 b rfl;have hcall:=mG (X:=X) (g:=g) O.K O.units b (by cases b<;>simp[b1V]at h4 ⊢);rw[h4]at hcall;refine PE.imp (rT hcall (O.gl h) h1 h2 ha (zt h).2.2.2 (zt h).2.2.1 (qh (hs e aJ)) (iO λz hz=>hs z (aK _ hz))) λσ H Q ⟨τ,S,se,k⟩=>?_
 simp only[zg,zb,zc,zh,zk,zf,za,zm,ze,qq,qw,qF,qA,qx,qM,qD,qH,qu,qC,qB,qN,qp,qG,qK,qy,qr,qI,qQ,qT,qt,qE,qO,qR,qJ,qS,qL,qV,qU,qP]at k;exact fT se k λds vs H1 e1 s1 r1 r1' k1=>pU (ies:=ies) s1 (se.sub.same s1) r1 k1
end
section
variable{w:W}{g:Gc}{c:Cc}{E:XK}{X:Cx}{a b d f:Expr}{ia ib id' if':EV.E}{pos p2:Pos}{ta tb:T}
noncomputable def xj(w:W)(g:Gc)(d:D)(vc:V)(bb:Bool):Cl->Prop
 | .ty n=>vc=.ty n/\((n∈["int","bool","str","list","tuple"]/\∃t,tyD d=some t/\bb=fO t n)\/∃k,d=.exn k/\w.sub k (.ty n)=some bb)
 | .ex x=>∃D k,g.clA x=some D/\vc=.ref D/\d=.exn k/\w.sub k (.ex x)=some bb
noncomputable def clV(g:Gc)(vc:V):Cl->Prop
 | .ty n=>vc=.ty n/\(n∈["int","bool","str","list","tuple"]\/n = "ValueError")
 | .ex x=>∃D,g.clA x=some D/\vc=.ref D
theorem Cv(O:XO w g c E X):zq X (.builtin "isinstance") (λxs H Q=>∃(S:Sh) (d:D) (v:V) (cl:Cl) (vc:V) (bb:Bool),xs=[v,vc]/\zJ g H S d v/\xj w g d vc bb cl/\Q (.bl bb) H):=by
 have k:=(vQ (X:=X) (g:=g) O.K).or (vT (X:=X));refine zq.imp k λxs H Q ⟨S,d,v,cl,vc,bb,e,rd,h,q⟩=>?_
 have exn:∀(kk:Str) (cv:ae),d=.exn kk->jQ vc=some cv->(∃C,g.clA kk=some C/\cV g.K C/\bf g.K (.ref C) cv=some bb)->∃x c cv t b,xs=[x,c]/\jQ c=some cv/\TyX X.K H x t/\bf X.K t cv=some b/\Q (.bl b) H:=λkk cv ed hv ⟨C,h1,h2,h3⟩=>by
  subst ed;cases rd.rep with
  | @exn _ a C' z1 z2=>
   rw[h1]at z1;cases z1;exact⟨_,vc,cv,.ref C,bb,e,hv,.inr ⟨a,C,rfl,rfl,z2,by rw[O.K];exact h2⟩,by rw[O.K];exact h3,q⟩
 cases cl with
 |ty n=>
  obtain⟨rfl,⟨hn,t,ht,rfl⟩|⟨kk,rfl,hk⟩⟩:=h
  ·exact .inl ⟨S,d,v,n,t,e,rd,ht,hn,q⟩
  ·obtain⟨C,cv,z1,z2,z3,z4,z5⟩:=O.sub kk (.ty n) bb hk;exact .inr (exn kk (.type n) rfl rfl ⟨C,z1,z2,z5▸z3⟩)
 |ex x=>
  obtain⟨D,kk,h1,rfl,rfl,hk⟩:=h;obtain⟨C,cv,z1,z2,z3,D',z4,z5⟩:=O.sub kk (.ex x) bb hk;rw[h1]at z4;cases z4;exact .inr (exn kk (.ref D) rfl rfl ⟨C,z1,z2,z5▸z3⟩)
theorem Aw{x:D}{cl:Cl}:(∃t n,tyD x=some t/\cl=.ty n/\n≠"ValueError"/\cc w x cl=.ok (.bl (fO t n)))\/(∃k b,x=.exn k/\w.sub k cl=some b/\cc w x cl=.ok (.bl b))\/cc w x cl=.no:=by
 unfold cc;cases e:tyD x with
 |some t=>
  cases cl with
  |ty n=>
   by_cases hn:n = "ValueError"
   ·exact .inr (.inr (by simp[hn]))
   ·exact .inl ⟨t,n,rfl,rfl,hn,by simp[hn]⟩
  |ex y=>exact .inr (.inr rfl)
 |none=>
  cases x with
  |exn k=>
   cases q:w.sub k cl with
   |none=>exact .inr (.inr (by simp[q]))
   |some b=>exact .inr (.inl ⟨k,b,rfl,q,by simp[q]⟩)
  |fn y=>exact .inr (.inr (by cases cl<;>rfl))
  |_=>cases e
theorem Dn(O:XO w g c E X){x:Str}{k:Expr}{cl:Cl}(h:glob c x=some .isi)(ha:PE X a (tE w g c E ia))(hk:jg c k=some cl)(hs:isStar a=false):PE X (.Call (.Name x p2) [a,k] [] pos) (tE w g c E (.isi ia cl)):=by
 obtain⟨h1,rfl⟩:=O.gm h;obtain⟨y,q,rfl⟩:∃y q,k=.Name y q:=by
  cases k<;>first|exact⟨_,_,rfl⟩|(simp[jg]at hk)
 obtain⟨vc,hv,hc⟩:∃vc,PE X (.Name y q) (tC vc)/\clV g vc cl:=by
  simp only[jg]at hk;split at hk
  ·rename_i n b e
   cases hk;obtain⟨z1,z2,z3,_⟩:=O.gm e;exact⟨.ty n,DI (O.gl e) z1 z2 rfl (zt e).2.2.2 (zt e).2.2.1,rfl,z3⟩
  ·rename_i e
   cases hk;obtain⟨C,z1,z2⟩:=O.gm e;exact⟨.ref C,kE (O.gl e) z1 rfl (zt e).2.2.1,C,z2,rfl⟩
  ·rename_i e
   cases hk;obtain⟨C,z1,z2⟩:=O.gm e;exact⟨.ref C,kE (O.gl e) z1 rfl (zt e).2.2.1,C,z2,rfl⟩
  ·cases hk
 refine PE.imp (mW (Cv O) (O.gl h) h1 (by decide +kernel) (zE ha (zE hv c_) (qh hs)) (by decide) (by decide) (qh hs) rfl) λσ H Q ⟨τ,S,se,k⟩=>?_
 simp only[zg,zb,zc,zh,zk,zf,za,zm,ze,qq,qw,qF,qA,qx,qM,qD,qH,qu,qC,qB,qN,qp,qG,qK,qy,qr,qI,qQ,qT,qt,qE,qO,qR,qJ,qS,qL,qV,qU,qP]at k;refine zl se k λda va H1 e1 p1 k1=>?_
 rcases Aw (w:=w) (x:=da) (cl:=cl)with ⟨t,n,z1,rfl,z2,z3⟩|⟨kk,bb,rfl,z2,z3⟩|z3
 ·rw[z3]at k1;obtain⟨rfl,hc|hc⟩:=hc
  ·exact⟨S,da,va,.ty n,.ty n,_,rfl,p1.rb,⟨rfl,.inl ⟨hc,t,z1,rfl⟩⟩,k1 _ _ (a9.of p1.same (.bl _) rfl)⟩
  ·exact absurd hc z2
 ·rw[z3]at k1;refine⟨S,.exn kk,va,cl,vc,bb,rfl,p1.rb,?_,k1 _ _ (a9.of p1.same (.bl _) rfl)⟩;cases cl with
  |ty n=>exact⟨hc.1,.inr ⟨kk,rfl,z2⟩⟩
  |ex x=>obtain⟨D,z4,z5⟩:=hc;exact⟨D,kk,z4,z5,rfl,z2⟩
 ·rw[z3]at k1;exact k1.elim
theorem vp(O:XO w g c E X)(ha:PE X a (tE w g c E ia))(he:∀whole,isTrue a X.env whole=(do let v <-whole;standAt a.pos;holding [v] (truthy v))):PT X a (tT w g c E (.val ia)):=
 PT.imp (sy ha he) λσ H Q ⟨τ,S,se,k⟩=>by
  simp only[eS,fc,eX,fm,fk,ft,fo]at k;refine zl se k λda va H1 e1 p1 k1=>?_
  cases q:truth da with
  |ok z=>rw[q]at k1;exact⟨z,xf O.K p1.rb q,k1 _ p1.same⟩
  |ex z=>exact absurd q A5
  |no=>rw[q]at k1;exact k1.elim
theorem CA(ha:PT X a (tT w g c E ta)):PT X (.UnaryOp .Not a pos) (tT w g c E (.not ta)):=
 PT.imp (yS ha) λσ H Q ⟨τ,S,se,k⟩=>by
  simp only[eS,fc,eX,fm,fk,ft,fo]at k;exact ju se k λz H1 e1 s1 k1=>k1 _ s1
theorem xN{rest:List Expr}(ha:PT X a (tT w g c E ta))(hb:PW X (.BoolOp .And (b::rest) pos) (tT w g c E tb)):PW X (.BoolOp .And (a::b::rest) pos) (tT w g c E (.and ta tb)):=
 PW.imp (sT ha hb) λσ H Q ⟨τ,S,se,k⟩=>by
  simp only[eS,fc,eX,fm,fk,ft,fo]at k;refine ju se k λz H1 e1 s1 k1=>?_
  cases z with
  |true=>exact⟨τ,S,se.up s1,tR.imp k1 λb hk H' s=>hk H' (s1.trans s)⟩
  |false=>exact k1 _ s1
theorem y6{rest:List Expr}(ha:PT X a (tT w g c E ta))(hb:PW X (.BoolOp .Or (b::rest) pos) (tT w g c E tb)):PW X (.BoolOp .Or (a::b::rest) pos) (tT w g c E (.or ta tb)):=
 PW.imp (BV ha hb) λσ H Q ⟨τ,S,se,k⟩=>by
  simp only[eS,fc,eX,fm,fk,ft,fo]at k;refine ju se k λz H1 e1 s1 k1=>?_
  cases z with
  |false=>exact⟨τ,S,se.up s1,tR.imp k1 λb hk H' s=>hk H' (s1.trans s)⟩
  |true=>exact k1 _ s1
theorem PI.or{tg e:Expr}{t t':TI}(h:PI X tg e t)(h':PI X tg e t'):PI X tg e (λσ H R=>t σ H R\/t' σ H R):=λpins s σ H R I q=>by
 rcases q with q|q
 ·exact h pins s σ H R I q
 ·exact h' pins s σ H R I q
theorem p9{K:aq}{a:Addr}{vs:List V}{ds:List D}{H:Hp}{S:Sh}(hl:SqL K H a vs)(r:qZ g (hid H S) ds vs):Goes g (Itl K a) ds H S:=by
 refine⟨λi hi=>⟨vs,hl,by rw[<-r.length];exact hi⟩,λi d hd=>?_⟩;obtain⟨v,h1,h2⟩:=r.get hd;refine⟨⟨vs,v,hl,h1⟩,λx H' ⟨e,hx⟩=>?_⟩;subst e;have:=hx vs hl;rw[h1]at this;cases this;exact⟨qf.refl _,h2⟩
theorem p6{K:aq}{a:Addr}{vs:List V}{ds:List D}{H:Hp}{S:Sh}(hl:SqT K H a vs)(r:qZ g (hid H S) ds vs):Goes g (Itt K a) ds H S:=by
 refine⟨λi hi=>⟨vs,hl,by rw[<-r.length];exact hi⟩,λi d hd=>?_⟩;obtain⟨v,h1,h2⟩:=r.get hd;refine⟨⟨vs,v,hl,h1⟩,λx H' ⟨e,hx⟩=>?_⟩;subst e;have:=hx vs hl;rw[h1]at this;cases this;exact⟨qf.refl _,h2⟩
theorem my:∀{xs:List D}{k i:Nat}{d:D},(dD k xs)[i]? = some d->∃x,xs[i]? = some x/\d=.tup [.int ((k+i:Nat):Int),x]
 | [],_,_,_,h=>by simp[dD]at h
 |x::r,k,0,d,h=>by simp[dD]at h;exact⟨x,rfl,by rw[<-h];rfl⟩
 |x::r,k,i+1,d,h=>by
  simp only[dD,List.getElem?_cons_succ]at h;obtain⟨y,h1,h2⟩:=my h;exact⟨y,by simpa using h1,by rw[h2,show k+1+i=k+(i+1)by lia]⟩
theorem rK:∀(xs:List D) (k:Nat),(dD k xs).length=xs.length
 | [],_=>rfl
 |x::r,k=>by simp[dD,rK r]
theorem l7{K:aq}{a:Addr}{vs:List V}{ds:List D}{H:Hp}{S:Sh}(hl:SqL K H a vs)(r:qZ g (hid H S) ds vs)(hS:Sub S H):Goes g (Ite K a) (dD 0 ds) H S:=by
 refine⟨λi hi=>⟨vs,hl,by rw[<-r.length,<-rK ds 0];exact hi⟩,λi d hd=>?_⟩;obtain⟨y,h0,rfl⟩:=my hd;obtain⟨v,h1,h2⟩:=r.get h0;refine⟨⟨vs,v,hl,h1⟩,λx H' ⟨p,z,hp,e1,e2,hx⟩=>?_⟩;subst e1 e2;have:=hx vs hl;rw[h1]at this;cases this;refine⟨zr hp,?_⟩;rw[Nat.zero_add];exact gE hS hp (.cons (.int _) (.cons h2 .nil))
theorem oH:∀{xs ys:List D}{i:Nat}{d:D},(cg xs ys)[i]? = some d->∃x y,xs[i]? = some x/\ys[i]? = some y/\d=.tup [x,y]
 | [],_,_,_,h=>by simp[cg]at h
 |_::_,[],_,_,h=>by simp[cg]at h
 |x::r,y::t,0,d,h=>by simp[cg]at h;exact⟨x,y,rfl,rfl,h.symm⟩
 |x::r,y::t,i+1,d,h=>by
  simp only[cg,List.getElem?_cons_succ]at h;obtain⟨x',y',h1,h2,h3⟩:=oH h;exact⟨x',y',by simpa using h1,by simpa using h2,h3⟩
theorem nG:∀(xs ys:List D),(cg xs ys).length=min xs.length ys.length
 | [],_=>by simp[cg]
 |_::_,[]=>by simp[cg]
 |x::r,y::t=>by simp[cg,nG r t]
theorem iZ{K:aq}{tup:Bool}{a b:Addr}{vs us:List V}{ds es:List D}{H:Hp}{S:Sh}(hl:Sq2 K tup H a vs)(hl':Sq2 K tup H b us)(r:qZ g (hid H S) ds vs)(r':qZ g (hid H S) es us)(hn:ds.length=es.length)(hS:Sub S H):Goes g (Itz K tup a b) (cg ds es) H S:=by
 refine⟨λi hi=>⟨vs,us,hl,hl',by rw[nG]at hi;rw[<-r.length];lia⟩,λi d hd=>?_⟩;obtain⟨x,y,h0,h0',rfl⟩:=oH hd;obtain⟨v,h1,h2⟩:=r.get h0;obtain⟨u,h3,h4⟩:=r'.get h0';refine⟨⟨vs,us,v,u,hl,hl',h1,h3⟩,λx H' ⟨p,z,z',hp,e1,e2,hx,hx'⟩=>?_⟩;subst e1 e2;have q:=hx vs hl;rw[h1]at q;cases q;have q:=hx' us hl';rw[h3]at q;cases q;exact⟨zr hp,gE hS hp (.cons h2 (.cons h4 .nil))⟩
theorem jD{lo:Int}{n:Nat}{H:Hp}{S:Sh}:Goes g (Itr lo n) (cD lo n) H S:=by
 refine⟨λi hi=>by show n<=i;simpa[cD]using hi,λi d hd=>?_⟩;unfold cD at hd;rw[List.getElem?_map]at hd;cases q:(aW n)[i]? with
 |none=>rw[q]at hd;cases hd
 |some j=>
  rw[q]at hd;cases hd;have hi:=(List.getElem?_eq_some_iff.mp q)
  obtain⟨h1,h2⟩:=hi;simp at h1 h2;subst h2;exact⟨h1,λx H' ⟨e1,e2⟩=>by subst e1 e2;exact⟨qf.refl _,.int _⟩⟩
theorem tD(O:XO w g c E X){tg:Expr}(ha:PE X a (tE w g c E ia)):PI X tg a (tIt w g c E (.seq ia)):=
 PI.imp (PI.or (tH ha) (Cf ha)) λσ H R ⟨τ,S,se,k⟩=>by
  have k0:=k;simp only[evI]at k;cases q:evE w ia τ with
  |ex z=>exact .inl ⟨τ,S,se,by rw[q]at k ⊢;exact k⟩
  |no=>rw[q]at k;exact k.elim
  |ok dd=>
   cases dd with
   |lst ds=>
    refine .inl (zl se k λda va H1 e1 p1 k1=>?_);rw[q]at e1;cases e1;obtain⟨ad,vs,rfl,h1,r1⟩:=p1.rb.lst;rw[<-O.K]at h1;refine⟨ad,rfl,⟨vs,h1⟩,k1 _ H1 p1.same (λH2 S2 s1 s2 _=>p9 (s1.seq h1) (r1.mono s2)) λho H2 S2 s2 _=>?_⟩;have he:esc ia=true:=by
     cases ia<;>first|rfl|(simp[owned]at ho)
    cases p1.st he with
    |lst h2 r2=>exact p9 (by rw[O.K];exact(s2.trans zK).seq h2) (r2.mono s2)
   |tup ds=>
    refine .inr (zl se k λda va H1 e1 p1 k1=>?_);rw[q]at e1;cases e1;cases p1.rb.strong (by intro _ z;cases z)with
    |tup h2 r2=>
     refine⟨_,rfl,⟨_,by rw[O.K];exact zN zK h2⟩,k1 _ H1 p1.same (λH2 S2 s1 s2 _=>p6 (by rw[O.K];exact zN (s2.trans zK) h2) (r2.mono s2)) λho H2 S2 s2 _=>p6 (by rw[O.K];exact zN (s2.trans zK) h2) (r2.mono s2)⟩
   |_=>rw[q]at k;exact k.elim
theorem kB{j:Int}(h:zo j=true):-1000000<=j/\j<=1000000:=by simpa[zo]using h
theorem tQ(O:XO w g c E X){x:Str}{tg:Expr}(h:glob c x=some .rng)(ha:PE X a (tE w g c E ia))(hs:isStar a=false):PI X tg (.Call (.Name x p2) [a] [] pos) (tIt w g c E (.rng ia)):=by
 obtain⟨h1,rfl⟩:=O.gm h;refine PI.imp (Ah (O.gl h) h1 (zE ha c_ (qh hs)) (qh hs)) λσ H R ⟨τ,S,se,k⟩=>?_
 simp only[evI]at k;refine zl se k λda va H1 e1 p1 k1=>?_
 cases da with
 |int j=>
  simp only at k1;cases q:zo j with
  |true=>
   rw[q,if_pos rfl]at k1;obtain⟨z1,z2⟩:=kB q;exact⟨j,by rw[p1.rb.int],by lia,by lia,k1 _ H1 p1.same (λ_ _ _ _ _=>jD) λ_ _ _ _ _=>jD⟩
  |false=>rw[q]at k1;exact k1.elim
 |_=>exact k1.elim
theorem Bq(O:XO w g c E X){x:Str}{tg:Expr}(h:glob c x=some .rng)(ha:PE X a (tE w g c E ia))(hb:PE X b (tE w g c E ib))(hs:isStar a=false)(hs':isStar b=false):PI X tg (.Call (.Name x p2) [a,b] [] pos) (tIt w g c E (.rng2 ia ib)):=by
 obtain⟨h1,rfl⟩:=O.gm h;refine PI.imp (x5 (O.gl h) h1 (zE ha (zE hb c_ (qh hs')) (qh hs)) (by rw[qh hs,qh hs'];rfl) (qh hs')) λσ H R ⟨τ,S,se,k⟩=>?_
 simp only[evI]at k;refine zl se k λda va H1 e1 p1 k1=>zl (se.up p1.same) k1 λdb vb H2 e2 p2 k2=>?_
 cases da with
 |int i=>
  cases db with
  |int j=>
   simp only at k2;cases q:zo i&&zo j with
   |true=>
    rw[q,if_pos rfl]at k2;simp only[aG]at q;obtain⟨z1,z2⟩:=kB q.1;obtain⟨z3,z4⟩:=kB q.2;exact⟨i,j,by rw[p1.rb.int,p2.rb.int],⟨by lia,by lia,by lia,by lia⟩,k2 _ H2 (p1.same.trans p2.same) (λ_ _ _ _ _=>jD) λ_ _ _ _ _=>jD⟩
   |false=>rw[q]at k2;exact k2.elim
  |_=>exact k2.elim
 |_=>exact k2.elim
theorem yf(O:XO w g c E X){x:Str}{tg d:Expr}{id:EV.E}(h:glob c x=some .rng)(ha:PE X a (tE w g c E ia))(hb:PE X b (tE w g c E ib))(hd:PE X d (tE w g c E id))(hs:isStar a=false)(hs':isStar b=false)(hs'':isStar d=false):PI X tg (.Call (.Name x p2) [a,b,d] [] pos) (tIt w g c E (.rng3 ia ib id)):=λpins s σ H R I ⟨τ,S,se,kk⟩=>by
 simp only[evI]at kk;exact aQ kk
theorem Bb(O:XO w g c E X){x:Str}{es:List Expr}{ek:Nat}{epos:Pos}(h:glob c x=some .enum)(ha:PE X a (tE w g c E ia))(hs:isStar a=false):PI X (.Tuple es ek epos) (.Call (.Name x p2) [a] [] pos) (tIt w g c E (.enum ia)):=by
 obtain⟨h1,rfl⟩:=O.gm h;refine PI.imp (v8 (O.gl h) h1 (by decide +kernel) (zE ha c_ (qh hs)) (qh hs)) λσ H R ⟨τ,S,se,k⟩=>?_
 simp only[evI]at k;refine zl se k λda va H1 e1 p1 k1=>?_
 cases da with
 |lst ds=>
  obtain⟨ad,vs,rfl,h1,r1⟩:=p1.rb.lst;rw[<-O.K]at h1;refine⟨ad,rfl,⟨vs,h1⟩,k1 _ H1 p1.same (λH2 S2 s1 s2 s3=>l7 (s1.seq h1) (r1.mono s2) s3) λho H2 S2 s2 s3=>?_⟩;have he:esc ia=true:=by
   cases ia<;>first|rfl|(simp[owned]at ho)
  cases p1.st he with
  |lst h2 r2=>exact l7 (by rw[O.K];exact(s2.trans zK).seq h2) (r2.mono s2) s3
 |_=>exact k1.elim
theorem DP(O:XO w g c E X){x:Str}{es:List Expr}{ek:Nat}{epos:Pos}(h:glob c x=some .zip)(ha:PE X a (tE w g c E ia))(hb:PE X b (tE w g c E ib))(hs:isStar a=false)(hs':isStar b=false):PI X (.Tuple es ek epos) (.Call (.Name x p2) [a,b] [] pos) (tIt w g c E (.zip ia ib)):=by
 obtain⟨h1,rfl⟩:=O.gm h;refine PI.imp (w9 (O.gl h) h1 (by decide +kernel) (zE ha (zE hb c_ (qh hs')) (qh hs)) (by rw[qh hs,qh hs'];rfl) (qh hs')) λσ H R ⟨τ,S,se,k⟩=>?_
 simp only[evI]at k;refine zl se k λda va H1 e1 p1 k1=>zl (se.up p1.same) k1 λdb vb H2 e2 p2 k2=>?_
 have hown:∀{i1 i2:EV.E},owned (.zip i1 i2)=false->esc i1=true/\esc i2=true:=λ{i1 i2} z=>by
  have a:∀{i:EV.E},esc i=false->∃k,i=.own k:=λ{i} h=>by cases i<;>first|exact⟨_,rfl⟩|cases h
  cases e1:esc i1 with
  |false=>obtain⟨k,rfl⟩:=a e1;cases z
  |true=>
   cases e2:esc i2 with
   |false=>obtain⟨k,rfl⟩:=a e2;cases i1<;>cases z
   |true=>exact⟨rfl,rfl⟩
 have s12:=p1.same.trans p2.same;cases da with
 |lst ds=>
  cases db with
  |lst es=>
   simp only at k2;by_cases hn:ds.length=es.length
   ·rw[if_pos hn]at k2;obtain⟨ad,vs,rfl,h1,r1⟩:=(p1.rb.mono p2.same).lst;obtain⟨bd,us,rfl,h2,r2⟩:=p2.rb.lst;rw[<-O.K]at h1 h2;refine⟨false,ad,bd,rfl,⟨vs,h1⟩,⟨us,h2⟩,k2 _ H2 s12 (λH3 S3 s1 s2 s3=>iZ (tup:=false) (s1.seq h1) (s1.seq h2) (r1.mono s2) (r2.mono s2) hn s3) λho H3 S3 s2 s3=>?_⟩;obtain⟨o1,o2⟩:=hown ho;cases (p1.st o1).mono (qo p2.same)with
    |lst h3 r3=>
     cases p2.st o2 with
     |lst h4 r4=>exact iZ (tup:=false) (by rw[O.K];exact(s2.trans zK).seq h3) (by rw[O.K];exact(s2.trans zK).seq h4) (r3.mono s2) (r4.mono s2) hn s3
   ·rw[if_neg hn]at k2;exact k2.elim
  |_=>exact k2.elim
 |tup ds=>
  cases db with
  |tup es=>
   simp only at k2;by_cases hn:ds.length=es.length
   ·rw[if_pos hn]at k2;cases (p1.rb.mono p2.same).strong (by intro _ z;cases z)with
    |tup h3 r3=>
     cases p2.rb.strong (by intro _ z;cases z)with
     |tup h4 r4=>
      refine⟨true,_,_,rfl,⟨_,by rw[O.K];exact zN zK h3⟩,⟨_,by rw[O.K];exact zN zK h4⟩,k2 _ H2 s12 (λH3 S3 s1 s2 s3=>?_) λho H3 S3 s2 s3=>?_⟩
      ·exact iZ (tup:=true) (by rw[O.K];exact zN (s2.trans zK) h3) (by rw[O.K];exact zN (s2.trans zK) h4) (r3.mono s2) (r4.mono s2) hn s3
      ·exact iZ (tup:=true) (by rw[O.K];exact zN (s2.trans zK) h3) (by rw[O.K];exact zN (s2.trans zK) h4) (r3.mono s2) (r4.mono s2) hn s3
   ·rw[if_neg hn]at k2;exact k2.elim
  |_=>exact k2.elim
 |_=>exact k2.elim
end
noncomputable def iw:List Nat->TGs
 | []=>rh
 |i::is=>pM (fg i) (iw is)
noncomputable def gT(K:aq):Tg->TG
 | .nm i=>fg i
 | .tp is=>mU K is.length (iw is)
section
variable{w:W}{g:Gc}{c:Cc}{E:XK}{X:Cx}
theorem zD{x:Str}{i:Nat}(h:bK c x=some i):loc c x=some i/\(c.nm.lookup x=some .local\/(c.nm.lookup x=some .cell/\(c.fnc=true\/c.oc.contains x=true))):=by
 unfold bK at h;split at h
 ·rename_i q;exact⟨h,.inl q⟩
 ·rename_i q
  split at h
  ·rename_i z;exact⟨h,.inr ⟨q,by simpa using z⟩⟩
  ·cases h
 ·cases h
theorem lU(O:XO w g c E X){x:Str}{i:Nat}{pos:Pos}(h:bK c x=some i):PG X (.Name x pos) (fg i):=by
 obtain⟨h1,h2⟩:=zD h;obtain⟨h3,_⟩:=zy h1;refine CD (by rw[O.N];exact O.nd) (by rw[O.N];exact h3) (by unfold L2.Loc;rw[O.nm];rcases h2 with z|z;exact .inl z;exact .inr z.1) ?_;rcases h2 with z|z
 ·exact .inr (by rw[O.nm];exact z)
 ·exact .inl (O.fn x z.2)
theorem oF:∀{es:List Expr}{xs:List Str},gq es=some xs->∃ps:List Pos,es=(xs.zip ps).map (λp=>Expr.Name p.1 p.2)/\ps.length=xs.length
 | [],xs,h=>by simp[gq]at h;subst h;exact⟨[],rfl,rfl⟩
 |e::es,xs,h=>by
  cases e with
  |Name y p=>
   simp only[gq,bu]at h;obtain⟨ys,h1,rfl⟩:=h;obtain⟨ps,h2,h3⟩:=oF h1;exact⟨p::ps,by rw[h2];rfl,by simp[h3]⟩
  |_=>simp[gq]at h
theorem lL(O:XO w g c E X):∀{xs:List Str}{ps:List Pos}{is:List Nat},ps.length=xs.length->xs.mapM (bK c)=some is ->
  PGs X ((xs.zip ps).map λp=>Expr.Name p.1 p.2) (iw is)/\(assignEach ((xs.zip ps).map λp=>Expr.Name p.1 p.2) X.env).length=is.length/\(assignEach ((xs.zip ps).map λp=>Expr.Name p.1 p.2) X.env).findIdx? (·.1)=none
 | [],ps,is,_,h=>by
  simp at h;subst h;exact⟨yQ,rfl,rfl⟩
 |x::xs,[],_,h,_=>by simp at h
 |x::xs,p::ps,is,hl,h=>by
  simp only[List.mapM_cons,aC,aA]at h;obtain⟨i,h1,js,h2,h3⟩:=h;cases h3;obtain⟨r1,r2,r3⟩:=lL O (xs:=xs) (ps:=ps) (by simpa using hl) h2;refine⟨DR (lU O h1) r1 rfl,?_,?_⟩
  ·show (assignEach ((xs.zip ps).map λp=>Expr.Name p.1 p.2) X.env).length+1=js.length+1;rw[r2]
  ·show List.findIdx? (·.1) ((false,_)::assignEach ((xs.zip ps).map λp=>Expr.Name p.1 p.2) X.env)=none;rw[List.findIdx?_cons];simp only[bZ,if_false];rw[r3];rfl
theorem gZ(O:XO w g c E X){e:Expr}{tg:Tg}(h:cTg c e=some tg):PG X e (gT X.K tg):=by
 cases e with
 |Name x p=>
  simp only[cTg]at h;split at h
  ·cases h
  ·simp only[bu]at h;obtain⟨i,h1,rfl⟩:=h;exact lU O h1
 |Tuple es k p=>
  simp only[cTg]at h;split at h
  ·rename_i hc
   simp only[aC,aA]at h;obtain⟨xs,h1,h⟩:=h;split at h
   ·cases h
   ·simp only[aA]at h;obtain⟨is,h2,h⟩:=h;split at h
    ·cases h;obtain⟨ps,rfl,hl⟩:=oF h1;obtain⟨r1,r2,r3⟩:=lL O hl h2;exact yL (O.calm hc) r1 r2 r3
    ·cases h
  ·cases h
 |_=>simp[cTg]at h
noncomputable def h_(c:Cc):Tg->Prop
 | .nm i=>∀x,c.N[i]? = some x->c.own.contains x=false
 | .tp is=>∀i∈is,∀x,c.N[i]? = some x->c.own.contains x=false
theorem pH{α β:Type}{f:α->Option β}:∀{xs:List α}{ys:List β},xs.mapM f=some ys->∀y∈ys,∃x∈xs,f x=some y
 | [],ys,h,y,hy=>by simp at h;subst h;simp at hy
 |x::xs,ys,h,y,hy=>by
  simp only[List.mapM_cons,aC,aA]at h;obtain⟨z,h1,zs,h2,h3⟩:=h;cases h3;rcases aE.mp hy with rfl|hy
  ·exact⟨x,aJ,h1⟩
  ·obtain⟨x',h4,h5⟩:=pH h2 y hy;exact⟨x',aK _ h4,h5⟩
theorem jG{e:Expr}{tg:Tg}(h:cTg c e=some tg):h_ c tg:=by
 have one:∀{x:Str}{i:Nat},c.own.contains x=false->bK c x=some i->∀y,c.N[i]? = some y->c.own.contains y=false:=λ{x i} ho hl y hy=>by
  obtain⟨h3,_⟩:=zy (zD hl).1;rw[h3]at hy;cases hy;exact ho
 cases e with
 |Name x p=>
  simp only[cTg]at h;split at h
  ·cases h
  ·rename_i ho
   simp only[bu]at h;obtain⟨i,h1,rfl⟩:=h;exact one (by simpa using ho) h1
 |Tuple es k p=>
  simp only[cTg]at h;split at h
  ·simp only[aC,aA]at h;obtain⟨xs,h1,h⟩:=h;split at h
   ·cases h
   ·rename_i ho
    simp only[aA]at h;obtain⟨is,h2,h⟩:=h;split at h
    ·cases h;intro i hi;obtain⟨x,hx,hl⟩:=pH h2 i hi;refine one ?_ hl;cases q:c.own.contains x with
     |false=>rfl
     |true=>exact absurd (cz.mpr ⟨x,hx,q⟩) ho
    ·cases h
  ·cases h
 |_=>simp[cTg]at h
section
variable{τ τ':Env}{σ:L2.St}{H:Hp}{S:Sh}
theorem SE.set{i:Nat}{d:D}{v:V}(se:SE g c τ σ H S)(r:Rep g (hid H S) d v):SE g c (τ.set i (some d)) (σ.set i (some v)) H S:=by
 refine⟨by simp[se.len],λj e h=>?_,se.sub⟩;by_cases hij:i=j
 ·subst hij;by_cases hi:i<τ.length
  ·simp[hi]at h;subst h;have hi':i<σ.length:=by rw[<-se.len];exact hi
   exact⟨v,by simp[hi'],.inl r,λ_ _ _=>r⟩
  ·rw[List.set_eq_of_length_le (by lia)]at h;rw[List.getElem?_eq_none (by lia)]at h;cases h
 ·rw[List.getElem?_set_ne hij]at h ⊢;exact se.val j e h
theorem SE.setAll{is:List Nat}:∀{ds:List D}{vs:List V}{τ:Env}{σ:L2.St}{Q:L2.St->Hp->Prop},SE g c τ σ H S->qZ g (hid H S) ds vs->setAll is ds τ=.ok τ'->(∀σ',SE g c τ' σ' H S->Q σ' H)->iw is vs σ H Q:=by
 induction is with
 |nil=>
  intro ds vs τ σ Q se r h k;cases r with
  |nil=>cases (show R.ok τ=R.ok τ' from h);exact⟨rfl,k σ se⟩
  |cons _ _=>cases (show R.no=R.ok τ' from h)
 |cons i is ih=>
  intro ds vs τ σ Q se r h k;cases r with
  |nil=>cases (show R.no=R.ok τ' from h)
  |cons r rs=>exact⟨_,_,rfl,ih (se.set r) rs h k⟩
theorem Bn(O:X.K=g.K){tg:Tg}{d:D}{v:V}{Q:L2.St->Hp->Prop}(se:SE g c τ σ H S)(r:Rep g (hid H S) d v)(h:store tg d τ=.ok τ')(k:∀σ',SE g c τ' σ' H S->Q σ' H):gT X.K tg v σ H Q:=by
 cases tg with
 |nm i=>
  simp only[store,R.ok.injEq]at h;subst h;exact k _ (se.set r)
 |tp is=>
  cases d with
  |tup ds=>
   simp only[store]at h;split at h
   ·rename_i hl
    cases r with
    |tup h1 r1=>exact⟨_,_,rfl,by rw[O];exact zN zK h1,by rw[<-r1.length];exact hl,se.setAll r1 h k⟩
   ·cases h
  |_=>simp[store]at h
end
end
abbrev dg(c:Cc)(sc:aP):Cc:={c with nm:=iX sc.names c.nm,N:=bW sc.names,fnc:=false,oc:=iJ sc.names}
section
variable{w:W}{g:Gc}{c:Cc}{E:XK}{X:Cx}
theorem XO.comp(O:XO w g c E X){sc:aP}(hk:sc.kind=.function)(hnd:(bW sc.names).Nodup)(cl:List (Str×Addr))(C:Addr)(s₀:af)(H₀:Hp)(fp:List Addr):XO w g (dg c sc) E0 (cm X (bW sc.names) sc cl C s₀ H₀ fp) where
 K:=O.K
 nm:=by
  show (relabel sc X.env).names=iX sc.names c.nm;unfold relabel iX;simp only
  congr 1
  funext p;have h1:(X.env.scope.kind==ScopeKind.function)=true:=by rw[O.kind];rfl
  have h2:X.env.kindOf p.1=c.nm.lookup p.1:=by show X.env.scope.names.lookup p.1=_;rw[O.nm]
  obtain⟨n,k⟩:=p;simp only at h2;simp only[h1,h2,Bool.and_true]
 N:=rfl
 nd:=hnd
 calm:=O.calm
 units:=O.units
 fn:=λx z=>z.elim (λz=>by cases z) λz=>z
 kind:=hk
 pass:=lu rfl rfl
 gok:=O.gok
 fns:=O.fns
 sub:=O.sub
theorem yj{α:Type}{τ:Env}{σ:L2.St}{H:Hp}{S:Sh}{it:It}{f:List D->R α}{P:α->Prop}{R':L2.It->Hp->Prop}(se:SE g c τ σ H S)(h:tR g E H ((evI w it τ).bind f) P)
  (k:∀ds J H',evI w it τ=.ok ds->qf H H'->(∀H2 S2,qf H' H2->qf (hid H' S) (hid H2 S2)->Sub S2 H2->Goes g J ds H2 S2)->(owned it=false->∀H2 S2,qf (hid H' S) (hid H2 S2)->Sub S2 H2->Goes g J ds H2 S2)->tR g E H' (f ds) P->R' J H'):tIt w g c E it σ H R':=by
 refine⟨τ,S,se,?_⟩;cases q:evI w it τ with
 |ok d=>rw[q]at h;exact λJ H' s k1 k2=>k d J H' q s k1 k2 (tR.up h s)
 |ex x=>rw[q]at h;exact h
 |no=>rw[q]at h;exact h
theorem BO{α:Type}{r:R α}{x:Str}:noEx r≠.ex x:=by cases r<;>intro h<;>cases h
theorem ua{α:Type}{r:R α}{a:α}(h:noEx r=.ok a):r=.ok a:=by cases r<;>first|exact h|cases h
theorem mh{body:D->Env->R (Env×List D)}(hb:∀d τ x,body d τ≠.ex x):∀{ds:List D}{τ:Env}{acc:List D}{x:Str},cG body ds τ acc≠.ex x
 | [],_,_,_,h=>by cases h
 |d::r,τ,acc,x,h=>by
  simp only[cG]at h;cases q:body d τ with
  |ok p=>rw[q]at h;exact mh hb h
  |ex y=>exact hb _ _ _ q
  |no=>rw[q]at h;cases h
theorem SE.caps{sc:aP}{cap:List (Option Nat)}{τ:Env}{σ:L2.St}{H:Hp}{S:Sh}(O:XO w g c E X)(hc:pv X (bW sc.names) cap sc)(se:SE g c τ σ H S):SE g (dg c sc) (dU cap τ) (L2.caps cap σ) H S:=by
 refine⟨by simp[dU,L2.caps],λi d h=>?_,se.sub⟩;unfold dU at h;rw[List.getElem?_map]at h;cases q:cap[i]? with
 |none=>rw[q]at h;cases h
 |some o=>
  cases o with
  |none=>rw[q]at h;cases h
  |some j=>
   rw[q]at h;simp only[Option.map_some,Option.bind_some,b5]at h;cases q2:τ[j]? with
   |none=>rw[q2]at h;cases h
   |some z=>
    rw[q2]at h;cases z with
    |none=>cases h
    |some d'=>
     have:d'=d:=by simpa using h
     subst this;obtain⟨v,h1,h2,h3⟩:=se.val j d' q2;refine⟨v,?_,h2,λx hx ho=>?_⟩
     ·unfold L2.caps;rw[List.getElem?_map,q];simp[h1]
     ·obtain⟨y,e1,e2,_⟩:=hc.2 i j q;have hx':(bW sc.names)[i]? = some x:=hx;rw[e1]at hx';cases hx';exact h3 _ (by rw[<-O.N];exact e2) ho
theorem hJ{H:Hp}{S:Sh}{p:Addr}{o:HO}(h:S.h p=true):hid (upd H p o) S=hid H S:=by
 funext b;unfold hid;by_cases hb:b=p
 ·subst hb;rw[if_pos h,if_pos h]
 ·rw[qg hb]
theorem SE.grow{c:Cc}{τ:Env}{σ:L2.St}{H:Hp}{S:Sh}{p:Addr}{o:HO}(se:SE g c τ σ H S)(h:S.h p=true)(ho:S.o p=false):SE g c τ σ (upd H p o) S:=by
 refine⟨se.len,λi d e=>?_,λa ha n=>?_⟩
 ·obtain⟨v,h1,h2,h3⟩:=se.val i d e;refine⟨v,h1,?_,λx hx hy=>by rw[hJ h];exact h3 x hx hy⟩;rcases h2 with h2|⟨a,o',z1,z2,z4,z5⟩
  ·exact .inl (by rw[hJ h];exact h2)
  ·refine .inr ⟨a,o',z1,z2,?_,by rw[hJ h];exact z5⟩;rw[qg (λz=>by rw[z,ho]at z1;cases z1)];exact z4
 ·by_cases hb:a=p
  ·subst hb;rw[zx]at n;cases n
  ·rw[qg hb]at n;exact se.sub a ha n
theorem SE.hide{c:Cc}{τ:Env}{σ:L2.St}{H:Hp}{S:Sh}{p:Addr}{vs:List V}(se:SE g c τ σ H S)(hp:H p=none):SE g c τ σ (upd H p (.lst vs)) (cH S p):=by
 refine⟨se.len,λi d e=>?_,λa ha n=>?_⟩
 ·obtain⟨v,h1,h2,h3⟩:=se.val i d e;refine⟨v,h1,?_,λx hx hy=>(h3 x hx hy).mono (jb hp)⟩;rcases h2 with h2|⟨a,o',z1,z2,z4,z5⟩
  ·exact .inl (h2.mono (jb hp))
  ·exact .inr ⟨a,o',z1,z2,zr hp _ _ z4,z5.mono (jb hp)⟩
 ·by_cases hb:a=p
  ·subst hb;rw[zx]at n;cases n
  ·rw[qg hb]at n;refine se.sub a ?_ n;rcases ha with ha|ha
   ·refine .inl ?_;have ha:(S.h a||a==p)=true:=ha
    simpa[hb]using ha
   ·exact .inr ha
theorem lK(O:XO w g c E X){sc:aP}{cap:List (Option Nat)}{iit:It}{itg:Tg}{tt:T}{ielt:EV.E}(hS:dH X (bW sc.names) cap sc)(he:esc ielt=true){σ:L2.St}{H:Hp}{Q:VK}(hq:tE w g c E (.comp iit cap itg tt ielt) σ H Q) :
  jF cap (tIt w g c E iit) (gT X.K itg) (tT w g (dg c sc) E0 tt) (λacc=>iT acc (tE w g (dg c sc) E0 ielt)) σ H Q:=by
 obtain⟨τ,S,se,k⟩:=hq;simp only[zg,zb,zc,zh,zk,zf,za,zm,ze,qq,qw,qF,qA,qx,qM,qD,qH,qu,qC,qB,qN,qp,qG,qK,qy,qr,qI,qQ,qT,qt,qE,qO,qR,qJ,qS,qL,qV,qU,qP]at k;refine yj se k λds J H1 e1 s1 kW _ k1 acc hacc=>?_
 by_cases hz:SZ<ds.length
 ·rw[if_pos hz]at k1;exact k1.elim
 rw[if_neg hz]at k1;generalize hbody:(λx σ=>noEx ((store itg x σ).bind λσ'=>(evT w tt σ').bind λr=>if r=true then (evE w ielt σ').bind λd=>R.ok (σ',[d])else R.ok (σ',[])))=body at k1;have bex:∀d τ x,body d τ≠.ex x:=λd τ x=>by rw[<-hbody];exact BO
 cases hl:cG body ds (dU cap τ) []with
 |ex z=>exact absurd hl (mh bex)
 |no=>rw[hl]at k1;exact k1.elim
 |ok out=>
  rw[hl]at k1;simp only[R.bind_ok]at k1;have k1:∀v H',a9 g c (.comp iit cap itg tt ielt) S H (.lst out) v H'->Q v H':=k1;have sub1:=se.sub.same s1;have hoacc:S.o acc=false:=sub1.freeO hacc;have hhacc:(cH S acc).h acc=true:=by show (S.h acc||acc==acc)=true;simp
  -- what holds between two turns
  refine⟨λi m σ' H'=>m=ds.length-i/\i<=ds.length/\∃τ' o,cG body (ds.drop i) τ' o=.ok out/\SE g (dg c sc) τ' σ' H' (cH S acc)/\o.length<=i/\qf H1 H'/\∃vs,H' acc=some (.lst vs)/\qZ g (hid H' (cH S acc)) o vs,
   ⟨ds.length,rfl,b8 _,dU cap τ,[],hl,(se.up s1).caps O hS.cap |>.hide hacc,aD _,zr hacc,[],zx,.nil⟩,?_⟩
  rintro i m σ' H' ⟨rfl,hi',τ',o,hlo,se',hol,s1',vs,hv,hr⟩;have keep:qf (hid H1 S) (hid H' (cH S acc)):=λb u hb=>by
   obtain⟨z1,z2⟩:=bq.mp hb;refine bq.mpr ⟨?_,s1' _ _ z2⟩;show (S.h b||b==acc)=false;rw[z1]
   simpa using λz:b=acc=>by rw[z,hacc]at z2;cases z2
  obtain⟨g1,g2⟩:=kW H' (cH S acc) s1' keep se'.sub;by_cases hlt:i<ds.length
  ·have hd:ds[i]? = some ds[i]:=List.getElem?_eq_getElem hlt;obtain⟨go1,go2⟩:=g2 i ds[i] hd;refine .inr ⟨go1,λσ'' H''=>∃τ' o,cG body (ds.drop (i+1)) τ' o=.ok out/\SE g (dg c sc) τ' σ'' H'' (cH S acc)/\o.length<=i+1/\qf H1 H''/\∃vs,H'' acc=some (.lst vs)/\qZ g (hid H'' (cH S acc)) o vs,
    λσ'' H'' z=>⟨ds.length-(i+1),by lia,rfl,hlt,z⟩,λx H2 hy=>?_⟩
   obtain⟨s2,rx⟩:=go2 x H2 hy;rw[List.drop_eq_getElem_cons hlt]at hlo;simp only[cG]at hlo;cases q:body ds[i] τ' with
   |ex z=>exact absurd q (bex _ _ _)
   |no=>rw[q]at hlo;cases hlo
   |ok p=>
    rw[q]at hlo;simp only[R.bind_ok]at hlo;rw[<-hbody]at q;have q:=ua q;cases q1:store itg ds[i] τ' with
    |ex z=>rw[q1]at q;cases q
    |no=>rw[q1]at q;cases q
    |ok τ1=>
     rw[q1]at q;simp only[R.bind_ok]at q;refine Bn O.K (se'.up s2) rx q1 λσ1 se1=>?_
     cases q2:evT w tt τ1 with
     |ex z=>rw[q2]at q;cases q
     |no=>rw[q2]at q;cases q
     |ok r=>
      rw[q2]at q;simp only[R.bind_ok]at q;refine⟨τ1,cH S acc,se1,?_⟩;rw[q2];intro H3 s3;have hv3:=s3 _ _ (s2 _ _ hv);have s13:=s1'.trans (s2.trans s3);cases r with
      |false=>
       simp only[bZ,if_false,R.ok.injEq]at q;subst q;rw[if_neg bQ];exact⟨τ1,o++[],hlo,se1.up s3,by simp;lia,s13,vs,hv3,by rw[List.append_nil];exact hr.mono (qo (s2.trans s3))⟩
      |true=>
       simp only[if_true]at q;rw[if_pos rfl];cases q3:evE w ielt τ1 with
       |ex z=>rw[q3]at q;cases q
       |no=>rw[q3]at q;cases q
       |ok dd=>
        rw[q3]at q;simp only[R.bind_ok,R.ok.injEq]at q;subst q;refine⟨τ1,cH S acc,se1.up s3,?_⟩;rw[q3];intro v H4 p4;have hv4:=p4.same _ _ hv3;have hr4:=hr.mono (qo ((s2.trans s3).trans p4.same));have hz':vs.length<sizeLine:=by
         rw[<-hr.length,aZ];have:ds.length<=SZ:=Nat.le_of_not_lt hz;unfold SZ at this;lia
        refine⟨vs,hv4,hz',τ1,o++[dd],hlo,(se1.up (s3.trans p4.same)).grow hhacc hoacc,by simp;lia,λb u hb=>?_,vs++[v],zx,?_⟩
        ·rw[qg (λz=>by rw[z,hacc]at hb;cases hb)];exact p4.same _ _ (s13 _ _ hb)
        ·rw[hJ hhacc];exact hr4.append (.cons (p4.st he) .nil)
  ·have e:i=ds.length:=by lia
   subst e;refine .inl ⟨g1 ds.length (aD _),?_⟩;rw[List.drop_length]at hlo;simp only[cG,R.ok.injEq]at hlo;subst hlo;have rep:Rep g (hid H' S) (.lst o) (.ref acc):=.lst (SqL.of (bq.mpr ⟨sub1.free hacc,hv⟩)) (hr.mono nL);exact k1 _ _ (a9.new (s1.trans s1') rep ⟨acc,_,rfl,s1.free hacc,hv,.lst hr⟩)
theorem Dh(O:XO w g c E X)(hcalm:X.calm=true){sc:aP}{cap:List (Option Nat)}{tgt it elt:Expr}{ifs:List Expr}{pos:Pos}{iit:It}{itg:Tg}{tt:T}{ielt:EV.E}(hS:dH X (bW sc.names) cap sc)(hnd:(bW sc.names).Nodup)
  (hi:PI X tgt it (tIt w g c E iit)) (hb:∀cl C s₀ H₀ fp,PG (cm X (bW sc.names) sc cl C s₀ H₀ fp) tgt (gT X.K itg)/\PTs (cm X (bW sc.names) sc cl C s₀ H₀ fp) ifs (tT w g (dg c sc) E0 tt)/\PE (cm X (bW sc.names) sc cl C s₀ H₀ fp) elt (tE w g (dg c sc) E0 ielt))
  (he:esc ielt=true) (hs:zA it=true):PE X (.ListComp elt [⟨tgt,it,ifs,0⟩] sc pos) (tE w g c E (.comp iit cap itg tt ielt)):=by
 exact PE.imp (rX (tb:=λacc=>iT acc (tE w g (dg c sc) E0 ielt)) hcalm hS hi (λcl C s₀ H₀ fp=>⟨(hb cl C s₀ H₀ fp).1,(hb cl C s₀ H₀ fp).2.1,λacc=>nF rfl (hb cl C s₀ H₀ fp).2.2⟩) (by simp) (λx=>by cases it<;>first|rfl|(simp[zA]at hs))) λσ H Q q=>lK O hS he q
end
section
variable{prog:av}{w:au}{A:aw}{E:ae->af->Prop}{s:af}
end
section
variable{X:Cx}
end
section
variable{w:W}{g:Gc}{c:Cc}{E:XK}{X:Cx}{a b:Expr}{ia ib:EV.E}{pos p2 p3 pos3:Pos}
theorem pe(O:XO w g c E X)(hc:X.calm=true){x y:Str}{n:String}{bb:Option B1}{e:Expr}{es:List Expr}{it:It}{t:TA}(hT:glob c x=some (.ty n bb))(h:glob c y=some .rng)(ha:PA X (e::es) t)(hs:∀z∈e::es,isStar z=false)
  (hn:n = "tuple"\/n = "list")
  (k:∀σ H (Q:List V->Hp->Prop) τ S (P:List D->Prop),SE g c τ σ H S->tR g E H (evI w it τ) P->(∀lo hi vs H',qf H H'->(vs=[.int hi]/\lo=0\/vs=[.int lo,.int hi])->zo lo=true->zo hi=true->P (cD lo (hi-lo).toNat)->Q vs H')->t σ H Q) :
  PE X (.Call (.Name x p2) [.Call (.Name y p3) (e::es) [] pos3] [] pos) (tE w g c E (if n = "tuple" then .rtup it else .rlst it)):=λpins s σ H Q I ⟨τ,S,se,kk⟩=>by
 rcases hn with rfl|rfl
 ·simp only[if_true,zg,zb,zc,zh,zk,zf,za,zm,ze,qq,qw,qF,qA,qx,qM,qD,qH,qu,qC,qB,qN,qp,qG,qK,qy,qr,qI,qQ,qT,qt,qE,qO,qR,qJ,qS,qL,qV,qU,qP]at kk;exact aQ kk
 ·rw[if_neg (by decide)]at kk;simp only[zg,zb,zc,zh,zk,zf,za,zm,ze,qq,qw,qF,qA,qx,qM,qD,qH,qu,qC,qB,qN,qp,qG,qK,qy,qr,qI,qQ,qT,qt,qE,qO,qR,qJ,qS,qL,qV,qU,qP]at kk;exact aQ kk
theorem sM(O:XO w g c E X)(hc:X.calm=true){x y:Str}{bb:Option B1}{d:Expr}{id:EV.E}(hT:glob c x=some (.ty "tuple" bb))(h:glob c y=some .rng)(ha:PE X a (tE w g c E ia))(hb:PE X b (tE w g c E ib))(hd:PE X d (tE w g c E id))(hs:isStar a=false)(hs':isStar b=false)(hs'':isStar d=false) :
  PE X (.Call (.Name x p2) [.Call (.Name y p3) [a,b,d] [] pos3] [] pos) (tE w g c E (.rtup (.rng3 ia ib id))):=λpins s σ H Q I ⟨τ,S,se,kk⟩=>by
 simp only[zg,zb,zc,zh,zk,zf,za,zm,ze,qq,qw,qF,qA,qx,qM,qD,qH,qu,qC,qB,qN,qp,qG,qK,qy,qr,qI,qQ,qT,qt,qE,qO,qR,qJ,qS,qL,qV,qU,qP]at kk;exact aQ kk
theorem DF(ha:PE X a (tE w g c E ia))(hs:isStar a=false):PA X [a] (iq (tE w g c E ia) iN):=zE ha c_ (qh hs)
theorem Dy:∀σ H (Q:List V->Hp->Prop) τ S (P:List D->Prop),SE g c τ σ H S->tR g E H (evI w (.rng ia) τ) P->(∀lo hi vs H',qf H H'->(vs=[.int hi]/\lo=0\/vs=[.int lo,.int hi])->zo lo=true->zo hi=true->P (cD lo (hi-lo).toNat)->Q vs H')->iq (tE w g c E ia) iN σ H Q:=by
 intro σ H Q τ S P se q k;simp only[evI]at q;refine zl se q λda va H1 e1 p1 k1=>?_
 cases da with
 |int j=>
  simp only at k1;cases z:zo j with
  |true=>rw[z,if_pos rfl]at k1;exact k 0 j _ H1 p1.same (.inl ⟨by rw[p1.rb.int],rfl⟩) (by decide) z (by rw[Int.sub_zero];exact k1)
  |false=>rw[z]at k1;exact k1.elim
 |_=>exact k1.elim
theorem Ax:∀σ H (Q:List V->Hp->Prop) τ S (P:List D->Prop),SE g c τ σ H S->tR g E H (evI w (.rng2 ia ib) τ) P->(∀lo hi vs H',qf H H'->(vs=[.int hi]/\lo=0\/vs=[.int lo,.int hi])->zo lo=true->zo hi=true->P (cD lo (hi-lo).toNat)->Q vs H')->iq (tE w g c E ia) (iq (tE w g c E ib) iN) σ H Q:=by
 intro σ H Q τ S P se q k;simp only[evI]at q;refine zl se q λda va H1 e1 p1 k1=>zl (se.up p1.same) k1 λdb vb H2 e2 p2 k2=>?_
 cases da with
 |int i=>
  cases db with
  |int j=>
   simp only at k2;cases z:zo i&&zo j with
   |true=>
    rw[z,if_pos rfl]at k2;simp only[aG]at z;exact k i j _ H2 (p1.same.trans p2.same) (.inr (by rw[p1.rb.int,p2.rb.int])) z.1 z.2 k2
   |false=>rw[z]at k2;exact k2.elim
  |_=>exact k2.elim
 |_=>exact k2.elim
end
structure Snd(w:W)(g:Gc)(n:Nat):Prop where
 e:∀{c:Cc}{E:XK}{X:Cx} (O:XO w g c E X) {x:Expr}{ir:EV.E},cE n c x=some ir->PE X x (tE w g c E ir)
 bo:∀{c:Cc}{E:XK}{X:Cx} (O:XO w g c E X) {op:PySem.BoolOp}{vs:List Expr}{pos:Pos}{ir:EV.E},cBo n c op vs=some ir->PE X (.BoolOp op vs pos) (tE w g c E ir)/\esc ir=true
 o:∀{c:Cc}{E:XK}{X:Cx} (O:XO w g c E X) {x:Option Expr}{ir:OE},cO n c x=some ir->PO X x (tOe w g c E ir)
 es:∀{c:Cc}{E:XK}{X:Cx} (O:XO w g c E X) {x:List Expr}{ir:Es},cEs n c x=some ir->PA X x (tA w g c E ir)
 i:∀{c:Cc}{E:XK}{X:Cx} (O:XO w g c E X) {tg x:Expr}{ir:It},cI n c x=some ir->gw ir tg=true->PI X tg x (tIt w g c E ir)
 t:∀{c:Cc}{E:XK}{X:Cx} (O:XO w g c E X) {x:Expr}{ir:T},cT n c x=some ir->PT X x (tT w g c E ir)
 ts:∀{c:Cc}{E:XK}{X:Cx} (O:XO w g c E X) {op:PySem.BoolOp}{vs:List Expr}{pos:Pos}{ir:T},cTs n c op vs=some ir->PW X (.BoolOp op vs pos) (tT w g c E ir)
 ifs:∀{c:Cc}{E:XK}{X:Cx} (O:XO w g c E X) {x:List Expr}{ir:T},fw n c x=some ir->PTs X x (tT w g c E ir)
section
variable{w:W}{g:Gc}{n:Nat}
theorem Snd.ifs_succ(ih:Snd w g n){c:Cc}{E:XK}{X:Cx}(O:XO w g c E X){x:List Expr}{ir:T}(h:fw (n+1) c x=some ir):PTs X x (tT w g c E ir):=by
 match x with
 | []=>
  simp only[fw,b5]at h;subst h;intro pins s σ H Q I ⟨τ,S,se,q⟩;exact z_ pins s σ H Q I (q H (qf.refl _))
 | [t]=>simp only[fw]at h;exact uf (ih.t O h)
 |_::_::_=>simp[fw]at h
theorem Snd.bo_succ(ih:Snd w g n){c:Cc}{E:XK}{X:Cx}(O:XO w g c E X){op:PySem.BoolOp}{vs:List Expr}{pos:Pos}{ir:EV.E}(h:cBo (n+1) c op vs=some ir):PE X (.BoolOp op vs pos) (tE w g c E ir)/\esc ir=true:=by
 match vs with
 | []=>simp[cBo]at h
 | [a]=>
  simp only[cBo,aC,aA]at h;obtain⟨ia,h1,h⟩:=h;split at h
  ·rename_i he
   cases h;exact⟨y8 (ih.e O h1),he⟩
  ·cases h
 |a::b::r=>
  simp only[cBo,aC,aA]at h;obtain⟨ia,h1,ir',h2,h⟩:=h;obtain⟨r1,r2⟩:=ih.bo O (pos:=pos) h2;cases op with
  |And=>cases h;exact⟨BE (ih.e O h1) r1 r2,rfl⟩
  |Or=>cases h;exact⟨CU (ih.e O h1) r1 r2,rfl⟩
theorem Snd.o_succ(ih:Snd w g n){c:Cc}{E:XK}{X:Cx}(O:XO w g c E X){x:Option Expr}{ir:OE}(h:cO (n+1) c x=some ir):PO X x (tOe w g c E ir):=by
 cases x with
 |none=>simp only[cO,b5]at h;subst h;exact BQ
 |some e=>
  simp only[cO,bu]at h;obtain⟨ie,h1,rfl⟩:=h;exact Bs (ih.e O h1)
theorem Snd.es_succ(ih:Snd w g n){c:Cc}{E:XK}{X:Cx}(O:XO w g c E X){x:List Expr}{ir:Es}(h:cEs (n+1) c x=some ir):PA X x (tA w g c E ir):=by
 match x with
 | []=>simp only[cEs,b5]at h;subst h;exact uZ
 |e::r=>
  have hs:=ff h e aJ;simp only[cEs,hs,bZ,if_false,aC,aA]at h;obtain⟨ie,h1,ir',h2,h⟩:=h;cases h;exact vH (ih.e O h1) (ih.es O h2) hs
theorem Snd.ts_succ(ih:Snd w g n){c:Cc}{E:XK}{X:Cx}(O:XO w g c E X){op:PySem.BoolOp}{vs:List Expr}{pos:Pos}{ir:T}(h:cTs (n+1) c op vs=some ir):PW X (.BoolOp op vs pos) (tT w g c E ir):=by
 match vs with
 | []=>simp[cTs]at h
 | [a]=>
  simp only[cTs]at h;cases op with
  |And=>exact we (ih.t O h)
  |Or=>exact AV (ih.t O h)
 |a::b::r=>
  simp only[cTs,aC,aA]at h;obtain⟨ia,h1,ir',h2,h⟩:=h;cases op with
  |And=>cases h;exact xN (ih.t O h1) (ih.ts O h2)
  |Or=>cases h;exact y6 (ih.t O h1) (ih.ts O h2)
theorem Snd.t_succ(ih:Snd w g n){c:Cc}{E:XK}{X:Cx}(O:XO w g c E X){x:Expr}{ir:T}(h:cT (n+1) c x=some ir):PT X x (tT w g c E ir):=by
 unfold cT at h;split at h
 ·simp only[bu]at h;obtain⟨ia,h1,rfl⟩:=h;exact CA (ih.t O h1)
 ·exact(ih.ts O h).pt
 ·cases h
 ·split at h
  ·simp only[aC,aA]at h;obtain⟨ia,h1,ib,h2,h⟩:=h;split at h
   ·rename_i hs;cases h;exact Bd O (ih.e O h1) (ih.e O h2) hs
   ·cases h
  ·simp only[aC,aA]at h;obtain⟨ia,h1,ib,h2,id',h3,h⟩:=h;split at h
   ·rename_i hs
    simp only[aG]at hs;cases h;exact DL O (ih.e O h1) (ih.e O h2) (ih.e O h3) hs.2
   ·cases h
  ·simp only[aC,aA]at h;obtain⟨ia,h1,ib,h2,id',h3,if',h4,h⟩:=h;split at h
   ·rename_i hs
    simp only[aG]at hs;cases h;exact tM O (ih.e O h1) (ih.e O h2) (ih.e O h3) (ih.e O h4) hs.2
   ·cases h
  ·cases h
 ·rename_i n1 n2 n3 n4
  simp only[bu]at h;obtain⟨ia,h1,rfl⟩:=h;refine vp O (ih.e O h1) λwhole=>?_
  cases x with
  |UnaryOp op a p=>cases op<;>first|rfl|exact(n1 _ _ rfl).elim
  |BoolOp op vs p=>exact(n2 _ _ _ rfl).elim
  |IfExp a b d p=>exact(n3 _ _ _ _ rfl).elim
  |Compare a ops bs p=>exact(n4 _ _ _ _ rfl).elim
  |_=>rfl
theorem Snd.i_succ(ih:Snd w g n){c:Cc}{E:XK}{X:Cx}(O:XO w g c E X){tg x:Expr}{ir:It}(h:cI (n+1) c x=some ir)(ht:gw ir tg=true):PI X tg x (tIt w g c E ir):=by
 have sq:∀{x:Expr}{ir:It},(cE n c x).map It.seq=some ir->PI X tg x (tIt w g c E ir):=λ{x ir} h=>by
  simp only[bu]at h;obtain⟨ia,h1,rfl⟩:=h;exact tD O (ih.e O h1)
 have tup:isTup tg=true->∃es k p,tg=.Tuple es k p:=λh=>by cases tg<;>first|exact⟨_,_,_,rfl⟩|(simp[isTup]at h)
 unfold cI at h;split at h
 ·rename_i f p as q
  split at h
  ·exact sq h
  ·split at h
   ·rename_i hg
    split at h
    ·rename_i a
     split at h
     ·cases h
     ·rename_i hs
      simp only[bu]at h;obtain⟨ia,h1,rfl⟩:=h;exact tQ O hg (ih.e O h1) (by simpa using hs)
    ·rename_i a b
     split at h
     ·cases h
     ·rename_i hs
      have hs:isStar a=false/\isStar b=false:=by simpa using hs
      simp only[aC,aA]at h;obtain⟨ia,h1,ib,h2,h⟩:=h;cases h;exact Bq O hg (ih.e O h1) (ih.e O h2) hs.1 hs.2
    ·rename_i a b d
     split at h
     ·cases h
     ·rename_i hs
      have hs:(isStar a=false/\isStar b=false)/\isStar d=false:=by simpa[and_assoc]using hs
      simp only[aC,aA]at h;obtain⟨ia,h1,ib,h2,id,h3,h⟩:=h;cases h;exact yf O hg (ih.e O h1) (ih.e O h2) (ih.e O h3) hs.1.1 hs.1.2 hs.2
    ·cases h
   ·rename_i hg
    split at h
    ·rename_i a
     split at h
     ·cases h
     ·rename_i hs
      simp only[bu]at h;obtain⟨ia,h1,rfl⟩:=h;obtain⟨es,k,p',rfl⟩:=tup ht;exact Bb O hg (ih.e O h1) (by simpa using hs)
    ·cases h
   ·rename_i hg
    split at h
    ·rename_i a b
     split at h
     ·cases h
     ·rename_i hs
      have hs:isStar a=false/\isStar b=false:=by simpa using hs
      simp only[aC,aA]at h;obtain⟨ia,h1,ib,h2,h⟩:=h;cases h;obtain⟨es,k,p',rfl⟩:=tup ht;exact DP O hg (ih.e O h1) (ih.e O h2) hs.1 hs.2
    ·cases h
   ·exact sq h
 ·exact sq h
end
section
variable{w:W}{g:Gc}{c:Cc}{E:XK}{X:Cx}{a:Expr}{ia:EV.E}{pos p2 p3 pos3:Pos}
theorem sA(O:XO w g c E X){st:Expr}(ha:PE X a (tE w g c E ia))(hs:q_ st=true):PE X (.Subscript a (.Slice none none (some st) p2) pos) (tE w g c E (.rev ia)):=λpins s σ H Q I ⟨τ,S,se,kk⟩=>by
 simp only[zg,zb,zc,zh,zk,zf,za,zm,ze,qq,qw,qF,qA,qx,qM,qD,qH,qu,qC,qB,qN,qp,qG,qK,qy,qr,qI,qQ,qT,qt,qE,qO,qR,qJ,qS,qL,qV,qU,qP]at kk;exact aQ kk
end
section
variable{w:W}{g:Gc}{n:Nat}
theorem BG{c:Cc}{t:String}{as:List Expr}{a:Expr}(h:kC c t as=some a):∃x p,as=[.Name x p]/\a=.Name x p/\t = "list"/\c.calm=true:=by
 unfold kC at h;split at h
 ·split at h
  ·split at h
   ·rename_i hc
    simp only[aG,beq_iff_eq]at hc;cases h;exact⟨_,_,rfl,rfl,hc.1.1,hc.1.2⟩
   ·cases h
  ·cases h
 ·cases h
theorem Snd.call_name(ih:Snd w g n){c:Cc}{E:XK}{X:Cx}(O:XO w g c E X){f:Str}{p pos:Pos}{as:List Expr}{ir:EV.E}(h:cE (n+1) c (.Call (.Name f p) as [] pos)=some ir):PE X (.Call (.Name f p) as [] pos) (tE w g c E ir):=by
 simp only[cE]at h;split at h
 ·cases h
 ·split at h
  ·rename_i fr hg
   simp only[aC,aA]at h;obtain⟨ies,h1,h⟩:=h;split at h
   ·rename_i hc
    simp only[aG,bj]at hc;cases h
    match as with
    | []=>simp at hc
    |e::es=>exact wd O hg (ih.es O h1) hc.1 (ff h1)
   ·split at h
    ·rename_i hc
     simp only[bj]at hc;cases h
     match as with
     | []=>simp at hc
     |e::es=>exact D3 O hg (ih.es O h1) (ff h1)
    ·cases h
  ·rename_i b hg
   split at h
   ·rename_i a hs;cases hs
   simp only[aC,aA]at h;obtain⟨ies,h1,h⟩:=h;split at h
   ·rename_i hc
    simp only[aG,bj,bG,beq_iff_eq]at hc;cases h
    match as with
    | []=>simp at hc
    |e::es=>exact A4 O hg (by rcases hc.2 with (z|z)|z;exact .inl (O.calm z);exact .inr (.inl z);exact .inr (.inr z)) (ih.es O h1) (ff h1)
   ·cases h
  ·rename_i t b hg
   have plain:∀{ies:Es},cEs n c as=some ies->as.isEmpty=false->PE X (.Call (.Name f p) as [] pos) (tE w g c E (.bi b ies)):=λ{ies} h1 he=>by
    match as with
    | []=>simp at he
    |e::es=>exact DG O hg (ih.es O h1) (ff h1)
   split at h
   ·rename_i y p' as' q
    split at h
    ·rename_i hr
     simp only[aG,beq_iff_eq]at hr;split at h
     ·rename_i hc
      simp only[aG,bG,beq_iff_eq]at hc;split at h
      ·rename_i a
       split at h
       ·cases h
       ·rename_i hs
        have hs:isStar a=false:=by simpa using hs
        simp only[aC,aA]at h;obtain⟨ia,h1,h⟩:=h;cases h;exact pe O (O.calm hc.1) hg hr.2 (DF (ih.e O h1) hs) (by intro z hz;simp at hz;rw[hz];exact hs) hc.2 Dy
      ·rename_i a d
       split at h
       ·cases h
       ·rename_i hs
        have hs:isStar a=false/\isStar d=false:=by simpa using hs
        simp only[aC,aA]at h;obtain⟨ia,h1,ib,h2,h⟩:=h;cases h;exact pe O (O.calm hc.1) hg hr.2 (zE (ih.e O h1) (zE (ih.e O h2) c_ (qh hs.2)) (qh hs.1)) (by intro z hz;simp at hz;rcases hz with rfl|rfl;exact hs.1;exact hs.2) hc.2 Ax
      ·rename_i a d k
       split at h
       ·cases h
       ·rename_i hs
        have hs:(isStar a=false/\isStar d=false)/\isStar k=false:=by simpa[and_assoc]using hs
        simp only[aC,aA]at h;obtain⟨ia,h1,ib,h2,id,h3,h⟩:=h;split at h
        ·rename_i ht
         have ht:=eq_of_beq ht;subst ht;cases h;exact sM O (O.calm hc.1) hg hr.2 (ih.e O h1) (ih.e O h2) (ih.e O h3) hs.1.1 hs.1.2 hs.2
        ·cases h
      ·cases h
     ·cases h
    ·simp only[aC,aA]at h;obtain⟨ies,h1,h⟩:=h;cases h;exact plain h1 rfl
   ·split at h
    ·rename_i a hs
     obtain⟨x,px,rfl,rfl,rfl,hc⟩:=BG hs;obtain⟨ia,h1,rfl⟩:=bu.mp h;exact wQ O (O.calm hc) hg (ih.e O h1) rfl
    simp only[aC,aA]at h;obtain⟨ies,h1,h⟩:=h;split at h
    ·rename_i hc
     cases h;exact plain h1 (by simpa using hc)
    ·cases h
  ·rename_i hg
   split at h
   ·rename_i a k
    split at h
    ·cases h
    ·rename_i hs
     simp only[aC,aA]at h;obtain⟨ia,h1,cl,h2,h⟩:=h;cases h;exact Dn O hg (ih.e O h1) h2 (by simpa using hs)
   ·cases h
  ·cases h
theorem jy:∀{n:Nat}{c:Cc}{l:List Expr}{es:Es},cEs n c l=some es->l.length<=n
 | 0,_,_,_,h=>by simp[cEs]at h
 |n+1,_,[],_,_=>by simp
 |n+1,c,x::l,es,h=>by
  have hs:=ff h x aJ;simp only[cEs,hs,bZ,if_false,aC,aA]at h;obtain⟨_,_,r,hr,_⟩:=h;have:=jy hr
  simpa using this
theorem l9{c:Cc}{elt:Expr}{gs:List cB}{sc:aP}{p:Pos}{ir:EV.E}(h:cE (n+1) c (.ListComp elt gs sc p)=some ir) :
  ∃tgt it ifs iit itg it' ie,gs=[⟨tgt,it,ifs,0⟩]/\(c.calm=true/\zA it=true)/\(iH (λx=>c.nm.lookup x) c.N (bW sc.names) (gn c sc.names) sc=true/\(bW sc.names).Nodup)/\cI n c it=some iit/\cTg (dg c sc) tgt=some itg/\fw n (dg c sc) ifs=some it'/\cE n (dg c sc) elt=some ie/\(esc ie=true/\gw iit tgt=true)/\ir=.comp iit (gn c sc.names) itg it' ie:=by
 unfold cE at h;dsimp only at h;split at h
 ·rename_i tgt it ifs asy
  split at h
  ·cases h
  ·rename_i hs
   have hs:(asy=0/\c.calm=true)/\zA it=true:=by simpa using hs
   obtain⟨⟨rfl,hs1⟩,hs2⟩:=hs;split at h
   ·cases h
   ·rename_i hk
    have hk:iH (λx=>c.nm.lookup x) c.N (bW sc.names) (gn c sc.names) sc=true/\(bW sc.names).Nodup:=by simpa using hk
    simp only[aC,aA]at h;obtain⟨iit,h1,itg,h2,it',h3,ie,h4,h⟩:=h;split at h
    ·rename_i he
     simp only[aG]at he;cases h;exact⟨tgt,it,ifs,iit,itg,it',ie,rfl,⟨hs1,hs2⟩,hk,h1,h2,h3,h4,he,rfl⟩
    ·cases h
 ·cases h
theorem Snd.e_succ(ih:Snd w g n)(hn:n<=100000){c:Cc}{E:XK}{X:Cx}(O:XO w g c E X){x:Expr}{ir:EV.E}(h:cE (n+1) c x=some ir):PE X x (tE w g c E ir):=by
 have h0:=h;unfold cE at h;split at h
 ·-- Name
  rename_i y p
  split at h
  ·rename_i i hl
   have:=lg (w:=w) (E:=E) (pos:=p) O hl;cases ho:c.own.contains y with
   |true=>rw[ho]at h this;cases h;exact this
   |false=>rw[ho]at h this;cases h;exact this
  ·split at h
   ·rename_i hg;cases h;exact rY O hg
   ·rename_i fr hg;cases h;exact tI O hg
   ·cases h
 ·split at h
  ·cases h;exact jA oO λ_=>.int _
  ·cases h;exact jA pK λ_=>.bl _
  ·cases h;exact jA wH λ_=>.non
  ·cases h;exact jA xl λ_=>.str _
  ·cases h
 ·simp only[aC,aA]at h;obtain⟨o,ho,ia,h1,ib,h2,h⟩:=h;cases h;exact u9 O ho (ih.e O h1) (ih.e O h2)
 ·rename_i op a p
  simp only[aC,aA]at h;obtain⟨ia,h1,h⟩:=h;cases op with
  |USub=>cases h;exact wc (ih.e O h1)
  |Invert=>cases h;exact B3 (ih.e O h1)
  |Not=>cases h;exact x_ (ih.e O h1)
  |UAdd=>cases h
 ·exact(ih.bo O h).1
 ·split at h
  ·simp only[aC,aA]at h;obtain⟨ia,h1,ib,h2,h⟩:=h;split at h
   ·rename_i hs;cases h;exact wt O (ih.e O h1) (ih.e O h2) hs
   ·cases h
  ·simp only[aC,aA]at h;obtain⟨ia,h1,ib,h2,id',h3,h⟩:=h;split at h
   ·rename_i hs
    simp only[aG]at hs;cases h;exact yg O (ih.e O h1) (ih.e O h2) (ih.e O h3) hs.2
   ·cases h
  ·simp only[aC,aA]at h;obtain⟨ia,h1,ib,h2,id',h3,if',h4,h⟩:=h;split at h
   ·rename_i hs
    simp only[aG]at hs;cases h;exact D6 O (ih.e O h1) (ih.e O h2) (ih.e O h3) (ih.e O h4) hs.2
   ·cases h
  ·cases h
 ·split at h
  ·split at h
   ·rename_i hk
    rw[List.isEmpty_iff]at hk;subst hk;cases h;exact yG
   ·cases h
  ·split at h
   ·split at h
    ·split at h
     ·rename_i hk
      simp only[aG,List.isEmpty_iff]at hk;obtain⟨rfl,rfl⟩:=hk;simp only[aC,aA]at h;obtain⟨ik,h1,iv,h2,h⟩:=h;cases h;exact uj (ih.e O h1) (ih.e O h2)
     ·cases h
    ·cases h
   ·cases h
 ·simp only[aC,aA]at h;obtain⟨it,h1,ia,h2,ib,h3,h⟩:=h;split at h
  ·rename_i hs
   simp only[aG]at hs;cases h;exact El (ih.t O h1) (ih.e O h2) (ih.e O h3) hs.1 hs.2
  ·cases h
 ·simp only[aC,aA]at h;obtain⟨ies,h1,h⟩:=h;split at h
  ·rename_i hs;cases h
   exact si (ih.es O h1) hs λτ ds e=>by rw[jB h1 e];exact bg (jy h1) hn
  ·cases h
 ·simp only[aC,aA]at h;obtain⟨ies,h1,h⟩:=h;split at h
  ·rename_i hs;cases h
   exact tL (ih.es O h1) hs λτ ds e=>by rw[jB h1 e];exact bg (jy h1) hn
  ·cases h
 ·split at h
  ·rename_i lo hi st' sp
   split at h
   ·split at h
    ·rename_i hq
     simp only[aG,Option.isNone_iff_eq_none]at hq;obtain⟨⟨rfl,rfl⟩,hq⟩:=hq;rw[bu]at h;obtain⟨ia,h1,rfl⟩:=h;exact sA O (ih.e O h1) hq
    ·cases h
   ·simp only[aC,aA]at h;obtain⟨ia,h1,il,h2,ih',h3,h⟩:=h;cases h;exact tK O (ih.e O h1) (ih.o O h2) (ih.o O h3)
  ·split at h
   ·cases h
   ·rename_i hs
    simp only[aC,aA]at h;obtain⟨ia,h1,ib,h2,h⟩:=h;cases h;exact w_ O (ih.e O h1) (ih.e O h2) (by simpa using hs)
 ·-- ListComp
  rename_i elt gs sc p
  obtain⟨tgt,it,ifs,iit,itg,it',ie,rfl,hs,hk,h1,h2,h3,h4,he,rfl⟩:=l9 h0;have hS:dH X (bW sc.names) (gn c sc.names) sc:=dH.of (by
   have e1:(λx=>c.nm.lookup x)=X.env.kindOf:=by funext x;show _=X.env.scope.names.lookup x;rw[O.nm]
   rw[<-e1,O.N];exact hk.1)
  refine Dh O (O.calm hs.1) hS hk.2 (ih.i O h1 he.2) (λcl C s₀ H₀ fp=>?_) he.1 hs.2;have OY:=O.comp hS.kind hk.2 cl C s₀ H₀ fp;exact⟨gZ OY h2,ih.ifs OY h3,ih.e OY h4⟩
 ·split at h
  ·split at h
   ·exact ih.call_name O h0
   ·split at h
    ·rename_i hm
     cases h;exact xr O hm
    ·split at h
     ·split at h
      ·cases h
      ·rename_i hc
       simp only[bG,bj,not_or,dB,Bool.not_eq_false]at hc;simp only[aC,aA]at h;obtain⟨io,h1,ia,h2,h⟩:=h;obtain⟨⟨⟨c1,c2⟩,c3⟩,c4⟩:=hc;split at h
       ·rename_i hg
        cases h;have hg:=eq_of_beq hg;subst hg;exact sO O c1 (ih.e O h1) (ih.e O h2) c2 c4
       ·rename_i hg
        split at h
        ·cases h;have c3:=eq_of_beq (c3.resolve_right hg);subst c3;exact xP O c1 (ih.e O h1) (ih.e O h2) c2 c4
        ·cases h
     ·split at h
      ·cases h
      ·rename_i hc
       simp only[bG,bj,not_or,dB,Bool.not_eq_false]at hc;simp only[aC,aA]at h;obtain⟨io,h1,ia,h2,id,h3,h⟩:=h;obtain⟨⟨⟨⟨c1,c2⟩,c3⟩,c4⟩,c5⟩:=hc;have c4:=eq_of_beq c4;subst c4;split at h
       ·rename_i hes
        cases h;exact xn O c1 (ih.e O h1) (ih.e O h2) (ih.e O h3) c2 c3 hes c5
       ·cases h
     ·cases h
   ·cases h
  ·cases h
 ·cases h
theorem r8:Snd w g 0:=⟨λ_ _ _ h=>by simp[cE]at h,λ_ _ _ _ _ h=>by simp[cBo]at h,λ_ _ _ h=>by simp[cO]at h,λ_ _ _ h=>by simp[cEs]at h,λ_ _ _ _ h=>by simp[cI]at h,λ_ _ _ h=>by simp[cT]at h,λ_ _ _ _ _ h=>by simp[cTs]at h,λ_ _ _ h=>by simp[fw]at h⟩
theorem snd:∀n,n<=100000->Snd w g n
 | 0,_=>r8
 |n+1,h=>
  have ih:=snd n (Nat.le_of_succ_le h)
  ⟨λO _ _ q=>ih.e_succ (Nat.le_of_succ_le h) O q,λO _ _ _ _ q=>ih.bo_succ O q,λO _ _ q=>ih.o_succ O q,λO _ _ q=>ih.es_succ O q,λO _ _ _ q t=>ih.i_succ O q t,λO _ _ q=>ih.t_succ O q,λO _ _ _ _ q=>ih.ts_succ O q,λO _ _ q=>ih.ifs_succ O q⟩
end
noncomputable def zp(c:Cc)(i:Nat):Prop:=∃x,c.N[i]? = some x/\c.own.contains x=true
structure SS(g:Gc)(c:Cc)(H0:Hp)(B:Sh)(τ:Env)(σ:L2.St)(H:Hp)(S:Sh):Prop where
 se:SE g c τ σ H S
 lenN:τ.length=c.N.length
 same:qf H0 H
 sub0:Sub B H0
 hd:∀a,S.h a=(B.h a||S.o a)
 new:∀a,S.o a=true->H0 a=none
 own:∀i d,zp c i->τ[i]? = some (some d)->∃a o,σ[i]? = some (some (.ref a))/\S.o a=true/\H a=some o/\cW g (hid H S) d o
 inj:∀i j d e a,zp c i->zp c j->τ[i]? = some (some d)->τ[j]? = some (some e)->σ[i]? = some (some (.ref a))->σ[j]? = some (some (.ref a))->i=j
 frz:c.frz=true->(∀i,zp c i->σ[i]? = B.z[i]?)/\qf B.y H
section
variable{g:Gc}{c:Cc}{H0:Hp}{B:Sh}{τ:Env}{σ:L2.St}{H H':Hp}{S:Sh}
theorem SS.up(s:SS g c H0 B τ σ H S)(e:qf H H'):SS g c H0 B τ σ H' S:=
 ⟨s.se.up e,s.lenN,s.same.trans e,s.sub0,s.hd,s.new,λi d hi h=>let ⟨a,o,h1,h2,h4,h5⟩:=s.own i d hi h;⟨a,o,h1,h2,e _ _ h4,h5.mono (qo e)⟩,s.inj,λz=>⟨(s.frz z).1,(s.frz z).2.trans e⟩⟩
theorem SS.set{i:Nat}{d:D}{v:V}(s:SS g c H0 B τ σ H S)(hi:¬ zp c i)(r:Rep g (hid H S) d v):SS g c H0 B (τ.set i (some d)) (σ.set i (some v)) H S:=by
 refine⟨s.se.set r,by simp[s.lenN],s.same,s.sub0,s.hd,s.new,λj e hj h=>?_,λj k e f a hj hk h1 h2 h3 h4=>?_,λz=>⟨λj hj=>?_,(s.frz z).2⟩⟩
 ·have hij:i≠j:=λz=>hi (z▸hj)
  rw[List.getElem?_set_ne hij]at h ⊢;exact s.own j e hj h
 ·have hij:i≠j:=λz=>hi (z▸hj)
  have hik:i≠k:=λz=>hi (z▸hk)
  rw[List.getElem?_set_ne hij]at h1 h3;rw[List.getElem?_set_ne hik]at h2 h4;exact s.inj j k e f a hj hk h1 h2 h3 h4
 ·rw[List.getElem?_set_ne (λz:i=j=>hi (z▸hj))];exact(s.frz z).1 j hj
theorem SS.setAll{is:List Nat}:∀{ds:List D}{vs:List V}{τ τ':Env}{σ:L2.St}{Q:L2.St->Hp->Prop},SS g c H0 B τ σ H S->(∀i∈is,¬ zp c i)->qZ g (hid H S) ds vs->EV.setAll is ds τ=.ok τ'->(∀σ',SS g c H0 B τ' σ' H S->Q σ' H)->iw is vs σ H Q:=by
 induction is with
 |nil=>
  intro ds vs τ τ' σ Q se _ r h k;cases r with
  |nil=>cases (show R.ok τ=R.ok τ' from h);exact⟨rfl,k σ se⟩
  |cons _ _=>cases (show R.no=R.ok τ' from h)
 |cons i is ih=>
  intro ds vs τ τ' σ Q se ho r h k;cases r with
  |nil=>cases (show R.no=R.ok τ' from h)
  |cons r rs=>exact⟨_,_,rfl,ih (se.set (ho i aJ) r) (λj hj=>ho j (aK _ hj)) rs h k⟩
theorem Aq{tg:Tg}(h:h_ c tg):match tg with | .nm i=>¬ zp c i | .tp is=>∀i∈is,¬ zp c i:=by
 cases tg with
 |nm i=>rintro⟨x,h1,h2⟩;rw[h x h1]at h2;cases h2
 |tp is=>rintro i hi ⟨x,h1,h2⟩;rw[h i hi x h1]at h2;cases h2
theorem SS.store{X:Cx}(O:X.K=g.K){tg:Tg}{d:D}{v:V}{τ':Env}{Q:L2.St->Hp->Prop}(s:SS g c H0 B τ σ H S)(hf:h_ c tg)(r:Rep g (hid H S) d v)(h:EV.store tg d τ=.ok τ')(k:∀σ',SS g c H0 B τ' σ' H S->Q σ' H):gT X.K tg v σ H Q:=by
 have ho:=Aq hf;cases tg with
 |nm i=>
  simp only[EV.store,R.ok.injEq]at h;subst h;exact k _ (s.set ho r)
 |tp is=>
  cases d with
  |tup ds=>
   simp only[EV.store]at h;split at h
   ·rename_i hl
    cases r with
    |tup h1 r1=>exact⟨_,_,rfl,by rw[O];exact zN zK h1,by rw[<-r1.length];exact hl,s.setAll ho r1 h k⟩
   ·cases h
  |_=>simp[EV.store]at h
noncomputable def rS(S:Sh)(a:Addr):Sh:=⟨λb=>S.o b||b==a,λb=>S.h b||b==a,S.z,S.y⟩
theorem SS.setOwn{i:Nat}{d:D}{v:V}(s:SS g c H0 B τ σ H S)(hz:c.frz=false)(hi:zp c i)(hlt:i<τ.length)(e:qf H H')(f:Fr g H S H' d v):∃S',SS g c H0 B (τ.set i (some d)) (σ.set i (some v)) H' S'/\qf (hid H S) (hid H' S'):=by
 obtain⟨a,oo,rfl,h1,h2,h3⟩:=f;have up:qf (hid H S) (hid H' (rS S a)):=λb o hb=>by
  obtain⟨z1,z2⟩:=bq.mp hb;refine bq.mpr ⟨?_,e _ _ z2⟩;show (S.h b||b==a)=false;rw[z1]
  simpa using λz:b=a=>by rw[z,h1]at z2;cases z2
 have hlt':i<σ.length:=by rw[<-s.se.len];exact hlt
 refine⟨rS S a,⟨⟨by simp[s.se.len],λj e' hj=>?_,λb hb n=>?_⟩,by simp[s.lenN],s.same.trans e,s.sub0,λb=>?_,λb hb=>?_,λj e' hj h=>?_,λj k e1 e2 b hj hk q1 q2 q3 q4=>?_,λz=>by rw[hz]at z;cases z⟩,up⟩
 ·by_cases hij:i=j
  ·subst hij;simp[hlt]at hj;subst hj;refine⟨.ref a,by simp[hlt'],.inr ⟨a,oo,by show (S.o a||a==a)=true;simp,rfl,h2,h3⟩,λx hx hn=>?_⟩;obtain⟨y,hy1,hy2⟩:=hi;rw[hy1]at hx;cases hx;rw[hn]at hy2;cases hy2
  ·rw[List.getElem?_set_ne hij]at hj ⊢;obtain⟨u,z1,z2,z3⟩:=s.se.val j e' hj;refine⟨u,z1,?_,λx hx hn=>(z3 x hx hn).mono up⟩;rcases z2 with z2|⟨a',o',y1,y2,y4,y5⟩
   ·exact .inl (z2.mono up)
   ·exact .inr ⟨a',o',by show (S.o a'||a'==a)=true;rw[y1];rfl,y2,e _ _ y4,y5.mono up⟩
 ·have hb:(S.h b||b==a)=true\/(S.o b||b==a)=true:=hb;by_cases hba:b=a
  ·rw[hba,h2]at n;cases n
  ·have:S.h b=true\/S.o b=true:=by
    rcases hb with z|z
    ·exact .inl (by simpa[hba]using z)
    ·exact .inr (by simpa[hba]using z)
   exact(s.se.sub.same e) b this n
 ·show (S.h b||b==a)=(B.h b||(S.o b||b==a))
  rw[s.hd b,Bool.or_assoc]
 ·have hb:(S.o b||b==a)=true:=hb;by_cases hba:b=a
  ·rw[hba];exact s.same.free h1
  ·exact s.new b (by simpa[hba]using hb)
 ·by_cases hij:i=j
  ·subst hij;simp[hlt]at h;subst h;exact⟨a,oo,by simp[hlt'],by show (S.o a||a==a)=true;simp,h2,h3⟩
  ·rw[List.getElem?_set_ne hij]at h ⊢;obtain⟨a',o',y1,y2,y4,y5⟩:=s.own j e' hj h;exact⟨a',o',y1,by show (S.o a'||a'==a)=true;rw[y2];rfl,e _ _ y4,y5.mono up⟩
 ·have other:∀j e1 b,i≠j->zp c j->τ[j]? = some (some e1)->σ[j]? = some (some (.ref b))->b≠a:=λj e1 b hij hj q1 q3 z=>by
   obtain⟨a',o',y1,y2,y4,y5⟩:=s.own j e1 hj q1;rw[q3]at y1;cases y1;rw[z,h1]at y4;cases y4
  by_cases hij:i=j
  ·by_cases hik:i=k
   ·rw[<-hij,<-hik]
   ·subst hij;rw[List.getElem?_set_ne hik]at q2 q4;have q3':b=a:=by
     have:(σ.set i (some (.ref a)))[i]? = some (some (.ref a)):=by simp[hlt']
     rw[this]at q3;cases q3;rfl
    exact absurd q3' (other k e2 b hik hk q2 q4)
  ·by_cases hik:i=k
   ·subst hik;rw[List.getElem?_set_ne hij]at q1 q3;have q4':b=a:=by
     have:(σ.set i (some (.ref a)))[i]? = some (some (.ref a)):=by simp[hlt']
     rw[this]at q4;cases q4;rfl
    exact absurd q4' (other j e1 b hij hj q1 q3)
   ·rw[List.getElem?_set_ne hij]at q1 q3;rw[List.getElem?_set_ne hik]at q2 q4;exact s.inj j k e1 e2 b hj hk q1 q2 q3 q4
theorem SS.changeO{i:Nat}{a:Addr}{d0 d1:D}{o1:HO}(s:SS g c H0 B τ σ H S)(hz:c.frz=false)(hi:zp c i)(h0:τ[i]? = some (some d0))(ha:σ[i]? = some (some (.ref a)))(r:cW g (hid H S) d1 o1):SS g c H0 B (τ.set i (some d1)) σ (upd H a o1) S/\qf (hid H S) (hid (upd H a o1) S):=by
 have hlt:i<τ.length:=(List.getElem?_eq_some_iff.mp h0).1;obtain⟨a',o0,y1,y2,y4,y5⟩:=s.own i d0 hi h0;rw[ha]at y1;cases y1;have hh:S.h a=true:=by rw[s.hd,y2,Bool.or_true]
 have he:hid (upd H a o1) S=hid H S:=hJ hh;have other:∀j e,i≠j->zp c j->τ[j]? = some (some e)->∀b,σ[j]? = some (some (.ref b))->b≠a:=λj e hij hj h b hb z=>by
  subst z;exact hij (s.inj i j d0 e b hi hj h0 h ha hb)
 refine⟨⟨⟨by simp[s.se.len],λj e hj=>?_,λb hb n=>?_⟩,by simp[s.lenN],λb o hb=>?_,s.sub0,s.hd,s.new,λj e hj h=>?_,λj k e1 e2 b hj hk q1 q2 q3 q4=>?_,λz=>by rw[hz]at z;cases z⟩,by rw[he];exact qf.refl _⟩
 ·by_cases hij:i=j
  ·subst hij;simp[hlt]at hj;subst hj;refine⟨.ref a,ha,.inr ⟨a,o1,y2,rfl,zx,by rw[he];exact r⟩,λx hx hn=>?_⟩;obtain⟨y,hy1,hy2⟩:=hi;rw[hy1]at hx;cases hx;rw[hn]at hy2;cases hy2
  ·rw[List.getElem?_set_ne hij]at hj;obtain⟨u,z1,z2,z3⟩:=s.se.val j e hj;by_cases ho:zp c j
   ·obtain⟨b,ob,w1,w2,w4,w5⟩:=s.own j e ho hj;rw[z1]at w1;cases w1;refine⟨_,z1,.inr ⟨b,ob,w2,rfl,by rw[qg (other j e hij ho hj b z1)];exact w4,by rw[he];exact w5⟩,λx hx hn=>?_⟩;obtain⟨y,hy1,hy2⟩:=ho;rw[hy1]at hx;cases hx;rw[hn]at hy2;cases hy2
   ·have st:Rep g (hid H S) e u:=by
     cases q:c.N[j]? with
     |some x=>
      refine z3 x q ?_;cases q2:c.own.contains x with
      |false=>rfl
      |true=>exact absurd ⟨x,q,q2⟩ ho
     |none=>
      have h1:=(List.getElem?_eq_some_iff.mp hj).1;have h2:=List.getElem?_eq_none_iff.mp q;have h3:=s.lenN;lia
    exact⟨u,z1,.inl (by rw[he];exact st),λ_ _ _=>by rw[he];exact st⟩
 ·by_cases hba:b=a
  ·subst hba;rw[zx]at n;cases n
  ·rw[qg hba]at n;exact s.se.sub b hb n
 ·by_cases hba:b=a
  ·subst hba;rw[s.new b y2]at hb;cases hb
  ·rw[qg hba];exact s.same _ _ hb
 ·by_cases hij:i=j
  ·subst hij;simp[hlt]at h;subst h;exact⟨a,o1,ha,y2,zx,by rw[he];exact r⟩
  ·rw[List.getElem?_set_ne hij]at h;obtain⟨b,ob,w1,w2,w4,w5⟩:=s.own j e hj h;exact⟨b,ob,w1,w2,by rw[qg (other j e hij hj h b w1)];exact w4,by rw[he];exact w5⟩
 ·have f:∀k e,(τ.set i (some d1))[k]? = some (some e)->∃e',τ[k]? = some (some e'):=λk e h=>by
   by_cases hik:i=k
   ·subst hik;exact⟨d0,h0⟩
   ·rw[List.getElem?_set_ne hik]at h;exact⟨e,h⟩
  obtain⟨e1',q1'⟩:=f j e1 q1;obtain⟨e2',q2'⟩:=f k e2 q2;exact s.inj j k e1' e2' b hj hk q1' q2' q3 q4
theorem SS.change{i:Nat}{a:Addr}{d0:D}{vs:List V}{ds:List D}(s:SS g c H0 B τ σ H S)(hz:c.frz=false)(hi:zp c i)(h0:τ[i]? = some (some d0))(ha:σ[i]? = some (some (.ref a)))(r:qZ g (hid H S) ds vs):SS g c H0 B (τ.set i (some (.lst ds))) σ (upd H a (.lst vs)) S/\qf (hid H S) (hid (upd H a (.lst vs)) S):=s.changeO hz hi h0 ha (.lst r)
end
noncomputable def bT(g:Gc)(c:Cc)(E:XK)(fr:Bool)(H0:Hp)(B:Sh)(H:Hp)(S:Sh)(D:Ends):O->Prop
 | .nx τ'=>∀σ' H' S',SS g c H0 B τ' σ' H' S'->qf (hid H S) (hid H' S')->D.nx σ' H'
 | .bk τ'=>∀σ' H' S',SS g c H0 B τ' σ' H' S'->qf (hid H S) (hid H' S')->D.bk σ' H'
 | .ct τ'=>∀σ' H' S',SS g c H0 B τ' σ' H' S'->qf (hid H S) (hid H' S')->D.ct σ' H'
 | .rt d=>∀v H',qf H0 H'->Rep g (hid H' B) d v->(fr=true->Fr g H0 B H' d v)->D.rt v H'
 | .ex k=>∀H' C,qf H0 H'->g.clA k=some C->E (.ref C) none H'
 | .no=>False
section
variable(w:W)(g:Gc)(c:Cc)(E:XK)(fr:Bool)
noncomputable def tS(s:EV.S):TS:=λD σ H=>∃H0 B τ S,SS g c H0 B τ σ H S/\bT g c E fr H0 B H S D (evS w s τ)
noncomputable def tSs(s:Ss):TS:=λD σ H=>∃H0 B τ S,SS g c H0 B τ σ H S/\bT g c E fr H0 B H S D (qe w s τ)
end
structure XS(w:W)(g:Gc)(c:Cc)(E:XK)(X:Cx):Prop extends XO w g c E X where
 thr:c.thr=true->Throws X E
 exc:∀x C,c.G.lookup x=some .exc->g.clA x=some C->kU g.K C
 cat:∀k x,w.cat k x=true->∀C D,g.clA k=some C->g.clA x=some D->bO g.K (.ref C) (.ref D)=some true
 frm:X.ex=[]/\X.stack=X.env::X.outer/\X.env.frame=some X.env.locals
 gh:∀x k,c.GH.lookup x=some k->k≠.exc/\∀v,GM w g X.prog X.w X.mg X.base (X.A.mark v) false x k
section
variable{w:W}{g:Gc}{c:Cc}{E:XK}{fr:Bool}{X:Cx}{H0:Hp}{B:Sh}{τ:Env}{σ:L2.St}{H H':Hp}{S:Sh}{Ed:Ends}
theorem bT.up{o:O}{S':Sh}(h:bT g c E fr H0 B H S Ed o)(e:qf (hid H S) (hid H' S')):bT g c E fr H0 B H' S' Ed o:=by
 cases o with
 |nx t=>exact λσ' H2 S2 s e2=>h σ' H2 S2 s (e.trans e2)
 |bk t=>exact λσ' H2 S2 s e2=>h σ' H2 S2 s (e.trans e2)
 |ct t=>exact λσ' H2 S2 s e2=>h σ' H2 S2 s (e.trans e2)
 |rt d=>exact h
 |ex k=>exact h
 |no=>exact h
theorem s_e{e:EV.E}{f:D->O}{Q:VK}(ss:SS g c H0 B τ σ H S)(h:bT g c E fr H0 B H S Ed ((evE w e τ).out f))(k:∀d v H',evE w e τ=.ok d->a9 g c e S H d v H'->bT g c E fr H0 B H S Ed (f d)->Q v H'):tE w g c E e σ H Q:=by
 refine⟨τ,S,ss.se,?_⟩;cases q:evE w e τ with
 |ok d=>rw[q]at h;exact λv H' p=>k d v H' q p h
 |ex x=>rw[q]at h;exact λH' C s hc=>h H' C (ss.same.trans s) hc
 |no=>rw[q]at h;exact h
theorem s_t{t:T}{f:Bool->O}{Q:Bool->Hp->Prop}(ss:SS g c H0 B τ σ H S)(h:bT g c E fr H0 B H S Ed ((evT w t τ).out f))(k:∀b H',evT w t τ=.ok b->qf H H'->bT g c E fr H0 B H S Ed (f b)->Q b H'):tT w g c E t σ H Q:=by
 refine⟨τ,S,ss.se,?_⟩;cases q:evT w t τ with
 |ok d=>rw[q]at h;exact λH' p=>k d H' q p h
 |ex x=>rw[q]at h;exact λH' C s hc=>h H' C (ss.same.trans s) hc
 |no=>rw[q]at h;exact h
theorem s_a{es:Es}{f:List D->O}{Q:List V->Hp->Prop}(ss:SS g c H0 B τ σ H S)(h:bT g c E fr H0 B H S Ed ((zz w es τ).out f))(k:∀ds vs H',zz w es τ=.ok ds->qf H H'->ef g H' S ds vs->bT g c E fr H0 B H S Ed (f ds)->Q vs H'):tA w g c E es σ H Q:=by
 refine⟨τ,S,ss.se,?_⟩;cases q:zz w es τ with
 |ok d=>rw[q]at h;exact λvs H' p r _=>k d vs H' q p r h
 |ex x=>rw[q]at h;exact λH' C s hc=>h H' C (ss.same.trans s) hc
 |no=>rw[q]at h;exact h
theorem oZ(ss:SS g c H0 B τ σ H S){b:Addr}(h:S.h b=false):B.h b=false:=by
 have:=ss.hd b;rw[h]at this;cases q:B.h b with
 |false=>rfl
 |true=>rw[q]at this;cases this
theorem Bf(ss:SS g c H0 B τ σ H S):qf (hid H' S) (hid H' B):=λb o h=>by
 obtain⟨z1,z2⟩:=bq.mp h;exact bq.mpr ⟨oZ ss z1,z2⟩
theorem rp:∀{is:List Nat}{ds:List EV.D}{τ:Env}{x:Str},setAll is ds τ≠.ex x
 | [],[],_,_,h=>by cases h
 | [],_::_,_,_,h=>by cases h
 |_::_,[],_,_,h=>by cases h
 |i::is,d::ds,τ,x,h=>by simp only[setAll]at h;exact rp h
theorem vM{pos:Pos}:PS X (.Pass pos) (tS w g c E fr .pass):=PS.imp wR λD σ H ⟨H0,B,τ,S,ss,h⟩=>h σ H S ss (qf.refl _)
theorem ym{pos:Pos}:PS X (.Break pos) (tS w g c E fr .brk):=PS.imp AG λD σ H ⟨H0,B,τ,S,ss,h⟩=>h σ H S ss (qf.refl _)
theorem vy{pos:Pos}:PS X (.Continue pos) (tS w g c E fr .cnt):=PS.imp C_ λD σ H ⟨H0,B,τ,S,ss,h⟩=>h σ H S ss (qf.refl _)
theorem gQ{e:Expr}{t:Option Expr}{l:Nat}{env:PySem.Env}(h:eF e=false):swapsWith e t l env=pure false:=by
 cases e<;>first|rfl|(simp[eF]at h)
theorem BA{e:Expr}{ie:EV.E}{pos:Pos}(he:PE X e (tE w g c E ie))(hc:eF e=false):PS X (.Expr e pos) (tS w g c E fr (.exp ie)):=
 PS.imp (jE he (gQ hc)) λD σ H ⟨H0,B,τ,S,ss,h⟩=>by
  simp only[b9,bY,ck,cf,zL,b_,bU,bV,cq,zO,zH,zX,zZ,zW,zR,zY,zT,zU,cj,zS]at h;exact s_e ss h λd v H' _ p k=>k σ H' S (ss.up p.same) (qo p.same)
theorem Ck{pos:Pos}(hf:fr=false):PS X (.Return none pos) (tS w g c E fr .retN):=PS.imp Cg λD σ H ⟨H0,B,τ,S,ss,h⟩=>h _ _ ss.same .non (by rw[hf];intro z;cases z)
theorem kA(ss:SS g c H0 B τ σ H S){a:Addr}{d:EV.D}{o:HO}(h1:H0 a=none)(h2:H' a=some o)(h3:cW g (hid H' (cH S a)) d o):Rep g (hid H' B) d (.ref a)/\Fr g H0 B H' d (.ref a):=by
 have up:qf (hid H' (cH S a)) (hid H' (cH B a)):=λb o hb=>by
  obtain⟨z1,z2⟩:=bq.mp hb;refine bq.mpr ⟨?_,z2⟩;have z1:(S.h b||b==a)=false:=z1;simp only[Bool.or_eq_false_iff]at z1;show (B.h b||b==a)=false;rw[oZ ss z1.1,z1.2];rfl
 exact⟨h3.rep (up.trans nL) (bq.mpr ⟨ss.sub0.free h1,h2⟩),⟨a,o,rfl,h1,h2,h3.mono up⟩⟩
theorem pL(ss:SS g c H0 B τ σ H S){a:Addr}{d:EV.D}{o1:HO}(y1:S.o a=true)(y3:cW g (hid H' S) d o1):cW g (hid H' (cH S a)) d o1:=y3.mono λb o hb=>by
 have hh:S.h a=true:=by rw[ss.hd,y1,Bool.or_true]
 obtain⟨z1,z2⟩:=bq.mp hb;refine bq.mpr ⟨?_,z2⟩;show (S.h b||b==a)=false;rw[z1]
 simpa using λz:b=a=>by rw[z,hh]at z1;cases z1
theorem p7{e:Expr}{ie:EV.E}{pos:Pos}(he:PE X e (tE w g c E ie))(hf:fr=true->fresh c ie=true):PS X (.Return (some e) pos) (tS w g c E fr (.ret ie)):=
 PS.imp (pB he) λD σ H ⟨H0,B,τ,S,ss,h⟩=>by
  simp only[b9,bY,ck,cf,zL,b_,bU,bV,cq,zO,zH,zX,zZ,zW,zR,zY,zT,zU,cj,zS]at h;refine s_e ss h λd v H' _ p k=>?_
  have k:∀v H',qf H0 H'->Rep g (hid H' B) d v->(fr=true->Fr g H0 B H' d v)->D.rt v H':=k;have s1:=ss.up p.same;by_cases hz:fr=true
  ·obtain⟨a,o,rfl,h1,h2,h3⟩:=p.fr (hf hz);obtain⟨r1,r2⟩:=kA (H':=H') ss (ss.same.free h1) h2 h3;exact k _ H' s1.same r1 λ_=>r2
  ·rcases p.rb with r|⟨a,o,y1,rfl,y2,y3⟩
   ·exact k v H' s1.same (r.mono (Bf ss)) λz=>absurd z hz
   ·obtain⟨r1,r2⟩:=kA (H':=H') ss (ss.new a y1) y2 (pL ss y1 y3);exact k _ H' s1.same r1 λ_=>r2
theorem Ae(O:XO w g c E X){x:Str}{i:Nat}{p pos:Pos}(h:loc c x=some i)(ho:c.own.contains x=true):PS X (.Return (some (.Name x p)) pos) (tS w g c E fr (.ret (.own i))):=by
 obtain⟨h1,h2,h3,h4⟩:=zy h;refine PS.imp (pB (fP (i:=i) (by rw[O.N];exact h1) (by unfold eB;rw[O.nm];exact h2) h3 h4)) λD σ H ⟨H0,B,τ,S,ss,h⟩=>?_
 simp only[b9,bY,ck,cf,zL,b_,bU,bV,cq,zO,zH,zX,zZ,zW,zR,zY,zT,zU,cj,zS,zg,zb,zc,zh,zk,zf,za,zm,ze,qq,qw,qF,qA,qx,qM,qD,qH,qu,qC,qB,qN,qp,qG,qK,qy,qr,qI,qQ,qT,qt,qE,qO,qR,qJ,qS,qL,qV,qU,qP,zM]at h;cases q:τ[i]? with
 |none=>rw[q]at h;exact h.elim
 |some o=>
  cases o with
  |none=>rw[q]at h;exact h.elim
  |some d=>
   rw[q]at h;obtain⟨a,o,z1,y1,y2,y3⟩:=ss.own i d ⟨x,h1,ho⟩ q;obtain⟨r1,r2⟩:=kA (H':=H) ss (ss.new a y1) y2 (pL ss y1 y3);exact⟨_,z1,h _ H ss.same r1 λ_=>r2⟩
theorem kh{e:Expr}{ie:EV.E}{i:Nat}{st:Stmt}{te:TE}(hp:PS X st (jr te (fg i)))(hr:∀σ H Q,tE w g c E ie σ H Q->te σ H Q)(hlt:i<c.N.length)(hk:(zp c i/\fresh c ie=true/\c.frz=false)\/(¬ zp c i/\esc ie=true)):PS X st (tS w g c E fr (.set (.nm i) ie)):=
 PS.imp hp λD σ H ⟨H0,B,τ,S,ss,h⟩=>by
  simp only[b9,bY,ck,cf,zL,b_,bU,bV,cq,zO,zH,zX,zZ,zW,zR,zY,zT,zU,cj,zS,store]at h;refine hr σ H _ (s_e ss h λd v H' _ p k=>?_);have k:∀σ' H2 S2,SS g c H0 B (τ.set i (some d)) σ' H2 S2->qf (hid H S) (hid H2 S2)->D.nx σ' H2:=k;rcases hk with ⟨ho,hf,hfz⟩|⟨ho,he⟩
  ·obtain⟨S',s1,s2⟩:=ss.setOwn hfz ho (by rw[ss.lenN];exact hlt) p.same (p.fr hf);exact k _ _ S' s1 s2
  ·exact k _ _ S ((ss.up p.same).set ho (p.st he)) (qo p.same)
theorem nS(O:XO w g c E X){tg e:Expr}{itg:Tg}{ie:EV.E}{pos:Pos}(he:PE X e (tE w g c E ie))(hg:PG X tg (gT X.K itg))(hf:h_ c itg)(hes:esc ie=true)(hs:swapsWithSole [tg] e pos.line X.env=pure false)(hw:swappedStores [tg] e X.env=pure none)(h1:(assignEach [tg] X.env).map (·.2)=[assign tg X.env]) :
  PS X (.Assign [tg] e pos) (tS w g c E fr (.set itg ie)):=
 PS.imp (oS he hg hs hw h1) λD σ H ⟨H0,B,τ,S,ss,h⟩=>by
  simp only[b9,bY,ck,cf,zL,b_,bU,bV,cq,zO,zH,zX,zZ,zW,zR,zY,zT,zU,cj,zS]at h;refine s_e ss h λd v H' _ p k=>?_
  cases q:store itg d τ with
  |ok τ'=>
   rw[q]at k;exact(ss.up p.same).store O.K hf (p.st hes) q λσ' s1=>k σ' H' S s1 (qo p.same)
  |ex z=>cases itg<;>simp only[store]at q<;>first|cases q|(split at q<;>first|cases q|(split at q<;>first|(exact absurd q (rp))|cases q))
  |no=>rw[q]at k;exact k.elim
theorem uQ(O:XO w g c E X)(hc:X.calm=true){x y:Str}{i j:Nat}{a b:Expr}{ia ib:EV.E}{px py pt pos:Pos}{kt k2 pt2}(hx:bK c x=some i)(hy:bK c y=some j)(lx:c.nm.lookup x=some .local)(ly:c.nm.lookup y=some .local)(hij:i≠j)
  (ha:PE X a (tE w g c E ia)) (hb:PE X b (tE w g c E ib)) (hsa:isStar a=false) (hsb:isStar b=false) (hfa:[a,b].all (foldedForSure 8)=false) (hca:[a,b].all (constantsAlone 8)=false) (hl:(px.line==py.line)=true) (hi:¬ zp c i) (hea:esc ia=true) (hk:(zp c j/\fresh c ib=true/\c.frz=false)\/(¬ zp c j/\esc ib=true)) :
  PS X (.Assign [.Tuple [.Name x px,.Name y py] kt pt] (.Tuple [a,b] k2 pt2) pos) (tS w g c E fr (.par i j ia ib)):=λpins s σ H D I ⟨H0,B,τ,S,ss,h⟩=>by
 simp only[b9,bY,ck,cf,zL,b_,bU,bV,cq,zO,zH,zX,zZ,zW,zR,zY,zT,zU,cj,zS]at h;exact aQ h
theorem uT(O:XO w g c E X)(hc:X.calm=true){x y z:Str}{i j l:Nat}{a b d:Expr}{ia ib id:EV.E}{px py pz pt pos:Pos}{kt k2 pt2}(hx:bK c x=some i)(hy:bK c y=some j)(hz:bK c z=some l)(lx:c.nm.lookup x=some .local)(ly:c.nm.lookup y=some .local)(lz:c.nm.lookup z=some .local)(hij:i≠j)(hil:i≠l)(hjl:j≠l)
  (ha:PE X a (tE w g c E ia)) (hb:PE X b (tE w g c E ib)) (hd:PE X d (tE w g c E id)) (hsa:isStar a=false) (hsb:isStar b=false) (hsd:isStar d=false) (hfa:[a,b,d].all (foldedForSure 8)=false) (hca:[a,b,d].all (constantsAlone 8)=false) (hl:(px.line==py.line)=true) (hl':(px.line==pz.line)=true) (hi:¬ zp c i) (hj:¬ zp c j) (hk:¬ zp c l) (hea:esc ia=true) (heb:esc ib=true) (hed:esc id=true) :
  PS X (.Assign [.Tuple [.Name x px,.Name y py,.Name z pz] kt pt] (.Tuple [a,b,d] k2 pt2) pos) (tS w g c E fr (.par3 i j l ia ib id)):=λpins s σ H D I ⟨H0,B,τ,S,ss,h⟩=>by
 simp only[b9,bY,ck,cf,zL,b_,bU,bV,cq,zO,zH,zX,zZ,zW,zR,zY,zT,zU,cj,zS]at h;exact aQ h
end
section
variable{w:W}{g:Gc}{c:Cc}{E:XK}{fr:Bool}{X:Cx}{H0:Hp}{B:Sh}{τ:Env}{σ:L2.St}{H H':Hp}{S:Sh}{Ed:Ends}
theorem gX{i:Nat}{d:EV.D}(h:zM τ i=.ok d):τ[i]? = some (some d):=by
 unfold zM at h;split at h
 ·rename_i q;cases h;exact q
 ·cases h
theorem BY(O:XO w g c E X)(hfz:c.frz=false){x:Str}{i:Nat}{a:Expr}{ia:EV.E}{p ap cp pos:Pos}(h:loc c x=some i)(ho:c.own.contains x=true)(ha:PE X a (tE w g c E ia))(hes:esc ia=true)(hs:isStar a=false)(hl:(ap.endLine==cp.line)=true) :
  PS X (.Expr (.Call (.Attribute (.Name x p) "append" ap) [a] [] cp) pos) (tS w g c E fr (.app i ia)):=by
 obtain⟨h1,h2,h3,h4⟩:=zy h;have hv:PE X (.Name x p) (fi i):=fP (i:=i) (by rw[O.N];exact h1) (by unfold eB;rw[O.nm];exact h2) h3 h4;have hst:=qh (es:=[]) (env:=X.env) hs;have hb:=gb (X:=X) (apos:=ap) (cpos:=cp) PySem.F.plainAttrs_list PySem.F.slot_list_append PySem.F.type_list_append nv hv (zE ha c_ hst) rfl (by rw[hst];rfl) hl hst rfl;refine PS.imp (jE hb rfl) λD σ H ⟨H0,B,τ,S,ss,k⟩=>?_
 simp only[b9,bY,ck,cf,zL,b_,bU,bV,cq,zO,zH,zX,zZ,zW,zR,zY,zT,zU,cj,zS]at k;cases q:zM τ i with
 |ex z=>unfold zM at q;split at q<;>cases q
 |no=>rw[q]at k;exact k.elim
 |ok d0=>
  rw[q]at k;have q':=gX q;have hi:zp c i:=⟨x,h1,ho⟩
  obtain⟨ad,oo,z1,y1,y2,y3⟩:=ss.own i d0 hi q';cases y3 with
  |dic kvs=>exact k.elim
  | @lst ds vs y3=>
  refine⟨_,z1,.inl ⟨rfl,vs,SqL.of y2⟩,s_e ss k λd v H1 _ p1 k1=>?_⟩
  try simp only at k1
  by_cases hz:ds.length<SZ
  ·rw[if_pos hz]at k1;have s1:=ss.up p1.same;have y2':=p1.same _ _ y2;obtain⟨s2,s3⟩:=s1.change (vs:=vs++[v]) (ds:=ds++[d]) hfz hi q' z1 ((y3.mono (qo p1.same)).append (.cons (p1.st hes) .nil));exact⟨ad,vs,v,rfl,rfl,y2',by rw[<-y3.length,aZ];unfold SZ at hz;lia,k1 _ _ S s2 ((qo p1.same).trans s3)⟩
  ·rw[if_neg hz]at k1;exact k1.elim
theorem sL(O:XO w g c E X)(hfz:c.frz=false){x:Str}{i:Nat}{a:Expr}{ia:EV.E}{p ap cp pos:Pos}(h:loc c x=some i)(ho:c.own.contains x=true)(ha:PE X a (tE w g c E ia))(hes:esc ia=true)(hs:isStar a=false)(hl:(ap.endLine==cp.line)=true) :
  PS X (.Expr (.Call (.Attribute (.Name x p) "update" ap) [a] [] cp) pos) (tS w g c E fr (.dupd i ia)):=by
 obtain⟨h1,h2,h3,h4⟩:=zy h;have hv:PE X (.Name x p) (fi i):=fP (i:=i) (by rw[O.N];exact h1) (by unfold eB;rw[O.nm];exact h2) h3 h4;have hst:=qh (es:=[]) (env:=X.env) hs;have hb:=gb (X:=X) (apos:=ap) (cpos:=cp) PySem.F.plainAttrs_dict PySem.F.slot_dict_update PySem.F.type_dict_update yd hv (zE ha c_ hst) rfl (by rw[hst];rfl) hl hst rfl;refine PS.imp (jE hb rfl) λD σ H ⟨H0,B,τ,S,ss,k⟩=>?_
 simp only[b9,bY,ck,cf,zL,b_,bU,bV,cq,zO,zH,zX,zZ,zW,zR,zY,zT,zU,cj,zS]at k;cases q:zM τ i with
 |ex z=>unfold zM at q;split at q<;>cases q
 |no=>rw[q]at k;exact k.elim
 |ok d0=>
  rw[q]at k;have q':=gX q;have hi:zp c i:=⟨x,h1,ho⟩
  obtain⟨ad,oo,z1,y1,y2,y3⟩:=ss.own i d0 hi q';cases y3 with
  |lst r=>exact k.elim
  |dic kvs=>
   refine⟨_,z1,.inr (.inr (.inl ⟨rfl,.inl ⟨_,y2⟩⟩)),s_e ss k λd v H1 _ p1 k1=>?_⟩;cases d with
   |dic ms=>
    simp only at k1;by_cases hz:kvs.length+ms.length<SZ
    ·rw[if_pos hz]at k1;have s1:=ss.up p1.same;have y2':=p1.same _ _ y2;have hr:=p1.st hes;cases hr with
     | @dic b _ hb'=>
      obtain⟨b1,b2⟩:=bq.mp hb';obtain⟨s2,s3⟩:=s1.changeO (d1:=.dic (cX kvs ms)) (o1:=.dK (bh (cX kvs ms))) hfz hi q' z1 (.dic _);have hab:ad≠b:=λz=>by
       have:S.h ad=true:=by rw[ss.hd,y1,Bool.or_true]
       rw[z,b1]at this;cases this
      refine⟨ad,b,bh kvs,bh ms,rfl,rfl,hab,y2',b2,?_,?_⟩
      ·rw[lp,lp,aZ];unfold SZ at hz;lia
      ·rw[pk];exact k1 _ _ S s2 ((qo p1.same).trans s3)
    ·rw[if_neg hz]at k1;exact k1.elim
   |_=>exact k1.elim
theorem Cp(O:XO w g c E X)(hfz:c.frz=false){x y:Str}{i j:Nat}{p ap cp px q1 pos:Pos}{k0}(hx:bK c x=some i)(hy:loc c y=some j)(hox:c.own.contains x=false)(hoy:c.own.contains y=true)(hl:(ap.endLine==cp.line)=true) :
  PS X (.Assign [.Name x px] (.Call (.Attribute (.Name y p) "pop" ap) [.Constant (.int 0) k0 q1] [] cp) pos) (tS w g c E fr (.pop0 i j)):=by
 obtain⟨h1,h2,h3,h4⟩:=zy hy;obtain⟨l1,l2⟩:=zD hx;obtain⟨l3,_⟩:=zy l1;have hv:PE X (.Name y p) (fi j):=fP (i:=j) (by rw[O.N];exact h1) (by unfold eB;rw[O.nm];exact h2) h3 h4;have hst:aL [Expr.Constant (.int 0) k0 q1] X.env=(false,eval (Expr.Constant (.int 0) k0 q1) X.env)::aL [] X.env:=rfl;have hb:=gb (X:=X) (apos:=ap) (cpos:=cp) PySem.F.plainAttrs_list PySem.F.slot_list_pop PySem.F.type_list_pop DD hv (zE oO c_ hst) rfl rfl hl hst rfl;refine PS.imp (kY (i:=i) (by rw[O.N];exact O.nd) (by rw[O.N];exact l3) (by unfold L2.Loc;rw[O.nm];rcases l2 with z|z;exact .inl z;exact .inr z.1) hb (gQ rfl) (by
  rcases l2 with z|z
  ·exact .inr (by rw[O.nm];exact z)
  ·exact .inl (O.fn x z.2))) λD σ H ⟨H0,B,τ,S,ss,k⟩=>?_
 simp only[b9,bY,ck,cf,zL,b_,bU,bV,cq,zO,zH,zX,zZ,zW,zR,zY,zT,zU,cj,zS]at k;cases q:zM τ j with
 |ex z=>unfold zM at q;split at q<;>cases q
 |no=>rw[q]at k;exact k.elim
 |ok d0=>
  rw[q]at k;have q':=gX q;have hi:zp c j:=⟨y,h1,hoy⟩
  obtain⟨ad,oo,z1,y1,y2,y3⟩:=ss.own j d0 hi q';cases y3 with
  |dic kvs=>exact k.elim
  | @lst ds vs y3=>
   cases ds with
   |nil=>exact k.elim
   |cons d ds=>
    cases y3 with
    | @cons _ _ v vs r rs=>
     obtain⟨s2,s3⟩:=ss.change (vs:=vs) (ds:=ds) hfz hi q' z1 rs;have hni:¬ zp c i:=λ⟨z,z1,z2⟩=>by rw[l3]at z1;cases z1;rw[hox]at z2;cases z2
     have s4:=s2.set hni (r.mono s3);exact⟨_,z1,.inl ⟨rfl,_,SqL.of y2⟩,ad,v::vs,0,0,v,rfl,rfl,y2,by decide,by decide,by simp[seqIndex?],rfl,k _ _ S s4 s3⟩
theorem CP(O:XO w g c E X)(hfz:c.frz=false){x:Str}{i:Nat}{k e:Expr}{ik ie:EV.E}{p sp pos:Pos}(h:loc c x=some i)(ho:c.own.contains x=true)(hk:PE X k (tE w g c E ik))(he:PE X e (tE w g c E ie))(hes:esc ie=true)(hsl:isSlice k=false)(hc:eF e=false) :
  PS X (.Assign [.Subscript (.Name x p) k sp] e pos) (tS w g c E fr (.seti i ik ie)):=by
 obtain⟨h1,h2,h3,h4⟩:=zy h;have hv:PE X (.Name x p) (fi i):=fP (i:=i) (by rw[O.N];exact h1) (by unfold eB;rw[O.nm];exact h2) h3 h4;have hg:PG X (.Subscript (.Name x p) k sp) (mZ (fi i) (tE w g c E ik) (λx y v H Q=>oq x y v H Q\/rL x y v H Q)):=sH hv hk (set_list.or (uH O.units)) (by intro v;cases k<;>first|rfl|(simp[isSlice]at hsl));refine PS.imp (oS he hg (by simp only[swapsWithSole];exact gQ hc) rfl rfl) λD σ H ⟨H0,B,τ,S,ss,k⟩=>?_
 simp only[b9,bY,ck,cf,zL,b_,bU,bV,cq,zO,zH,zX,zZ,zW,zR,zY,zT,zU,cj,zS]at k;refine s_e ss k λd v H1 _ p1 k1=>?_
 cases q:zM τ i with
 |ex z=>unfold zM at q;split at q<;>cases q
 |no=>rw[q]at k1;exact k1.elim
 |ok d0=>
  rw[q]at k1;have q':=gX q;have hi:zp c i:=⟨x,h1,ho⟩
  have s1:=ss.up p1.same;obtain⟨ad,oo,z1,y1,y2,y3⟩:=s1.own i d0 hi q';refine⟨_,z1,s_e s1 (bT.up k1 (qo p1.same)) λn vn H2 _ p2 k2=>?_⟩;cases y3 with
  | @lst ds vs y3=>
   cases n with
   |int j=>
    simp only at k2;cases qj:ixN ds.length j with
    |none=>rw[qj]at k2;exact k2.elim
    |some m=>
     rw[qj]at k2;have s2:=s1.up p2.same;have y2':=p2.same _ _ y2;obtain⟨s3,s4⟩:=s2.change (vs:=vs.set m v) (ds:=ds.set m d) hfz hi q' z1 ((y3.mono (qo p2.same)).set ((p1.st hes).mono (qo p2.same)) m);exact .inl ⟨ad,vs,j,m,rfl,p2.rb.int,y2',by rw[<-y3.length];exact qj,k2 _ _ S s3 ((qo p2.same).trans s4)⟩
   |_=>exact k2.elim
  |dic kvs=>
   cases n with
   |int j=>
    cases d with
    |int z=>
     simp only at k2;by_cases hz:kvs.length<SZ
     ·rw[if_pos hz]at k2;have s2:=s1.up p2.same;have y2':=p2.same _ _ y2;obtain⟨s3,s4⟩:=s2.changeO (d1:=.dic (bP kvs j z)) (o1:=.dK (bh (bP kvs j z))) hfz hi q' z1 (.dic _);have hv:=p1.rb.int;subst hv;refine .inr ⟨ad,kvs,j,z,rfl,p2.rb.int,rfl,y2',?_,k2 _ _ S s3 ((qo p2.same).trans s4)⟩;rw[aZ];unfold SZ at hz;lia
     ·rw[if_neg hz]at k2;exact k2.elim
    |_=>exact k2.elim
   |_=>exact k2.elim
theorem mX:PSs X [] (tSs w g c E fr .nil):=PSs.imp Aa λD σ H ⟨H0,B,τ,S,ss,h⟩=>by
 simp only[qe]at h;exact h σ H S ss (qf.refl _)
theorem mD{s:Stmt}{r:List Stmt}{is:EV.S}{ir:Ss}(h1:PS X s (tS w g c E fr is))(h2:PSs X r (tSs w g c E fr ir)):PSs X (s::r) (tSs w g c E fr (.cons is ir)):=
 PSs.imp (ph h1 h2) λD σ H ⟨H0,B,τ,S,ss,h⟩=>by
  simp only[qe]at h;refine⟨H0,B,τ,S,ss,?_⟩;cases q:evS w is τ with
  |nx τ'=>rw[q]at h;exact λσ' H' S' s' e=>⟨H0,B,τ',S',s',bT.up h e⟩
  |bk τ'=>rw[q]at h;exact h
  |ct τ'=>rw[q]at h;exact h
  |rt d=>rw[q]at h;exact h
  |ex k=>rw[q]at h;exact h
  |no=>rw[q]at h;exact h
theorem uw{t:Expr}{a b:List Stmt}{it:T}{ia ib:Ss}{pos:Pos}(ht:PT X t (tT w g c E it))(ha:PSs X a (tSs w g c E fr ia))(hb:PSs X b (tSs w g c E fr ib)):PS X (.If t a b pos) (tS w g c E fr (.ite it ia ib)):=
 PS.imp (yv ht ha hb) λD σ H ⟨H0,B,τ,S,ss,h⟩=>by
  simp only[b9,bY,ck,cf,zL,b_,bU,bV,cq,zO,zH,zX,zZ,zW,zR,zY,zT,zU,cj,zS]at h;refine s_t ss h λz H1 _ s1 k1=>?_
  cases z with
  |true=>exact⟨H0,B,τ,S,ss.up s1,bT.up k1 (qo s1)⟩
  |false=>exact⟨H0,B,τ,S,ss.up s1,bT.up k1 (qo s1)⟩
theorem PS.nox'{st:Stmt}{t:TS}(h:PS X.nox st t):PS X st t:=λpins s σ H D I hw=>
 bI (h pins s σ H D (I.wish _) hw) (λ_ _ q=>q.unwish) λ_ _ z=>aQ z
theorem XO.nox(O:XO w g c E X):XO w g c E0 X.nox:=⟨O.K,O.nm,O.N,O.nd,O.calm,O.units,O.fn,O.kind,lu rfl rfl,O.gok,O.fns,O.sub⟩
theorem XS.nox(O:XS w g c E X):XS w g c E0 X.nox:=⟨O.toXO.nox,λ_ _ _ _ _ _ _ _ _ _ _ z=>aQ z,O.exc,O.cat,O.frm,O.gh⟩
theorem mP{o:O}(h:bT g c E fr H0 B H S Ed o.noEx):bT g c E0 fr H0 B H S Ed o/\(∀k,o≠.ex k)/\o≠.no:=by
 cases o with
 |ex k=>exact h.elim
 |no=>exact h.elim
 |nx t=>exact⟨h,(λ_ z=>by cases z),(λz=>by cases z)⟩
 |bk t=>exact⟨h,(λ_ z=>by cases z),(λz=>by cases z)⟩
 |ct t=>exact⟨h,(λ_ z=>by cases z),(λz=>by cases z)⟩
 |rt t=>exact⟨h,(λ_ z=>by cases z),(λz=>by cases z)⟩
noncomputable def frozen(c:Cc)(b:Bool):Cc:={c with frz:=c.frz||b}
theorem XS.froze(O:XS w g c E X){b:Bool}:XS w g (frozen c b) E X:=
 ⟨⟨O.K,O.nm,O.N,O.nd,O.calm,O.units,O.fn,O.kind,O.pass,O.gok,O.fns,O.sub⟩,O.thr,O.exc,O.cat,O.frm,O.gh⟩
noncomputable def dY(B:Sh)(b:Bool)(σ:L2.St)(H:Hp):Sh:=if b=true then ⟨B.o,B.h,σ,H⟩else B
theorem kD{b:Bool}:(dY B b σ H).h=B.h:=by unfold dY;split<;>rfl
theorem tG{b:Bool}{H1:Hp}:hid H1 (dY B b σ H)=hid H1 B:=by funext a;unfold hid;rw[kD]
theorem SS.froze(b:Bool)(ss:SS g c H0 B τ σ H S):SS g (frozen c b) H0 (dY B b σ H) τ σ H S:=by
 refine⟨⟨ss.se.len,ss.se.val,ss.se.sub⟩,ss.lenN,ss.same,?_,?_,ss.new,ss.own,ss.inj,λz=>?_⟩
 ·unfold dY;split
  ·exact ss.sub0
  ·exact ss.sub0
 ·rw[kD];exact ss.hd
 ·cases b with
  |true=>exact⟨λi _=>rfl,qf.refl _⟩
  |false=>
   have z:(c.frz||false)=true:=z;rw[Bool.or_false]at z;exact ss.frz z
theorem SS.thaw{b:Bool}{σ1:L2.St}{H1:Hp}{τ1:Env}{S1:Sh}(s0:SS g c H0 B τ1 σ1 H1 S1)(ss:SS g (frozen c b) H0 (dY B b σ1 H1) τ σ H S):SS g c H0 B τ σ H S:=by
 refine⟨⟨ss.se.len,ss.se.val,ss.se.sub⟩,ss.lenN,ss.same,s0.sub0,?_,ss.new,ss.own,ss.inj,λz=>?_⟩
 ·have:=ss.hd;rw[kD]at this;exact this
 ·have f:=ss.frz (by show (c.frz||b)=true;rw[z];rfl);cases b with
  |true=>exact⟨λi hi=>(f.1 i hi).trans ((s0.frz z).1 i hi),(s0.frz z).2.trans f.2⟩
  |false=>exact f
theorem SS.iced{b:Bool}{σ1:L2.St}{H1:Hp}(hb:b=true)(ss:SS g (frozen c b) H0 (dY B b σ1 H1) τ σ H S):qf H1 H:=by
 subst hb;exact(ss.frz (by show (c.frz||true)=true;rw[Bool.or_true])).2
theorem Ef(O:XO w g c E X)(hc:X.calm=true){tg it:Expr}{b:List Stmt}{itg:Tg}{iit:It}{ib:Ss}{pos:Pos}(hi:PI X.nox tg it (tIt w g c E0 iit))(hg:PG X.nox tg (gT X.K itg))(hf:h_ c itg)(hb:PSs X.nox b (tSs w g (frozen c (owned iit)) E0 fr ib))(hs:zA it=true) :
  PS X (.For tg it b [] pos) (tS w g c E fr (.for itg iit ib)):=by
 refine PS.nox' (PS.imp (wV (X:=X.nox) PassesOwn.never hc hi hg hb (λx=>by cases it<;>first|rfl|(simp[zA]at hs))) λD σ H ⟨H0,B,τ,S,ss,h⟩=>?_);simp only[b9,bY,ck,cf,zL,b_,bU,bV,cq,zO,zH,zX,zZ,zW,zR,zY,zT,zU,cj,zS]at h;obtain⟨h,nex,nno⟩:=mP h;cases q:evI w iit τ with
 |ex z=>rw[q]at nex;exact absurd rfl (nex z)
 |no=>rw[q]at nno;exact absurd rfl nno
 |ok ds=>
  rw[q]at h nex nno;simp only[R.out_ok]at h nex nno;refine⟨τ,S,ss.se,?_⟩;rw[q];intro J H1 s1 kW kS;generalize hr:cR itg (λσ=>qe w ib σ) ds τ=r at h nex nno;refine⟨λi m σ' H'=>m=ds.length-i/\i<=ds.length/\∃τ' S',SS g (frozen c (owned iit)) H0 (dY B (owned iit) σ H1) τ' σ' H' S'/\qf (hid H1 S) (hid H' S')/\cR itg (λσ=>qe w ib σ) (ds.drop i) τ'=r,⟨ds.length,rfl,b8 _,τ,S,(ss.up s1).froze _,qf.refl _,hr⟩,?_⟩;rintro i m σ' H' ⟨rfl,hi',τ',S',ss',e',hl⟩;have gg:Goes g J ds H' S':=by
   cases hw:owned iit with
   |false=>exact kS hw H' S' e' ss'.se.sub
   |true=>exact kW H' S' (ss'.iced hw) e' ss'.se.sub
  obtain⟨g1,g2⟩:=gg;have eH:qf (hid H S) (hid H' S'):=(qo s1).trans e';by_cases hlt:i<ds.length
  ·have hd:ds[i]? = some ds[i]:=List.getElem?_eq_getElem hlt;obtain⟨go1,go2⟩:=g2 i ds[i] hd;refine .inr ⟨go1,λσ2 H2=>∃τ' S',SS g (frozen c (owned iit)) H0 (dY B (owned iit) σ H1) τ' σ2 H2 S'/\qf (hid H1 S) (hid H2 S')/\cR itg (λσ=>qe w ib σ) (ds.drop (i+1)) τ'=r,λσ2 H2 z=>⟨ds.length-(i+1),by lia,rfl,hlt,z⟩,λx H2 hy=>?_⟩;obtain⟨s2,rx⟩:=go2 x H2 hy;rw[List.drop_eq_getElem_cons hlt]at hl;simp only[cR]at hl;cases q1:store itg ds[i] τ' with
   |ex z=>rw[q1]at hl;exact absurd hl.symm (nex z)
   |no=>rw[q1]at hl;exact absurd hl.symm nno
   |ok τ1=>
    rw[q1]at hl;simp only[R.out_ok]at hl;refine(ss'.up s2).store O.K hf rx q1 λσ1 ss1=>⟨H0,_,τ1,S',ss1,?_⟩
    cases q2:qe w ib τ1 with
    |nx τ2=>rw[q2]at hl;exact λσ2 H3 S3 s3 e3=>⟨τ2,S3,s3,(e'.trans (qo s2)).trans e3,hl⟩
    |ct τ2=>rw[q2]at hl;exact λσ2 H3 S3 s3 e3=>⟨τ2,S3,s3,(e'.trans (qo s2)).trans e3,hl⟩
    |bk τ2=>
     rw[q2]at hl;simp only at hl;rw[<-hl]at h;exact λσ2 H3 S3 s3 e3=>h σ2 H3 S3 ((ss.up s1).thaw s3) ((eH.trans (qo s2)).trans e3)
    |rt d=>
     rw[q2]at hl;simp only at hl;rw[<-hl]at h;refine λv H3 s3 r3 f3=>h v H3 s3 (by rw[tG]at r3;exact r3) λz=>?_
     have f3:=f3 z;unfold dY at f3;split at f3
     ·exact f3
     ·exact f3
    |ex z=>rw[q2]at hl;exact absurd hl.symm (nex z)
    |no=>rw[q2]at hl;exact absurd hl.symm nno
  ·have e:i=ds.length:=by lia
   subst e;rw[List.drop_length]at hl;simp only[cR]at hl;rw[<-hl]at h;exact .inl ⟨g1 ds.length (aD _),h σ' H' S' ((ss.up s1).thaw ss') eH⟩
theorem tV{t:Expr}{b:List Stmt}{it:T}{ib:Ss}{pos:Pos}(ht:PT X.nox t (tT w g c E0 it))(hb:PSs X.nox b (tSs w g c E0 fr ib)):PS X (.While t b [] pos) (tS w g c E fr (.while it ib)):=by
 refine PS.nox' (PS.imp (DH (X:=X.nox) PassesOwn.never ht hb) λD σ H ⟨H0,B,τ,S,ss,h⟩=>?_);simp only[b9,bY,ck,cf,zL,b_,bU,bV,cq,zO,zH,zX,zZ,zW,zR,zY,zT,zU,cj,zS]at h;obtain⟨h,nex,nno⟩:=mP h;generalize hr:dE (λσ=>evT w it σ) (λσ=>qe w ib σ) fh τ=r at h nex nno;refine⟨λm σ' H'=>∃τ' S',SS g c H0 B τ' σ' H' S'/\qf (hid H S) (hid H' S')/\dE (λσ=>evT w it σ) (λσ=>qe w ib σ) m τ'=r,⟨fh,τ,S,ss,qf.refl _,hr⟩,?_⟩;rintro m σ' H' ⟨τ',S',ss',e',hl⟩;cases m with
 |zero=>simp only[dE]at hl;exact absurd hl.symm nno
 |succ m=>
  simp only[dE]at hl;cases q:evT w it τ' with
  |ex z=>rw[q]at hl;exact absurd hl.symm (nex z)
  |no=>rw[q]at hl;exact absurd hl.symm nno
  |ok z=>
   rw[q]at hl;simp only[R.out_ok]at hl;refine⟨τ',S',ss'.se,?_⟩;rw[q];intro H1 s1;cases z with
   |false=>
    simp only[bZ,if_false]at hl;rw[if_neg bQ];rw[<-hl]at h;exact h σ' H1 S' (ss'.up s1) (e'.trans (qo s1))
   |true=>
    simp only[if_true]at hl;rw[if_pos rfl];refine⟨λσ2 H2=>∃τ' S',SS g c H0 B τ' σ2 H2 S'/\qf (hid H S) (hid H2 S')/\dE (λσ=>evT w it σ) (λσ=>qe w ib σ) m τ'=r,λσ2 H2 z=>⟨m,Nat.lt_succ_self m,z⟩,H0,B,τ',S',ss'.up s1,?_⟩;have e1:=e'.trans (qo (S:=S') s1);cases q2:qe w ib τ' with
    |nx τ2=>rw[q2]at hl;exact λσ2 H3 S3 s3 e3=>⟨τ2,S3,s3,e1.trans e3,hl⟩
    |ct τ2=>rw[q2]at hl;exact λσ2 H3 S3 s3 e3=>⟨τ2,S3,s3,e1.trans e3,hl⟩
    |bk τ2=>
     rw[q2]at hl;simp only at hl;rw[<-hl]at h;exact λσ2 H3 S3 s3 e3=>h σ2 H3 S3 s3 (e1.trans e3)
    |rt d=>rw[q2]at hl;simp only at hl;rw[<-hl]at h;exact h
    |ex z=>rw[q2]at hl;exact absurd hl.symm (nex z)
    |no=>rw[q2]at hl;exact absurd hl.symm nno
theorem B'(O:XS w g c E X)(hc:X.calm=true)(ht:c.thr=true){x:Str}{a:Expr}{as:List Expr}{ies:Es}{np cp pos:Pos}{n:Nat}(h:glob c x=some .exc)(ha:PA X (a::as) (tA w g c E ies))(hes:cEs n c (a::as)=some ies)(hn:(a::as).length<=100000) :
  PS X (.Raise (some (.Call (.Name x np) (a::as) [] cp)) none pos) (tS w g c E fr (.raise x ies)):=by
 obtain⟨C,h1,h2⟩:=O.gm h;have hs:=ff hes;refine PS.imp (wq hc (O.thr ht) (by rw[O.K];exact O.exc x C (zt h).2.1 h2) (O.gl h) h1 ha (zt h).2.2.1 (qh (hs a aJ)) (iO λz hz=>hs z (aK _ hz))) λD σ H ⟨H0,B,τ,S,ss,k⟩=>?_
 simp only[b9,bY,ck,cf,zL,b_,bU,bV,cq,zO,zH,zX,zZ,zW,zR,zY,zT,zU,cj,zS]at k;refine s_a ss k λds vs H1 e1 s1 r k1=>⟨?_,k1 H1 C (ss.same.trans s1) h2⟩
 have:vs.length=ds.length:=(Paired.length r).symm;rw[this,jB hes e1];exact kN hn
end
section
variable{w:W}{g:Gc}{c:Cc}{E:XK}{fr:Bool}{X:Cx}{H0:Hp}{B:Sh}{τ:Env}{σ:L2.St}{H H':Hp}{S:Sh}{Ed:Ends}
theorem oA{s:Stmt}:PS X s (tS w g c E fr .unk):=λpins s σ H D I ⟨H0,B,τ,S,ss,h⟩=>by
 simp only[b9,bY,ck,cf,zL,b_,bU,bV,cq,zO,zH,zX,zZ,zW,zR,zY,zT,zU,cj,zS]at h;exact h.elim
theorem y9(O:XO w g c E X)(hfz:c.frz=false){x:Str}{i:Nat}{k a:Expr}{ik ia:EV.E}{p ap cp pos:Pos}(h:loc c x=some i)(ho:c.own.contains x=true)(hk:PE X k (tE w g c E ik))(ha:PE X a (tE w g c E ia))(hes:esc ia=true)(hsk:isStar k=false)(hs:isStar a=false)(hl:(ap.endLine==cp.line)=true) :
  PS X (.Expr (.Call (.Attribute (.Name x p) "insert" ap) [k,a] [] cp) pos) (tS w g c E fr (.ins i ik ia)):=by
 obtain⟨h1,h2,h3,h4⟩:=zy h;have hv:PE X (.Name x p) (fi i):=fP (i:=i) (by rw[O.N];exact h1) (by unfold eB;rw[O.nm];exact h2) h3 h4;have hst:=qh (es:=[]) (env:=X.env) hs;have hst2:=qh (es:=[a]) (env:=X.env) hsk;have hb:=gb (X:=X) (apos:=ap) (cpos:=cp) PySem.F.plainAttrs_list PySem.F.slot_list_insert PySem.F.type_list_insert xJ hv (zE hk (zE ha c_ hst) hst2) rfl (by rw[hst2,hst];rfl) hl hst2 (by rw[hst];rfl);refine PS.imp (jE hb rfl) λD σ H ⟨H0,B,τ,S,ss,z⟩=>?_
 simp only[b9,bY,ck,cf,zL,b_,bU,bV,cq,zO,zH,zX,zZ,zW,zR,zY,zT,zU,cj,zS]at z;cases q:zM τ i with
 |ex y=>unfold zM at q;split at q<;>cases q
 |no=>rw[q]at z;exact z.elim
 |ok d0=>
  rw[q]at z;have q':=gX q;have hi:zp c i:=⟨x,h1,ho⟩
  obtain⟨ad,oo,z1,y1,y2,y3⟩:=ss.own i d0 hi q';cases y3 with
  |dic kvs=>exact z.elim
  | @lst ds vs y3=>
  refine⟨_,z1,.inl ⟨rfl,vs,SqL.of y2⟩,s_e ss z λn vn H1 _ p1 k1=>?_⟩;have s1:=ss.up p1.same;refine s_e s1 (bT.up k1 (qo p1.same)) λd v H2 _ p2 k2=>?_
  simp only[ig]at k2;cases n with
  |int j=>
   simp only at k2;split at k2
   ·rename_i hj
    have s2:=s1.up p2.same;have y2':=p2.same _ _ (p1.same _ _ y2);have y3':=(y3.mono (qo p1.same)).mono (qo p2.same);obtain⟨s3,s4⟩:=s2.change (vs:=vs.take j.toNat++v::vs.drop j.toNat) (ds:=ds.take j.toNat++d::ds.drop j.toNat) hfz hi q' z1 ((y3'.take _).append (.cons (p2.st hes) (y3'.drop _)));have hn:=y3.length;exact⟨ad,vs,j,v,rfl,by rw[p1.rb.int],y2',by rw[<-hn,aZ];have:=hj.2.2;unfold SZ at this;lia,hj.1,by rw[<-hn];exact hj.2.1,k2 _ _ S s3 ((qo p2.same).trans s4)⟩
   ·exact k2.elim
  |_=>exact k2.elim
theorem SS.cong{c':Cc}(hN:c'.N=c.N)(ho:c'.own=c.own)(hz:c'.frz=c.frz)(s:SS g c H0 B τ σ H S):SS g c' H0 B τ σ H S:=by
 cases c;cases c';simp only at hN ho hz;subst hN ho hz;exact⟨⟨s.se.len,s.se.val,s.se.sub⟩,s.lenN,s.same,s.sub0,s.hd,s.new,s.own,s.inj,s.frz⟩
theorem mm{i:Option Nat}{k:Str}:(dt τ i k).length=τ.length:=by
 cases i<;>simp[dt]
theorem SS.hand{σ':L2.St}{k:Str}{i:Option Nat}(ss:SS g c H0 B τ σ H S)(hz:c.frz=false)(he:c.own=[])(hs:qf H0 H')(hl:σ'.length=c.N.length)(hv:∀(j:Nat) (d:EV.D),(dt τ i k)[j]? = some (some d)->∃v,σ'[j]? = some (some v)/\Rep g (hid H' B) d v) :
  SS g (fV c) H0 B (dt τ i k) σ' H' ⟨λ_=>false,B.h,B.z,B.y⟩:=by
 have hh:hid H' ⟨λ_=>false,B.h,B.z,B.y⟩=hid H' B:=rfl;have no:∀j,¬ zp (fV c) j:=λj ⟨x,_,h2⟩=>by
  have h2:c.own.contains x=true:=h2;rw[he]at h2;cases h2
 refine⟨⟨by rw[mm,ss.lenN,hl],λj d h=>?_,λa ha=>?_⟩,by rw[mm];exact ss.lenN,hs,ss.sub0,(λa=>by simp),(λa ha=>by cases ha),λj d hj=>(no j hj).elim,λj _ d _ a hj=>(no j hj).elim,(λz=>by have z:c.frz=true:=z;rw[hz]at z;cases z)⟩
 ·obtain⟨v,h1,h2⟩:=hv j d h;exact⟨v,h1,.inl h2,λ_ _ _=>h2⟩
 ·refine(ss.sub0.same hs) a ?_;rcases ha with ha|ha
  ·exact .inl ha
  ·cases ha
noncomputable def EhT(w:W)(g:Gc)(b:Ss)(τ:Env)(H0:Hp):XK:=λcls o H'=>∃k C,cls=.ref C/\o=none/\g.clA k=some C/\qe w b τ=.ex k/\qf H0 H'
theorem o5{ib:Ss}{x:Str}{i:Option Nat}{ih:Ss}{c':Cc}(hN:c'.N=c.N)(ho:c'.own=c.own)(hz:c'.frz=c.frz)(h:bT g c E fr H0 B H S Ed (evS w (.try ib x i ih) τ)):bT g c' (EhT w g ib τ H0) fr H0 B H S Ed (qe w ib τ):=by
 simp only[b9,bY,ck,cf,zL,b_,bU,bV,cq,zO,zH,zX,zZ,zW,zR,zY,zT,zU,cj,zS]at h;have c1:∀{τ':Env}{σ':L2.St}{H':Hp}{S':Sh},SS g c' H0 B τ' σ' H' S'->SS g c H0 B τ' σ' H' S':=λs=>s.cong hN.symm ho.symm hz.symm
 cases q:qe w ib τ with
 |nx τ'=>rw[q]at h;exact λσ' H' S' s e=>h σ' H' S' (c1 s) e
 |bk τ'=>rw[q]at h;exact λσ' H' S' s e=>h σ' H' S' (c1 s) e
 |ct τ'=>rw[q]at h;exact λσ' H' S' s e=>h σ' H' S' (c1 s) e
 |rt d=>rw[q]at h;exact h
 |ex k=>exact λH' C s hc=>⟨k,C,rfl,rfl,hc,q,s⟩
 |no=>rw[q]at h;exact h
theorem nC{ib ih:Ss}{x:Str}{i:Option Nat}{k:Str}(h:bT g c E false H0 B H S Ed (evS w (.try ib x i ih) τ))(q:qe w ib τ=.ex k):w.cat k x=true/\∃d,qe w ih (dt τ i k)=.rt d/\∀v H',qf H0 H'->Rep g (hid H' B) d v->Ed.rt v H':=by
 simp only[b9,bY,ck,cf,zL,b_,bU,bV,cq,zO,zH,zX,zZ,zW,zR,zY,zT,zU,cj,zS]at h;rw[q]at h;simp only at h;split at h
 ·rename_i hc
  refine⟨hc,?_⟩;cases z:qe w ih (dt τ i k)with
  |rt d=>rw[z]at h;exact⟨d,rfl,λv H' s r=>h v H' s r (by intro y;cases y)⟩
  |nx _=>rw[z]at h;exact h.elim
  |bk _=>rw[z]at h;exact h.elim
  |ct _=>rw[z]at h;exact h.elim
  |ex _=>rw[z]at h;exact h.elim
  |no=>rw[z]at h;exact h.elim
 ·exact h.elim
theorem XS.inTry(O:XS w g c E X){Eh:XK}{pn:List (Addr×Obj)}{Et:ae->af->Prop}(hp:Passes (CX1 X.prog X.w) (X.inTry pn Et) Eh):XS w g {c with thr:=false} Eh (X.inTry pn Et):=
 ⟨⟨O.K,O.nm,O.N,O.nd,O.calm,O.units,O.fn,O.kind,hp,O.gok,O.fns,O.sub⟩,(λz=>by cases z),O.exc,O.cat,O.frm,O.gh⟩
theorem XS.held(O:XS w g c E X)(x:Addr):XS w g (fV c) E0 (X.held x):=
 ⟨⟨O.K,O.nm,O.N,O.nd,(λz=>by cases z),O.units,O.fn,O.kind,lu rfl rfl,(λy k z=>(O.gh y k z).2 _),(λz=>by cases z),O.sub⟩,(λz=>by cases z),(λy C z _=>absurd rfl (O.gh y .exc z).1),O.cat,O.frm,(λy k z=>by cases z)⟩
theorem sF(O:XS w g c E X){x:Str}{b:List Stmt}{b₀:Stmt}{suite:List Stmt}{ib ih:Ss}{np hpos pos:Pos}(hfz:c.frz=false)(he:c.own=[])(hg:glob c x=some .exc\/glob c x=some .exk)
  (hb:∀(Eh:XK) pn Et,XS w g {c with thr:=false} Eh (X.inTry pn Et)->PSs (X.inTry pn Et) b (tSs w g {c with thr:=false} Eh false ib)) (hs:∀y,PSs (X.held y) (b₀::suite) (tSs w g (fV c) E0 false ih)) :
  PS X (.Try b [.ExceptHandler (some (.Name x np)) none (b₀::suite) hpos] [] [] pos) (tS w g c E false (.try ib x none ih)):=by
 have hG:∃C,X.mg x=some (.ref C)/\g.clA x=some C/\Gl X x/\(x==("__debug__" : Str))=false:=by
  rcases hg with h|h
  ·obtain⟨C,h1,h2⟩:=O.gm h;exact⟨C,h1,h2,O.gl h,(zt h).2.2.1⟩
  ·obtain⟨C,h1,h2⟩:=O.gm h;exact⟨C,h1,h2,O.gl h,(zt h).2.2.1⟩
 obtain⟨C,hm,hc,hgl,hd⟩:=hG;intro pins s σ H D I ⟨H0,B,τ,S,ss,h⟩;refine vP (Eh:=EhT w g ib τ H0) O.frm.1 O.frm.2.1 O.frm.2.2 hgl hm (λpn Et hp=>hb _ pn Et (O.inTry hp)) hs hd pins s σ H D I ⟨⟨H0,B,τ,S,SS.cong (c:=c) rfl rfl rfl ss,o5 (c:=c) rfl rfl rfl h⟩,λσ' cls H' hl hE=>?_⟩;obtain⟨k,C',rfl,_,hk,q,sm⟩:=hE;obtain⟨z1,d,z2,z3⟩:=nC h q;refine⟨by rw[O.K];exact O.cat k x z1 C' C hk hc,H0,B,dt τ none k,⟨λ_=>false,B.h,B.z,B.y⟩,ss.hand hfz he sm (by rw[hl,O.N]) (λj d hj=>?_),?_⟩
 ·simp only[dt,List.getElem?_map]at hj;cases z:τ[j]? with
  |none=>rw[z]at hj;cases hj
  |some o=>rw[z]at hj;cases hj
 ·rw[z2];exact λv H'' s' r _=>z3 v H'' s' r
theorem sR(O:XS w g c E X){x n:Str}{i:Nat}{b:List Stmt}{b₀:Stmt}{suite:List Stmt}{ib ih:Ss}{np hpos pos:Pos}(hfz:c.frz=false)(he:c.own=[])(hg:glob c x=some .exc\/glob c x=some .exk)(hi:c.N[i]? = some n)(hn:c.nm.lookup n=some .local)
  (hb:∀(Eh:XK) pn Et,XS w g {c with thr:=false} Eh (X.inTry pn Et)->PSs (X.inTry pn Et) b (tSs w g {c with thr:=false} Eh false ib)) (hs:∀y,PSs (X.held y) (b₀::suite) (tSs w g (fV c) E0 false ih)) :
  PS X (.Try b [.ExceptHandler (some (.Name x np)) (some n) (b₀::suite) hpos] [] [] pos) (tS w g c E false (.try ib x (some i) ih)):=by
 have hG:∃C,X.mg x=some (.ref C)/\g.clA x=some C/\Gl X x/\(x==("__debug__" : Str))=false:=by
  rcases hg with h|h
  ·obtain⟨C,h1,h2⟩:=O.gm h;exact⟨C,h1,h2,O.gl h,(zt h).2.2.1⟩
  ·obtain⟨C,h1,h2⟩:=O.gm h;exact⟨C,h1,h2,O.gl h,(zt h).2.2.1⟩
 obtain⟨C,hm,hc,hgl,hd⟩:=hG;intro pins s σ H D I ⟨H0,B,τ,S,ss,h⟩;have hlt:i<c.N.length:=(List.getElem?_eq_some_iff.mp hi).1;refine Di (Eh:=EhT w g ib τ H0) (i:=i) O.frm.1 O.frm.2.1 O.frm.2.2 (by rw[O.N];exact O.nd) (by rw[O.N];exact hi) (by rw[O.nm];exact hn) hgl hm (λpn Et hp=>hb _ pn Et (O.inTry hp)) hs hd pins s σ H D I ⟨⟨H0,B,τ,S,SS.cong (c:=c) rfl rfl rfl ss,o5 (c:=c) rfl rfl rfl h⟩,λσ' cls H' x' hl hE hx=>?_⟩;obtain⟨k,C',rfl,_,hk,q,sm⟩:=hE;obtain⟨z1,d,z2,z3⟩:=nC h q;have s2:qf H' (upd H' x' (gK x' (.ref C'))):=zr hx;refine⟨by rw[O.K];exact O.cat k x z1 C' C hk hc,H0,B,dt τ (some i) k,⟨λ_=>false,B.h,B.z,B.y⟩,ss.hand hfz he (sm.trans s2) (by rw[List.length_set,hl,O.N]) (λj d hj=>?_),?_⟩
 ·simp only[dt]at hj;have hi':i<σ'.length:=by rw[hl,O.N];exact hlt
  by_cases hij:i=j
  ·subst hij;have hlt':i<(τ.map λ_=>(none:Option EV.D)).length:=by rw[aI,ss.lenN];exact hlt
   rw[List.getElem?_set_self hlt']at hj;cases hj;refine⟨.ref x',by rw[List.getElem?_set_self hi'],.exn hk (bq.mpr ⟨ss.sub0.free (sm.free hx),zx⟩)⟩
  ·rw[List.getElem?_set_ne hij,List.getElem?_map]at hj;cases z:τ[j]? with
   |none=>rw[z]at hj;cases hj
   |some o=>rw[z]at hj;cases hj
 ·rw[z2];exact λv H'' s' r _=>z3 v H'' s' r
end
theorem vI{e:Expr}{x:Str}{ap cp:Pos}{k a:Expr}(h:ll e=some (x,ap,k,a,cp)):∃p,e=.Call (.Attribute (.Name x p) "insert" ap) [k,a] [] cp:=by
 unfold ll at h;split at h
 ·split at h
  ·split at h
   ·split at h
    ·split at h
     ·rename_i hk
      simp only[aG,List.isEmpty_iff,beq_iff_eq]at hk;obtain⟨rfl,rfl⟩:=hk;cases h;exact⟨_,rfl⟩
     ·cases h
    ·cases h
   ·cases h
  ·cases h
 ·cases h
theorem DX{x y:Str}{px py pt pt2:Pos}{kt k2:Nat}{a b:Expr}{env:PySem.Env}(h:env.kindOf x≠some .local):swappedStores [.Tuple [.Name x px,.Name y py] kt pt] (.Tuple [a,b] k2 pt2) env=pure none:=by
 have hx:(env.kindOf x==some aM.local)=false:=by simpa using h
 unfold swappedStores;simp only;split
 ·rfl
 ·split
  ·rfl
  ·split
   ·rfl
   ·rename_i hq
    exfalso;refine hq ?_;rw[List.filterMap_cons_none (by simp only[hx,Bool.false_and];rfl)];have:∀l:List Expr,∀f:Expr->Option Str,(l.filterMap f).length<=l.length:=λl f=>List.length_filterMap_le f l
    simp only[bG,bne_iff_ne,ne_eq];left;intro z;have q:([Expr.Name x px,Expr.Name y py]:List Expr).length<=([Expr.Name y py]:List Expr).length:=by rw[<-z];exact this _ _
    simp at q
theorem AL{ts:List Expr}{k:Nat}{p:Pos}{e:Expr}{env:PySem.Env}(h:isTup e=true->jM e=true):swappedStores [.Tuple ts k p] e env=pure none:=by
 cases e<;>first|rfl|skip
 rename_i vs k2 p2
 have h:vs.all (foldedForSure 8)=true:=h rfl;unfold swappedStores;simp only[h,if_true];split
 ·rfl
 ·split
  ·rfl
  ·split
   ·rfl
   ·rfl
theorem mC{ts:List Expr}{e:Expr}{x y:Str}{a b:Expr}(h:rj ts e=some (x,y,a,b)):∃px py k2 pt2,ts=[.Name x px,.Name y py]/\e=.Tuple [a,b] k2 pt2/\isStar a=false/\isStar b=false/\[a,b].all (foldedForSure 8)=false/\[a,b].all (constantsAlone 8)=false/\(px.line==py.line)=true:=by cases h
theorem xI{ts:List Expr}{e:Expr}{x y z:Str}{a b d:Expr}(h:km ts e=some (x,y,z,a,b,d)):∃px py pz k2 pt2,ts=[.Name x px,.Name y py,.Name z pz]/\e=.Tuple [a,b,d] k2 pt2/\isStar a=false/\isStar b=false/\isStar d=false/\[a,b,d].all (foldedForSure 8)=false/\[a,b,d].all (constantsAlone 8)=false/\(px.line==py.line)=true/\(px.line==pz.line)=true:=by
 unfold km at h;split at h
 ·split at h
  ·split at h
   ·rename_i hc
    simp only[aG,bj]at hc;cases h;exact⟨_,_,_,_,_,rfl,rfl,hc.1.1.1.1.1.1,hc.1.1.1.1.1.2,hc.1.1.1.1.2,hc.1.1.1.2,hc.1.1.2,hc.1.2,hc.2⟩
   ·cases h
  ·cases h
 ·cases h
section
variable{w:W}{g:Gc}{c:Cc}{E:XK}{fr:Bool}{X:Cx}
theorem AO(O:XO w g c E X){n:Nat}(hn:n<=100000){x:Str}{i:Nat}{elt:Expr}{gs:List cB}{sc:aP}{p p' pos:Pos}{ie:EV.E}(hl:bK c x=some i)(h:cE n c (.ListComp elt gs sc p)=some ie)(htw:kH (.ListComp elt gs sc p)=false)(hk:(zp c i/\fresh c ie=true/\c.frz=false)\/(¬ zp c i/\esc ie=true)) :
  PS X (.Assign [.Name x p'] (.ListComp elt gs sc p) pos) (tS w g c E fr (.set (.nm i) ie)):=by
 obtain⟨l1,l2⟩:=zD hl;obtain⟨l3,_⟩:=zy l1;have hlt:i<c.N.length:=(List.getElem?_eq_some_iff.mp l3).1;have hN:X.N.Nodup:=by rw[O.N];exact O.nd
 have hix:X.N[i]? = some x:=by rw[O.N];exact l3
 have hx:L2.Loc X.env.scope x:=by unfold L2.Loc;rw[O.nm];rcases l2 with z|z;exact .inl z;exact .inr z.1
 have hf:X.fn x=true\/X.env.scope.names.lookup x=some .local:=by
  rcases l2 with z|z
  ·exact .inr (by rw[O.nm];exact z)
  ·exact .inl (O.fn x z.2)
 cases hb:(X.env.blockKind==.function&&X.env.kindOf x==some .local&&p'.line==p.line && !(sc.names.any λ(n,k)=>n==x&&(k==.local||k==.cell)))with
 |false=>
  have hs:swapsWith (.ListComp elt gs sc p) (some (.Name x p')) pos.line X.env=pure false:=by rw[<-hb];rfl
  exact kh (e:=.ListComp elt gs sc p) (kY hN hix hx ((snd n hn).e O h) hs hf) (λ_ _ _ z=>z) hlt hk
 |true=>
  have hs:swapsWith (.ListComp elt gs sc p) (some (.Name x p')) pos.line X.env=pure true:=by rw[<-hb];rfl
  match n,h with
  | 0,h=>simp[cE]at h
  |m+1,h=>
   have ih:=snd (w:=w) (g:=g) m (Nat.le_of_succ_le hn);obtain⟨tgt,it,ifs,iit,itg,it',ie',rfl,hs1,hk1,h1,h2,h3,h4,he,rfl⟩:=l9 h;have hS:dH X (bW sc.names) (gn c sc.names) sc:=dH.of (by
    have e1:(λx=>c.nm.lookup x)=X.env.kindOf:=by funext x;show _=X.env.scope.names.lookup x;rw[O.nm]
    rw[<-e1,O.N];exact hk1.1)
   refine kh (e:=.ListComp elt [⟨tgt,it,ifs,0⟩] sc p) (yu (tb:=λacc=>iT acc (tE w g (dg c sc) E0 ie')) hN hix hx (O.calm hs1.1) hS (ih.i O h1 he.2) (λcl C s₀ H₀ fp=>?_) (by simp) hs hf (λx=>by
    have q:=hs1.2;cases it<;>first|rfl|cases q)) (λσ H Q q=>lK O hS he.1 q) hlt hk
   have OY:=O.comp hS.kind hk1.2 cl C s₀ H₀ fp;exact⟨gZ OY h2,ih.ifs OY h3,λacc=>nF rfl (ih.e OY h4)⟩
end
structure iB(w:W)(g:Gc)(n:Nat):Prop where
 s:∀{c:Cc}{E:XK}{X:Cx} (O:XS w g c E X) {fr:Bool}{x:Stmt}{ir:EV.S},cS n c fr x=some ir->PS X x (tS w g c E fr ir)
 ss:∀{c:Cc}{E:XK}{X:Cx} (O:XS w g c E X) {fr:Bool}{x:List Stmt}{ir:Ss},cSs n c fr x=some ir->PSs X x (tSs w g c E fr ir)
section
variable{w:W}{g:Gc}{n:Nat}
theorem iB.ss_succ(ih:iB w g n){c:Cc}{E:XK}{X:Cx}(O:XS w g c E X){fr:Bool}{x:List Stmt}{ir:Ss}(h:cSs (n+1) c fr x=some ir):PSs X x (tSs w g c E fr ir):=by
 match x with
 | []=>simp only[cSs,b5]at h;subst h;exact mX
 |s::r=>
  simp only[cSs,aC,aA]at h;obtain⟨ir',h2,h⟩:=h;cases h;cases h1:cS n c fr s with
  |none=>exact mD oA (ih.ss O h2)
  |some is=>exact mD (ih.s O h1) (ih.ss O h2)
theorem gN{c:Cc}{x:Str}{i:Nat}(h:c.N[i]? = some x):zp c i↔c.own.contains x=true:=⟨λ⟨y,h1,h2⟩=>by rw[h]at h1;cases h1;exact h2,λh2=>⟨x,h,h2⟩⟩
theorem yp{e:Expr}{x m:Str}{ap cp:Pos}{a:Expr}(h:jW e=some (x,m,ap,a,cp)):∃p,e=.Call (.Attribute (.Name x p) m ap) [a] [] cp:=by
 unfold jW at h;split at h
 ·split at h
  ·split at h
   ·split at h
    ·split at h
     ·rename_i hk;cases h;rw[List.isEmpty_iff]at hk;subst hk;exact⟨_,rfl⟩
     ·cases h
    ·cases h
   ·cases h
  ·cases h
 ·cases h
theorem xW{e:Expr}{x:Str}{ap cp:Pos}(h:kn e=some (x,ap,cp)):∃p k q,e=.Call (.Attribute (.Name x p) "pop" ap) [.Constant (.int 0) k q] [] cp:=by
 unfold kn at h;split at h
 ·split at h
  ·split at h
   ·split at h
    ·split at h
     ·split at h
      ·split at h
       ·rename_i hk
        simp only[aG,List.isEmpty_iff,beq_iff_eq,decide_eq_true_eq]at hk;obtain⟨⟨rfl,rfl⟩,rfl⟩:=hk;cases h;exact⟨_,_,_,rfl⟩
       ·cases h
      ·cases h
     ·cases h
    ·cases h
   ·cases h
  ·cases h
 ·cases h
theorem uu{e:Expr}{x:Str}{a:Expr}{as:List Expr}(h:raiseOf e=some (x,a,as)):∃p q,e=.Call (.Name x p) (a::as) [] q:=by
 unfold raiseOf at h;split at h
 ·split at h
  ·split at h
   ·split at h
    ·rename_i hk;cases h;rw[List.isEmpty_iff]at hk;subst hk;exact⟨_,_,rfl⟩
    ·cases h
   ·cases h
  ·cases h
 ·cases h
theorem iB.s_succ(ih:iB w g n)(hn:n<=100000){c:Cc}{E:XK}{X:Cx}(O:XS w g c E X){fr:Bool}{x:Stmt}{ir:EV.S}(h:cS (n+1) c fr x=some ir):PS X x (tS w g c E fr ir):=by
 have K:=snd (w:=w) (g:=g) n hn;unfold cS at h;split at h
 ·rename_i ts0 e pos
  split at h
  ·rename_i t0
   split at h
   ·-- x = e
    rename_i y p
    split at h
    ·rename_i hp
     obtain⟨p0,k0,q0,rfl⟩:=xW hp;simp only[aC,aA]at h;obtain⟨i,hl,j,hj,h⟩:=h;split at h
     ·rename_i hc
      simp only[aG,bj]at hc;cases h;obtain⟨⟨⟨c1,c2⟩,c3⟩,c4⟩:=hc;exact Cp O.toXO c4 hl hj c2 c1 (by simpa using c3)
     ·cases h
    split at h
    ·cases h
    rename_i htw
    have htw:kH e=false:=by simpa using htw
    simp only[aC,aA]at h;obtain⟨i,hl,ie,h1,h⟩:=h;obtain⟨l1,l2⟩:=zD hl;obtain⟨l3,_⟩:=zy l1;have ho:=gN l3;have hk:((zp c i/\fresh c ie=true/\c.frz=false)\/(¬ zp c i/\esc ie=true))/\ir=.set (.nm i) ie:=by
     split at h
     ·rename_i hy
      split at h
      ·rename_i hf;cases h;exact⟨.inl ⟨ho.mpr hy,by simpa using hf⟩,rfl⟩
      ·cases h
     ·rename_i hy
      split at h
      ·rename_i hf;cases h;exact⟨.inr ⟨λz=>hy (ho.mp z),hf⟩,rfl⟩
      ·cases h
    obtain⟨hk,rfl⟩:=hk;cases hc:eF e with
    |false=>
     refine kh (e:=e) (kY (i:=i) (by rw[O.N];exact O.nd) (by rw[O.N];exact l3) (by unfold L2.Loc;rw[O.nm];rcases l2 with z|z;exact .inl z;exact .inr z.1) (K.e O.toXO h1) (gQ hc) ?_) (λ_ _ _ z=>z) (List.getElem?_eq_some_iff.mp l3).1 hk;rcases l2 with z|z
     ·exact .inr (by rw[O.nm];exact z)
     ·exact .inl (O.fn y z.2)
    |true=>
     cases e with
     |ListComp elt gs sc p=>exact AO O.toXO hn hl h1 htw hk
     |SetComp elt gs sc p=>match n,h1 with
      | 0,h1=>cases h1
      |m+1,h1=>cases h1
     |DictComp a b gs sc p=>match n,h1 with
      | 0,h1=>cases h1
      |m+1,h1=>cases h1
     |_=>cases hc
   ·-- (a, b) = e
    rename_i ts k p
    split at h
    ·rename_i x y a b hp
     split at h
     ·rename_i hx
      simp only[aC,aA]at h;obtain⟨tg,h1,ie,h2,h⟩:=h;split at h
      ·cases h
      ·rename_i hc
       cases h;obtain⟨px,py,k2,pt2,rfl,rfl,hsa,hsb,hfa,hca,hl⟩:=mC hp;refine nS O.toXO (K.e O.toXO h2) (gZ O.toXO h1) (jG h1) (by simpa using hc) rfl ?_ rfl;refine DX (λz=>?_);rw[show X.env.kindOf x=X.env.scope.names.lookup x from rfl,O.nm]at z;rw[z]at hx;cases hx
     simp only[aC,aA]at h;obtain⟨i,hx,j,hy,ia,h1,ib,h2,h⟩:=h;obtain⟨px,py,k2,pt2,rfl,rfl,hsa,hsb,hfa,hca,hl⟩:=mC hp;split at h
     ·cases h
     ·rename_i hc
      simp only[bG,bj,not_or,dB,Bool.not_eq_false]at hc;obtain⟨⟨⟨⟨⟨⟨⟨c1,c2⟩,c3⟩,c4⟩,c5⟩,c6⟩,c7⟩,c8⟩:=hc;obtain⟨l1,_⟩:=zD hx;obtain⟨l3,_⟩:=zy l1;obtain⟨m1,_⟩:=zD hy;obtain⟨m3,_⟩:=zy m1;have oi:=gN l3;have oj:=gN m3;have hk:((zp c j/\fresh c ib=true/\c.frz=false)\/(¬ zp c j/\esc ib=true))/\ir=.par i j ia ib:=by
       split at h
       ·rename_i hy'
        split at h
        ·rename_i hf;cases h;exact⟨.inl ⟨oj.mpr hy',by simpa using hf⟩,rfl⟩
        ·cases h
       ·rename_i hy'
        split at h
        ·rename_i hf;cases h;exact⟨.inr ⟨λz=>hy' (oj.mp z),hf⟩,rfl⟩
        ·cases h
      obtain⟨hk,rfl⟩:=hk;exact uQ O.toXO (O.calm c1) hx hy (eq_of_beq c2) (eq_of_beq c3) (by simpa using c4) (K.e O.toXO h1) (K.e O.toXO h2) c7 c8 hfa hca hl (λz=>by have:=oi.mp z;rw[c5]at this;cases this) c6 hk
    split at h
    ·rename_i x y z a b d hp
     simp only[aC,aA]at h;obtain⟨i,hx,j,hy,l,hz,ia,h1,ib,h2,id,h3,h⟩:=h;obtain⟨px,py,pz,k2,pt2,rfl,rfl,hsa,hsb,hsd,hfa,hca,hl,hl'⟩:=xI hp;split at h
     ·cases h
     ·rename_i hc
      simp only[bG,bj,not_or,dB,Bool.not_eq_false]at hc;obtain⟨⟨⟨⟨⟨⟨⟨⟨⟨⟨⟨⟨c1,c2⟩,c3⟩,c4⟩,c5⟩,c6⟩,c7⟩,c8⟩,c9⟩,c10⟩,c11⟩,c12⟩,c13⟩:=hc;cases h;have oi:=gN (zy (zD hx).1).1;have oj:=gN (zy (zD hy).1).1;have ol:=gN (zy (zD hz).1).1;exact uT O.toXO (O.calm c1) hx hy hz (eq_of_beq c2) (eq_of_beq c3) (eq_of_beq c4) (by simpa using c5) (by simpa using c6) (by simpa using c7) (K.e O.toXO h1) (K.e O.toXO h2) (K.e O.toXO h3) hsa hsb hsd hfa hca hl hl' (λq=>by have:=oi.mp q;rw[c8]at this;cases this) (λq=>by have:=oj.mp q;rw[c9]at this;cases this) (λq=>by have:=ol.mp q;rw[c10]at this;cases this) c11 c12 c13
    simp only[aC,aA]at h;obtain⟨tg,h1,ie,h2,h⟩:=h;split at h
    ·cases h
    ·rename_i hc
     have hc:((isTup e=true->jM e=true)/\eF e=false)/\esc ie=true:=by simpa using hc
     cases h;refine nS O.toXO (K.e O.toXO h2) (gZ O.toXO h1) (jG h1) hc.2 (by simp only[swapsWithSole];exact gQ hc.1.2) ?_ rfl;exact AL hc.1.1
   ·-- x[k] = e
    split at h
    ·simp only[aC,aA]at h;obtain⟨i,hl,ie,h1,ik,h2,h⟩:=h;split at h
     ·rename_i hc
      simp only[aG,bj]at hc;cases h;exact CP O.toXO hc.2 (zD hl).1 hc.1.1.1.1 (K.e O.toXO h2) (K.e O.toXO h1) hc.1.1.1.2 hc.1.1.2 hc.1.2
     ·cases h
    ·cases h
   ·cases h
  ·cases h
 ·split at h
  ·-- x.insert(k, a)
   rename_i he
   obtain⟨p,rfl⟩:=vI he;simp only[aC,aA]at h;obtain⟨i,hl,ik,h0,ia,h1,h⟩:=h;split at h
   ·rename_i hc
    simp only[aG,bj,beq_iff_eq]at hc;cases h;obtain⟨⟨⟨⟨⟨c2,c3⟩,c4⟩,c5⟩,c6⟩,c7⟩:=hc;exact y9 O.toXO c7 (zD hl).1 c2 (K.e O.toXO h0) (K.e O.toXO h1) c3 c4 c5 (by simpa using c6)
   ·cases h
  split at h
  ·-- x.append(a)
   rename_i he
   obtain⟨p,rfl⟩:=yp he;simp only[aC,aA]at h;obtain⟨i,hl,ia,h1,h⟩:=h;split at h
   ·rename_i hm
    have hm:=eq_of_beq hm;subst hm;split at h
    ·rename_i hc
     simp only[aG,bj]at hc;cases h;obtain⟨⟨⟨⟨c2,c3⟩,c4⟩,c5⟩,c6⟩:=hc;exact sL O.toXO c6 (zD hl).1 c2 (K.e O.toXO h1) c3 c4 (by simpa using c5)
    ·cases h
   split at h
   ·rename_i hc
    simp only[aG,bj,beq_iff_eq]at hc;cases h;obtain⟨⟨⟨⟨⟨rfl,c2⟩,c3⟩,c4⟩,c5⟩,c6⟩:=hc;exact BY O.toXO c6 (zD hl).1 c2 (K.e O.toXO h1) c3 c4 (by simpa using c5)
   ·cases h
  ·split at h
   ·cases h
   ·rename_i hc
    simp only[aC,aA]at h;obtain⟨ie,h1,h⟩:=h;cases h;exact BA (K.e O.toXO h1) (by simpa using hc)
 ·split at h
  ·-- return e
   rename_i e
   simp only[aC,aA]at h;obtain⟨ie,h1,h⟩:=h;split at h
   ·rename_i hf
    split at h
    ·rename_i y p
     split at h
     ·rename_i ho
      simp only[bu]at h;obtain⟨i,hl,rfl⟩:=h;exact Ae O.toXO hl ho
     ·cases h
    ·split at h
     ·rename_i hfr
      cases h;exact p7 (K.e O.toXO h1) λ_=>hfr
     ·cases h
   ·rename_i hf
    cases h;exact p7 (K.e O.toXO h1) λz=>absurd z hf
  ·split at h
   ·cases h
   ·rename_i hf
    cases h;exact Ck (by simpa using hf)
 ·simp only[aC,aA]at h;obtain⟨it,h1,ia,h2,ib,h3,h⟩:=h;cases h;exact uw (K.t O.toXO h1) (ih.ss O h2) (ih.ss O h3)
 ·split at h
  ·cases h
  ·rename_i tg0 it0 b0 els0 pos0 hc
   have hc:(els0=[]/\c.calm=true)/\zA it0=true:=by simpa using hc
   obtain⟨⟨rfl,hc1⟩,hc2⟩:=hc;simp only[aC,aA]at h;obtain⟨tg,h1,it,h2,h⟩:=h;split at h
   ·cases h
   ·rename_i ho
    have ho:gw it tg0=true:=by simpa using ho
    simp only[aA]at h;obtain⟨ib,h3,h⟩:=h;cases h;exact Ef O.toXO (O.calm hc1) (K.i O.toXO.nox h2 ho) (gZ O.toXO.nox h1) (jG h1) (ih.ss O.nox.froze h3) hc2
 ·split at h
  ·cases h
  ·rename_i els0 _ hc
   have hc:els0=[]/\c.calm=true:=by simpa using hc
   obtain⟨rfl,hc⟩:=hc;simp only[aC,aA]at h;obtain⟨it,h1,ib,h2,h⟩:=h;cases h;exact tV (K.t O.toXO.nox h1) (ih.ss O.nox h2)
 ·split at h
  ·split at h
   ·rename_i hr
    obtain⟨p0,q0,rfl⟩:=uu hr;split at h
    ·cases h
    ·rename_i hc
     simp only[bG,bj,not_or,Bool.not_eq_false,Option.isNone_iff_eq_none]at hc;obtain⟨⟨rfl,hc1⟩,hc2⟩:=hc;split at h
     ·rename_i hg
      simp only[aC,aA]at h;obtain⟨ies,h1,h⟩:=h;cases h;exact B' O (O.calm hc1) hc2 hg (K.es O.toXO h1) h1 (bg (jy h1) hn)
     ·cases h
   ·cases h
  ·cases h
 ·-- try
  split at h
  ·split at h
   ·rename_i b0 els0 fin0 pos0 hs0 y0 h0 hp0 ty0 x0 np0
    split at h
    ·cases h
    ·rename_i hc
     have hc:(((((((els0=[]/\fin0=[])/\c.calm=true)/\c.fnc=true)/\fr=false)/\h0≠[])/\c.own=[])/\c.frz=false):=by simpa using hc
     obtain⟨⟨⟨⟨⟨⟨⟨rfl,rfl⟩,hc1⟩,hc2⟩,rfl⟩,hc3⟩,hc4⟩,hc5⟩:=hc;simp only[aC,aA]at h;obtain⟨ib,h1,ihd,h2,h⟩:=h;split at h
     ·cases h
     ·rename_i hg
      have hg:glob c x0=some .exc\/glob c x0=some .exk:=by
       by_cases z:glob c x0=some .exc
       ·exact .inl z
       ·exact .inr (by simpa[z]using hg)
      match h0,hc3,h2 with
      | [],hc3,_=>exact absurd rfl hc3
      |b₀::suite,_,h2=>
       split at h
       ·cases h;exact sF O hc5 hc4 hg (λEh pn Et O'=>ih.ss O' h1) (λy=>ih.ss (O.held y) h2)
       ·simp only[aA]at h;obtain⟨i,hl,h⟩:=h;split at h
        ·rename_i hn
         cases h;exact sR O hc5 hc4 hg (zy (zD hl).1).1 (by simpa using hn) (λEh pn Et O'=>ih.ss O' h1) (λy=>ih.ss (O.held y) h2)
        ·cases h
   ·cases h
  ·cases h
 ·cases h;exact vM
 ·cases h;exact ym
 ·cases h;exact vy
 ·cases h
theorem lB:∀n,n<=100000->iB w g n
 | 0,_=>⟨λ_ _ _ _ h=>by simp[cS]at h,λ_ _ _ _ h=>by simp[cSs]at h⟩
 |n+1,h=>
  have ih:=lB n (Nat.le_of_succ_le h)
  ⟨λO _ _ _ q=>ih.s_succ (Nat.le_of_succ_le h) O q,λO _ _ _ q=>ih.ss_succ O q⟩
end
section
variable{w:W}{g:Gc}{c:Cc}{E:XK}{fr:Bool}{X:Cx}{H0:Hp}{B:Sh}{τ:Env}{σ:L2.St}{H H':Hp}{S:Sh}{n:Nat}
theorem SS.demote(s:SS g c H0 B τ σ H S){c':Cc}(hN:c'.N=c.N)(ho:c'.own=[])(hz:c'.frz=false):SS g c' H0 B τ σ H ⟨λ_=>false,B.h,B.z,B.y⟩:=by
 have no:∀i,¬ zp c' i:=λi ⟨x,_,h⟩=>by rw[ho]at h;cases h
 have up:qf (hid H S) (hid H ⟨λ_=>false,B.h,B.z,B.y⟩):=λb o h=>by
  obtain⟨h1,h2⟩:=bq.mp h;refine bq.mpr ⟨?_,h2⟩;have:=s.hd b;rw[h1]at this;show B.h b=false;cases q:B.h b with
  |false=>rfl
  |true=>rw[q]at this;cases this
 have val:∀(i:Nat) (d:D),τ[i]? = some (some d)->∃v,σ[i]? = some (some v)/\Rep g (hid H ⟨λ_=>false,B.h,B.z,B.y⟩) d v:=λi d h=>by
  obtain⟨v,h1,h2,_⟩:=s.se.val i d h;refine⟨v,h1,?_⟩;rcases h2 with h2|⟨a,o,z1,rfl,z4,z5⟩
  ·exact h2.mono up
  ·exact z5.rep up (bq.mpr ⟨s.sub0.free (s.new a z1),z4⟩)
 refine⟨⟨s.se.len,λi d h=>?_,λa ha=>?_⟩,by rw[s.lenN,hN],s.same,s.sub0,λa=>by simp,λa ha=>(by cases ha),λi d hi _=>(no i hi).elim,λi j d e a hi _ _ _ _ _=>(no i hi).elim,λz=>by rw[hz]at z;cases z⟩
 ·obtain⟨v,h1,h2⟩:=val i d h;exact⟨v,h1,.inl h2,λ_ _ _=>h2⟩
 ·rcases ha with ha|ha
  ·exact s.sub0.same s.same a (.inl ha)
  ·cases ha
noncomputable def kM(g:Gc)(E:XK)(fr:Bool)(H0:Hp)(B:Sh)(D:Ends):O->Prop
 | .nx _=>∀σ' H',qf H0 H'->D.nx σ' H'
 | .rt d=>∀v H',qf H0 H'->Rep g (hid H' B) d v->(fr=true->Fr g H0 B H' d v)->D.rt v H'
 | .ex k=>∀H' C,qf H0 H'->g.clA k=some C->E (.ref C) none H'
 |_=>False
theorem kM.out{D:Ends}{o:O}(h:kM g E fr H0 B D o):bT g c E fr H0 B H S D o:=by
 cases o with
 |nx t=>exact λσ' H' S' ss _=>h σ' H' ss.same
 |rt d=>exact h
 |ex k=>exact h
 |bk t=>exact h.elim
 |ct t=>exact h.elim
 |no=>exact h.elim
noncomputable def wU(w:W)(g:Gc)(c:Cc)(E:XK)(fr:Bool)(s:Ss):TS:=λD σ H=>∃H0 B τ S,SS g c H0 B τ σ H S/\kM g E fr H0 B D (qe w s τ)
theorem nj(hn:n<=100000)(O:XS w g c E X):∀{x:List Stmt}{ir:Ss},fq n c fr x=some ir->PSs X x (wU w g c E fr ir)
 | [],ir,h=>by
  cases h;exact PSs.imp mX λD σ H ⟨H0,B,τ,S,ss,z⟩=>⟨H0,B,τ,S,ss,z.out⟩
 |s::r,ir,h=>by
  unfold fq at h;split at h
  ·have O':XS w g (noOwn c) E X:=⟨⟨O.K,O.nm,O.N,O.nd,O.calm,O.units,O.fn,O.kind,O.pass,O.gok,O.fns,O.sub⟩,O.thr,O.exc,O.cat,O.frm,O.gh⟩
   exact PSs.imp ((lB n hn).ss O' h) λD σ H ⟨H0,B,τ,S,ss,z⟩=>⟨H0,B,τ,_,ss.demote rfl rfl rfl,z.out⟩
  ·simp only[aC,aA]at h;obtain⟨ir',h1,h⟩:=h;cases h;have hr:=nj hn O h1;have hs:PS X s (tS w g c E fr ((cS n c fr s).getD .unk)):=by
    cases q:cS n c fr s with
    |none=>exact oA
    |some is=>exact(lB n hn).s O q
   refine PSs.imp (ph hs hr) λD σ H ⟨H0,B,τ,S,ss,z⟩=>?_
   simp only[qe]at z;refine⟨H0,B,τ,S,ss,?_⟩;cases q:evS w ((cS n c fr s).getD .unk) τ with
   |nx τ'=>rw[q]at z;exact λσ' H' S' s' e=>⟨H0,B,τ',S',s',z⟩
   |bk τ'=>rw[q]at z;exact z.elim
   |ct τ'=>rw[q]at z;exact z.elim
   |rt d=>rw[q]at z;exact z
   |ex k=>rw[q]at z;exact z
   |no=>rw[q]at z;exact z
end
noncomputable def GM0(p:Pr)(g:Gc)(mg:Str->Option ae)(x:Str):GK->Prop
 | .fn _=>∃f,g.fnA x=some f
 | .val=>∃u v d,mg x=some u/\RelV v u/\p.glb x=some d/\∀H,Rep g H d v
 | .bi b=>mg x=none/\x=b1N b/\∃id,b1V b=.builtin id
 | .rng=>mg x=none/\x = "range"
 | .enum=>mg x=none/\x = "enumerate"
 | .zip=>mg x=none/\x = "zip"
 | .isi=>mg x=none/\x = "isinstance"
 | .ty n b=>mg x=none/\bB x=some (.type n)/\(n∈["int","bool","str","list","tuple"]\/n = "ValueError")/\∀b',b=some b'->x=b1N b'/\b1V b'=.type n
 | .exc=>∃C,mg x=some (.ref C)/\g.clA x=some C/\kU g.K C
 | .exk=>∃C,mg x=some (.ref C)/\g.clA x=some C
 | .set=>mg x=none/\bB x=some (.type "set")
structure Ground(p:Pr)(g:Gc)(G GH GU:List (Str×GK))(mg:Str->Option ae):Prop where
 fn:∀x f,g.fnA x=some f->∃st own fr fd fnn,p.fns x=some fnn/\cFn G GH own fr st=some fnn/\Fun g.K x x st f fd/\Binds g.K fd (argNames (qY st)) []/\cA g.K (.ref f)=true/\mg x=some (.ref f)/\G.lookup x=some (.fn fr)
 gl:∀x k,G.lookup x=some k->GM0 p g mg x k
 gu:∀x k,GU.lookup x=some k->(∀fr,k≠.fn fr)/\k≠.exc/\GM0 p g mg x k
 gh:∀x k,GH.lookup x=some k->GU.lookup x=some k\/∃fr f st own fd fnn,k=.fn fr/\g.fnA x=some f/\p.fns x=some fnn/\gk GU own fr st=some fnn/\Fun g.K x x st f fd/\Binds g.K fd (argNames (qY st)) []/\cA g.K (.ref f)=true/\mg x=some (.ref f)
 sub:∀k cl b,p.sub k cl=some b->∃C cv,g.clA k=some C/\cV g.K C/\bf g.K (.ref C) cv=some b/\match cl with
  | .ty n=>n = "ValueError"/\cv=.type n
  | .ex x=>∃D,g.clA x=some D/\cv=.ref D
 cat:∀k x,p.cat k x=true->∀C D,g.clA k=some C->g.clA x=some D->bO g.K (.ref C) (.ref D)=some true
abbrev wAt(p:Pr)(k:Nat):W:=⟨qa p k,p.glb,p.sub,p.cat⟩
theorem pJ{N ps:List Str}{sc:aP}(h:gG N ps sc=true):fR N ps sc:=by
 unfold gG at h;simp only[aG,beq_iff_eq,bj,decide_eq_true_eq,List.all_eq_true,bG,bne_iff_ne,ne_eq]at h;obtain⟨⟨⟨⟨⟨⟨h1,h2⟩,h3⟩,h4⟩,h5⟩,h6⟩,h7⟩:=h;exact⟨h1,h2,h3,h4,h5,h6,h7⟩
theorem uM{G GH:List (Str×GK)}{own:List Str}{fr:Bool}{st:Stmt}{fnn:Fn}(h:cFn G GH own fr st=some fnn):gG (ez (qY st) (qW st)) (argNames (qY st)) (qW st)=true/\(argNames (qY st)).any own.contains=false /\
  ∃b,fq iy ⟨(qW st).names,ez (qY st) (qW st),own,G,true,true,true,GH,[],false⟩ fr (dh st)=some b/\fnn=⟨(argNames (qY st)).length,(ez (qY st) (qW st)).length,fr,b⟩:=by
 unfold cFn at h;dsimp only at h;split at h
 ·cases h
 ·rename_i hc
  simp only[bG,bj,not_or,Bool.not_eq_false,dB]at hc;simp only[aC,aA,b5]at h;obtain⟨b,h1,h2⟩:=h;exact⟨hc.1,hc.2,b,h1,h2.symm⟩
theorem yZ{GU:List (Str×GK)}{own:List Str}{fr:Bool}{st:Stmt}{fnn:Fn}(h:gk GU own fr st=some fnn):gG (ez (qY st) (qW st)) (argNames (qY st)) (qW st)=true/\(argNames (qY st)).any own.contains=false /\
  ∃b,fq iy ⟨(qW st).names,ez (qY st) (qW st),own,GU,false,true,false,[],[],false⟩ fr (dh st)=some b/\fnn=⟨(argNames (qY st)).length,(ez (qY st) (qW st)).length,fr,b⟩:=by
 unfold gk at h;dsimp only at h;split at h
 ·cases h
 ·rename_i hc
  simp only[bG,bj,not_or,Bool.not_eq_false,dB]at hc;simp only[aC,aA,b5]at h;obtain⟨b,h1,h2⟩:=h;exact⟨hc.1,hc.2,b,h1,h2.symm⟩
section
variable{P:av}{w:au}{K:aq}{mg:Str->Option ae}{base:Heap}{N:List Str}{qual:Str}{scope:aP}{f:Addr}{cd:ae}{A:aw}{outer:List PySem.Env}{s₀:af}{H₀:Hp}{E:XK}
theorem xv:Passes (CX1 P w) (fA (CX1 P w) P w K mg base N qual scope f cd A outer s₀ H₀ E) E:=by
 intro pins σ H s e s' I h;obtain⟨x,cls,H',rfl,I',F,q⟩:=i8 rfl rfl I rfl h;exact bX.leaves (env:=(fA (CX1 P w) P w K mg base N qual scope f cd A outer s₀ H₀ E).env) (outer:=outer) I' rfl rfl rfl F q
end
theorem GM0.gm{p:Pr}{g:Gc}{mg:Str->Option ae}{x:Str}{k:GK}{P:av}{wl:au}{base:Heap}{A:aw}{calm:Bool}{n:Nat}(h:GM0 p g mg x k)(hf:∀fr,k≠.fn fr):GM (wAt p n) g P wl mg base A calm x k:=by
 cases k with
 |fn fr'=>exact absurd rfl (hf fr')
 |exc=>obtain⟨C,h1,h2,_⟩:=h;exact⟨C,h1,h2⟩
 |val=>exact h
 |bi b=>exact h
 |rng=>exact h
 |enum=>exact h
 |zip=>exact h
 |isi=>exact h
 |ty n b=>exact h
 |exk=>exact h
 |set=>exact h
theorem m7{w:W}{g:Gc}{c:Cc}{E:XK}{X:Cx}{N ps own:List Str}{sc:aP}{fr:Bool}{body:List Stmt}{b:Ss}(hcN:c.N=N)(hco:c.own=own)(hcz:c.frz=false)(FS:fR N ps sc)(c2:ps.any own.contains=false)(c3:fq iy c fr body=some b)
  (O:XS w g c E X) {vs:List V}{ds:List D}{B:Sh}{H:Hp}{Q:VK} (hB:Sub B H) (rv:qZ g (hid H B) ds vs) (hl:ds.length=ps.length)
  (h:tR g E H (match qe w b (ds.map some++bN (N.length-ps.length) none)with
   | .nx _=>if fr then .no else .ok .non
   | .rt d=>.ok d
   | .ex c=>.ex c
   |_=>.no) (λd=>∀v H',qf H H'->Rep g (hid H' B) d v->(fr=true->Fr g H B H' d v)->Q v H')) :
  ∃t,PSs X body t/\t {nx:=λ_ H'=>Q .non H',rt:=Q} (start N vs) H:=by
 have hNl:ps.length<=N.length:=by have:=congrArg List.length FS.pre;rw[List.length_take]at this;lia
 refine⟨_,nj (by decide) O c3,H,B,ds.map some++bN (N.length-ps.length) none,⟨λ_=>false,B.h,B.z,B.y⟩,?_,?_⟩
 ·-- at the start
  have hh:hid H ⟨λ_=>false,B.h,B.z,B.y⟩=hid H B:=rfl;have hvl:=rv.length;have par:∀i d,(ds.map some++bN (N.length-ps.length) none)[i]? = some (some d)->i<ps.length/\ds[i]? = some d:=λi d hi=>by
   by_cases hlt:i<ds.length
   ·rw[List.getElem?_append_left (by simpa using hlt),List.getElem?_map]at hi;refine⟨by lia,?_⟩;cases q:ds[i]? with
    |none=>rw[q]at hi;cases hi
    |some e=>rw[q]at hi;simpa using hi
   ·rw[List.getElem?_append_right (by simpa using hlt)]at hi;rw[List.getElem?_replicate]at hi;split at hi<;>cases hi
  have noOwn:∀i d,zp c i->(ds.map some++bN (N.length-ps.length) none)[i]? = some (some d)->False:=λi d ⟨y,h1,h2⟩ hi=>by
   obtain⟨hlt,_⟩:=par i d hi;rw[hcN]at h1;rw[hco]at h2;have:N.take ps.length=ps:=FS.pre;have hy:ps[i]? = some y:=by
    rw[<-this,List.getElem?_take,if_pos hlt];exact h1
   have:=List.any_eq_false.mp c2 y (List.mem_of_getElem? hy);exact this h2
  refine⟨⟨by simp[L2.start];lia,λi d hi=>?_,λa ha=>?_⟩,by simp[hcN];lia,qf.refl _,hB,(λa=>by simp),(λa ha=>by cases ha),(λi d ho hi=>(noOwn i d ho hi).elim),λi j d e a ho _ hi _ _ _=>(noOwn i d ho hi).elim,λz=>by rw[hcz]at z;cases z⟩
  ·obtain⟨hlt,hd⟩:=par i d hi;obtain⟨v,h1,h2⟩:=rv.get hd;have hlt':i<vs.length:=by lia
   refine⟨v,?_,.inl h2,λ_ _ _=>h2⟩;unfold L2.start;rw[List.getElem?_append_left (by simpa using hlt'),List.getElem?_map,h1]
   rfl
  ·refine hB a ?_;rcases ha with ha|ha
   ·exact .inl ha
   ·cases ha
 ·-- at the end
  cases q:qe w b (ds.map some++bN (N.length-ps.length) none)with
  |nx τ'=>
   rw[q]at h;simp only at h;cases fr with
   |true=>exact h.elim
   |false=>exact λσ' H' hs=>h .non H' hs .non (by intro z;cases z)
  |rt d=>rw[q]at h;exact h
  |ex z=>rw[q]at h;exact h
  |bk z=>rw[q]at h;exact h.elim
  |ct z=>rw[q]at h;exact h.elim
  |no=>rw[q]at h;exact h.elim
section
variable{p:Pr}{g:Gc}{G GH GU:List (Str×GK)}{mg:Str->Option ae}{P:av}{wl:au}{base:Heap}
theorem Ground.okU(T:Ground p g G GH GU mg):∀(k:Nat) (x:Str) (f:Addr) (st:Stmt) (own:List Str) (fr:Bool) (fd:bz) (fnn:Fn),p.fns x=some fnn->gk GU own fr st=some fnn->Fun g.K x x st f fd ->
  hZ P wl g.K mg base (CX1 P wl) k f fd (argNames (qY st)) (spF (wAt p k) g x fr)
 | 0,x,f,st,own,fr,fd,fnn,_,_,_=>⟨λvs H Q E ⟨S,ds,_,_,h⟩=>h.elim,λA outer s H args us vs Q E _ _ _ _ ⟨S,ds,_,_,h⟩=>h.elim⟩
 |k+1,x,f,st,own,fr,fd,fnn,hf,hc,F=>by
  obtain⟨c1,c2,b,c3,rfl⟩:=yZ hc;have FS:=pJ c1;generalize hN:ez (qY st) (qW st)=N at *;generalize hps:argNames (qY st)=ps at *;have call:∀ds,qa p (k+1) x ds=zV (wAt p k) ⟨ps.length,N.length,fr,b⟩ ds:=λds=>by simp only[qa,hf]
  have lenOf:∀vs H Q E,spF (wAt p (k+1)) g x fr vs H Q E->vs.length=ps.length:=λvs H Q E ⟨S,ds,_,r,h⟩=>by
   have h:tR g E H (qa p (k+1) x ds) _:=h;rw[call]at h;unfold zV at h;by_cases hl:ds.length=ps.length
   ·rw[<-r.length];exact hl
   ·rw[if_neg hl]at h;exact h.elim
  obtain⟨oc,od,kV,doc,pm,an,cdv,ct,osl,rfl,lk,hcd⟩:=F.ex;refine BI lk hcd FS lenOf λA outer s H vs Q E hr hsp=>?_
  obtain⟨B,ds,hB,rv,h⟩:=hsp;have h:tR g E H (qa p (k+1) x ds) (λd=>∀v H',qf H H'->Rep g (hid H' B) d v->(fr=true->Fr g H B H' d v)->Q v H'):=h;rw[call]at h;unfold zV at h;by_cases hl:ds.length=ps.length
  ·rw[if_pos hl]at h;have O:XS (wAt p k) g ⟨(qW st).names,N,own,GU,false,true,false,[],[],false⟩ E (fA (CX1 P wl) P wl g.K mg base N x (qW st) f cdv A outer s H E):=
    ⟨⟨rfl,rfl,rfl,FS.nd,(λz=>by cases z),by have:=hr.un;show (A.deeper _).units+64<_;lia,λ_ _=>rfl,FS.kind,xv,λy ky hy=>(T.gu y ky hy).2.2.gm (T.gu y ky hy).1,(λz=>by cases z),T.sub⟩,(λz=>by cases z),λy C hy _=>absurd rfl (T.gu y .exc hy).2.1,T.cat,⟨rfl,rfl,rfl⟩,λy k z=>by cases z⟩
   exact m7 rfl rfl rfl FS c2 c3 O hB rv hl h
  ·rw[if_neg hl]at h;exact h.elim
theorem Ground.ok(T:Ground p g G GH GU mg):∀(k:Nat) (x:Str) (f:Addr) (st:Stmt) (own:List Str) (fr:Bool) (fd:bz) (fnn:Fn),p.fns x=some fnn->cFn G GH own fr st=some fnn->Fun g.K x x st f fd ->
  eU P wl g.K mg base (CX1 P wl) k f fd (argNames (qY st)) (spF (wAt p k) g x fr)
 | 0,x,f,st,own,fr,fd,fnn,_,_,_=>⟨λvs H Q E ⟨S,ds,_,_,h⟩=>h.elim,λA outer s H args us vs Q E _ _ _ _ ⟨S,ds,_,_,h⟩=>h.elim⟩
 |k+1,x,f,st,own,fr,fd,fnn,hf,hc,F=>by
  obtain⟨c1,c2,b,c3,rfl⟩:=uM hc;have FS:=pJ c1;generalize hN:ez (qY st) (qW st)=N at *;generalize hps:argNames (qY st)=ps at *;have call:∀ds,qa p (k+1) x ds=zV (wAt p k) ⟨ps.length,N.length,fr,b⟩ ds:=λds=>by simp only[qa,hf]
  have lenOf:∀vs H Q E,spF (wAt p (k+1)) g x fr vs H Q E->vs.length=ps.length:=λvs H Q E ⟨S,ds,_,r,h⟩=>by
   have h:tR g E H (qa p (k+1) x ds) _:=h;rw[call]at h;unfold zV at h;by_cases hl:ds.length=ps.length
   ·rw[<-r.length];exact hl
   ·rw[if_neg hl]at h;exact h.elim
  refine F.ok1 FS lenOf λcdv A outer s H vs Q E hr hsp=>?_
  obtain⟨B,ds,hB,rv,h⟩:=hsp;have h:tR g E H (qa p (k+1) x ds) (λd=>∀v H',qf H H'->Rep g (hid H' B) d v->(fr=true->Fr g H B H' d v)->Q v H'):=h;rw[call]at h;unfold zV at h;by_cases hl:ds.length=ps.length
  ·rw[if_pos hl]at h
   -- the ground of the body
   have calls:∀y fy,g.fnA y=some fy->∃fry,G.lookup y=some (.fn fry)/\iR (wAt p k) g P wl mg base (A.deeper (envOfC x (qW st) s.heap.objs.size f cdv)) true y fy fry:=λy fy hy=>by
    obtain⟨sty,owny,fry,fdy,fny,z1,z2,z3,z4,z5,z6,z7⟩:=T.fn y fy hy;exact⟨fry,z7,z6,z5,k,fdy,_,z4,.inl ⟨rfl,Ground.ok T k y fy sty owny fry fdy fny z1 z2 z3,hr⟩⟩
   have O:XS (wAt p k) g ⟨(qW st).names,N,own,G,true,true,true,GH,[],false⟩ E (dC (CX1 P wl) P wl g.K mg base N x (qW st) f cdv A outer s H E):=by
    refine⟨⟨rfl,rfl,rfl,FS.nd,λ_=>rfl,hr.units,λ_ _=>rfl,FS.kind,Ba,λy ky hy=>?_,λ_ y fy hy=>?_,T.sub⟩,λ_=>BL,λy C hy hC=>?_,T.cat,⟨rfl,rfl,rfl⟩,λy ky hy=>?_⟩
    ·have:=T.gl y ky hy;by_cases hf:∃fr,ky=.fn fr
     ·obtain⟨fr',rfl⟩:=hf;obtain⟨fy,h1⟩:=this;obtain⟨fry,h2,h3⟩:=calls y fy h1;have hy:G.lookup y=some (.fn fr'):=hy;rw[hy]at h2;cases h2;exact⟨fy,h1,h3⟩
     ·exact this.gm λfr z=>hf ⟨fr,z⟩
    ·obtain⟨fry,_,h3⟩:=calls y fy hy;exact⟨fry,h3⟩
    ·obtain⟨C',_,h2,h3⟩:=T.gl y .exc hy;rw[h2]at hC;cases hC;exact h3
    ·rcases T.gh y ky hy with z|⟨fr',fy,sty,owny,fdy,fny,rfl,z1,z2,z3,z4,z5,z6,z7⟩
     ·obtain⟨u1,u2,u3⟩:=T.gu y ky z;exact⟨u2,λv=>u3.gm u1⟩
     ·exact⟨by simp,λv=>⟨fy,z1,z7,z6,k,fdy,_,z5,.inr ⟨rfl,Ground.okU T k y fy sty owny fr' fdy fny z2 z3 z4,hr.mark v⟩⟩⟩
   exact m7 rfl rfl rfl FS c2 c3 O hB rv hl h
  ·rw[if_neg hl]at h;exact h.elim
end
end EV
namespace WB
open PySem PySem.Spec PyProof.Rows L2
structure Dd(K:aq)(n:Str)(st:Stmt)(f:Addr):Prop where
 a:ao K ak n=some (some (.ref f))
 l:∃oc od an sl kV dc pm cd ct,K.lookup f=some ⟨oc,od,.func (bS n n (qY st) (dh st) (qW st) .none kV dc pm an cd ct),sl⟩/\PySem.W.codeIn K cd n=true
 k:cA K (.ref f)=true
theorem zB{K:aq}{n:Str}{st:Stmt}{f:Addr}{od an:Option Addr}{sl:Array (Option ae)}{oc kV dc pm cd ct:ae}(a:ao K ak n=some (some (.ref f)))
  (l:K.lookup f=some ⟨oc,od,.func (bS n n (qY st) (dh st) (qW st) .none kV dc pm an cd ct),sl⟩) (c:PySem.W.codeIn K cd n=true) (k:cA K (.ref f)=true):Dd K n st f:=
 ⟨a,⟨oc,od,an,sl,kV,dc,pm,cd,ct,l,c⟩,k⟩
theorem Dd.fn{K:aq}{n:Str}{st:Stmt}{f:Addr}(d:Dd K n st f):∃fd,Fun K n n st f fd:=by
 obtain⟨oc,od,an,sl,kV,dc,pm,cd,ct,l,c⟩:=d.l;exact⟨_,nN (st:=st) l c d.k⟩
theorem mw{K:aq}{C:Addr}{c:ae}{dd:Option Addr}{cd:PySem.ClassData}{sl:Array (Option ae)}(s1:PySem.W.findIn K (.ref C) "__getattribute__" = some (some (.builtin "BaseException.__getattribute__")))
  (s2:PySem.W.findIn K (.ref C) "__getattr__" = some none) (s3:PySem.W.findIn K (.ref C) "__class__" = some (some (.builtin "object.__class__"))) (s4:PySem.W.mroIn K C (.type "BaseException")=some true) (s5:PySem.W.mroIn K C (.type "object")=some true)
  (s6:K.lookup C=some ⟨c,dd,.cls cd,sl⟩):cV K C:=⟨s1,s2,s3,s4,s5,⟨c,dd,cd,sl,s6⟩⟩
theorem nK{K:aq}{C:Addr}:bf K (.ref C) (.ref C)=some true:=by
 unfold bf;rw[if_pos (beq_self_eq_true _)]
theorem o8{K:aq}{C:Addr}(s:ay K (.ref C) (.type "ValueError")=some true):bf K (.ref C) (.type "ValueError")=some true:=by
 unfold bf;rw[if_neg (λz=>by have:=eq_of_beq z;cases this)];show (if PySem.W.kitMeta "ValueError" = true then ay K (.ref C) (.type "ValueError")else none)=_;rw[if_pos (by decide +kernel)];exact s
theorem lZ{K:aq}{C D:Addr}{x:PySem.ClassData}(u:ay K (.ref D) (.type "BaseException")=some true)(c:PySem.W.clsIn K D=some x)(t:PySem.W.typeIn K (.ref D)=some (.type "type"))(s:ay K (.ref C) (.ref D)=some true) :
  bO K (.ref C) (.ref D)=some true:=by
 unfold bO;rw[u,if_pos (by decide)];show (if ((PySem.W.clsIn K D).isSome&&PySem.W.typeIn K (.ref D)==some (.type "type"))=true then ay K (.ref C) (.ref D)else none)=_;rw[c,t,if_pos (by rw[beq_self_eq_true];rfl)];exact s
theorem rl{us:List ae}(h:us.length=1):∃a,us=[a]:=List.length_eq_one_iff.mp h
theorem ni{n:Nat}{us:List ae}(h:us.length=n+1):∃a r,us=a::r/\r.length=n:=by
 cases us with
 |nil=>cases h
 |cons a r=>exact⟨a,r,rfl,Nat.succ.inj h⟩
theorem mr{us:List ae}(h:us.length=2):∃a b,us=[a,b]:=by
 obtain⟨a,r,e,h⟩:=ni h;obtain⟨b,q⟩:=rl h;subst q;exact⟨a,b,e⟩
theorem u7{us:List ae}(h:us.length=3):∃a b c,us=[a,b,c]:=by
 obtain⟨a,r,e,h⟩:=ni h;obtain⟨b,c,q⟩:=mr h;subst q;exact⟨a,b,c,e⟩
structure Dk(K:aq)(n:Str)(D:Addr):Prop where
 a:ao K ak n=some (some (.ref D))
 c:∃x,PySem.W.clsIn K D=some x
 t:PySem.W.typeIn K (.ref D)=some (.type "type")
theorem c0{K:aq}{n:Str}{D:Addr}{x:PySem.ClassData}(a:ao K ak n=some (some (.ref D)))(c:PySem.W.clsIn K D=some x)(t:PySem.W.typeIn K (.ref D)=some (.type "type")):Dk K n D:=⟨a,⟨x,c⟩,t⟩
theorem Dk.kit{K:aq}{n:Str}{C D:Addr}{b:Bool}(d:Dk K n D)(s:ay K (.ref C) (.ref D)=some b)(ne:C≠D):bf K (.ref C) (.ref D)=some b:=by
 obtain⟨x,c⟩:=d.c;unfold bf;rw[if_neg (λz=>ne (by have:=eq_of_beq z;injection this))];show (if ((PySem.W.clsIn K D).isSome&&PySem.W.typeIn K (.ref D)==some (.type "type"))=true then ay K (.ref C) (.ref D)else none)=_;rw[c,d.t,if_pos (by rw[beq_self_eq_true];rfl)];exact s
end WB
namespace EV
open PySem PySem.Spec PySem.P PyProof.Rows L2
structure Ent where
 x:Str
 st:Stmt
 own:List Str
 fr:Bool
 fn:Fn
noncomputable def prT(tab:List Ent)(vals:List (Str×D))(cU:List (Str×Str))(subs:List ((Str×Cl)×Bool):=[]):Pr:=⟨λx=>(tab.find? (·.x==x)).map (·.fn),λx=>vals.lookup x,λk c=>subs.lookup (k,c),λk x=>cU.contains (k,x)⟩
noncomputable def unx:GK->GK
 | .exc=>.exk
 |k=>k
noncomputable def eC(oth:List (Str×GK)):List (Str×GK):=oth.map λy=>(y.1,unx y.2)
noncomputable def fB(us:List Ent)(oth:List (Str×GK)):List (Str×GK):=us.map (λe=>(e.x,GK.fn e.fr))++eC oth
theorem o3{x:Str}{k:GK}:∀{oth:List (Str×GK)},(eC oth).lookup x=some k->∃k0,oth.lookup x=some k0/\k=unx k0
 | [],h=>by cases h
 | (y,k1)::r,h=>by
  have h:List.lookup x ((y,unx k1)::eC r)=some k:=h;rw[ba]at h;split at h
  ·rename_i q;cases h;exact⟨k1,by rw[ba,q],rfl⟩
  ·rename_i q
   obtain⟨k0,h1,h2⟩:=o3 h;exact⟨k0,by rw[ba,q];exact h1,h2⟩
theorem n_{x:Str}{k:GK}{oth:List (Str×GK)}:∀{us:List Ent},(fB us oth).lookup x=some k->(∃e∈us,e.x=x/\k=.fn e.fr)\/(eC oth).lookup x=some k
 | [],h=>.inr h
 |a::r,h=>by
  have h:List.lookup x ((a.x,GK.fn a.fr)::fB r oth)=some k:=h;rw[ba]at h;split at h
  ·rename_i q;cases h;exact .inl ⟨a,aJ,(eq_of_beq q).symm,rfl⟩
  ·rcases n_ h with ⟨e,h1,h2⟩|h1
   ·exact .inl ⟨e,aK _ h1,h2⟩
   ·exact .inr h1
noncomputable def dQ(K:aq)(ns:List Str)(x:Str):Option Addr:=if ns.contains x then (match ao K ak x with
 |some (some (.ref f))=>some f
 |_=>none)else none
noncomputable def gOf(K:aq)(fns cls:List Str):Gc:=⟨K,dQ K fns,dQ K cls⟩
theorem iI{K:aq}{ns:List Str}{x:Str}{f:Addr}(h:ao K ak x=some (some (.ref f)))(hx:ns.contains x=true):dQ K ns x=some f:=by
 unfold dQ;rw[if_pos hx,h]
theorem jL{K:aq}{ns:List Str}{x:Str}{f:Addr}(h:dQ K ns x=some f):ns.contains x=true/\ao K ak x=some (some (.ref f)):=by
 unfold dQ at h;split at h
 ·rename_i hx
  split at h
  ·rename_i q;cases h;exact⟨hx,q⟩
  ·cases h
 ·cases h
noncomputable def Bnd(e:Ent):Prop:=∀(kV doc pm:ae) (an:Option Addr) (cdv ct:ae) (us:List ae),us.length=(argNames (qY e.st)).length->bindArgs (bS e.x e.x (qY e.st) (dh e.st) (qW e.st) .none kV doc pm an cdv ct) ⟨us,[]⟩=pure ((argNames (qY e.st)).zip us)
structure gY(K:aq)(G:List (Str×GK))(e:Ent):Prop where
 dd:∃f,WB.Dd K e.x e.st f
 bnd:Bnd e
noncomputable def mV(K:aq)(vals:List (Str×D))(x:Str):GK->Prop
 | .fn _=>True
 | .val=>∃u v d,ao K ak x=some (some u)/\RelV v u/\vals.lookup x=some d/\∀g H,g.K=K->Rep g H d v
 | .bi b=>ao K ak x=some none/\x=b1N b/\∃id,b1V b=.builtin id
 | .rng=>ao K ak x=some none/\x = "range"
 | .enum=>ao K ak x=some none/\x = "enumerate"
 | .zip=>ao K ak x=some none/\x = "zip"
 | .isi=>ao K ak x=some none/\x = "isinstance"
 | .ty n b=>ao K ak x=some none/\bB x=some (.type n)/\(n∈["int","bool","str","list","tuple"]\/n = "ValueError")/\∀b',b=some b'->x=b1N b'/\b1V b'=.type n
 | .exc=>∃C,ao K ak x=some (some (.ref C))/\PySem.W.excIn K C gr "ValueError.__new__" = true
 | .exk=>∃C,ao K ak x=some (some (.ref C))
 | .set=>ao K ak x=some none/\bB x=some (.type "set")
noncomputable def mq(K:aq)(cls:List Str)(y:(Str×Cl)×Bool):Prop:=∃C cv,cls.contains y.1.1=true/\ao K ak y.1.1=some (some (.ref C))/\cV K C/\bf K (.ref C) cv=some y.2/\match y.1.2 with
 | .ty n=>n = "ValueError"/\cv=.type n
 | .ex x=>∃D,cls.contains x=true/\ao K ak x=some (some (.ref D))/\cv=.ref D
theorem l8{α β:Type} [BEq α] [LawfulBEq α]{a:α}{b:β}:∀{l:List (α×β)},l.lookup a=some b->(a,b)∈l
 | (c,d)::r,h=>by
  rw[ba]at h;split at h
  ·rename_i q;cases h;rw[eq_of_beq q];exact aJ
  ·exact aK _ (l8 h)
theorem oJ{tab:List Ent}{e:Ent}(hn:(tab.map (·.x)).Nodup)(he:e∈tab):tab.find? (·.x==e.x)=some e:=by
 induction tab with
 |nil=>simp at he
 |cons a r ih=>
  simp only[aS,List.nodup_cons]at hn;rw[List.find?_cons];rcases aE.mp he with rfl|h
  ·simp
  ·have:(a.x==e.x)=false:=by
    cases q:a.x==e.x with
    |false=>rfl
    |true=>
     have:=eq_of_beq q;exact absurd (this▸aN.mpr ⟨e,h,rfl⟩) hn.1
   rw[this];exact ih hn.2 h
theorem ux{K:aq}{h:Heap}{mg:Str->Option ae}(X:K.In h)(N:h.Ns ak mg){tab:List Ent}{oth G:List (Str×GK)}{vals:List (Str×D)}(hG:G=tab.map (λe=>(e.x,GK.fn e.fr))++oth)
  (hnd:(tab.map (·.x)).Nodup) (ho:∀x k,oth.lookup x=some k->mV K vals x k) (hof:∀x fr,oth.lookup x≠some (.fn fr)) {us:List Ent} (hus:∀e∈us,e∈tab) (hcu:∀e∈us,gk (eC oth) e.own e.fr e.st=some e.fn) (hc:∀e∈tab,cFn G (fB us oth) e.own e.fr e.st=some e.fn) (he:∀e∈tab,gY K G e) (cls:List Str) {cU:List (Str×Str)} (hcat:∀y∈cU,∃C D,ao K ak y.1=some (some (.ref C))/\ao K ak y.2=some (some (.ref D))/\bO K (.ref C) (.ref D)=some true) (hcl:∀x,(oth.lookup x=some .exc\/oth.lookup x=some .exk)->cls.contains x=true)
  {subs:List ((Str×Cl)×Bool)} (hsub:∀y∈subs,mq K cls y) :
  Ground (prT tab vals cU subs) (gOf K (tab.map (·.x)) cls) G (fB us oth) (eC oth) mg:=by
 have lk:∀x k,G.lookup x=some k->(∃e∈tab,e.x=x/\k=.fn e.fr)\/oth.lookup x=some k:=by
  subst hG;clear hnd hc he hus
  induction tab with
  |nil=>intro x k hx;exact .inr hx
  |cons a r ih=>
   intro x k hx;simp only[aS,List.cons_append,ba]at hx;split at hx
   ·rename_i q;cases hx;exact .inl ⟨a,aJ,(eq_of_beq q).symm,rfl⟩
   ·rcases ih x k hx with ⟨e,h1,h2⟩|h1
    ·exact .inl ⟨e,aK _ h1,h2⟩
    ·exact .inr h1
 have lkE:∀e∈tab,G.lookup e.x=some (.fn e.fr):=by
  subst hG;clear hc he lk hus
  induction tab with
  |nil=>intro e h;simp at h
  |cons a r ih=>
   intro e hm;simp only[aS,List.nodup_cons]at hnd;simp only[aS,List.cons_append,ba];rcases aE.mp hm with rfl|hm
   ·rw[beq_self_eq_true]
   ·have:(e.x==a.x)=false:=by
     cases q:e.x==a.x with
     |false=>rfl
     |true=>exact absurd ((eq_of_beq q)▸aN.mpr ⟨e,hm,rfl⟩) hnd.1
    rw[this];exact ih hnd.2 e hm
 have hca:∀k x,cU.contains (k,x)=true->∀C D,dQ K cls k=some C->dQ K cls x=some D->bO K (.ref C) (.ref D)=some true:=λk x z C D h1 h2=>by
  obtain⟨C',D',e1,e2,e3⟩:=hcat (k,x) (by simpa using z);have a1:=(jL h1).2;have a2:=(jL h2).2;rw[e1]at a1;rw[e2]at a2;cases a1;cases a2;exact e3
 have fnd:∀e∈tab,∃f fd,dQ K (tab.map (·.x)) e.x=some f/\Fun K e.x e.x e.st f fd/\Binds K fd (argNames (qY e.st)) []/\cA K (.ref f)=true/\mg e.x=some (.ref f):=λe hm=>by
  obtain⟨⟨f',d⟩,hb⟩:=he e hm;obtain⟨fd,F⟩:=d.fn;exact⟨f',fd,iI d.a (by simpa using aN.mpr ⟨e,hm,rfl⟩),F,F.binds hb,d.k,PySem.W.mg_of X N d.a⟩
 have fne:∀e∈tab,(prT tab vals cU subs).fns e.x=some e.fn:=λe hm=>by show (tab.find? (·.x==e.x)).map (·.fn)=_;rw[oJ hnd hm];rfl
 have gl:∀x k,oth.lookup x=some k->GM0 (prT tab vals cU subs) (gOf K (tab.map (·.x)) cls) mg x k:=λx k hk=>by
  have:=ho x k hk;cases k with
  |fn fr=>exact absurd hk (hof x fr)
  |val=>obtain⟨u,v,d,h1,h2,h3,h4⟩:=this;exact⟨u,v,d,PySem.W.mg_of X N h1,h2,h3,λH=>h4 _ H rfl⟩
  |bi b=>exact⟨dA X N this.1,this.2⟩
  |rng=>exact⟨dA X N this.1,this.2⟩
  |enum=>exact⟨dA X N this.1,this.2⟩
  |zip=>exact⟨dA X N this.1,this.2⟩
  |isi=>exact⟨dA X N this.1,this.2⟩
  |ty n b=>exact⟨dA X N this.1,this.2⟩
  |exc=>obtain⟨C,h1,h2⟩:=this;exact⟨C,PySem.W.mg_of X N h1,iI h1 (hcl x (.inl hk)),h2⟩
  |exk=>obtain⟨C,h1⟩:=this;exact⟨C,PySem.W.mg_of X N h1,iI h1 (hcl x (.inr hk))⟩
  |set=>exact⟨dA X N this.1,this.2⟩
 refine⟨λx f hf=>?_,λx k hx=>?_,λx k hx=>?_,λx k hx=>?_,λk cl b z=>?_,hca⟩
 ·obtain⟨h1,h2⟩:=jL hf;obtain⟨e,hm,rfl⟩:=aN.mp (by simpa using h1:x∈tab.map (·.x));obtain⟨f',fd,z1,z2,z3,z4,z5⟩:=fnd e hm;have hf:dQ K (tab.map (·.x)) e.x=some f:=hf;rw[hf]at z1;cases z1;exact⟨e.st,e.own,e.fr,fd,e.fn,fne e hm,hc e hm,z2,z3,z4,z5,lkE e hm⟩
 ·rcases lk x k hx with ⟨e,hm,rfl,rfl⟩|hk
  ·obtain⟨f',fd,z1,_⟩:=fnd e hm;exact⟨f',z1⟩
  ·exact gl x k hk
 ·obtain⟨k0,h1,rfl⟩:=o3 hx;have:=gl x k0 h1;cases k0 with
  |fn fr=>exact absurd h1 (hof x fr)
  |exc=>obtain⟨C,z1,z2,_⟩:=this;exact⟨by simp[unx],by simp[unx],⟨C,z1,z2⟩⟩
  |_=>exact⟨by simp[unx],by simp[unx],this⟩
 ·rcases n_ hx with ⟨e,hm,rfl,rfl⟩|hk
  ·obtain⟨f',fd,z1,z2,z3,z4,z5⟩:=fnd e (hus e hm);exact .inr ⟨e.fr,f',e.st,e.own,fd,e.fn,rfl,z1,fne e (hus e hm),hcu e hm,z2,z3,z4,z5⟩
  ·exact .inl hk
 ·have z:subs.lookup (k,cl)=some b:=z;obtain⟨C,cv,h0,h1,h2,h3,h4⟩:=hsub _ (l8 z);refine⟨C,cv,iI h1 h0,h2,h3,?_⟩;cases cl with
  |ty n=>exact h4
  |ex x=>obtain⟨D,d0,d1,d2⟩:=h4;exact⟨D,iI d1 d0,d2⟩
theorem AJ{l:PySem.W.OpenLaw}{q:av}{loose:List Str}{XP:(Str->Option ae)->Heap->Prop}{YP:au->Heap->Prop}{d:DefRec}{K:Params->aq}{tab:List Ent}{G:List (Str×GK)}{vals:List (Str×D)}{cls:List Str}{cU:List (Str×Str)}{subs:List ((Str×Cl)×Bool)}{GH GU:List (Str×GK)}{e:Ent}{k:Nat}
  (hn:l.most=some 63) (hdf:d.params.defaults=[]) (hd:d.name=e.x) (hr:cb k callerA) (hY:∀(w:au) (h:Heap),YP w h->(K w.params).In h) (hm:e∈tab) (hnd:(tab.map (·.x)).Nodup) (hx:e.x = "law") (hfr:e.fr=false) (hp:argNames (qY e.st)=[("_law_script" : Str)])
  (hG:∀(w:au) (mg:Str->Option ae) (h:Heap),(K w.params).In h->h.Ns ak mg->Ground (prT tab vals cU subs) (gOf (K w.params) (tab.map (·.x)) cls) G GH GU mg/\gY (K w.params) G e) (hc:cFn G GH e.own e.fr e.st=some e.fn)
  (hlaw:∀ns:List Int,ns.length<=63->qa (prT tab vals cU subs) k "law" [.lst (ns.map D.int)]=.ok (.bl true)) :
  PySem.W.WalkO q loose XP YP l.row.toRowW d [] (λf vs=>PySem.call f vs):=by
 refine L2.A6 (n:=63) (k:=k) (x:="_law_script") (CX:=λw=>CX1 l.prog w) (sp:=λw=>spF (wAt (prT tab vals cU subs) k) (gOf (K w.params) (tab.map (·.x)) cls) "law" false) hn (by decide) hdf hr hY (λw mg fa h KX N hfa=>?_) (λw H a ns hl _ hS=>?_) λw H s e s' z=>?_
 ·obtain⟨T,⟨f,dd⟩,hb⟩:=hG w mg h KX N;have e1:=hfa.symm.trans (hd▸PySem.W.mg_of KX N dd.a);cases e1;obtain⟨oc,od,an,sl,kV,dc,pm,cd,ct,lk,hcd⟩:=dd.l;refine⟨bS e.x e.x (qY e.st) (dh e.st) (qW e.st) .none kV dc pm an cd ct,λs u=>.of_eq ?_,λbase _ _=>?_⟩
  ·have:=hb kV dc pm an cd ct [u] (by rw[hp];rfl);rw[hp]at this;exact this
  ·have:=T.ok (P:=l.prog) (wl:=w) (base:=base) k e.x fa e.st e.own e.fr _ e.fn (by show (tab.find? (·.x==e.x)).map (·.fn)=_;rw[oJ hnd hm];rfl) hc (nN (st:=e.st) lk hcd dd.k);rw[hp,hx,hfr]at this;rw[hx];exact this
 ·refine⟨⟨λ_=>false,λ_=>false,[],λ_=>none⟩,[.lst (ns.map D.int)],(λa z=>by rcases z with z|z<;>cases z),.cons (.lst (xs:=ns.map V.int) ?_ (qZ.ofInts _)) .nil,?_⟩
  ·have:hid H ⟨λ_=>false,λ_=>false,[],λ_=>none⟩=H:=by funext b;unfold hid;rw[if_neg (by simp)]
   rw[this];exact hS
  ·show tR _ _ _ (qa (prT tab vals cU subs) k "law" [.lst (ns.map D.int)]) _;rw[hlaw ns hl];intro v H' _ r _;cases r;rfl
 ·obtain⟨_,_,_,_,_,_,_,_,_,z⟩:=z;exact z
end EV
namespace KG
open EV
open PySem (Str)
open L2 (atI ixN ltP)
abbrev prD:Int×Int->D:=EV.pairD
theorem qX{w:W}{f:Fn}{ds:List D}{d:D}{τ:Env}(hl:ds.length=f.ps)(hτ:ds.map some++bN (f.N-f.ps) none=τ)(h:qe w f.body τ=.rt d):zV w f ds=.ok d:=by
 rw[zV,if_pos hl,hτ,h]
theorem zG{w:W}{s:S}{r:Ss}{τ σ:Env}{o:O}(h:evS w s τ=.nx σ)(h':qe w r σ=o):qe w (.cons s r) τ=o:=by rw[qe,h];exact h'
theorem lH{w:W}{tg:Tg}{it:It}{b r:Ss}{τ:Env}{o:O}{ds:List D}(I:List D->Env->Prop)(h:evI w it τ=.ok ds)(h0:I ds τ)
  (hs:∀x t σ,I (x::t) σ->∃σ1 σ2,store tg x σ=.ok σ1/\qe w b σ1=.nx σ2/\I t σ2) (hn:∀σ,I [] σ->qe w r σ=o):qe w (.cons (.for tg it b) r) τ=o:=by
 have key:∀(l:List D) (σ:Env),I l σ->∃σ',cR tg (λσ=>qe w b σ) l σ=.nx σ'/\I [] σ':=by
  intro l
  induction l with
  |nil=>intro σ q;exact⟨σ,rfl,q⟩
  |cons x t ih=>
   intro σ q;obtain⟨σ1,σ2,a,b',c⟩:=hs x t σ q;obtain⟨σ',d,e⟩:=ih σ2 c;exact⟨σ',by rw[cR,a];simp only[R.out_ok];rw[b'];exact d,e⟩
 obtain⟨σ',a,b'⟩:=key ds τ h0;rw[qe,bV,h];simp only[R.out_ok];rw[a];exact hn σ' b'
theorem iC{w:W}{it:It}{cap:List (Option Nat)}{t:T}{elt:E}{τ c:Env}{ds:List D}{g:D->List D}(h:evI w it τ=.ok ds)(hz:ds.length<=SZ)(hc:dU cap τ=none::none::c)
  (hb:∀x∈ds,((evT w t (none::some x::c)).bind λr=>if r then (evE w elt (none::some x::c)).bind λd=>.ok [d]else .ok [])=.ok (g x)):evE w (.comp it cap (.nm 1) t elt) τ=.ok (.lst (ds.flatMap g)):=by
 have key:∀(l:List D) (v:Option D) (acc:List D),(∀x∈l,x∈ds)->cG (λx σ=>noEx ((store (.nm 1) x σ).bind λσ'=>(evT w t σ').bind λr=>if r then (evE w elt σ').bind λd=>.ok (σ',[d])else .ok (σ',[]))) l (none::v::c) acc=.ok (acc++l.flatMap g):=by
  intro l
  induction l with
  |nil=>intro v acc _;simp[cG]
  |cons x r ih=>
   intro v acc hm;have q:=hb x (hm x aJ);rw[cG];have e:noEx ((store (.nm 1) x (none::v::c)).bind λσ'=>(evT w t σ').bind λr=>if r then (evE w elt σ').bind λd=>.ok (σ',[d])else .ok (σ',[]))=.ok (none::some x::c,g x):=by
    simp only[store,R.bind_ok,List.set_cons_succ,List.set_cons_zero];cases ht:evT w t (none::some x::c)with
    |ok b=>
     rw[ht]at q;simp only[R.bind_ok]at q ⊢;cases b
     ·simp at q ⊢;rw[<-q];rfl
     ·simp only[if_true]at q ⊢;cases he:evE w elt (none::some x::c)with
      |ok d=>rw[he]at q;simp only[R.bind_ok,R.ok.injEq]at q ⊢;rw[<-q];rfl
      |ex=>rw[he]at q;cases q
      |no=>rw[he]at q;cases q
    |ex=>rw[ht]at q;cases q
    |no=>rw[ht]at q;cases q
   rw[e];simp only[R.bind_ok];rw[ih (some x) _ λy hy=>hm y (aK _ hy),List.flatMap_cons,List.append_assoc]
 rw[qr,h];simp only[R.bind_ok];rw[if_neg (by lia),hc,key ds none [] λ_ h=>h]
 rfl
theorem BF{w:W}{i:Int}:cc w (.int i) (.ty "int")=.ok (.bl true):=rfl
theorem sP{w:W}{i:Int}:cc w (.int i) (.ty "bool")=.ok (.bl false):=rfl
theorem vh{w:W}{i:List D}:cc w (.tup i) (.ty "tuple")=.ok (.bl true):=rfl
theorem vJ{w:W}{i:List D}:cc w (.tup i) (.ty "bool")=.ok (.bl false)/\cc w (.tup i) (.ty "int")=.ok (.bl false)/\cc w (.tup i) (.ty "str")=.ok (.bl false)/\cc w (.tup i) (.ty "list")=.ok (.bl false):=⟨rfl,rfl,rfl,rfl⟩
theorem Ag{w:W}{i:Bool}:cc w (.bl i) (.ty "bool")=.ok (.bl true):=rfl
theorem B0(i:Int):(D.int i).asks=true:=rfl
theorem m_(t:Int×Int):(prD t).asks=true:=rfl
theorem nO:∀ns:List Int,plainAll (ns.map D.int)=true
 | []=>rfl
 |_::r=>nO r
theorem pf:∀ns:List Int,fu (ns.map D.int)=0
 | []=>rfl
 |_::r=>by show max 0 (fu _)=0;rw[pf r];rfl
theorem rO(ns:List Int):(D.tup (ns.map D.int)).asks=true:=by
 simp[D.asks,D.plain,D.deep,nO,pf]
theorem lG:∀ns ms:List Int,eqvAll (ns.map D.int) (ms.map D.int)=decide (ns=ms)
 | [],[]=>rfl
 | [],_::_=>rfl
 |_::_,[]=>rfl
 |a::r,b::t=>by
  show (a==b&&eqvAll (r.map D.int) (t.map D.int))=_;rw[lG r t];simp[Bool.decide_and]
  rfl
noncomputable def mn(a b:Int):Int:=if b<a then b else a
noncomputable def mx(a b:Int):Int:=if a<b then b else a
noncomputable def dM(ts:List (Int×Int))(a b:Int):Bool:=ts.any λt=>t.1==mn a b&&t.2==mx a b
theorem Au(ts:List (Int×Int))(u v:Int):qi .isin (.tup [.int u,.int v]) (.tup (ts.map prD))=.ok (ts.any λt=>t.1==u&&t.2==v):=by
 rw[qi];simp only[seq?];rw[if_pos (by simp only[aG,List.all_eq_true,aN];exact⟨rfl,λx ⟨t,_,e⟩=>e▸m_ t⟩),inD,List.any_map]
 congr 2;funext t;show ((t.1==u)&&((t.2==v)&&true))=_;rw[Bool.and_true]
theorem tB(ns:List Int)(a:Int):qi .isin (.int a) (.tup (ns.map D.int))=.ok (ns.any λt=>t==a):=by
 rw[qi];simp only[seq?];rw[if_pos (by simp only[aG,List.all_eq_true,aN];exact⟨rfl,λx ⟨t,_,e⟩=>e▸B0 t⟩),inD,List.any_map]
 rfl
structure GW(m:Int)(ts:List (Int×Int)):Prop where
 lo:1<=m
 hi:m<=8
 lt:ts.Pairwise λs t=>ltP s t=true
 ok:∀t∈ts,0<=t.1/\t.1<t.2/\t.2<m
 len:ts.length<=28
structure GS(m:Int)(s:List Int):Prop where
 lt:s.Pairwise (· < ·)
 ok:∀i∈s,0<=i/\i<m
 len:s.length<=8
abbrev wb(m:Int)(ts:List (Int×Int)):D:=.tup [.int m,.tup (ts.map prD)]
abbrev tu(s:List Int):D:=.tup (s.map D.int)
theorem fW{xs:List D}{i:Nat}(h:i<xs.length):atI xs (i:Int)=some xs[i]:=by
 rw[atI,ixN,if_pos (by lia),if_pos (by lia)];simp[h]
theorem all_true(xs:List D):bools? (xs.flatMap λ_=>[.bl true])=some (bN xs.length true):=by
 induction xs with
 |nil=>rfl
 |cons x r ih=>show (bools? (r.flatMap λ_=>[.bl true])).map (true :: ·)=_;rw[ih];rfl
theorem AR(n:Nat):(bN n true).all id=true:=by simp
theorem vg{s t:Int×Int}(h:ltP s t=true):qi .lt (prD s) (prD t)=.ok true:=by
 show R.ok (er [s.1,s.2] [t.1,t.2])=_;rw[ltP]at h;simp only[er];by_cases e:s.1=t.1
 ·rw[if_pos e]at h ⊢;by_cases e2:s.2=t.2
  ·rw[e2]at h;simp at h
  ·rw[if_neg e2,h]
 ·rw[if_neg e]at h ⊢;rw[h]
noncomputable def rng(m:Int):List Int:=(aW m.toNat).map λ(i:Nat)=>(i:Int)
theorem fL(m:Int):cD 0 m.toNat=(rng m).map D.int:=by
 rw[cD,rng,b7];simp
theorem eP(m:Int):(rng m).length=m.toNat:=by simp[rng]
theorem eM{m i:Int}:i∈rng m↔0<=i/\i<m:=by
 simp only[rng,aN,List.mem_range];constructor
 ·rintro⟨a,h,rfl⟩;lia
 ·intro h;exact⟨i.toNat,by lia,by lia⟩
theorem oI(m:Int):(rng m).Pairwise (· < ·):=by
 rw[rng,List.pairwise_map];exact List.pairwise_lt_range.imp λh=>by lia
theorem yC(c:Int->Bool)(ns:List Int):(ns.map D.int).flatMap (λx=>match x with | .int i=>if c i then [D.int i]else []|_=>[])=(ns.filter c).map D.int:=by
 induction ns with
 |nil=>rfl
 |cons a r ih=>
  rw[aS,List.flatMap_cons,ih,List.filter_cons];show (if c a=true then [D.int a]else [])++_=_;cases c a<;>rfl
theorem xM(x y:Int)(h:0<y)(h':y<=2^64):small (x%y)=true:=by
 have a:=Int.emod_nonneg x (show y≠0 by lia);have b:=Int.emod_lt_of_pos x h;simp only[small,aG,decide_eq_true_eq];lia
noncomputable def st(c j:Int):Int:=
 ((((c%2147483647+977 * j+1) * 48271%2147483647) * ((c%2147483647+977 * j+1) * 48271%2147483647)%2147483629+40692 * (j+3)) * 69621%2147483647)/8
theorem GW.sub{m:Int}{ts ps:List (Int×Int)}(h:GW m ps)(s:ts.Sublist ps):GW m ts:=
 ⟨h.lo,h.hi,h.lt.sublist s,λt ht=>h.ok t (s.subset ht),bg s.length_le h.len⟩
theorem eq_int(a b:Int):qi .eq (.int a) (.int b)=.ok (decide (a=b)):=by
 show R.ok (a==b)=_;congr 1
theorem lt_int(a b:Int):qi .lt (.int a) (.int b)=.ok (decide (a<b)):=rfl
theorem sI{w:W}{tg:Tg}{it:It}{b r:Ss}{τ:Env}{ds:List D}(I:List D->Env->Prop)(h:evI w it τ=.ok ds)(h0:I ds τ)
  (hs:∀x t σ,I (x::t) σ->∃σ1 σ2,store tg x σ=.ok σ1/\qe w b σ1=.nx σ2/\I t σ2):∃σ,I [] σ/\qe w (.cons (.for tg it b) r) τ=qe w r σ:=by
 have key:∀(l:List D) (σ:Env),I l σ->∃σ',cR tg (λσ=>qe w b σ) l σ=.nx σ'/\I [] σ':=by
  intro l
  induction l with
  |nil=>intro σ q;exact⟨σ,rfl,q⟩
  |cons x t ih=>
   intro σ q;obtain⟨σ1,σ2,a,b',c⟩:=hs x t σ q;obtain⟨σ',d,e⟩:=ih σ2 c;exact⟨σ',by rw[cR,a];simp only[R.out_ok];rw[b'];exact d,e⟩
 obtain⟨σ',a,b'⟩:=key ds τ h0;refine⟨σ',b',?_⟩;rw[qe,bV,h];simp only[R.out_ok];rw[a]
 rfl
theorem ints_map(ns:List Int):ints? (ns.map D.int)=some ns:=by
 induction ns with
 |nil=>rfl
 |cons a r ih=>show (ints? (r.map D.int)).map (a :: ·)=_;rw[ih];rfl
noncomputable instance (m:Int) (ts:List (Int×Int)):Decidable (GW m ts):=
 decidable_of_iff (1<=m/\m<=8/\ts.Pairwise (λs t=>ltP s t=true)/\(∀t∈ts,0<=t.1/\t.1<t.2/\t.2<m)/\ts.length<=28) ⟨λ⟨a,b,c,d,e⟩=>⟨a,b,c,d,e⟩,λ⟨a,b,c,d,e⟩=>⟨a,b,c,d,e⟩⟩
noncomputable def Ends(J:Env->Prop)(Q:D->Prop):O->Prop
 | .nx σ=>J σ
 | .rt d=>Q d
 |_=>False
section
variable{w:W}{J K:Env->Prop}{Q:D->Prop}{s:S}{r:Ss}{τ σ:Env}
theorem zF(h:J τ):Ends J Q (qe w .nil τ):=by rw[qe];exact h
theorem zv(h:evS w s τ=.nx σ)(h':Ends J Q (qe w r σ)):Ends J Q (qe w (.cons s r) τ):=by rw[qe,h];exact h'
theorem jm(h:Ends K Q (evS w s τ))(h':∀σ,K σ->Ends J Q (qe w r σ)):Ends J Q (qe w (.cons s r) τ):=by
 rw[qe];cases q:evS w s τ with
 |nx σ=>rw[q]at h;exact h' σ h
 |rt d=>rw[q]at h;exact h
 |_=>rw[q]at h;exact h.elim
theorem fZ{e:E}{d:D}(h:evE w e τ=.ok d)(hq:Q d):Ends J Q (qe w (.cons (.ret e) r) τ):=by
 rw[qe,zL,h];exact hq
theorem lr{t:T}{a b:Ss}{v:Bool}(h:evT w t τ=.ok v)(h1:v=true->Ends J Q (qe w a τ))(h2:v=false->Ends J Q (qe w b τ)):Ends J Q (evS w (.ite t a b) τ):=by
 rw[bU,h];cases v
 ·exact h2 rfl
 ·exact h1 rfl
theorem dG{tg:Tg}{it:It}{b:Ss}{ds:List D}(I:List D->Env->Prop)(h:evI w it τ=.ok ds)(h0:I ds τ)(hs:∀x t σ,I (x::t) σ->∃σ1,store tg x σ=.ok σ1/\Ends (I t) Q (qe w b σ1))(hn:∀σ,I [] σ->Ends J Q (qe w r σ)):Ends J Q (qe w (.cons (.for tg it b) r) τ):=by
 have key:∀(l:List D) (σ:Env),I l σ->Ends (I []) Q (cR tg (λσ=>qe w b σ) l σ):=by
  intro l
  induction l with
  |nil=>intro σ q;exact q
  |cons x t ih=>
   intro σ q;obtain⟨σ1,a,b'⟩:=hs x t σ q;rw[cR,a];simp only[R.out_ok];cases z:qe w b σ1 with
   |nx σ2=>rw[z]at b';exact ih σ2 b'
   |rt d=>rw[z]at b';exact b'
   |_=>rw[z]at b';exact b'.elim
 have hk:=key ds τ h0;refine jm (K:=I []) ?_ hn;rw[bV,h];simp only[R.out_ok];cases z:cR tg (λσ=>qe w b σ) ds τ with
 |nx σ2=>rw[z]at hk;exact hk
 |rt d=>rw[z]at hk;exact hk
 |_=>rw[z]at hk;exact hk.elim
end
theorem yk{s t:Int×Int}(h:ltP t s=false)(hn:s≠t):ltP s t=true:=by
 simp only[ltP]at h ⊢;by_cases e:s.1=t.1
 ·rw[if_pos e.symm]at h;rw[if_pos e];have:s.2≠t.2:=λz=>hn (Prod.ext e z)
  simp at h ⊢;lia
 ·rw[if_neg (λz=>e z.symm)]at h;rw[if_neg e];simp at h ⊢;lia
theorem rF{l:List (Int×Int)}(h:l.Pairwise λa b=>ltP b a=false)(hn:l.Nodup):l.Pairwise λs t=>ltP s t=true:=
 List.Pairwise.imp₂ (λa b h1 h2=>yk h1 h2) h hn
theorem lV:∀ts:List (Int×Int),pairs? (ts.map prD)=some ts
 | []=>rfl
 |t::r=>by show (pairs? (r.map prD)).map (t :: ·)=_;rw[lV r];rfl
theorem pC(xs:List D):b1 .sorted [.lst xs]=(if xs.length<64 then (match ints? xs with
  |some ns=>.ok (.lst ((sortI ns).map D.int))
  |none=>match pairs? xs with
   |some ps=>.ok (.lst ((zw ps).map pairD))
   |none=>eA xs)else eA xs):=rfl
theorem rN(ts:List (Int×Int))(h:ts.length<64):b1 .sorted [.lst (ts.map prD)]=.ok (.lst ((zw ts).map prD)):=by
 rw[pC,if_pos (by simpa using h)];cases ts with
 |nil=>rfl
 |cons t r=>
  have e:ints? ((t::r).map prD)=none:=rfl;rw[e];simp only;rw[lV]
noncomputable def hd(m:Int)(ts:List (Int×Int))(a:Int):List Int:=(rng m).filter λb=>b==a||dM ts a b
noncomputable def mk(m:Int)(ts:List (Int×Int))(s:List Int)(a:Int):List Int:=s.filter λx=>(hd m ts a).any λt=>t==x
end KG
noncomputable def KG.Z:=ar @EV.qe.eq_1 (ar @EV.qe.eq_2 (ar @EV.b9 (ar @EV.bY (ar @EV.cf (ar @EV.zL (ar @EV.b_ (ar @EV.bU (ar @EV.zO (ar @EV.zg (ar @EV.zb (ar @EV.zc (ar @EV.zh (ar @EV.zk (ar @EV.zf (ar @EV.ze (ar @EV.qq (ar @EV.qw (ar @EV.qF (ar @EV.qA (ar @EV.qx (ar @EV.qD (ar @EV.qH (ar @EV.qu (ar @EV.qC (ar @EV.qB (ar @EV.qp (ar @EV.qG (ar @EV.qy (ar @EV.zz.eq_1 (ar @EV.zz.eq_2 (ar @EV.eS (ar @EV.fc (ar @EV.eX (ar @EV.fm (ar @EV.fk (ar @EV.ft (ar @EV.fo (ar @EV.evI.eq_1 (ar @EV.evI.eq_2 (ar @EV.evI.eq_3 (ar @EV.evI.eq_4 (ar @EV.evI.eq_5 (ar @EV.evI.eq_6 (ar @EV.evO.eq_1 (ar @EV.evO.eq_2 (ar @EV.opI.eq_1 (ar @EV.opI.eq_2 (ar @EV.opI.eq_3 (ar @EV.opI.eq_4 (ar @EV.opI.eq_5 (ar @EV.opI.eq_6 (ar @EV.opI.eq_7 (ar @EV.opI.eq_8 (ar @EV.opI.eq_9 (ar @EV.opI.eq_10 (ar @EV.opI.eq_11 (ar @EV.b11.eq_1 (ar @EV.b11.eq_2 (ar @EV.b11.eq_3 (ar @EV.b11.eq_4 (ar @EV.b11.eq_5 (ar @EV.b11.eq_6 (ar @EV.b11.eq_7 (ar @EV.b11.eq_8 (ar @EV.b11.eq_9 (ar @EV.b11.eq_10 (ar @EV.b11.eq_11 (ar @EV.b11.eq_12 (ar @EV.b11.eq_13 (ar @EV.b11.eq_14 (ar @EV.b12.eq_1 (ar @EV.b12.eq_2 (ar @EV.b12.eq_3 (ar @EV.cF.eq_1 (ar @EV.cF.eq_2 (ar @EV.de.eq_1 (ar @EV.de.eq_2 (ar @EV.iiR.eq_1 (ar @EV.iiR.eq_2 (ar @EV.zM.eq_1 (ar @EV.store.eq_1 (ar @EV.store.eq_2 (ar @EV.store.eq_3 (ar @EV.setAll.eq_1 (ar @EV.setAll.eq_2 (ar @EV.setAll.eq_3 (ar @EV.truth.eq_1 (ar @EV.truth.eq_2 (ar @EV.truth.eq_3 (ar @EV.truth.eq_4 (ar @EV.truth.eq_5 (ar @EV.truth.eq_6 (ar @KG.BF (ar @KG.sP (ar @KG.vh (ar @KG.vJ (@KG.Ag)))))))))))))))))))))))))))))))))))))))))))))))))))))))))))))))))))))))))))))))))))))))))))))))))
namespace KG
open EV
open PySem (Str)
open L2 (atI ixN ltP)
noncomputable def iS:Fn:=⟨1,1,false,(.cons (.ret (.and (.isi (.var 0) (.ty "int")) (.not (.isi (.var 0) (.ty "bool"))))) .nil)⟩
noncomputable def eD:Fn:=⟨3,3,false,(.cons (.ret (.and (.call "is_whole" (.cons (.var 0) .nil)) (.cmp2 .le .le (.var 1) (.var 0) (.var 2)))) .nil)⟩
noncomputable def gC:Fn:=⟨1,1,false,(.cons (.ret (.and (.isi (.var 0) (.ty "tuple")) (.cmp .eq (.bi .len (.cons (.var 0) .nil)) (.con (.int 2))))) .nil)⟩
noncomputable def iK:Fn:=⟨1,1,false,(.cons (.ret (.bi .all (.cons (.comp (.rng (.op .sub (.bi .len (.cons (.var 0) .nil)) (.con (.int 1)))) [none,none,some 0] (.nm 1) .yes (.cmp .lt (.ix (.var 2) (.var 1)) (.ix (.var 2) (.op .add (.var 1) (.con (.int 1)))))) .nil))) .nil)⟩
noncomputable def e_:Fn:=⟨1,3,false,(.cons (.ite (.not (.val (.call "is_pair" (.cons (.var 0) .nil)))) (.cons (.ret (.con (.bl false))) .nil) .nil) (.cons (.set (.tp [1,2]) (.var 0)) (.cons (.ite (.or (.not (.val (.call "is_between" (.cons (.var 1) (.cons (.con (.int 1)) (.cons (.glb "MOST") .nil)))))) (.not (.val (.isi (.var 2) (.ty "tuple"))))) (.cons (.ret (.con (.bl false))) .nil) .nil) (.cons (.ret (.and (.bi .all (.cons (.comp (.seq (.var 2)) [none,none,some 1] (.nm 1) .yes (.call "is_tie" (.cons (.var 1) (.cons (.var 2) .nil)))) .nil)) (.call "rises" (.cons (.var 2) .nil)))) .nil))))⟩
noncomputable def dO:Fn:=⟨2,4,false,(.cons (.ite (.not (.val (.call "is_pair" (.cons (.var 0) .nil)))) (.cons (.ret (.con (.bl false))) .nil) .nil) (.cons (.set (.tp [2,3]) (.var 0)) (.cons (.ret (.and (.call "is_whole" (.cons (.var 2) .nil)) (.and (.call "is_whole" (.cons (.var 3) .nil)) (.cmp3 .le .lt .lt (.con (.int 0)) (.var 2) (.var 3) (.var 1))))) .nil)))⟩
noncomputable def gL:Fn:=⟨1,1,false,(.cons (.ite (.not (.val (.call "is_web" (.cons (.var 0) .nil)))) (.cons (.raise "NoWeb" (.cons (.con (.str "a web is due")) .nil)) .nil) .nil) .nil)⟩
noncomputable def mE:Fn:=⟨1,1,false,(.cons (.exp (.call "need_web" (.cons (.var 0) .nil))) (.cons (.ret (.bi .tuple (.cons (.comp (.rng (.ix (.var 0) (.con (.int 0)))) [none,none,some 0] (.nm 1) .yes (.call "hood_of" (.cons (.var 2) (.cons (.var 1) .nil)))) .nil))) .nil))⟩
noncomputable def eO:Fn:=⟨2,4,false,(.cons (.set (.tp [2,3]) (.var 0)) (.cons (.ret (.bi .tuple (.cons (.comp (.rng (.var 2)) [none,none,some 1,some 3] (.nm 1) (.or (.cmp .eq (.var 1) (.var 2)) (.val (.call "are_tied" (.cons (.var 3) (.cons (.var 2) (.cons (.var 1) .nil)))))) (.var 1)) .nil))) .nil))⟩
noncomputable def el:Fn:=⟨3,3,false,(.cons (.ret (.cmp .isin (.tup (.cons (.bi .min (.cons (.var 1) (.cons (.var 2) .nil))) (.cons (.bi .max (.cons (.var 1) (.cons (.var 2) .nil))) .nil))) (.var 0))) .nil)⟩
noncomputable def xt:Fn:=⟨2,2,false,(.cons (.ret (.bi .tuple (.cons (.comp (.seq (.var 1)) [none,none,some 0] (.nm 1) (.cmp .isin (.var 1) (.var 2)) (.var 1)) .nil))) .nil)⟩
noncomputable def vj:Fn:=⟨2,2,false,(.cons (.ret (.comp (.seq (.var 0)) [none,none,some 1] (.nm 1) .yes (.call "mark_of" (.cons (.var 1) (.cons (.var 2) .nil))))) .nil)⟩
noncomputable def yq:Fn:=⟨1,3,false,(.cons (.set (.nm 1) (.lst (.cons (.tup .nil) .nil))) (.cons (.for (.nm 2) (.rng (.ix (.var 0) (.con (.int 0)))) (.cons (.set (.nm 1) (.op .add (.var 1) (.comp (.seq (.var 1)) [none,none,some 2] (.nm 1) .yes (.op .add (.var 1) (.tup (.cons (.var 2) .nil)))))) .nil)) (.cons (.ret (.bi .sorted (.cons (.var 1) .nil))) .nil)))⟩
noncomputable def mL:Fn:=⟨2,2,false,(.cons (.ite (.cmp .lt (.var 1) (.bi .len (.cons (.var 0) .nil))) (.cons (.ret (.ix (.var 0) (.var 1))) .nil) .nil) (.cons (.ret (.con (.int 0))) .nil))⟩
noncomputable def zI:Fn:=⟨2,3,false,(.cons (.set (.nm 2) (.op .mod (.op .mul (.op .add (.op .add (.op .mod (.var 0) (.con (.int 2147483647))) (.op .mul (.con (.int 977)) (.var 1))) (.con (.int 1))) (.con (.int 48271))) (.con (.int 2147483647)))) (.cons (.set (.nm 2) (.op .mod (.op .mul (.var 2) (.var 2)) (.con (.int 2147483629)))) (.cons (.set (.nm 2) (.op .mod (.op .mul (.op .add (.var 2) (.op .mul (.con (.int 40692)) (.op .add (.var 1) (.con (.int 3))))) (.con (.int 69621))) (.con (.int 2147483647)))) (.cons (.ret (.op .fdiv (.var 2) (.con (.int 8)))) .nil))))⟩
noncomputable def m9:Fn:=⟨2,10,false,(.cons (.set (.nm 2) (.op .add (.con (.int 1)) (.op .mod (.var 0) (.var 1)))) (.cons (.set (.nm 3) (.op .fdiv (.var 0) (.var 1))) (.cons (.set (.nm 4) (.op .mod (.var 3) (.con (.int 6)))) (.cons (.set (.nm 5) (.lst .nil)) (.cons (.for (.nm 6) (.rng2 (.con (.int 1)) (.var 2)) (.cons (.for (.nm 7) (.rng (.var 6)) (.cons (.set (.nm 8) (.op .band (.op .shr (.op .fdiv (.var 3) (.con (.int 6))) (.op .add (.op .fdiv (.op .mul (.var 6) (.op .sub (.var 6) (.con (.int 1)))) (.con (.int 2))) (.var 7))) (.con (.int 1)))) (.cons (.ite (.cmp .eq (.var 4) (.con (.int 3))) (.cons (.set (.nm 8) (.op .fdiv (.op .mod (.call "_law_stir" (.cons (.var 0) (.cons (.op .add (.op .mul (.con (.int 8)) (.var 7)) (.var 6)) .nil))) (.con (.int 3))) (.con (.int 2)))) .nil) .nil) (.cons (.ite (.cmp .eq (.var 4) (.con (.int 4))) (.cons (.set (.nm 8) (.op .fdiv (.op .add (.op .mod (.call "_law_stir" (.cons (.var 0) (.cons (.op .add (.op .mul (.con (.int 8)) (.var 7)) (.var 6)) .nil))) (.con (.int 4))) (.con (.int 2))) (.con (.int 3)))) .nil) .nil) (.cons (.ite (.cmp .eq (.var 4) (.con (.int 5))) (.cons (.set (.nm 9) (.lst (.cons (.cmp .eq (.var 6) (.op .add (.var 7) (.con (.int 1)))) (.cons (.or (.cmp .eq (.var 6) (.op .add (.var 7) (.con (.int 1)))) (.cmp .eq (.op .sub (.var 6) (.var 7)) (.op .sub (.var 2) (.con (.int 1))))) (.cons (.cmp .eq (.var 7) (.con (.int 0))) (.cons (.con (.bl true)) (.cons (.and (.cmp .eq (.var 6) (.op .add (.var 7) (.con (.int 1)))) (.cmp .lt (.op .mod (.var 7) (.con (.int 3))) (.con (.int 2)))) .nil))))))) (.cons (.set (.nm 8) (.bi .int (.cons (.ix (.var 9) (.op .mod (.op .fdiv (.var 3) (.con (.int 6))) (.con (.int 5)))) .nil))) .nil)) .nil) (.cons (.ite (.cmp .eq (.var 8) (.con (.int 1))) (.cons (.app 5 (.tup (.cons (.var 7) (.cons (.var 6) .nil)))) .nil) .nil) .nil)))))) .nil)) (.cons (.ret (.tup (.cons (.var 2) (.cons (.bi .tuple (.cons (.bi .sorted (.cons (.own 5) .nil)) .nil)) .nil)))) .nil))))))⟩
noncomputable def AD:Fn:=⟨1,4,false,(.cons (.set (.nm 1) (.comp (.rng (.ix (.var 0) (.con (.int 0)))) [none,none] (.nm 1) .yes (.op .shl (.con (.int 1)) (.var 1)))) (.cons (.for (.tp [2,3]) (.seq (.ix (.var 0) (.con (.int 1)))) (.cons (.seti 1 (.var 2) (.op .bor (.ix (.own 1) (.var 2)) (.op .shl (.con (.int 1)) (.var 3)))) (.cons (.seti 1 (.var 3) (.op .bor (.ix (.own 1) (.var 3)) (.op .shl (.con (.int 1)) (.var 2)))) .nil))) (.cons (.ret (.own 1)) .nil)))⟩
noncomputable def BR:Fn:=⟨2,2,false,(.cons (.ret (.bi .tuple (.cons (.comp (.rng (.var 0)) [none,none,some 1] (.nm 1) (.cmp .eq (.op .band (.op .shr (.var 2) (.var 1)) (.con (.int 1))) (.con (.int 1))) (.var 1)) .nil))) .nil)⟩
noncomputable def eJ:Fn:=⟨2,2,false,(.cons (.ret (.call "is_between" (.cons (.var 1) (.cons (.con (.int 0)) (.cons (.op .sub (.ix (.var 0) (.con (.int 0))) (.con (.int 1))) .nil))))) .nil)⟩
noncomputable def jN:Fn:=⟨2,2,false,(.cons (.ite (.not (.val (.isi (.var 1) (.ty "tuple")))) (.cons (.ret (.con (.bl false))) .nil) .nil) (.cons (.ret (.and (.bi .all (.cons (.comp (.seq (.var 1)) [none,none,some 0] (.nm 1) .yes (.call "is_place" (.cons (.var 2) (.cons (.var 1) .nil)))) .nil)) (.call "rises" (.cons (.var 1) .nil)))) .nil))⟩
noncomputable def nW:Fn:=⟨2,2,false,(.cons (.ite (.not (.val (.call "is_some" (.cons (.var 0) (.cons (.var 1) .nil))))) (.cons (.raise "NoPlaces" (.cons (.con (.str "a rising tuple of places of the web is due")) .nil)) .nil) .nil) .nil)⟩
structure Web(p:Pr):Prop where
 is_whole:p.fns "is_whole" = some iS
 is_between:p.fns "is_between" = some eD
 is_pair:p.fns "is_pair" = some gC
 rises:p.fns "rises" = some iK
 is_web:p.fns "is_web" = some e_
 is_tie:p.fns "is_tie" = some dO
 need_web:p.fns "need_web" = some gL
 MOST:p.glb "MOST" = some (.int 8)
structure Base(p:Pr):Prop extends Web p where
 all_some:p.fns "all_some" = some yq
 _law_cell_at:p.fns "_law_cell_at" = some mL
 _law_stir:p.fns "_law_stir" = some zI
 _law_web:p.fns "_law_web" = some m9
 _law_some:p.fns "_law_some" = some BR
structure jC(p:Pr):Prop where
 _law_cell_at:p.fns "_law_cell_at" = some mL
 _law_stir:p.fns "_law_stir" = some zI
 _law_web:p.fns "_law_web" = some m9
theorem Base.draw{p:Pr}(B:Base p):jC p:=⟨B._law_cell_at,B._law_stir,B._law_web⟩
structure Hds(p:Pr):Prop where
 hoods:p.fns "hoods" = some mE
 hood_of:p.fns "hood_of" = some eO
 are_tied:p.fns "are_tied" = some el
structure Nbr(p:Pr):Prop where
 hoods:p.fns "hoods" = some mE
 hood_of:p.fns "hood_of" = some eO
 are_tied:p.fns "are_tied" = some el
 mark_of:p.fns "mark_of" = some xt
 marks_of:p.fns "marks_of" = some vj
structure wB(p:Pr):Prop extends Nbr p where
 _law_masks:p.fns "_law_masks" = some AD
noncomputable instance {p:Pr}:CoeOut (Base p) (Web p):=⟨λb=>b.toWeb⟩
theorem Nbr.hds{p:Pr}(O:Nbr p):Hds p:=⟨O.hoods,O.hood_of,O.are_tied⟩
noncomputable instance {p:Pr}:CoeOut (Base p) (jC p):=⟨λb=>b.draw⟩
noncomputable instance {p:Pr}:CoeOut (Nbr p) (Hds p):=⟨λb=>b.hds⟩
noncomputable instance {p:Pr}:CoeOut (wB p) (Nbr p):=⟨λb=>b.toNbr⟩
structure lA(p:Pr):Prop where
 is_place:p.fns "is_place" = some eJ
 is_some:p.fns "is_some" = some jN
structure gf(p:Pr):Prop where
 is_place:p.fns "is_place" = some eJ
 is_some:p.fns "is_some" = some jN
 need_some:p.fns "need_some" = some nW
theorem gf.a{p:Pr}(b:gf p):lA p:=⟨b.is_place,b.is_some⟩
noncomputable instance {p:Pr}:CoeOut (gf p) (lA p):=⟨λb=>b.a⟩
section
variable{p:Pr}
theorem qc{k:Nat}{x:Str}{f:Fn}{ds:List D}(h:p.fns x=some f):qa p (k+1) x ds=zV ⟨qa p k,p.glb,p.sub,p.cat⟩ f ds:=by
 rw[qa,h]
theorem nB{k:Nat}{x:Str}{f:Fn}{ds:List D}{τ:Env}{Q:D->Prop}(hf:p.fns x=some f)(hl:ds.length=f.ps)(hτ:ds.map some++bN (f.N-f.ps) none=τ)(h:Ends (λ_=>False) Q (qe (wAt p k) f.body τ)):∃d,qa p (k+1) x ds=.ok d/\Q d:=by
 rw[qc hf,zV,if_pos hl,hτ];cases z:qe ⟨qa p k,p.glb,p.sub,p.cat⟩ f.body τ with
 |rt d=>rw[z]at h;exact⟨d,rfl,h⟩
 |nx _=>rw[z]at h;exact h.elim
 |_=>rw[z]at h;exact h.elim
section
variable(B:Web p)
include B
theorem is_whole{k:Nat}(i:Int):qa p (k+1) "is_whole" [.int i]=.ok (.bl true):=by rw[qc B.is_whole];rfl
theorem is_between{k:Nat}(i a b:Int)(h:a<=i/\i<=b):qa p (k+2) "is_between" [.int i,.int a,.int b]=.ok (.bl true):=by
 rw[qc B.is_between];refine qX rfl rfl ?_;simp[KG.Z,eD,is_whole B,qi,i6,h.1,h.2]
theorem is_pair{k:Nat}(a b:D):qa p (k+1) "is_pair" [.tup [a,b]]=.ok (.bl true):=by
 rw[qc B.is_pair];refine qX rfl rfl ?_;simp[KG.Z,gC,b1,seq?,qi,D.asks,D.plain,D.deep,D.eqv]
theorem is_tie{k:Nat}(a b m:Int)(h:0<=a/\a<b/\b<m):qa p (k+2) "is_tie" [.tup [.int a,.int b],.int m]=.ok (.bl true):=by
 rw[qc B.is_tie];refine qX rfl rfl ?_;simp[KG.Z,dO,is_pair B,is_whole B,qi,i6,h.1,h.2.1,h.2.2]
theorem rises{k:Nat}(xs:List D)(hz:xs.length<=28)(h:∀(i:Nat) (q:i+1<xs.length),qi .lt xs[i] xs[i+1]=.ok true):qa p (k+1) "rises" [.tup xs]=.ok (.bl true):=by
 rw[qc B.rises];refine qX rfl rfl ?_;have hr:zo ((xs.length:Int)-1)=true:=by simp[zo];lia
 have hc:evE ⟨qa p k,p.glb,p.sub,p.cat⟩ (.comp (.rng (.op .sub (.bi .len (.cons (.var 0) .nil)) (.con (.int 1)))) [none,none,some 0] (.nm 1) .yes (.cmp .lt (.ix (.var 2) (.var 1)) (.ix (.var 2) (.op .add (.var 1) (.con (.int 1)))))) [some (.tup xs)]=.ok (.lst ((cD 0 ((xs.length:Int)-1).toNat).flatMap λ_=>[.bl true])):=by
  refine iC (c:=[some (.tup xs)]) ?_ ?_ rfl ?_
  ·simp[KG.Z,b1,seq?,op2,hr]
  ·simp[cD,SZ];lia
  ·intro x hx;simp only[cD,aN,List.mem_range]at hx;obtain⟨i,hi,rfl⟩:=hx;have e1:atI xs ((0:Int)+(i:Int))=some xs[i]:=by rw[Int.zero_add];exact fW (by lia)
   have e2:atI xs ((0:Int)+(i:Int)+1)=some xs[i+1]:=by rw[Int.zero_add];exact fW (i:=i+1) (by lia)
   have e3:=h i (by lia);simp only[Int.zero_add]at e1 e2;simp[KG.Z,ixD,op2,e1,e2,e3]
 simp[KG.Z,iK,hc,b1,all_true,AR]
theorem is_web{k:Nat}{m:Int}{ts:List (Int×Int)}(h:GW m ts):qa p (k+3) "is_web" [wb m ts]=.ok (.bl true):=by
 rw[qc B.is_web];refine qX rfl rfl ?_;have hr:=rises B (k:=k+1) (ts.map prD) (by simpa using h.len) (λi q=>by
  rw[List.getElem_map,List.getElem_map];exact vg (List.pairwise_iff_getElem.mp h.lt i (i+1) (by simp at q;lia) (by simpa using q) (by lia)))
 have hc:evE ⟨qa p (k+2),p.glb,p.sub,p.cat⟩ (.comp (.seq (.var 2)) [none,none,some 1] (.nm 1) .yes (.call "is_tie" (.cons (.var 1) (.cons (.var 2) .nil)))) [some (wb m ts),some (.int m),some (.tup (ts.map prD))]=.ok (.lst ((ts.map prD).flatMap λ_=>[.bl true])):=by
  refine iC (c:=[some (.int m)]) ?_ ?_ rfl ?_
  ·simp[KG.Z,seq?]
  ·simp[SZ];have:=h.len;lia
  ·intro x hx;rw[aN]at hx;obtain⟨t,ht,rfl⟩:=hx;have e:=is_tie B (k:=k) t.1 t.2 m (h.ok t ht);have e':qa p (k+2) "is_tie" [prD t,.int m]=.ok (.bl true):=e;simp[KG.Z,e']
 simp[KG.Z,e_,is_pair B,is_between B m 1 8 ⟨h.lo,h.hi⟩,B.MOST,hc,b1,all_true,hr]
theorem need_web{k:Nat}{m:Int}{ts:List (Int×Int)}(h:GW m ts):qa p (k+4) "need_web" [wb m ts]=.ok .non:=by
 rw[qc B.need_web];simp only[zV];simp[KG.Z,gL,is_web B h]
end
theorem fD(hf:p.fns "_law_stir" = some zI){k:Nat}(c j:Int):qa p (k+1) "_law_stir" [.int c,.int j]=.ok (.int (st c j)):=by
 have s1:small 977=true:=by decide
 have s2:small 48271=true:=by decide
 have s3:small 40692=true:=by decide
 have s4:small 69621=true:=by decide
 have s5:=xM ((c%2147483647+977 * j+1) * 48271) 2147483647 (by decide) (by decide);rw[qc hf];refine qX rfl rfl ?_;simp[KG.Z,zI,op2,s1,s2,s3,s4,s5,st]
section
variable(B:Base p)
include B
end
section
variable(B:Web p)(S:lA p)
include B S
theorem is_place{k:Nat}(i m:Int)(t:D)(h:0<=i/\i<m):qa p (k+3) "is_place" [.tup [.int m,t],.int i]=.ok (.bl true):=by
 rw[qc S.is_place];refine qX rfl rfl ?_;simp[KG.Z,eJ,ixD,atI,ixN,op2,is_between B i 0 (m-1) (by lia)]
theorem is_some{k:Nat}{m:Int}{t:D}{s:List Int}(h:GS m s):qa p (k+4) "is_some" [.tup [.int m,t],tu s]=.ok (.bl true):=by
 rw[qc S.is_some];refine qX rfl rfl ?_;have hr:=rises B (k:=k+2) (s.map D.int) (by simp;have:=h.len;lia) (λi q=>by
  rw[List.getElem_map,List.getElem_map];have:=List.pairwise_iff_getElem.mp h.lt i (i+1) (by simp at q;lia) (by simpa using q) (by lia);simp[qi,i6,this])
 have hc:evE ⟨qa p (k+3),p.glb,p.sub,p.cat⟩ (.comp (.seq (.var 1)) [none,none,some 0] (.nm 1) .yes (.call "is_place" (.cons (.var 2) (.cons (.var 1) .nil)))) [some (.tup [.int m,t]),some (tu s)]=.ok (.lst ((s.map D.int).flatMap λ_=>[.bl true])):=by
  refine iC (c:=[some (.tup [.int m,t])]) ?_ ?_ rfl ?_
  ·simp[KG.Z,seq?]
  ·simp[SZ];have:=h.len;lia
  ·intro x hx;rw[aN]at hx;obtain⟨i,hi,rfl⟩:=hx;simp[KG.Z,is_place B S i m t (h.ok i hi)]
 simp[KG.Z,jN,hc,b1,all_true,hr]
omit S in
theorem need_some(S:gf p){k:Nat}{m:Int}{t:D}{s:List Int}(h:GS m s):qa p (k+5) "need_some" [.tup [.int m,t],tu s]=.ok .non:=by
 rw[qc S.need_some];simp only[zV];simp[KG.Z,nW,is_some B S h]
end
theorem nA(hA:p.fns "are_tied" = some el){k:Nat}(ts:List (Int×Int))(a b:Int):qa p (k+1) "are_tied" [.tup (ts.map prD),.int a,.int b]=.ok (.bl (dM ts a b)):=by
 rw[qc hA];refine qX rfl rfl ?_;simp[KG.Z,el,b1,Au,dM,mn,mx]
theorem pT(hH:p.fns "hood_of" = some eO)(hA:p.fns "are_tied" = some el){k:Nat}{m:Int}{ts:List (Int×Int)}(h:GW m ts)(a:Int):qa p (k+2) "hood_of" [wb m ts,.int a]=.ok (tu (hd m ts a)):=by
 rw[qc hH];refine qX rfl rfl ?_;have h1:=h.lo;have h2:=h.hi;have hc:evE ⟨qa p (k+1),p.glb,p.sub,p.cat⟩ (.comp (.rng (.var 2)) [none,none,some 1,some 3] (.nm 1) (.or (.cmp .eq (.var 1) (.var 2)) (.val (.call "are_tied" (.cons (.var 3) (.cons (.var 2) (.cons (.var 1) .nil)))))) (.var 1)) [some (wb m ts),some (.int a),some (.int m),some (.tup (ts.map prD))]=.ok (.lst ((hd m ts a).map D.int)):=by
  rw[hd,<-yC,<-fL];refine iC (c:=[some (.int a),some (.tup (ts.map prD))]) ?_ ?_ rfl ?_
  ·have:zo m=true:=by simp[zo];lia
   simp[KG.Z,this]
  ·simp[cD,SZ];lia
  ·intro x hx;rw[fL,aN]at hx;obtain⟨b,hb,rfl⟩:=hx;have e:qi .eq (.int b) (.int a)=.ok (b==a):=rfl;simp[KG.Z,e,nA hA];by_cases q:b=a
   ·simp[q]
   ·simp[q];cases dM ts a b<;>simp
 simp[KG.Z,eO,hc,b1,seq?]
section
variable(B:Web p)(O:Hds p)
include O
theorem are_tied{k:Nat}(ts:List (Int×Int))(a b:Int):qa p (k+1) "are_tied" [.tup (ts.map prD),.int a,.int b]=.ok (.bl (dM ts a b)):=nA O.are_tied ts a b
theorem hood_of{k:Nat}{m:Int}{ts:List (Int×Int)}(h:GW m ts)(a:Int):qa p (k+2) "hood_of" [wb m ts,.int a]=.ok (tu (hd m ts a)):=pT O.hood_of O.are_tied h a
include B
end
section
variable(O:Nbr p)
include O
end
end
theorem yc{α:Type}{w:W}{it:It}{cap:List (Option Nat)}{t:T}{elt:E}{τ c:Env}{l:List α}{f:α->D}(q:α->Bool)(g:α->D)(h:evI w it τ=.ok (l.map f))(hz:l.length<=SZ)(hc:dU cap τ=none::none::c)
  (hb:∀a∈l,evT w t (none::some (f a)::c)=.ok (q a)/\(q a=true->evE w elt (none::some (f a)::c)=.ok (g a))):evE w (.comp it cap (.nm 1) t elt) τ=.ok (.lst ((l.filter q).map g)):=by
 have key:∀(r:List α) (v:Option D) (acc:List D),(∀x∈r,x∈l)->cG (λx σ=>noEx ((store (.nm 1) x σ).bind λσ'=>(evT w t σ').bind λr=>if r then (evE w elt σ').bind λd=>.ok (σ',[d])else .ok (σ',[]))) (r.map f) (none::v::c) acc=.ok (acc++(r.filter q).map g):=by
  intro r
  induction r with
  |nil=>intro v acc _;simp[cG]
  |cons x r ih=>
   intro v acc hm;obtain⟨h1,h2⟩:=hb x (hm x aJ);rw[aS,cG];have e:noEx ((store (.nm 1) (f x) (none::v::c)).bind λσ'=>(evT w t σ').bind λr=>if r then (evE w elt σ').bind λd=>.ok (σ',[d])else .ok (σ',[]))=.ok (none::some (f x)::c,if q x then [g x]else []):=by
    simp only[store,R.bind_ok,List.set_cons_succ,List.set_cons_zero,h1];cases hq:q x with
    |false=>rfl
    |true=>simp only[if_true,h2 hq,R.bind_ok];rfl
   rw[e];simp only[R.bind_ok];rw[ih (some (f x)) _ λy hy=>hm y (aK _ hy),List.filter_cons,List.append_assoc];cases q x<;>simp
 rw[qr,h];simp only[R.bind_ok];rw[if_neg (by simp;lia),hc,key l none [] λ_ h=>h]
 rfl
theorem pN{α:Type}{w:W}{it:It}{cap:List (Option Nat)}{elt:E}{τ c:Env}{l:List α}{f:α->D}(g:α->D)(h:evI w it τ=.ok (l.map f))(hz:l.length<=SZ)(hc:dU cap τ=none::none::c)
  (hb:∀a∈l,evE w elt (none::some (f a)::c)=.ok (g a)):evE w (.comp it cap (.nm 1) .yes elt) τ=.ok (.lst (l.map g)):=by
 have:=yc (t:=.yes) (elt:=elt) (f:=f) (λ_=>true) g h hz hc λa ha=>⟨rfl,λ_=>hb a ha⟩
 rwa[List.filter_eq_self.mpr (λ_ _=>rfl)]at this
theorem j_{w:W}{e:E}{τ:Env}{xs:List D}(h:evE w e τ=.ok (.lst xs)):evI w (.seq e) τ=.ok xs:=by rw[evI.eq_1,h];rfl
theorem AF{w:W}{e:E}{τ:Env}{xs:List D}(h:evE w e τ=.ok (.tup xs)):evI w (.seq e) τ=.ok xs:=by rw[evI.eq_1,h];rfl
theorem Bo{α:Type}(l:List α)(f:α->Bool):bools? (l.map λa=>D.bl (f a))=some (l.map f):=by
 induction l with
 |nil=>rfl
 |cons a r ih=>rw[aS,bools?,ih];rfl
theorem pd{α:Type}(l:List α)(f:α->Bool):b1 .all [.lst (l.map λa=>D.bl (f a))]=.ok (.bl (l.all f)):=by
 rw[b1,b11];simp only[de];rw[Bo];simp only[cF];rw[List.all_map];rfl
theorem ma(xs:List D):b1 .len [.lst xs]=.ok (.int xs.length):=rfl
theorem jJ(xs:List D):b1 .len [.tup xs]=.ok (.int xs.length):=rfl
theorem ne_int(a b:Int):qi .ne (.int a) (.int b)=.ok (!decide (a=b)):=by
 show R.ok (!(a==b))=_
 congr 1
theorem nP(a b:Bool):qi .ne (.bl a) (.bl b)=.ok (!decide (a=b)):=by
 cases a<;>cases b<;>rfl
theorem t_(a b:Bool):qi .eq (.bl a) (.bl b)=.ok (decide (a=b)):=by
 cases a<;>cases b<;>rfl
theorem DQ(ns:List Int)(lo hi:Option Int):∃cs:List Int,cutD (ns.map D.int) lo hi=cs.map D.int/\cs.length<=ns.length:=by
 refine⟨(ns.drop _).take _,by rw[cutD,<-List.map_drop,<-List.map_take],by simp;lia⟩
theorem fx{α:Type}{f:α->D}{r:List D}{x:D}{l:List α}(e:x::r=l.map f):∃a l',l=a::l'/\x=f a/\r=l'.map f:=by
 cases l with
 |nil=>cases e
 |cons a l'=>rw[aS]at e;injection e with e1 e2;exact⟨a,l',rfl,e1,e2⟩
theorem iQ{w:W}{f:Fn}{ds:List D}{τ:Env}{Q:D->Prop}(hl:ds.length=f.ps)(hτ:ds.map some++bN (f.N-f.ps) none=τ)(h:Ends (λ_=>False) Q (qe w f.body τ)):∃d,zV w f ds=.ok d/\Q d:=by
 rw[zV,if_pos hl,hτ];cases z:qe w f.body τ with
 |rt d=>rw[z]at h;exact⟨d,rfl,h⟩
 |nx _=>rw[z]at h;exact h.elim
 |_=>rw[z]at h;exact h.elim
noncomputable def fK:Fn:=⟨2,2,false,(.cons (.ite (.not (.val (.call "is_place" (.cons (.var 0) (.cons (.var 1) .nil))))) (.cons (.raise "NoPlace" (.cons (.con (.str "a place of the web is due")) .nil)) .nil) .nil) .nil)⟩
noncomputable def vE:Fn:=⟨2,2,false,(.cons (.exp (.call "need_web" (.cons (.var 0) .nil))) (.cons (.exp (.call "need_some" (.cons (.var 0) (.cons (.var 1) .nil)))) (.cons (.ret (.call "spare_by" (.cons (.call "marks_of" (.cons (.call "hoods" (.cons (.var 0) .nil)) (.cons (.var 1) .nil))) (.cons (.var 1) .nil)))) .nil)))⟩
noncomputable def DZ:Fn:=⟨2,2,false,(.cons (.ret (.bi .tuple (.cons (.comp (.seq (.var 1)) [none,none,some 0] (.nm 1) (.cmp .notin (.tup (.cons (.var 1) .nil)) (.var 2)) (.var 1)) .nil))) .nil)⟩
noncomputable def fJ:Fn:=⟨2,5,false,(.cons (.set (.nm 2) (.lst (.cons (.var 1) .nil))) (.cons (.for (.tp [3,4]) (.seq (.ix (.var 0) (.con (.int 1)))) (.cons (.ite (.cmp .isin (.var 1) (.tup (.cons (.var 3) (.cons (.var 4) .nil)))) (.cons (.app 2 (.op .sub (.op .add (.var 3) (.var 4)) (.var 1))) .nil) .nil) .nil)) (.cons (.ret (.bi .tuple (.cons (.bi .sorted (.cons (.own 2) .nil)) .nil))) .nil)))⟩
noncomputable def xH:Fn:=⟨3,3,false,(.cons (.ret (.bi .tuple (.cons (.comp (.seq (.call "_law_hood" (.cons (.var 0) (.cons (.var 2) .nil)))) [none,none,some 1] (.nm 1) (.cmp .isin (.var 1) (.var 2)) (.var 1)) .nil))) .nil)⟩
noncomputable def zQ:Fn:=⟨2,4,false,(.cons (.ite (.cmp .is (.var 1) (.con .non)) (.cons (.ret (.cmp .is (.var 0) (.con .non))) .nil) .nil) (.cons (.ite (.val (.isi (.var 1) (.ty "bool"))) (.cons (.ret (.and (.isi (.var 0) (.ty "bool")) (.cmp .eq (.var 0) (.var 1)))) .nil) .nil) (.cons (.ite (.val (.isi (.var 1) (.ty "int"))) (.cons (.ret (.and (.isi (.var 0) (.ty "int")) (.and (.not (.isi (.var 0) (.ty "bool"))) (.cmp .eq (.var 0) (.var 1))))) .nil) .nil) (.cons (.ite (.val (.isi (.var 1) (.ty "str"))) (.cons (.ret (.and (.isi (.var 0) (.ty "str")) (.cmp .eq (.var 0) (.var 1)))) .nil) .nil) (.cons (.ite (.or (.cmp .ne (.isi (.var 1) (.ty "list")) (.isi (.var 0) (.ty "list"))) (.cmp .ne (.isi (.var 1) (.ty "tuple")) (.isi (.var 0) (.ty "tuple")))) (.cons (.ret (.con (.bl false))) .nil) .nil) (.cons (.ite (.cmp .ne (.bi .len (.cons (.var 0) .nil)) (.bi .len (.cons (.var 1) .nil))) (.cons (.ret (.con (.bl false))) .nil) .nil) (.cons (.for (.tp [2,3]) (.zip (.var 0) (.var 1)) (.cons (.ite (.not (.val (.call "_law_same" (.cons (.var 2) (.cons (.var 3) .nil))))) (.cons (.ret (.con (.bl false))) .nil) .nil) .nil)) (.cons (.ret (.con (.bl true))) .nil))))))))⟩
noncomputable def eT:Fn:=⟨1,3,false,(.cons (.set (.nm 1) (.lst .nil)) (.cons (.for (.nm 2) (.rng (.var 0)) (.cons (.set (.nm 1) (.op .add (.var 1) (.comp (.rng2 (.op .add (.var 2) (.con (.int 1))) (.var 0)) [none,none,some 2] (.nm 1) .yes (.tup (.cons (.var 2) (.cons (.var 1) .nil)))))) .nil)) (.cons (.ret (.var 1)) .nil)))⟩
noncomputable def gF:Fn:=⟨2,5,false,(.cons (.set (.nm 2) (.lst .nil)) (.cons (.for (.tp [3,4]) (.enum (.call "_law_pairs" (.cons (.var 0) .nil))) (.cons (.ite (.and (.cmp .eq (.op .mod (.var 1) (.con (.int 2))) (.con (.int 0))) (.cmp .eq (.op .mod (.op .shr (.op .fdiv (.var 1) (.con (.int 2))) (.var 3)) (.con (.int 2))) (.con (.int 1)))) (.cons (.app 2 (.var 4)) .nil) .nil) (.cons (.ite (.and (.cmp .eq (.op .mod (.var 1) (.con (.int 2))) (.con (.int 1))) (.cmp .lt (.op .mod (.call "_law_stir" (.cons (.var 1) (.cons (.var 3) .nil))) (.con (.int 5))) (.op .add (.con (.int 1)) (.op .mod (.op .fdiv (.var 1) (.con (.int 2))) (.con (.int 3)))))) (.cons (.app 2 (.var 4)) .nil) .nil) .nil))) (.cons (.ret (.tup (.cons (.var 0) (.cons (.bi .tuple (.cons (.own 2) .nil)) .nil)))) .nil)))⟩
noncomputable def ue:Fn:=⟨2,2,false,(.cons (.ite (.cmp .eq (.op .mod (.var 1) (.con (.int 2))) (.con (.int 0))) (.cons (.ret (.bi .tuple (.cons (.comp (.rng (.var 0)) [none,none,some 1] (.nm 1) (.cmp .eq (.op .mod (.op .shr (.op .fdiv (.var 2) (.con (.int 2))) (.var 1)) (.con (.int 2))) (.con (.int 1))) (.var 1)) .nil))) .nil) .nil) (.cons (.ret (.bi .tuple (.cons (.comp (.rng (.var 0)) [none,none,some 1] (.nm 1) (.cmp .lt (.op .mod (.call "_law_stir" (.cons (.var 2) (.cons (.op .add (.var 1) (.con (.int 60))) .nil))) (.con (.int 4))) (.op .add (.con (.int 1)) (.op .mod (.op .fdiv (.var 2) (.con (.int 2))) (.con (.int 3))))) (.var 1)) .nil))) .nil))⟩
structure Lw(p:Pr):Prop where
 _law_stir:p.fns "_law_stir" = some zI
 _law_pairs:p.fns "_law_pairs" = some eT
 _law_web_by:p.fns "_law_web_by" = some gF
 _law_some_by:p.fns "_law_some_by" = some ue
structure Lh(p:Pr):Prop where
 _law_hood:p.fns "_law_hood" = some fJ
 _law_holders:p.fns "_law_holders" = some xH
section
variable{p:Pr}
noncomputable def prs(n:Nat):List (Int×Int):=(aW n).flatMap λa=>((aW n).filter λb=>decide (a<b)).map λ(b:Nat)=>((a:Int),(b:Int))
theorem Am(hf:p.fns "_law_pairs" = some eT)(m:Int)(h1:1<=m)(h2:m<=8):∃P,(∀k,qa p (k+1) "_law_pairs" [.int m]=.ok (.lst (P.map prD)))/\GW m P:=by
 have:m=1\/m=2\/m=3\/m=4\/m=5\/m=6\/m=7\/m=8:=by lia
 rcases this with rfl|rfl|rfl|rfl|rfl|rfl|rfl|rfl
 ·exact⟨prs 1,λk=>by rw[qc hf];kernel_rfl,by decide +kernel⟩
 ·exact⟨prs 2,λk=>by rw[qc hf];kernel_rfl,by decide +kernel⟩
 ·exact⟨prs 3,λk=>by rw[qc hf];kernel_rfl,by decide +kernel⟩
 ·exact⟨prs 4,λk=>by rw[qc hf];kernel_rfl,by decide +kernel⟩
 ·exact⟨prs 5,λk=>by rw[qc hf];kernel_rfl,by decide +kernel⟩
 ·exact⟨prs 6,λk=>by rw[qc hf];kernel_rfl,by decide +kernel⟩
 ·exact⟨prs 7,λk=>by rw[qc hf];kernel_rfl,by decide +kernel⟩
 ·exact⟨prs 8,λk=>by rw[qc hf];kernel_rfl,by decide +kernel⟩
noncomputable def WI(m c:Int)(P:List (Int×Int))(r:List D)(σ:Env):Prop:=
 ∃(j:Nat) (ts ps:List (Int×Int)) (v u:Option D),r=dD j (ps.map prD)/\(ts++ps).Sublist P/\σ=[some (.int m),some (.int c),some (.lst (ts.map prD)),v,u]
theorem Ca(hS:p.fns "_law_stir" = some zI)(hP0:p.fns "_law_pairs" = some eT)(hW:p.fns "_law_web_by" = some gF){k:Nat}(m c:Int)(h1:1<=m)(h2:m<=8):∃ts,GW m ts/\qa p (k+2) "_law_web_by" [.int m,.int c]=.ok (wb m ts):=by
 obtain⟨P,hP,g⟩:=Am hP0 m h1 h2;have hl:=g.len;obtain⟨σ,⟨j,ts,ps,v,u,e,s,rfl⟩,ev⟩:=sI (w:=⟨qa p (k+1),p.glb,p.sub,p.cat⟩) (tg:=.tp [3,4]) (it:=.enum (.call "_law_pairs" (.cons (.var 0) .nil)))
  (b:=.cons (.ite (.and (.cmp .eq (.op .mod (.var 1) (.con (.int 2))) (.con (.int 0))) (.cmp .eq (.op .mod (.op .shr (.op .fdiv (.var 1) (.con (.int 2))) (.var 3)) (.con (.int 2))) (.con (.int 1)))) (.cons (.app 2 (.var 4)) .nil) .nil) (.cons (.ite (.and (.cmp .eq (.op .mod (.var 1) (.con (.int 2))) (.con (.int 1))) (.cmp .lt (.op .mod (.call "_law_stir" (.cons (.var 1) (.cons (.var 3) .nil))) (.con (.int 5))) (.op .add (.con (.int 1)) (.op .mod (.op .fdiv (.var 1) (.con (.int 2))) (.con (.int 3)))))) (.cons (.app 2 (.var 4)) .nil) .nil) .nil))
  (r:=.cons (.ret (.tup (.cons (.var 0) (.cons (.bi .tuple (.cons (.own 2) .nil)) .nil)))) .nil) (τ:=[some (.int m),some (.int c),some (.lst []),none,none]) (ds:=dD 0 (P.map prD)) (WI m c P)
  (by simp[KG.Z,hP k]) ⟨0,[],P,none,none,rfl,by simp,rfl⟩ (by
   rintro x t σ ⟨j,ts,ps,v,u,e,s,rfl⟩;cases ps with
   |nil=>cases e
   |cons y ps=>
    rw[aS,dD]at e;injection e with e1 e2
    subst e1 e2;have hlen:ts.length<SZ:=by have:=s.length_le;simp at this;simp[SZ];lia
    have A:∀b:Bool,∃us,(us++ps).Sublist P/\us=if b then ts++[y]else ts:=by
     intro b;cases b
     ·exact⟨ts,(List.Sublist.append_left (List.sublist_cons_self _ _) _).trans s,rfl⟩
     ·exact⟨ts++[y],by simpa using s,rfl⟩
    refine⟨[some (.int m),some (.int c),some (.lst (ts.map prD)),some (.int j),some (prD y)],?_⟩;by_cases q:c%2=0
    ·obtain⟨us,a1,a2⟩:=A (decide (c/2/2^j%2=1));refine⟨[some (.int m),some (.int c),some (.lst (us.map prD)),some (.int j),some (prD y)],by simp[KG.Z],?_,j+1,us,ps,_,_,rfl,a1,rfl⟩;by_cases q2:c/2/2^j%2=1
     ·simp[KG.Z,op2,eq_int,q,q2,hlen]at a2 ⊢;subst a2;simp
     ·simp[KG.Z,op2,eq_int,q,q2]at a2 ⊢;subst a2;simp
    ·have q1:c%2=1:=by lia
     obtain⟨us,a1,a2⟩:=A (decide (st c j%5<1+c/2%3));refine⟨[some (.int m),some (.int c),some (.lst (us.map prD)),some (.int j),some (prD y)],by simp[KG.Z],?_,j+1,us,ps,_,_,rfl,a1,rfl⟩;by_cases q2:st c j%5<1+c/2%3
     ·simp[KG.Z,op2,eq_int,q1,lt_int,fD hS,q2,hlen]at a2 ⊢;subst a2;simp
     ·simp[KG.Z,op2,eq_int,q1,lt_int,fD hS,q2]at a2 ⊢;subst a2;simp)
 cases ps with
 |cons y ps=>cases e
 |nil=>
  refine⟨ts,g.sub (by simpa using s),?_⟩;rw[qc hW];refine qX (τ:=[some (.int m),some (.int c),none,none,none]) rfl rfl (zG (σ:=[some (.int m),some (.int c),some (.lst []),none,none]) (by simp[KG.Z]) (ev.trans ?_));simp[KG.Z,b1,seq?]
theorem jf(a:D):qi .is a .non=.ok (d_ a):=by cases a<;>rfl
theorem same_int(hf:p.fns "_law_same" = some zQ){k:Nat}(i:Int):qa p (k+1) "_law_same" [.int i,.int i]=.ok (.bl true):=by
 rw[qc hf];refine qX rfl rfl ?_;simp[KG.Z,zQ,jf,d_,eq_int]
theorem xx(hf:p.fns "_law_same" = some zQ){k:Nat}(i:Bool):qa p (k+1) "_law_same" [.bl i,.bl i]=.ok (.bl true):=by
 rw[qc hf];refine qX rfl rfl ?_;simp[KG.Z,zQ,jf,d_,t_]
theorem same_ints(hf:p.fns "_law_same" = some zQ){k:Nat}(ns:List Int):qa p (k+2) "_law_same" [tu ns,tu ns]=.ok (.bl true):=by
 rw[qc hf];refine qX (τ:=[some (tu ns),some (tu ns),none,none]) rfl rfl ?_;refine zG (σ:=[some (tu ns),some (tu ns),none,none]) (by simp[KG.Z,jf,d_]) ?_;refine zG (σ:=[some (tu ns),some (tu ns),none,none]) (by simp[KG.Z]) ?_;refine zG (σ:=[some (tu ns),some (tu ns),none,none]) (by simp[KG.Z]) ?_;refine zG (σ:=[some (tu ns),some (tu ns),none,none]) (by simp[KG.Z]) ?_;refine zG (σ:=[some (tu ns),some (tu ns),none,none]) (by simp[KG.Z,nP]) ?_;refine zG (σ:=[some (tu ns),some (tu ns),none,none]) (by simp[KG.Z,ne_int,b1,seq?]) ?_;refine lH (ds:=cg (ns.map D.int) (ns.map D.int)) (λr σ=>∃(ms:List Int) (v u:Option D),r=cg (ms.map D.int) (ms.map D.int)/\σ=[some (tu ns),some (tu ns),v,u]) (by simp[KG.Z]) ⟨ns,none,none,rfl,rfl⟩ ?_ ?_
 ·rintro x t σ ⟨ms,v,u,e,rfl⟩;cases ms with
  |nil=>cases e
  |cons y ms=>
   rw[aS,cg]at e;injection e with e1 e2
   subst e1 e2;exact⟨[some (tu ns),some (tu ns),some (.int y),some (.int y)],[some (tu ns),some (tu ns),some (.int y),some (.int y)],by simp[KG.Z],by simp[KG.Z,same_int hf],ms,_,_,rfl,rfl⟩
 ·rintro σ ⟨ms,v,u,e,rfl⟩;simp[KG.Z]
theorem mS{i x:Int}{l:List Int}:x∈insI i l↔x=i\/x∈l:=by
 induction l with
 |nil=>simp[insI]
 |cons a r ih=>
  rw[insI];split
  ·simp
  ·simp only[aE,ih];constructor<;>rintro(h|h|h)<;>simp[h]
theorem rQ{x:Int}{l:List Int}:x∈sortI l↔x∈l:=by
 induction l with
 |nil=>simp[sortI]
 |cons a r ih=>rw[sortI,mS,ih,aE]
theorem D4{i:Int}{l:List Int}(h:l.Pairwise (· < ·))(hn:i∉l):(insI i l).Pairwise (· < ·):=by
 induction l with
 |nil=>simp[insI]
 |cons a r ih=>
  rw[List.pairwise_cons]at h;have h0:i≠a:=λe=>hn (e▸aJ)
  rw[insI];split
  ·rename_i q
   rw[List.pairwise_cons];refine⟨λb hb=>?_,List.pairwise_cons.mpr h⟩;rcases aE.mp hb with rfl|hb
   ·lia
   ·have:=h.1 b hb;lia
  ·rename_i q
   rw[List.pairwise_cons];refine⟨λb hb=>?_,ih h.2 λe=>hn (aK _ e)⟩;rcases mS.mp hb with rfl|hb
   ·lia
   ·exact h.1 b hb
theorem xp{l:List Int}(h:l.Nodup):(sortI l).Pairwise (· < ·):=by
 induction l with
 |nil=>simp[sortI]
 |cons a r ih=>
  rw[List.nodup_cons]at h;rw[sortI];exact D4 (ih h.2) λe=>h.1 (rQ.mp e)
theorem mQ:∀{a b:List Int},a.Pairwise (· < ·)->b.Pairwise (· < ·)->(∀x,x∈a↔x∈b)->a=b
 | [],[],_,_,_=>rfl
 | [],y::_,_,_,h=>absurd ((h y).mpr aJ) (by simp)
 |x::_,[],_,_,h=>absurd ((h x).mp aJ) (by simp)
 |x::r,y::t,ha,hb,h=>by
  rw[List.pairwise_cons]at ha hb;have e:x=y:=by
   rcases aE.mp ((h x).mp aJ)with q|q
   ·exact q
   ·rcases aE.mp ((h y).mpr aJ)with q'|q'
    ·exact q'.symm
    ·have:=hb.1 x q;have:=ha.1 y q';lia
  subst e;rw[mQ ha.2 hb.2 λz=>⟨λq=>by
   rcases aE.mp ((h z).mp (aK _ q))with e|e
   ·subst e;have:=ha.1 z q;lia
   ·exact e,λq=>by
   rcases aE.mp ((h z).mpr (aK _ q))with e|e
   ·subst e;have:=hb.1 z q;lia
   ·exact e⟩]
noncomputable def nbf(a:Int)(t:Int×Int):List Int:=if t.1=a\/t.2=a then [t.1+t.2-a]else []
theorem Bt{m:Int}{ts:List (Int×Int)}(h:GW m ts){a:Int}(ha:0<=a/\a<m):sortI (a::ts.flatMap (nbf a))=hd m ts a:=by
 have nb_mem:∀x t,t∈ts->x∈nbf a t->(t.1=a/\t.2=x/\a<x\/t.2=a/\t.1=x/\x<a):=by
  intro x t ht hx;have:=h.ok t ht;rw[nbf]at hx;split at hx
  ·simp only[List.mem_singleton]at hx;lia
  ·cases hx
 apply mQ
 ·apply xp;rw[List.nodup_cons];constructor
  ·intro q;obtain⟨t,ht,q⟩:=List.mem_flatMap.mp q;have:=nb_mem a t ht q;lia
  ·rw[List.Nodup,List.pairwise_flatMap];constructor
   ·intro t ht;rw[nbf];split<;>simp
   ·refine List.Pairwise.imp_of_mem ?_ h.lt;intro s t hs ht q x hx y hy e;subst e;have h1:=nb_mem _ s hs hx;have h2:=nb_mem _ t ht hy;have:s=t:=Prod.ext (by lia) (by lia);subst this;rw[ltP]at q;simp at q
 ·exact(oI m).sublist List.filter_sublist
 ·intro x;rw[rQ,aE,List.mem_flatMap,hd,List.mem_filter,eM];simp only[bG,beq_iff_eq,dM,cz,aG];constructor
  ·rintro(rfl|⟨t,ht,q⟩)
   ·exact⟨ha,.inl rfl⟩
   ·have h1:=nb_mem x t ht q;have h2:=h.ok t ht;refine⟨by lia,.inr ⟨t,ht,?_⟩⟩;rw[mn,mx];split<;>split<;>lia
  ·rintro⟨hx,rfl|⟨t,ht,q1,q2⟩⟩
   ·exact .inl rfl
   ·by_cases e:x=a
    ·exact .inl e
    ·refine .inr ⟨t,ht,?_⟩;rw[mn]at q1;rw[mx]at q2;rw[nbf];split at q1<;>split at q2<;>first|lia|(rw[if_pos (by lia),List.mem_singleton];lia)
theorem iG{w:W}{i:Nat}{e:E}{τ:Env}{xs:List D}{d:D}(h:zM τ i=.ok (.lst xs))(he:evE w e τ=.ok d)(hz:xs.length<SZ):evS w (.app i e) τ=.nx (τ.set i (some (.lst (xs++[d])))):=by
 rw[bY,h];simp only[R.out_ok];rw[he];simp only[R.out_ok,hz,if_true]
theorem BZ(hf:p.fns "_law_hood" = some fJ){k:Nat}{m:Int}{ts:List (Int×Int)}(h:GW m ts){a:Int}(ha:0<=a/\a<m):qa p (k+1) "_law_hood" [wb m ts,.int a]=.ok (tu (hd m ts a)):=by
 rw[qc hf];have hl:=h.len;refine qX (τ:=[some (wb m ts),some (.int a),none,none,none]) rfl rfl ?_;refine zG (σ:=[some (wb m ts),some (.int a),some (.lst [.int a]),none,none]) (by simp[KG.Z]) ?_;refine lH (ds:=ts.map prD) (λr σ=>∃(ps:List (Int×Int)) (ns:List Int) (v u:Option D),r=ps.map prD/\ns++ps.flatMap (nbf a)=a::ts.flatMap (nbf a)/\ns.length+ps.length<=29/\σ=[some (wb m ts),some (.int a),some (.lst (ns.map D.int)),v,u]) ?_ ⟨ts,[a],none,none,rfl,rfl,by simp;lia,rfl⟩ ?_ ?_
 ·have e:ixD (wb m ts) (.int 1)=.ok (.tup (ts.map prD)):=rfl;simp[KG.Z,e,seq?]
 ·rintro x t σ ⟨ps,ns,v,u,e,e',hz,rfl⟩;cases ps with
  |nil=>cases e
  |cons y ps=>
   rw[aS]at e;injection e with e1 e2
   subst e1 e2;have hin:=tB [y.1,y.2] a;have hin':qi .isin (.int a) (.tup [.int y.1,.int y.2])=.ok (y.1==a||(y.2==a||false)):=hin;have hs:ns.length<SZ:=by simp at hz;simp[SZ];lia
   by_cases q:y.1=a\/y.2=a
   ·refine⟨[some (wb m ts),some (.int a),some (.lst (ns.map D.int)),some (.int y.1),some (.int y.2)],[some (wb m ts),some (.int a),some (.lst ((ns++[y.1+y.2-a]).map D.int)),some (.int y.1),some (.int y.2)],rfl,?_,ps,ns++[y.1+y.2-a],_,_,rfl,?_,?_,rfl⟩
    ·simp[KG.Z,hin',op2,hs];rw[if_pos q]
    ·rw[<-e',List.flatMap_cons,nbf,if_pos q];simp
    ·simp at hz ⊢;lia
   ·refine⟨[some (wb m ts),some (.int a),some (.lst (ns.map D.int)),some (.int y.1),some (.int y.2)],[some (wb m ts),some (.int a),some (.lst (ns.map D.int)),some (.int y.1),some (.int y.2)],rfl,?_,ps,ns,_,_,rfl,?_,?_,rfl⟩
    ·have q1:¬ y.1=a:=λe=>q (.inl e)
     have q2:¬ y.2=a:=λe=>q (.inr e)
     simp[KG.Z,hin',q1,q2]
    ·rw[<-e',List.flatMap_cons,nbf,if_neg q];rfl
    ·simp at hz ⊢;lia
 ·rintro σ ⟨ps,ns,v,u,e,e',hz,rfl⟩;cases ps with
  |cons y ps=>cases e
  |nil=>
   simp only[List.flatMap_nil,List.append_nil]at e';subst e';have e1:=ints_map (a::ts.flatMap (nbf a));have e2:=Bt h ha;have e3:b1 .sorted [.lst ((a::ts.flatMap (nbf a)).map D.int)]=.ok (.lst ((hd m ts a).map D.int)):=by
    rw[pC,if_pos (by simp at hz ⊢;lia),e1];simp only;rw[e2]
   have e4:b1 .tuple [.lst ((hd m ts a).map D.int)]=.ok (tu (hd m ts a)):=rfl;simp only[aS]at e3;simp[KG.Z,e3,e4]
theorem GS.none{m:Int}:GS m []:=⟨List.Pairwise.nil,by simp,by simp⟩
end
abbrev L(M c:Int)(m:Int)(ts:List (Int×Int))(b a dr ro:Option D):Env:=[some (.int c),some (.int M),some (.int m),some (.int (c/M)),some (.int (c/M%6)),some (.lst (ts.map prD)),b,a,dr,ro]
noncomputable def nX:S:=(.set (.nm 8) (.op .band (.op .shr (.op .fdiv (.var 3) (.con (.int 6))) (.op .add (.op .fdiv (.op .mul (.var 6) (.op .sub (.var 6) (.con (.int 1)))) (.con (.int 2))) (.var 7))) (.con (.int 1))))
noncomputable def vB:S:=(.ite (.cmp .eq (.var 4) (.con (.int 3))) (.cons (.set (.nm 8) (.op .fdiv (.op .mod (.call "_law_stir" (.cons (.var 0) (.cons (.op .add (.op .mul (.con (.int 8)) (.var 7)) (.var 6)) .nil))) (.con (.int 3))) (.con (.int 2)))) .nil) .nil)
noncomputable def AH:S:=(.ite (.cmp .eq (.var 4) (.con (.int 4))) (.cons (.set (.nm 8) (.op .fdiv (.op .add (.op .mod (.call "_law_stir" (.cons (.var 0) (.cons (.op .add (.op .mul (.con (.int 8)) (.var 7)) (.var 6)) .nil))) (.con (.int 4))) (.con (.int 2))) (.con (.int 3)))) .nil) .nil)
noncomputable def D8:S:=(.ite (.cmp .eq (.var 8) (.con (.int 1))) (.cons (.app 5 (.tup (.cons (.var 7) (.cons (.var 6) .nil)))) .nil) .nil)
abbrev LQ(M c:Int)(n:Int)(ts:List (Int×Int))(b a:Int):Env->Prop:=λσ=>∃(i:Int) (v4:Option D),σ=L M c n ts (some (.int b)) (some (.int a)) (some (.int i)) v4
section
variable{p:Pr}{k:Nat}{M c:Int}{n:Int}{ts:List (Int×Int)}{a b:Int}{i:Int}{v3 v4:Option D}{Q:D->Prop}
theorem w0(ha:0<=a)(hb0:0<=b)(hb:b<8):Ends (LQ M c n ts b a) Q (evS (wAt p (k+1)) nX (L M c n ts (some (.int b)) (some (.int a)) v3 v4)):=by
 have hbs:small b=true:=by simp[small];lia
 have hsh:0<=b * (b-1)/2+a:=by
  have:0<=b * (b-1):=by
   by_cases q:b=0
   ·rw[q];decide
   ·exact Int.mul_nonneg (by lia) (by lia)
  lia
 rw[nX];simp[KG.Z,op2,hbs,hsh];exact⟨_,_,rfl⟩
theorem w1(B:jC p):Ends (LQ M c n ts b a) Q (evS (wAt p (k+1)) vB (L M c n ts (some (.int b)) (some (.int a)) (some (.int i)) v4)):=by
 have s8:small 8=true:=by decide
 refine lr (v:=decide (c/M%6=3)) (by simp[KG.Z,eq_int]) (λ_=>jm (K:=LQ M c n ts b a) ?_ λ_ h=>zF h) λ_=>zF ⟨_,_,rfl⟩
 simp[KG.Z,op2,s8,fD B._law_stir];exact⟨_,_,rfl⟩
theorem w2(B:jC p):Ends (LQ M c n ts b a) Q (evS (wAt p (k+1)) AH (L M c n ts (some (.int b)) (some (.int a)) (some (.int i)) v4)):=by
 have s8:small 8=true:=by decide
 refine lr (v:=decide (c/M%6=4)) (by simp[KG.Z,eq_int]) (λ_=>jm (K:=LQ M c n ts b a) ?_ λ_ h=>zF h) λ_=>zF ⟨_,_,rfl⟩
 simp[KG.Z,op2,s8,fD B._law_stir];exact⟨_,_,rfl⟩
theorem w4(hl:ts.length<SZ):Ends (λσ=>∃(us:List (Int×Int)) (v4:Option D),(us=ts\/us=ts++[(a,b)])/\σ=L M c n us (some (.int b)) (some (.int a)) (some (.int i)) v4) Q (evS (wAt p (k+1)) D8 (L M c n ts (some (.int b)) (some (.int a)) (some (.int i)) v4)):=by
 refine lr (v:=decide (i=1)) (by simp[KG.Z,eq_int]) (λ_=>?_) λ_=>zF ⟨ts,_,.inl rfl,rfl⟩
 refine zv (σ:=L M c n (ts++[(a,b)]) (some (.int b)) (some (.int a)) (some (.int i)) v4) ?_ (zF ⟨_,_,.inr rfl,rfl⟩);simp[KG.Z,hl]
 rfl
end
end KG
namespace KG
open EV
open PySem (Str Builtin.bitAnd Builtin.bitOr)
open L2 (atI ixN ltP)
noncomputable def bs(m:Int)(n:Nat):List Int:=(rng m).filter λi=>n.testBit i.toNat
noncomputable def subs:Nat->List (List Int)
 | 0=>[[]]
 |j+1=>subs j++(subs j).map (· ++ [(j:Int)])
section
variable{p:Pr}(B:Base p)
include B
end
end KG
namespace KG
open EV
open PySem (Str)
open L2 (atI ixN ltP)
section
variable{p:Pr}(B:Base p)
include B
end
abbrev ln(N:List Nat):D:=.lst (N.map λ(x:Nat)=>D.int (x:Int))
theorem vv(ts:List (Int×Int))(a b:Int):dM ts a b=dM ts b a:=by
 rw[dM,dM]
 congr 1;funext t
 rw[Bool.eq_iff_iff];simp only[mn,mx,aG,beq_iff_eq];split<;>split<;>lia
theorem vA{m:Int}{ts:List (Int×Int)}{a b:Int}:b∈hd m ts a↔(0<=b/\b<m)/\(b=a\/dM ts a b=true):=by
 rw[hd,List.mem_filter,eM];simp
noncomputable def hz(m:Int)(ts:List (Int×Int))(s:List Int):Bool:=(rng m).all λa=>!(mk m ts s a).isEmpty
noncomputable def hl(m:Int)(ts:List (Int×Int)):List (List Int):=(oG (subs m.toNat)).filter (hz m ts)
structure Sp(p:Pr):Prop where
 spare:p.fns "spare" = some vE
 spare_by:p.fns "spare_by" = some DZ
noncomputable def ow(m:Int)(ts:List (Int×Int))(s:List Int)(x:Int):List Int:=(rng m).filter λa=>decide (mk m ts s a=[x])
noncomputable def sp(m:Int)(ts:List (Int×Int))(s:List Int):List Int:=s.filter λx=>decide (ow m ts s x=[])
section
variable{p:Pr}(B:Web p)(O:Nbr p)(S:gf p)
include B O S
end
noncomputable def lsm(L:List (List Int)):Int:=match L.map (λs=>(s.length:Int))with
 | []=>0
 |x::r=>oU false x r
noncomputable def few(L:List (List Int)):List (List Int):=L.filter λs=>decide ((s.length:Int)=lsm L)
section
variable{w:W}{τ:Env}{L:List (List Int)}
end
noncomputable def gO:Fn:=⟨2,5,false,(.cons (.set (.tp [2,3]) (.var 0)) (.cons (.set (.nm 4) (.lst (.cons (.con .non) (.cons (.var 2) (.cons (.tup (.cons (.var 2) .nil)) (.cons (.tup (.cons (.var 2) (.cons (.bi .list (.cons (.var 3) .nil)) .nil))) (.cons (.tup (.cons (.con (.int 0)) (.cons (.tup .nil) .nil))) (.cons (.tup (.cons (.con (.int 9)) (.cons (.tup .nil) .nil))) (.cons (.tup (.cons (.con (.bl true)) (.cons (.tup .nil) .nil))) (.cons (.tup (.cons (.var 2) (.cons (.op .add (.var 3) (.tup (.cons (.tup (.cons (.con (.int 0)) (.cons (.con (.int 0)) .nil))) .nil))) .nil))) .nil)))))))))) (.cons (.set (.nm 4) (.op .add (.var 4) (.lst (.cons (.tup (.cons (.var 2) (.cons (.op .add (.var 3) (.tup (.cons (.tup (.cons (.op .sub (.var 2) (.con (.int 1))) (.cons (.var 2) .nil))) .nil))) .nil))) (.cons (.tup (.cons (.var 2) (.cons (.op .add (.var 3) (.tup (.cons (.tup (.cons (.con (.int 1)) (.cons (.con (.int 0)) .nil))) .nil))) .nil))) (.cons (.lst (.cons (.var 2) (.cons (.var 3) .nil))) (.cons (.tup (.cons (.var 2) (.cons (.var 3) (.cons (.tup .nil) .nil)))) (.cons (.con (.str "1")) .nil)))))))) (.cons (.set (.nm 4) (.op .add (.var 4) (.lst (.cons (.tup (.cons (.var 2) (.cons (.con .non) .nil))) (.cons (.tup (.cons (.var 2) (.cons (.tup (.cons (.tup (.cons (.con (.int 0)) .nil)) .nil)) .nil))) (.cons (.tup (.cons (.neg (.con (.int 1))) (.cons (.tup .nil) .nil))) (.cons (.tup (.cons (.var 2) (.cons (.op .add (.var 3) (.tup (.cons (.con .non) .nil))) .nil))) (.cons (.tup (.cons (.var 2) (.cons (.tup (.cons (.tup (.cons (.con (.int 0)) (.cons (.con (.int 1)) .nil))) (.cons (.tup (.cons (.con (.int 0)) (.cons (.con (.int 1)) .nil))) .nil))) .nil))) .nil)))))))) (.cons (.ret (.ix (.op .add (.var 4) (.lst (.cons (.tup (.cons (.con (.str "1")) (.cons (.tup .nil) .nil))) (.cons .dic (.cons (.tup (.cons (.var 2) (.cons (.tup (.cons (.tup (.cons (.con (.bl false)) (.cons (.con (.int 1)) .nil))) .nil)) .nil))) (.cons (.tup (.cons (.op .pow (.con (.int 10)) (.con (.int 30))) (.cons (.tup .nil) .nil))) .nil)))))) (.op .mod (.var 1) (.con (.int 22))))) .nil)))))⟩
noncomputable def od:D->Bool
 | .int _=>false
 | .fn _=>false
 | .exn _=>false
 |_=>true
noncomputable def nt:D->Bool
 | .tup _=>false
 | .fn _=>false
 | .exn _=>false
 |_=>true
theorem pick{l:List D}{P:D->Prop}(hL:∀d∈l,P d)(i:Int)(h:0<=i/\i<l.length):∃d,ixD (.lst l) (.int i)=.ok d/\P d:=by
 obtain⟨j,rfl⟩:∃j:Nat,i=j:=⟨i.toNat,by lia⟩
 have hj:j<l.length:=by lia
 refine⟨l[j],?_,hL _ (List.getElem_mem hj)⟩;simp only[ixD];rw[fW hj]
theorem sY(xs ys:List D)(h:xs.length+ys.length<=SZ):op2 .add (.tup xs) (.tup ys)=.ok (.tup (xs++ys)):=by
 rw[op2,if_pos ⟨rfl,h⟩]
noncomputable def dI(m T:Int)(TS:List D):List D:=[.non,.int m,.tup [.int m],.tup [.int m,.lst (TS)],.tup [.int 0,.tup []],.tup [.int 9,.tup []],.tup [.bl true,.tup []],.tup [.int m,.tup (TS++[.tup [.int 0,.int 0]])],.tup [.int m,.tup (TS++[.tup [.int (m-1),.int m]])],.tup [.int m,.tup (TS++[.tup [.int 1,.int 0]])],.lst [.int m,.tup (TS)],.tup [.int m,.tup (TS),.tup []],.str "1",.tup [.int m,.non],.tup [.int m,.tup [.tup [.int 0]]],.tup [.int (-1),.tup []],.tup [.int m,.tup (TS++[.non])],.tup [.int m,.tup [.tup [.int 0,.int 1],.tup [.int 0,.int 1]]],.tup [.str "1",.tup []],.dic [],.tup [.int m,.tup [.tup [.bl false,.int 1]]],.tup [.int T,.tup []]]
section
variable{p:Pr}(B:Web p)
include B
theorem rH{k:Nat}{d:D}(h:od d=true):qa p (k+1) "is_whole" [d]=.ok (.bl false):=by
 rw[qc B.is_whole];cases d<;>first|(cases h;done)|rfl
theorem oh{k:Nat}(i a b:Int):qa p (k+2) "is_between" [.int i,.int a,.int b]=.ok (.bl (decide (a<=i/\i<=b))):=by
 have e1:qi .le (.int a) (.int i)=.ok (decide (a<=i)):=rfl;have e2:qi .le (.int i) (.int b)=.ok (decide (i<=b)):=rfl;by_cases q:a<=i
 ·have e1:qi .le (.int a) (.int i)=.ok true:=by rw[e1,decide_eq_true q]
  by_cases q2:i<=b
  ·have e2:qi .le (.int i) (.int b)=.ok true:=by rw[e2,decide_eq_true q2]
   rw[qc B.is_between];refine qX rfl rfl ?_;simp[KG.Z,eD,is_whole B,e1,e2,q,q2]
  ·have e2:qi .le (.int i) (.int b)=.ok false:=by rw[e2,decide_eq_false q2]
   rw[qc B.is_between];refine qX rfl rfl ?_;simp[KG.Z,eD,is_whole B,e1,e2,q,q2]
 ·have e1:qi .le (.int a) (.int i)=.ok false:=by rw[e1,decide_eq_false q]
  rw[qc B.is_between];refine qX rfl rfl ?_;simp[KG.Z,eD,is_whole B,e1,q]
theorem lb{k:Nat}{d:D}(h:od d=true)(a b:D):qa p (k+2) "is_between" [d,a,b]=.ok (.bl false):=by
 rw[qc B.is_between];refine qX rfl rfl ?_;simp[KG.Z,eD,rH B h]
theorem gB{k:Nat}{d:D}(h:nt d=true):qa p (k+1) "is_pair" [d]=.ok (.bl false):=by
 rw[qc B.is_pair];cases d<;>first|(cases h;done)|rfl
theorem pY{k:Nat}(xs:List D):qa p (k+1) "is_pair" [.tup xs]=.ok (.bl (decide ((xs.length:Int)=2))):=by
 have e:=jJ xs;have e2:=eq_int (xs.length:Int) 2;rw[qc B.is_pair];refine qX rfl rfl ?_;simp[KG.Z,gC,e,e2]
theorem og{k:Nat}(a b m:Int):qa p (k+2) "is_tie" [.tup [.int a,.int b],.int m]=.ok (.bl (decide (0<=a/\a<b/\b<m))):=by
 have e1:qi .le (.int 0) (.int a)=.ok (decide (0<=a)):=rfl;have e2:qi .lt (.int a) (.int b)=.ok (decide (a<b)):=rfl;have e3:qi .lt (.int b) (.int m)=.ok (decide (b<m)):=rfl;by_cases q1:0<=a
 ·rw[decide_eq_true q1]at e1;by_cases q2:a<b
  ·rw[decide_eq_true q2]at e2;by_cases q3:b<m
   ·rw[decide_eq_true q3]at e3;rw[qc B.is_tie];refine qX rfl rfl ?_;simp[KG.Z,dO,is_pair B,is_whole B,e1,e2,e3,q1,q2,q3]
   ·rw[decide_eq_false q3]at e3;rw[qc B.is_tie];refine qX rfl rfl ?_;simp[KG.Z,dO,is_pair B,is_whole B,e1,e2,e3,q1,q2,q3]
  ·rw[decide_eq_false q2]at e2;rw[qc B.is_tie];refine qX rfl rfl ?_;simp[KG.Z,dO,is_pair B,is_whole B,e1,e2,q1,q2]
 ·rw[decide_eq_false q1]at e1;rw[qc B.is_tie];refine qX rfl rfl ?_;simp[KG.Z,dO,is_pair B,is_whole B,e1,q1]
theorem pQ{k:Nat}{d:D}{m:D}(h:∀k,qa p (k+1) "is_pair" [d]=.ok (.bl false)):qa p (k+2) "is_tie" [d,m]=.ok (.bl false):=by
 rw[qc B.is_tie];refine qX rfl rfl ?_;simp[KG.Z,dO,h]
theorem uU{k:Nat}{a b:D}{m:D}(h:od a=true):qa p (k+2) "is_tie" [.tup [a,b],m]=.ok (.bl false):=by
 rw[qc B.is_tie];refine qX rfl rfl ?_;simp[KG.Z,dO,is_pair B,rH B h]
theorem uE{k:Nat}(xs:List D)(hz:xs.length<=100)(b:Nat->Bool)(h:∀(i:Nat) (q:i+1<xs.length),qi .lt xs[i] xs[i+1]=.ok (b i)):qa p (k+1) "rises" [.tup xs]=.ok (.bl ((aW (xs.length-1)).all b)):=by
 rw[qc B.rises];refine qX (τ:=[some (.tup xs)]) rfl rfl ?_;have hr:zo ((xs.length:Int)-1)=true:=by simp[zo];lia
 have hc:evE ⟨qa p k,p.glb,p.sub,p.cat⟩ (.comp (.rng (.op .sub (.bi .len (.cons (.var 0) .nil)) (.con (.int 1)))) [none,none,some 0] (.nm 1) .yes (.cmp .lt (.ix (.var 2) (.var 1)) (.ix (.var 2) (.op .add (.var 1) (.con (.int 1)))))) [some (.tup xs)]=.ok (.lst ((aW (xs.length-1)).map λi=>.bl (b i))):=by
  refine pN (f:=λ(i:Nat)=>D.int (i:Int)) (c:=[some (.tup xs)]) (λi=>.bl (b i)) ?_ ?_ rfl ?_
  ·have e:cD 0 (xs.length-1)=(aW (xs.length-1)).map λ(i:Nat)=>D.int (i:Int):=by
    rw[cD];simp
   simp[KG.Z,b1,seq?,op2,hr,e]
  ·simp[SZ];lia
  ·intro i hi;have hi:=List.mem_range.mp hi;have e1:atI xs (i:Int)=some xs[i]:=fW (by lia);have e2:atI xs ((i:Int)+1)=some xs[i+1]:=fW (i:=i+1) (by lia);have e3:=h i (by lia);simp[KG.Z,ixD,op2,e1,e2,e3]
 have h3:=pd (aW (xs.length-1)) b;show qe _ (.cons (.ret (.bi .all (.cons _ .nil))) .nil) _=_;rw[qe,zL,qp,zz,hc];simp only[R.bind_ok,zz,h3,R.out_ok]
theorem gH{k:Nat}{d:D}(h:∀k,qa p (k+1) "is_pair" [d]=.ok (.bl false)):qa p (k+3) "is_web" [d]=.ok (.bl false):=by
 have h:=h (k+1);rw[qc B.is_web];refine qX rfl rfl ?_;simp[KG.Z,e_,h]
theorem k_{k:Nat}{a b:D}(h:∀k,qa p (k+2) "is_between" [a,.int 1,.int 8]=.ok (.bl false)):qa p (k+3) "is_web" [.tup [a,b]]=.ok (.bl false):=by
 rw[qc B.is_web];refine qX rfl rfl ?_;simp[KG.Z,e_,is_pair B,B.MOST,h]
theorem oP{k:Nat}{m:Int}(h:1<=m/\m<=8){b:D}(hb:nt b=true):qa p (k+3) "is_web" [.tup [.int m,b]]=.ok (.bl false):=by
 have e:∀w:W,cc w b (.ty "tuple")=.ok (.bl false):=λw=>by cases b<;>first|(cases hb;done)|rfl
 rw[qc B.is_web];refine qX rfl rfl ?_;simp[KG.Z,e_,is_pair B,is_between B m 1 8 h,B.MOST,e]
theorem ka{k:Nat}{m:Int}(h:1<=m/\m<=8){ys:List (D×Bool)}{xs:List D}(hx:xs=ys.map (·.1))(hz:xs.length<=100)(hf:∀y∈ys,qa p (k+2) "is_tie" [y.1,.int m]=.ok (.bl y.2))(hb:ys.all (·.2)=false\/qa p (k+2) "rises" [.tup xs]=.ok (.bl false)):qa p (k+3) "is_web" [.tup [.int m,.tup xs]]=.ok (.bl false):=by
 rw[qc B.is_web];refine qX (τ:=[some (.tup [.int m,.tup xs]),none,none]) rfl rfl ?_;have hc:evE ⟨qa p (k+2),p.glb,p.sub,p.cat⟩ (.comp (.seq (.var 2)) [none,none,some 1] (.nm 1) .yes (.call "is_tie" (.cons (.var 1) (.cons (.var 2) .nil)))) [some (.tup [.int m,.tup xs]),some (.int m),some (.tup xs)]=.ok (.lst (ys.map λx=>.bl x.2)):=by
  refine pN (f:=λ(x:D×Bool)=>x.1) (c:=[some (.int m)]) (λ(x:D×Bool)=>.bl x.2) (by rw[<-hx];exact AF rfl) (by rw[hx]at hz;simp at hz;simp[SZ];lia) rfl λx hx=>?_
  have e:=hf x hx;simp[KG.Z,e]
 have h3:=pd ys (·.2);show qe _ (.cons (.ite _ _ _) (.cons (.set (.tp [1,2]) _) (.cons (.ite _ _ _) (.cons (.ret (.and (.bi .all (.cons _ .nil)) _)) .nil)))) _=_;refine zG (σ:=[some (.tup [.int m,.tup xs]),none,none]) (by simp[KG.Z,is_pair B]) ?_;refine zG (σ:=[some (.tup [.int m,.tup xs]),some (.int m),some (.tup xs)]) (by simp[KG.Z]) ?_;refine zG (σ:=[some (.tup [.int m,.tup xs]),some (.int m),some (.tup xs)]) (by simp[KG.Z,is_between B m 1 8 h,B.MOST]) ?_;rw[qe,zL,qq,qp,zz,hc];simp only[R.bind_ok,zz,h3];rcases hb with hb|hb
 ·rw[hb];rfl
 ·cases q:ys.all (·.2)with
  |false=>rfl
  |true=>simp[KG.Z,hb]
theorem De(hf:p.fns "_law_no_web" = some gO){k:Nat}{m:Int}{ts:List (Int×Int)}(h:GW m ts)(n:Int):∃d,qa p (k+1) "_law_no_web" [wb m ts,.int n]=.ok d/\∀k,qa p (k+3) "is_web" [d]=.ok (.bl false):=by
 have hm:1<=m/\m<=8:=⟨h.lo,h.hi⟩
 have hl:=h.len;have hz:(ts.map prD).length<=99:=by simp;lia
 have old:∀(k:Nat) (x:D),x∈ts.map prD->qa p (k+2) "is_tie" [x,.int m]=.ok (.bl true):=λk x hx=>by
  obtain⟨t,ht,rfl⟩:=aN.mp hx;exact is_tie B t.1 t.2 m (h.ok t ht)
 -- a tie more that is none
 have more:∀(x:D),(∀k,qa p (k+2) "is_tie" [x,.int m]=.ok (.bl false))->∀k,qa p (k+3) "is_web" [.tup [.int m,.tup (ts.map prD++[x])]]=.ok (.bl false):=λx hx k=>by
  refine ka B hm (ys:=ts.map (λt=>(prD t,true))++[(x,false)]) (by simp) (by simp at hz ⊢;lia) (λy hy=>?_) (.inl (by simp));rcases List.mem_append.mp hy with z|z
  ·obtain⟨t,ht,rfl⟩:=aN.mp z;exact is_tie B t.1 t.2 m (h.ok t ht)
  ·rw[List.mem_singleton.mp z];exact hx k
 have hT:op2 .pow (.int 10) (.int 30)=.ok (.int (10^30)):=by rw[op2,opI,if_pos (by decide)];rfl
 have hb:¬ ((1:Int)<=10^30/\(10:Int)^30<=8):=by decide
 generalize (10:Int)^30=T at *;have hL:∀d∈dI m T (ts.map prD),∀k,qa p (k+3) "is_web" [d]=.ok (.bl false):=by
  have num:∀(i:Int) (b:D),¬ (1<=i/\i<=8)->∀k,qa p (k+3) "is_web" [.tup [.int i,b]]=.ok (.bl false):=λi b hi k=>k_ B λk=>by rw[oh B,decide_eq_false hi]
  have len:∀xs:List D,(xs.length:Int)≠2->∀k,qa p (k+3) "is_web" [.tup xs]=.ok (.bl false):=λxs hx k=>gH B λk=>by rw[pY B,decide_eq_false hx]
  have one:∀x:D,(∀k,qa p (k+2) "is_tie" [x,.int m]=.ok (.bl false))->∀k,qa p (k+3) "is_web" [.tup [.int m,.tup [x]]]=.ok (.bl false):=λx hx k=>ka B hm (ys:=[(x,false)]) rfl (by simp) (λy hy=>by rw[List.mem_singleton.mp hy];exact hx k) (.inl rfl)
  have tv:∀a b:Int,¬ (0<=a/\a<b/\b<m)->∀k,qa p (k+2) "is_tie" [.tup [.int a,.int b],.int m]=.ok (.bl false):=λa b q k=>by rw[og B,decide_eq_false q]
  simp only[dI,List.forall_mem_cons];refine⟨λk=>gH B λk=>gB B rfl,λk=>gH B λk=>gB B rfl,len _ (by simp),λk=>oP B hm rfl,num 0 _ (by decide),num 9 _ (by decide),λk=>k_ B λk=>lb B rfl _ _,more _ (tv 0 0 (by lia)),more _ (tv (m-1) m (by lia)),more _ (tv 1 0 (by lia)),λk=>gH B λk=>gB B rfl,len _ (by simp),λk=>gH B λk=>gB B rfl,λk=>oP B hm rfl,one _ λk=>pQ B λk=>by rw[pY B];rfl,num (-1) _ (by decide),more _ λk=>pQ B λk=>gB B rfl,?_,λk=>k_ B λk=>lb B rfl _ _,λk=>gH B λk=>gB B rfl,one _ λk=>uU B rfl,num T _ hb,by simp⟩;intro k;refine ka B hm (ys:=[(.tup [.int 0,.int 1],decide (1<m)),(.tup [.int 0,.int 1],decide (1<m))]) rfl (by simp) (λy hy=>?_) ?_
  ·simp only[aE,bM,or_false,or_self]at hy;rw[hy,og B];simp
  ·refine .inr ?_;have:=uE B (k:=k+1) [.tup [.int 0,.int 1],.tup [.int 0,.int 1]] (by simp) (λ_=>false) λi q=>by
    have:i=0:=by simp at q;lia
    subst this;rfl
   rw[this];rfl
 obtain⟨d,e,hd⟩:=pick hL (n%22) ⟨by lia,by show n%22<22;lia⟩;refine⟨d,?_,hd⟩;rw[qc hf];refine qX (τ:=[some (.tup [.int m,.tup (ts.map prD)]),some (.int n),none,none,none]) rfl rfl ?_;have a1:∀x:D,op2 .add (.tup (ts.map prD)) (.tup [x])=.ok (.tup (ts.map prD++[x])):=λx=>sY _ _ (by simp[SZ];lia)
 have a2:b1 .list [.tup (ts.map prD)]=.ok (.lst (ts.map prD)):=rfl;have a3:op2 .mod (.int n) (.int 22)=.ok (.int (n%22)):=rfl;have a4:op2 .sub (.int m) (.int 1)=.ok (.int (m-1)):=rfl;have a5:∀xs ys:List D,xs.length+ys.length<=100->op2 .add (.lst xs) (.lst ys)=.ok (.lst (xs++ys)):=λxs ys q=>by rw[op2,if_pos ⟨rfl,by simp[SZ];lia⟩]
 generalize ts.map prD=TS at *;show qe _ (.cons _ (.cons _ (.cons _ (.cons _ (.cons _ .nil))))) _=_;refine zG (σ:=[some (.tup [.int m,.tup TS]),some (.int n),some (.int m),some (.tup TS),none]) (by simp[KG.Z]) ?_;refine zG (σ:=[some (.tup [.int m,.tup TS]),some (.int n),some (.int m),some (.tup TS),some (.lst ((dI m T TS).take 8))]) (by simp[KG.Z,a1,a2,dI]) ?_;refine zG (σ:=[some (.tup [.int m,.tup TS]),some (.int n),some (.int m),some (.tup TS),some (.lst ((dI m T TS).take 13))]) (by simp[KG.Z,a1,a4,a5,dI]) ?_;refine zG (σ:=[some (.tup [.int m,.tup TS]),some (.int n),some (.int m),some (.tup TS),some (.lst ((dI m T TS).take 18))]) (by simp[KG.Z,a1,a5,dI,za]) ?_;rw[qe,zL,qu];have f1:evE ⟨qa p k,p.glb,p.sub,p.cat⟩ (.op .add (.var 4) (.lst (.cons (.tup (.cons (.con (.str "1")) (.cons (.tup .nil) .nil))) (.cons .dic (.cons (.tup (.cons (.var 2) (.cons (.tup (.cons (.tup (.cons (.con (.bl false)) (.cons (.con (.int 1)) .nil))) .nil)) .nil))) (.cons (.tup (.cons (.op .pow (.con (.int 10)) (.con (.int 30))) (.cons (.tup .nil) .nil))) .nil)))))) [some (.tup [.int m,.tup TS]),some (.int n),some (.int m),some (.tup TS),some (.lst ((dI m T TS).take 18))]=.ok (.lst (dI m T TS)):=by simp[KG.Z,hT,a5,dI,qt]
 rw[f1];have f2:evE ⟨qa p k,p.glb,p.sub,p.cat⟩ (.op .mod (.var 1) (.con (.int 22))) [some (.tup [.int m,.tup TS]),some (.int n),some (.int m),some (.tup TS),some (.lst ((dI m T TS).take 18))]=.ok (.int (n%22)):=by simp[KG.Z,a3]
 rw[f2];simp only[R.bind_ok];rw[e];rfl
end
end KG
namespace K03
open PySem PySem.Spec PyProof.Rows L2 EV
noncomputable def top(i:Nat):Stmt:=PySem.Challenge.pw_holdplaces_k03_far_and_pieces.main.body.getD i (.Pass ⟨0,0,0,0⟩)
abbrev iS:Fn:=KG.iS
abbrev eD:Fn:=KG.eD
abbrev gC:Fn:=KG.gC
abbrev iK:Fn:=KG.iK
abbrev e_:Fn:=KG.e_
abbrev dO:Fn:=KG.dO
abbrev gL:Fn:=KG.gL
abbrev eJ:Fn:=KG.eJ
abbrev fK:Fn:=KG.fK
abbrev eO:Fn:=KG.eO
abbrev el:Fn:=KG.el
noncomputable def iz:Fn:=⟨3,3,false,(.cons (.exp (.call "need_web" (.cons (.var 0) .nil))) (.cons (.exp (.call "need_place" (.cons (.var 0) (.cons (.var 1) .nil)))) (.cons (.exp (.call "need_place" (.cons (.var 0) (.cons (.var 2) .nil)))) (.cons (.ret (.dget (.call "ways_from" (.cons (.var 0) (.cons (.var 1) .nil))) (.var 2))) .nil))))⟩
noncomputable def gA:Fn:=⟨2,6,false,(.cons (.set (.nm 2) (.dic1 (.var 1) (.con (.int 0)))) (.cons (.set (.nm 3) (.lst (.cons (.var 1) .nil))) (.cons (.while (.val (.own 3)) (.cons (.pop0 4 3) (.cons (.for (.nm 5) (.seq (.call "hood_of" (.cons (.var 0) (.cons (.var 4) .nil)))) (.cons (.ite (.cmp .notin (.var 5) (.own 2)) (.cons (.seti 2 (.var 5) (.op .add (.ix (.own 2) (.var 4)) (.con (.int 1)))) (.cons (.app 3 (.var 5)) .nil)) .nil) .nil)) .nil))) (.cons (.ret (.own 2)) .nil))))⟩
noncomputable def gp:Fn:=⟨1,5,true,(.cons (.exp (.call "need_web" (.cons (.var 0) .nil))) (.cons (.set (.nm 1) (.lst .nil)) (.cons (.set (.nm 2) .dic) (.cons (.for (.nm 3) (.rng (.ix (.var 0) (.con (.int 0)))) (.cons (.ite (.cmp .notin (.var 3) (.own 2)) (.cons (.set (.nm 4) (.call "ways_from" (.cons (.var 0) (.cons (.var 3) .nil)))) (.cons (.dupd 2 (.var 4)) (.cons (.app 1 (.bi .tuple (.cons (.bi .sorted (.cons (.var 4) .nil)) .nil))) .nil))) .nil) .nil)) (.cons (.ret (.own 1)) .nil)))))⟩
noncomputable def pZ:Fn:=⟨1,3,false,(.cons (.exp (.call "need_web" (.cons (.var 0) .nil))) (.cons (.set (.tp [1,2]) (.var 0)) (.cons (.ret (.and (.cmp .eq (.bi .len (.cons (.call "pieces" (.cons (.var 0) .nil)) .nil)) (.con (.int 1))) (.cmp .eq (.bi .len (.cons (.var 2) .nil)) (.op .sub (.var 1) (.con (.int 1)))))) .nil)))⟩
abbrev fJ:Fn:=KG.fJ
noncomputable def nT:Fn:=⟨1,2,false,(.cons (.set (.nm 1) (.lst (.cons (.isi (.var 0) (.ex "NoWeb")) (.cons (.isi (.var 0) (.ex "NoPlaces")) (.cons (.isi (.var 0) (.ex "NoPlace")) (.cons (.isi (.var 0) (.ex "NoNumber")) .nil)))))) (.cons (.set (.nm 1) (.op .add (.var 1) (.lst (.cons (.isi (.var 0) (.ex "NotUntied")) (.cons (.isi (.var 0) (.ex "NoShares")) (.cons (.isi (.var 0) (.ex "NotTree")) (.cons (.isi (.var 0) (.ex "NotTold")) .nil))))))) (.cons (.set (.nm 1) (.op .add (.var 1) (.lst (.cons (.isi (.var 0) (.ex "NoCrowds")) (.cons (.isi (.var 0) (.ex "NoText")) (.cons (.isi (.var 0) (.ex "NoLine")) (.cons (.isi (.var 0) (.ex "NoDeed")) .nil))))))) (.cons (.set (.nm 1) (.op .add (.var 1) (.lst (.cons (.isi (.var 0) (.ex "NotAll")) (.cons (.isi (.var 0) (.ex "TooGreat")) .nil))))) (.cons (.ite (.or (.not (.val (.isi (.var 0) (.ty "ValueError")))) (.cmp .ne (.mth false (.var 1)) (.con (.int 1)))) (.cons (.ret (.neg (.con (.int 1)))) .nil) .nil) (.cons (.ret (.mth true (.var 1))) .nil))))))⟩
abbrev zQ:Fn:=KG.zQ
abbrev zI:Fn:=KG.zI
noncomputable def i_:Fn:=⟨2,6,false,(.cons (.set (.nm 2) (.lst .nil)) (.cons (.for (.nm 3) (.rng (.var 0)) (.cons (.ins 2 (.op .mod (.call "_law_stir" (.cons (.var 1) (.cons (.op .add (.var 3) (.con (.int 40))) .nil))) (.op .add (.var 3) (.con (.int 1)))) (.var 3)) .nil)) (.cons (.set (.nm 4) (.lst .nil)) (.cons (.for (.nm 5) (.rng2 (.con (.int 1)) (.var 0)) (.cons (.app 4 (.bi .tuple (.cons (.bi .sorted (.cons (.lst (.cons (.ix (.own 2) (.var 5)) (.cons (.ix (.own 2) (.op .mod (.call "_law_stir" (.cons (.var 1) (.cons (.var 5) .nil))) (.var 5))) .nil))) .nil)) .nil))) .nil)) (.cons (.ret (.tup (.cons (.var 0) (.cons (.bi .tuple (.cons (.bi .sorted (.cons (.own 4) .nil)) .nil)) .nil)))) .nil)))))⟩
abbrev eT:Fn:=KG.eT
abbrev gF:Fn:=KG.gF
noncomputable def kF:Fn:=⟨2,2,false,(.cons (.ret (.ix (.lst (.cons (.var 0) (.cons (.neg (.con (.int 1))) (.cons (.con (.bl true)) (.cons (.con (.bl false)) (.cons (.con .non) (.cons (.con (.str "0")) (.cons (.tup (.cons (.con (.int 0)) .nil)) (.cons (.op .pow (.con (.int 10)) (.con (.int 30))) (.cons (.lst (.cons (.con (.int 0)) .nil)) (.cons .dic (.cons (.neg (.op .pow (.con (.int 10)) (.con (.int 20)))) (.cons (.op .add (.var 0) (.con (.int 7))) .nil))))))))))))) (.op .mod (.var 1) (.con (.int 12))))) .nil)⟩
abbrev gO:Fn:=KG.gO
noncomputable def fX:Fn:=⟨2,6,false,(.cons (.set (.nm 2) (.dic1 (.var 1) (.con (.int 0)))) (.cons (.for (.nm 3) (.rng (.ix (.var 0) (.con (.int 0)))) (.cons (.for (.nm 4) (.seq (.lsd (.own 2))) (.cons (.for (.nm 5) (.seq (.call "_law_hood" (.cons (.var 0) (.cons (.var 4) .nil)))) (.cons (.seti 2 (.var 5) (.ite (.cmp .ne (.var 5) (.var 4)) (.bi .min (.cons (.dget2 (.own 2) (.var 5) (.con (.int 99))) (.cons (.op .add (.ix (.own 2) (.var 4)) (.con (.int 1))) .nil))) (.ix (.own 2) (.var 5)))) .nil)) .nil)) .nil)) (.cons (.ret (.own 2)) .nil)))⟩
noncomputable def jX:Fn:=⟨3,4,false,(.cons (.try (.cons (.ret (.call "far" (.cons (.var 0) (.cons (.var 1) (.cons (.var 2) .nil))))) .nil) "PlaceError" (some 3) (.cons (.ret (.tup (.cons (.con (.str "no")) (.cons (.call "_law_kinds" (.cons (.var 3) .nil)) .nil)))) .nil)) .nil)⟩
noncomputable def pO:Fn:=⟨1,8,false,(.cons (.set (.nm 1) (.lst .nil)) (.cons (.for (.nm 2) (.rng (.ix (.var 0) (.con (.int 0)))) (.cons (.set (.nm 3) (.call "_law_ways" (.cons (.var 0) (.cons (.var 2) .nil)))) (.cons (.for (.nm 4) (.rng (.ix (.var 0) (.con (.int 0)))) (.cons (.ite (.not (.val (.call "_law_same" (.cons (.call "_law_told" (.cons (.var 0) (.cons (.var 2) (.cons (.var 4) .nil)))) (.cons (.dget (.var 3) (.var 4)) .nil))))) (.cons (.ret (.con (.bl false))) .nil) .nil) .nil)) (.cons (.set (.nm 5) (.bi .tuple (.cons (.bi .sorted (.cons (.var 3) .nil)) .nil))) (.cons (.ite (.cmp .notin (.var 5) (.own 1)) (.cons (.app 1 (.var 5)) .nil) .nil) .nil))))) (.cons (.for (.nm 6) (.rng (.con (.int 2))) (.cons (.set (.nm 7) (.call "pieces" (.cons (.var 0) .nil))) (.cons (.ite (.not (.val (.callo "_law_same" (.cons (.own 7) (.cons (.own 1) .nil))))) (.cons (.ret (.con (.bl false))) .nil) .nil) (.cons (.app 7 (.tup .nil)) .nil)))) (.cons (.ret (.call "_law_same" (.cons (.call "is_tree" (.cons (.var 0) .nil)) (.cons (.and (.cmp .eq (.bi .len (.cons (.own 1) .nil)) (.con (.int 1))) (.cmp .eq (.bi .len (.cons (.ix (.var 0) (.con (.int 1))) .nil)) (.op .sub (.ix (.var 0) (.con (.int 0))) (.con (.int 1))))) .nil)))) .nil))))⟩
noncomputable def fI:Fn:=⟨1,8,false,(.cons (.for (.nm 1) (.seq (.op .add (.sl (.var 0) .none (.some (.con (.int 5)))) (.lst (.cons (.con (.int 0)) (.cons (.con (.int 5)) (.cons (.con (.int 2)) .nil)))))) (.cons (.set (.nm 2) (.op .add (.con (.int 1)) (.op .mod (.op .fdiv (.var 1) (.con (.int 64))) (.con (.int 8))))) (.cons (.set (.nm 3) (.call "_law_tree_by" (.cons (.var 2) (.cons (.op .fdiv (.var 1) (.con (.int 512))) .nil)))) (.cons (.set (.nm 4) (.lst (.cons (.call "_law_web_by" (.cons (.var 2) (.cons (.op .fdiv (.var 1) (.con (.int 512))) .nil))) (.cons (.var 3) (.cons (.tup (.cons (.var 2) (.cons (.sl (.ix (.var 3) (.con (.int 1))) (.some (.con (.int 1))) .none) .nil))) (.cons (.tup (.cons (.var 2) (.cons (.sl (.ix (.var 3) (.con (.int 1))) .none (.some (.neg (.con (.int 1))))) .nil))) .nil)))))) (.cons (.set (.nm 5) (.sl (.comp (.seq (.call "_law_pairs" (.cons (.var 2) .nil))) [none,none,some 3] (.nm 1) (.cmp .notin (.var 1) (.ix (.var 2) (.con (.int 1)))) (.var 1)) .none (.some (.con (.int 1))))) (.cons (.for (.nm 6) (.seq (.op .add (.var 4) (.lst (.cons (.tup (.cons (.var 2) (.cons (.bi .tuple (.cons (.bi .sorted (.cons (.op .add (.bi .list (.cons (.sl (.ix (.var 3) (.con (.int 1))) (.some (.con (.int 1))) .none) .nil)) (.var 5)) .nil)) .nil)) .nil))) .nil)))) (.cons (.ite (.not (.val (.call "_law_right" (.cons (.var 6) .nil)))) (.cons (.ret (.con (.bl false))) .nil) .nil) .nil)) (.cons (.set (.nm 7) (.call "_law_no_place" (.cons (.var 2) (.cons (.call "_law_stir" (.cons (.var 1) (.cons (.con (.int 2)) .nil))) .nil)))) (.cons (.ite (.or (.cmp .ne (.call "_law_told" (.cons (.var 3) (.cons (.var 7) (.cons (.con .non) .nil)))) (.tup (.cons (.con (.str "no")) (.cons (.con (.int 2)) .nil)))) (.cmp .ne (.call "_law_told" (.cons (.var 3) (.cons (.con (.int 0)) (.cons (.var 7) .nil)))) (.tup (.cons (.con (.str "no")) (.cons (.con (.int 2)) .nil))))) (.cons (.ret (.con (.bl false))) .nil) .nil) (.cons (.ite (.cmp .ne (.call "_law_told" (.cons (.call "_law_no_web" (.cons (.var 3) (.cons (.call "_law_stir" (.cons (.var 1) (.cons (.con (.int 3)) .nil))) .nil))) (.cons (.var 7) (.cons (.con .non) .nil)))) (.tup (.cons (.con (.str "no")) (.cons (.con (.int 0)) .nil)))) (.cons (.ret (.con (.bl false))) .nil) .nil) .nil))))))))) (.cons (.ret (.con (.bl true))) .nil))⟩
abbrev xV:Ent:=⟨"is_whole",top 17,[],false,iS⟩
abbrev B9:Ent:=⟨"is_between",top 18,[],false,eD⟩
abbrev sW:Ent:=⟨"is_pair",top 19,[],false,gC⟩
abbrev AW:Ent:=⟨"rises",top 20,[],false,iK⟩
abbrev AQ:Ent:=⟨"is_web",top 23,[],false,e_⟩
abbrev Dv:Ent:=⟨"is_tie",top 24,[],false,dO⟩
abbrev uD:Ent:=⟨"need_web",top 25,[],false,gL⟩
abbrev xo:Ent:=⟨"is_place",top 26,[],false,eJ⟩
abbrev rZ:Ent:=⟨"need_place",top 27,[],false,fK⟩
abbrev tf:Ent:=⟨"hood_of",top 28,[],false,eO⟩
abbrev vG:Ent:=⟨"are_tied",top 29,[],false,el⟩
abbrev sS:Ent:=⟨"far",top 30,[],false,iz⟩
abbrev xq:Ent:=⟨"ways_from",top 31,[ag "ways",ag "waiting"],false,gA⟩
abbrev sD:Ent:=⟨"pieces",top 32,[ag "seen",ag "found"],true,gp⟩
abbrev wF:Ent:=⟨"is_tree",top 33,[],false,pZ⟩
abbrev xm:Ent:=⟨"_law_hood",top 35,[ag "_law_found"],false,fJ⟩
abbrev pI:Ent:=⟨"_law_kinds",top 36,[],false,nT⟩
abbrev sG:Ent:=⟨"_law_same",top 37,[],false,zQ⟩
abbrev Ak:Ent:=⟨"_law_stir",top 38,[],false,zI⟩
abbrev Cu:Ent:=⟨"_law_tree_by",top 39,[ag "_law_order",ag "_law_ties"],false,i_⟩
abbrev yy:Ent:=⟨"_law_pairs",top 40,[],false,eT⟩
abbrev Cz:Ent:=⟨"_law_web_by",top 41,[ag "_law_ties"],false,gF⟩
abbrev B7:Ent:=⟨"_law_no_place",top 42,[],false,kF⟩
abbrev uK:Ent:=⟨"_law_no_web",top 43,[],false,gO⟩
abbrev yh:Ent:=⟨"_law_ways",top 44,[ag "_law_found"],false,fX⟩
abbrev DT:Ent:=⟨"_law_told",top 45,[],false,jX⟩
abbrev BK:Ent:=⟨"_law_right",top 46,[ag "_law_found",ag "_law_every"],false,pO⟩
abbrev fU:Ent:=⟨"law",top 47,[],false,fI⟩
abbrev tab:List Ent:=[xV,B9,sW,AW,AQ,Dv,uD,xo,rZ,tf,vG,sS,xq,sD,wF,xm,pI,sG,Ak,Cu,yy,Cz,B7,uK,yh,DT,BK,fU]
abbrev oth:List (Str×GK):=[(ag "PlaceError",GK.exk),(ag "NoWeb",GK.exc),(ag "NoPlaces",GK.exk),(ag "NoPlace",GK.exc),(ag "NoNumber",GK.exk),(ag "NotAll",GK.exk),(ag "NotUntied",GK.exk),(ag "NoShares",GK.exk),(ag "NotTree",GK.exk),(ag "NotTold",GK.exk),(ag "NoCrowds",GK.exk),(ag "NoText",GK.exk),(ag "NoLine",GK.exk),(ag "NoDeed",GK.exk),(ag "TooGreat",GK.exk),(ag "MOST",GK.val),(ag "len",GK.bi .len),(ag "tuple",GK.ty "tuple" (some .tuple)),(ag "list",GK.ty "list" (some .list)),(ag "int",GK.ty "int" (some .int)),(ag "bool",GK.ty "bool" (some .bool)),(ag "str",GK.ty "str" none),(ag "sorted",GK.bi .sorted),(ag "all",GK.bi .all),(ag "min",GK.bi .min),(ag "max",GK.bi .max),(ag "range",GK.rng),(ag "enumerate",GK.enum),(ag "zip",GK.zip),(ag "isinstance",GK.isi),(ag "ValueError",GK.ty "ValueError" none)]
abbrev vals:List (Str×D):=[(ag "MOST",(.int 8))]
abbrev G:List (Str×GK):=tab.map (λe=>(e.x,GK.fn e.fr))++oth
abbrev cU:List (Str×Str):=[(ag "NoWeb",ag "PlaceError"),(ag "NoPlace",ag "PlaceError")]
abbrev us:List Ent:=[pI]
abbrev subs:List ((Str×Cl)×Bool):=[((ag "NoWeb",.ty "ValueError"),true),((ag "NoWeb",.ex (ag "NoWeb")),true),((ag "NoWeb",.ex (ag "NoPlaces")),false),((ag "NoWeb",.ex (ag "NoPlace")),false),((ag "NoWeb",.ex (ag "NoNumber")),false),((ag "NoWeb",.ex (ag "NotUntied")),false),((ag "NoWeb",.ex (ag "NoShares")),false),((ag "NoWeb",.ex (ag "NotTree")),false),((ag "NoWeb",.ex (ag "NotTold")),false),((ag "NoWeb",.ex (ag "NoCrowds")),false),((ag "NoWeb",.ex (ag "NoText")),false),((ag "NoWeb",.ex (ag "NoLine")),false),((ag "NoWeb",.ex (ag "NoDeed")),false),((ag "NoWeb",.ex (ag "NotAll")),false),((ag "NoWeb",.ex (ag "TooGreat")),false),((ag "NoPlace",.ty "ValueError"),true),((ag "NoPlace",.ex (ag "NoWeb")),false),((ag "NoPlace",.ex (ag "NoPlaces")),false),((ag "NoPlace",.ex (ag "NoPlace")),true),((ag "NoPlace",.ex (ag "NoNumber")),false),((ag "NoPlace",.ex (ag "NotUntied")),false),((ag "NoPlace",.ex (ag "NoShares")),false),((ag "NoPlace",.ex (ag "NotTree")),false),((ag "NoPlace",.ex (ag "NotTold")),false),((ag "NoPlace",.ex (ag "NoCrowds")),false),((ag "NoPlace",.ex (ag "NoText")),false),((ag "NoPlace",.ex (ag "NoLine")),false),((ag "NoPlace",.ex (ag "NoDeed")),false),((ag "NoPlace",.ex (ag "NotAll")),false),((ag "NoPlace",.ex (ag "TooGreat")),false)]
abbrev p:Pr:=prT tab vals cU subs
theorem rJ:p.fns "is_place" = some eJ:=by kernel_rfl
theorem oM:p.fns "need_place" = some fK:=by kernel_rfl
theorem ji:p.fns "far" = some iz:=by kernel_rfl
theorem D_:p.fns "is_tree" = some pZ:=by kernel_rfl
theorem jT:p.fns "_law_kinds" = some nT:=by kernel_rfl
theorem Al:p.fns "_law_no_place" = some kF:=by kernel_rfl
theorem ou:p.fns "_law_told" = some jX:=by kernel_rfl
theorem BS:p.fns "_law_right" = some pO:=by kernel_rfl
theorem vi:p.fns "law" = some fI:=by kernel_rfl
end K03
namespace KG
open EV
open PySem (Str)
open L2 (atI ixN ltP)
section
variable(m:Int)(ts:List (Int×Int))
noncomputable def fr(h:List Int)(a:Int):Bool:=decide (((hd m ts a).filter λx=>h.any λt=>t==x)=[])
end
section
variable{m:Int}{ts:List (Int×Int)}
end
noncomputable def both(s:List Int)(t:Int×Int):Bool:=(s.any λx=>x==t.1)&&(s.any λx=>x==t.2)
section
variable{m:Int}{ts:List (Int×Int)}
end
theorem xR{p:Pr}(hf:p.fns "_law_same" = some zQ){k:Nat}(L:List (List Int)):qa p (k+3) "_law_same" [.lst (L.map tu),.lst (L.map tu)]=.ok (.bl true):=by
 rw[qc hf];have i1:cc ⟨qa p (k+2),p.glb,p.sub,p.cat⟩ (.lst (L.map tu)) (.ty "list")=.ok (.bl true):=rfl;have i2:cc ⟨qa p (k+2),p.glb,p.sub,p.cat⟩ (.lst (L.map tu)) (.ty "bool")=.ok (.bl false):=rfl;have i3:cc ⟨qa p (k+2),p.glb,p.sub,p.cat⟩ (.lst (L.map tu)) (.ty "int")=.ok (.bl false):=rfl;have i4:cc ⟨qa p (k+2),p.glb,p.sub,p.cat⟩ (.lst (L.map tu)) (.ty "str")=.ok (.bl false):=rfl;have i5:cc ⟨qa p (k+2),p.glb,p.sub,p.cat⟩ (.lst (L.map tu)) (.ty "tuple")=.ok (.bl false):=rfl;refine qX (τ:=[some (.lst (L.map tu)),some (.lst (L.map tu)),none,none]) rfl rfl ?_;refine zG (σ:=[some (.lst (L.map tu)),some (.lst (L.map tu)),none,none]) (by simp[KG.Z,jf,d_]) ?_;refine zG (σ:=[some (.lst (L.map tu)),some (.lst (L.map tu)),none,none]) (by simp[KG.Z,i1,i2,i3,i4,i5]) ?_;refine zG (σ:=[some (.lst (L.map tu)),some (.lst (L.map tu)),none,none]) (by simp[KG.Z,i1,i2,i3,i4,i5]) ?_;refine zG (σ:=[some (.lst (L.map tu)),some (.lst (L.map tu)),none,none]) (by simp[KG.Z,i1,i2,i3,i4,i5]) ?_;refine zG (σ:=[some (.lst (L.map tu)),some (.lst (L.map tu)),none,none]) (by simp[KG.Z,nP,i1,i2,i3,i4,i5]) ?_;refine zG (σ:=[some (.lst (L.map tu)),some (.lst (L.map tu)),none,none]) (by simp[KG.Z,ne_int,b1,seq?]) ?_;refine lH (ds:=cg (L.map tu) (L.map tu)) (λr σ=>∃(M:List (List Int)) (v u:Option D),r=cg (M.map tu) (M.map tu)/\σ=[some (.lst (L.map tu)),some (.lst (L.map tu)),v,u]) (by simp[KG.Z,i1,i2,i3,i4,i5]) ⟨L,none,none,rfl,rfl⟩ ?_ ?_
 ·rintro x t σ ⟨M,v,u,e,rfl⟩;cases M with
  |nil=>cases e
  |cons y M=>
   rw[aS,cg]at e;injection e with e1 e2
   subst e1 e2;have q:=same_ints hf (k:=k) y;refine⟨[some (.lst (L.map tu)),some (.lst (L.map tu)),some (tu y),some (tu y)],[some (.lst (L.map tu)),some (.lst (L.map tu)),some (tu y),some (tu y)],by simp[KG.Z],?_,M,_,_,rfl,rfl⟩;generalize tu y=TY at *;generalize L.map tu=LT at *;simp[KG.Z,q]
 ·rintro σ ⟨M,v,u,e,rfl⟩;simp[KG.Z]
theorem yR(L:List (List Int))(z:List Int):qi .notin (tu z) (.lst (L.map tu))=.ok (!decide (z∈L)):=by
 have h:(L.map tu).all D.asks=true:=by
  simp only[List.all_eq_true,aN];rintro x ⟨a,_,rfl⟩;exact rO _
 simp only[qi,seq?,rO,h,Bool.and_self,if_true]
 congr 2
 rw[inD,List.any_map,Bool.eq_iff_iff,cz,decide_eq_true_eq];constructor
 ·rintro⟨y,hy,e⟩;have e:D.eqv (.tup (y.map D.int)) (.tup (z.map D.int))=true:=e;rw[D.eqv,lG,decide_eq_true_eq]at e;exact e▸hy
 ·intro hz;refine⟨z,hz,?_⟩;show D.eqv (.tup (z.map D.int)) (.tup (z.map D.int))=true;rw[D.eqv,lG];simp
noncomputable def vR:Fn:=⟨3,3,false,(.cons (.exp (.call "need_web" (.cons (.var 0) .nil))) (.cons (.exp (.call "need_some" (.cons (.var 0) (.cons (.var 1) .nil)))) (.cons (.exp (.call "need_place" (.cons (.var 0) (.cons (.var 2) .nil)))) (.cons (.ite (.cmp .notin (.var 2) (.var 1)) (.cons (.raise "NoPlace" (.cons (.con (.str "a place of some is due")) .nil)) .nil) .nil) (.cons (.ret (.call "places_marked" (.cons (.call "marks_of" (.cons (.call "hoods" (.cons (.var 0) .nil)) (.cons (.var 1) .nil))) (.cons (.tup (.cons (.var 2) .nil)) .nil)))) .nil)))))⟩
noncomputable def AN:Fn:=⟨2,4,false,(.cons (.exp (.call "need_web" (.cons (.var 0) .nil))) (.cons (.exp (.call "need_some" (.cons (.var 0) (.cons (.var 1) .nil)))) (.cons (.exp (.call "need_all" (.cons (.var 0) (.cons (.var 1) .nil)))) (.cons (.set (.nm 2) (.var 1)) (.cons (.set (.nm 3) (.call "spare" (.cons (.var 0) (.cons (.var 2) .nil)))) (.cons (.while (.val (.var 3)) (.cons (.set (.nm 2) (.call "without" (.cons (.var 2) (.cons (.ix (.var 3) (.neg (.con (.int 1)))) .nil)))) (.cons (.set (.nm 3) (.call "spare" (.cons (.var 0) (.cons (.var 2) .nil)))) .nil))) (.cons (.ret (.var 2)) .nil)))))))⟩
noncomputable def AX:Fn:=⟨2,2,false,(.cons (.ret (.bi .tuple (.cons (.comp (.seq (.var 0)) [none,none,some 1] (.nm 1) (.cmp .ne (.var 1) (.var 2)) (.var 1)) .nil))) .nil)⟩
structure Ld(p:Pr):Prop where
 leaned:p.fns "leaned" = some AN
 without:p.fns "without" = some AX
structure Ln(p:Pr):Prop extends Ld p where
 own:p.fns "own" = some vR
 need_place:p.fns "need_place" = some fK
section
variable{m:Int}{ts:List (Int×Int)}
end
section
variable{p:Pr}(B:Web p)(O:Nbr p)(S:gf p)
include B O S
end
end KG
namespace KG
open EV
open PySem (Str)
open L2 (atI ixN ltP atK bP cX)
noncomputable def inR(m:Int)(ts:List (Int×Int))(r:Int):Nat->Int->Prop
 | 0,v=>v=r
 |k+1,v=>inR m ts r k v\/∃u,inR m ts r k u/\v∈hd m ts u
noncomputable def cC(m:Int)(ts:List (Int×Int))(r v d:Int):Prop:=∃k:Nat,d=k/\inR m ts r k v/\∀j,j<k->¬ inR m ts r j v
noncomputable def Key(kvs:List (Int×Int))(v:Int):Prop:=∃d,(v,d)∈kvs
section
variable{m:Int}{ts:List (Int×Int)}{r:Int}
theorem As{j k:Nat}{v:Int}(h:j<=k)(q:inR m ts r j v):inR m ts r k v:=by
 induction k with
 |zero=>
  have:j=0:=by lia
  subst this;exact q
 |succ k ih=>
  by_cases e:j=k+1
  ·subst e;exact q
  ·exact .inl (ih (by lia))
theorem cC.uniq{v d e:Int}(h:cC m ts r v d)(h':cC m ts r v e):d=e:=by
 obtain⟨j,rfl,a1,a2⟩:=h;obtain⟨k,rfl,b1,b2⟩:=h';rcases Nat.lt_trichotomy j k with z|z|z
 ·exact absurd a1 (b2 j z)
 ·rw[z]
 ·exact absurd b1 (a2 k z)
theorem cC.le{v d:Int}(h:cC m ts r v d){k:Nat}(q:inR m ts r k v):d<=k:=by
 obtain⟨j,rfl,a1,a2⟩:=h;by_cases z:j<=k
 ·lia
 ·exact absurd q (a2 k (by lia))
theorem rG{k:Nat}{v:Int}(q:inR m ts r k v):∃d,cC m ts r v d:=by
 induction k with
 |zero=>exact⟨0,0,rfl,q,λj z=>by lia⟩
 |succ k ih=>
  by_cases z:inR m ts r k v
  ·exact ih z
  ·exact⟨((k+1:Nat):Int),k+1,rfl,q,λj hj y=>z (As (by lia) y)⟩
theorem i'{u w:Int}(h:w∈hd m ts u):0<=w/\w<m:=eM.mp (List.mem_filter.mp h).1
structure Bfs(m:Int)(ts:List (Int×Int))(r:Int)(kvs:List (Int×Int))(q:List Int):Prop where
 nd:(kvs.map (·.1)).Nodup
 ok:∀p∈kvs,cC m ts r p.1 p.2/\0<=p.1/\p.1<m
 rt:Key kvs r
 qk:∀u∈q,Key kvs u
 dn:∀p∈kvs,p.1∉q->∀w∈hd m ts p.1,Key kvs w
 so:∀v rr,q=v::rr->∃dv,(v,dv)∈kvs/\(∀u∈rr,∀du,(u,du)∈kvs->du<=dv+1)/\∀(k:Nat) w,(k:Int)<=dv->inR m ts r k w->Key kvs w
 sr:q.Pairwise λa b=>∀da db,(a,da)∈kvs->(b,db)∈kvs->da<=db
structure Bin(m:Int)(ts:List (Int×Int))(r v dv:Int)(kvs:List (Int×Int))(q l:List Int):Prop where
 nd:(kvs.map (·.1)).Nodup
 ok:∀p∈kvs,cC m ts r p.1 p.2/\0<=p.1/\p.1<m
 rt:Key kvs r
 vk:(v,dv)∈kvs
 qk:∀u∈q,Key kvs u
 dn:∀p∈kvs,p.1∉q->p.1≠v->∀w∈hd m ts p.1,Key kvs w
 pr:∀u∈hd m ts v,u∈l\/Key kvs u
 lh:∀u∈l,u∈hd m ts v
 bd:∀u∈q,∀du,(u,du)∈kvs->dv<=du/\du<=dv+1
 ev:∀(k:Nat) w,(k:Int)<=dv->inR m ts r k w->Key kvs w
 sr:q.Pairwise λa b=>∀da db,(a,da)∈kvs->(b,db)∈kvs->da<=db
theorem Bfs.start(h0:0<=r)(h:r<m):Bfs m ts r [(r,0)] [r]:=by
 have d0:cC m ts r r 0:=⟨0,rfl,rfl,λj z=>by lia⟩
 refine⟨by simp,λp hp=>?_,⟨0,by simp⟩,λu hu=>?_,λp hp hn=>?_,λv rr e=>?_,by simp⟩
 ·simp at hp;subst hp;exact⟨d0,h0,h⟩
 ·simp at hu;subst hu;exact⟨0,by simp⟩
 ·simp at hp;subst hp;simp at hn
 ·cases e;refine⟨0,by simp,λu hu=>by simp at hu,λk w hk q=>?_⟩;have:k=0:=by lia
  subst this;have q:w=r:=q;subst q;exact⟨0,by simp⟩
theorem Bfs.take{kvs:List (Int×Int)}{v:Int}{q:List Int}(b:Bfs m ts r kvs (v::q)):∃dv,Bin m ts r v dv kvs q (hd m ts v):=by
 obtain⟨dv,h1,h2,h3⟩:=b.so v q rfl;have sr:=List.pairwise_cons.mp b.sr;refine⟨dv,b.nd,b.ok,b.rt,h1,λu hu=>b.qk u (by simp[hu]),λp hp hn hv=>b.dn p hp (by simp[hn,hv]),λu hu=>.inl hu,λu hu=>hu,λu hu du hd'=>⟨sr.1 u hu dv du h1 hd',h2 u hu du hd'⟩,h3,sr.2⟩
theorem gR{kvs:List (Int×Int)}{u d w:Int}(h:Key kvs w):Key (kvs++[(u,d)]) w:=by
 obtain⟨e,h⟩:=h;exact⟨e,by simp[h]⟩
theorem Bin.old{v dv u:Int}{kvs:List (Int×Int)}{q l:List Int}(b:Bin m ts r v dv kvs q (u::l))(h:Key kvs u):Bin m ts r v dv kvs q l:=
 ⟨b.nd,b.ok,b.rt,b.vk,b.qk,b.dn,λw hw=>by
  rcases b.pr w hw with z|z
  ·rcases aE.mp z with rfl|z
   ·exact .inr h
   ·exact .inl z
  ·exact .inr z,λw hw=>b.lh w (by simp[hw]),b.bd,b.ev,b.sr⟩
theorem Bin.new{v dv u:Int}{kvs:List (Int×Int)}{q l:List Int}(b:Bin m ts r v dv kvs q (u::l))(h:¬ Key kvs u):Bin m ts r v dv (kvs++[(u,dv+1)]) (q++[u]) l:=by
 have hu:=b.lh u aJ;obtain⟨u0,u1⟩:=i' hu;have dvd:=(b.ok _ b.vk).1;obtain⟨kv,rfl,k1,k2⟩:=dvd;have du:cC m ts r u ((kv:Int)+1):=⟨kv+1,by lia,.inr ⟨v,k1,hu⟩,λj hj y=>h (b.ev j u (by lia) y)⟩
 have nu:u∉kvs.map (·.1):=λz=>by
  obtain⟨p,hp,e⟩:=aN.mp z;exact h ⟨p.2,by rw[<-e];exact hp⟩
 have old:∀{w d:Int},(w,d)∈kvs++[(u,(kv:Int)+1)]->w≠u->(w,d)∈kvs:=λ{w d} hw hn=>by
  rcases List.mem_append.mp hw with z|z
  ·exact z
  ·simp at z;exact absurd z.1 hn
 have new:∀{d:Int},(u,d)∈kvs++[(u,(kv:Int)+1)]->d=kv+1:=λ{d} hw=>by
  rcases List.mem_append.mp hw with z|z
  ·exact absurd ⟨d,z⟩ h
  ·simp at z;exact z
 refine⟨?_,λp hp=>?_,gR b.rt,by simp[b.vk],λw hw=>?_,λp hp hn hv w hw=>?_,λw hw=>?_,λw hw=>b.lh w (by simp[hw]),λw hw d hd'=>?_,λk w hk y=>gR (b.ev k w hk y),?_⟩
 ·rw[List.map_append];refine List.nodup_append.mpr ⟨b.nd,by simp,λa ha c hc e=>?_⟩;simp at hc;subst hc e;exact nu ha
 ·rcases List.mem_append.mp hp with z|z
  ·exact b.ok p z
  ·simp at z;subst z;exact⟨du,u0,u1⟩
 ·rcases List.mem_append.mp hw with z|z
  ·exact gR (b.qk w z)
  ·simp at z;subst z;exact⟨(kv:Int)+1,by simp⟩
 ·have hpu:p.1≠u:=λe=>hn (by simp[e])
  have hp':=old (w:=p.1) (d:=p.2) hp hpu;exact gR (b.dn p hp' (λz=>hn (by simp[z])) hv w hw)
 ·rcases b.pr w hw with z|z
  ·rcases aE.mp z with rfl|z
   ·exact .inr ⟨(kv:Int)+1,by simp⟩
   ·exact .inl z
  ·exact .inr (gR z)
 ·by_cases e:w=u
  ·subst e;have:=new hd';lia
  ·rcases List.mem_append.mp hw with z|z
   ·exact b.bd w z d (old hd' e)
   ·simp at z;exact absurd z e
 ·refine List.pairwise_append.mpr ⟨?_,by simp,?_⟩
  ·refine(List.Pairwise.and_mem.mp b.sr).imp λ{x y} ⟨hx,hy,z⟩ dx dy h1 h2=>?_
   have nx:x≠u:=λe=>h (e▸b.qk x hx)
   have ny:y≠u:=λe=>h (e▸b.qk y hy)
   exact z dx dy (old h1 nx) (old h2 ny)
  ·intro x hx y hy dx dy h1 h2;simp at hy;subst hy;have nx:x≠y:=λe=>h (e▸b.qk x hx)
   have:=(b.bd x hx dx (old h1 nx)).2;have:=new h2;lia
theorem Bin.done{v dv:Int}{kvs:List (Int×Int)}{q:List Int}(b:Bin m ts r v dv kvs q []):Bfs m ts r kvs q:=by
 have dn:∀p∈kvs,p.1∉q->∀w∈hd m ts p.1,Key kvs w:=λp hp hn w hw=>by
  by_cases e:p.1=v
  ·rw[e]at hw;rcases b.pr w hw with z|z
   ·cases z
   ·exact z
  ·exact b.dn p hp hn e w hw
 refine⟨b.nd,b.ok,b.rt,b.qk,dn,λv2 rr e=>?_,b.sr⟩;subst e;obtain⟨d2,h2⟩:=b.qk v2 aJ;have b2:=b.bd v2 aJ d2 h2;have sr:=List.pairwise_cons.mp b.sr;refine⟨d2,h2,λu hu du hd'=>by have:=(b.bd u (by simp[hu]) du hd').2;lia,λk w hk y=>?_⟩;by_cases z:(k:Int)<=dv
 ·exact b.ev k w z y
 ·have dvd:=(b.ok _ b.vk).1;obtain⟨kv,rfl,k1,k2⟩:=dvd;have:k=kv+1:=by lia
  subst this;rcases y with y|⟨u,y,hw⟩
  ·exact b.ev kv w (by lia) y
  ·obtain⟨du,hdu⟩:=b.ev kv u (by lia) y;have le:=(b.ok _ hdu).1.le y;have le:du<=kv:=le;refine dn (u,du) hdu (λhq=>?_) w hw;rcases aE.mp hq with e|hq
   ·have e:u=v2:=e;subst e;have:=((b.ok _ hdu).1).uniq (b.ok _ h2).1;have:du=d2:=this;lia
   ·have:=sr.1 u hq d2 du h2 hdu;lia
structure bE(m:Int)(ts:List (Int×Int))(r:Int)(kvs:List (Int×Int)):Prop where
 nd:(kvs.map (·.1)).Nodup
 ok:∀p∈kvs,cC m ts r p.1 p.2/\0<=p.1/\p.1<m
 all:∀k w,inR m ts r k w->Key kvs w
theorem Bfs.ways{kvs:List (Int×Int)}(b:Bfs m ts r kvs []):bE m ts r kvs:=by
 refine⟨b.nd,b.ok,λk=>?_⟩
 induction k with
 |zero=>intro w h;have h:w=r:=h;subst h;exact b.rt
 |succ k ih=>
  rintro w (h|⟨u,h,hw⟩)
  ·exact ih w h
  ·obtain⟨d,hu⟩:=ih u h;exact b.dn (u,d) hu (by simp) w hw
theorem eY{kvs:List (Int×Int)}(nd:(kvs.map (·.1)).Nodup){v d:Int}:atK kvs v=some d↔(v,d)∈kvs:=by
 rw[atK]
 induction kvs with
 |nil=>simp
 |cons p l ih=>
  rw[aS,List.nodup_cons]at nd;rw[List.find?_cons];by_cases e:p.1=v
  ·rw[decide_eq_true e];constructor
   ·intro h;cases h;rw[<-e];exact aJ
   ·intro h;rcases aE.mp h with z|z
    ·rw[<-z];rfl
    ·exact absurd (aN.mpr ⟨(v,d),z,e.symm⟩) nd.1
  ·rw[decide_eq_false e];rw[ih nd.2];constructor
   ·intro h;exact aK _ h
   ·intro h;rcases aE.mp h with z|z
    ·exact absurd (by rw[<-z]) e
    ·exact z
theorem gS(kvs:List (Int×Int))(v:Int):(kvs.any λp=>decide (p.1=v))=true↔Key kvs v:=by
 rw[cz];constructor
 ·rintro⟨p,hp,e⟩;exact⟨p.2,by rw[<-of_decide_eq_true e];exact hp⟩
 ·rintro⟨d,h⟩;exact⟨(v,d),h,by simp⟩
theorem bE.get{kvs kvs':List (Int×Int)}(a:bE m ts r kvs)(b:bE m ts r kvs')(v:Int):atK kvs v=atK kvs' v:=by
 have key:∀{x y:List (Int×Int)},bE m ts r x->bE m ts r y->∀d,atK x v=some d->atK y v=some d:=λ{x y} a b d h=>by
  rw[eY a.nd]at h;rw[eY b.nd];have h1:=(a.ok _ h).1;obtain⟨k,_,i,_⟩:=h1;obtain⟨e,he⟩:=b.all k v i;have:=cC.uniq (a.ok _ h).1 (b.ok _ he).1;have:d=e:=this;rw[this];exact he
 cases h:atK kvs v with
 |some d=>exact(key a b d h).symm
 |none=>
  cases h':atK kvs' v with
  |none=>rfl
  |some d=>rw[key b a d h']at h;cases h
theorem bE.mem{kvs:List (Int×Int)}(a:bE m ts r kvs){v:Int}:v∈kvs.map (·.1)↔∃k,inR m ts r k v:=by
 constructor
 ·intro h;obtain⟨p,hp,rfl⟩:=aN.mp h;obtain⟨k,_,i,_⟩:=(a.ok p hp).1;exact⟨k,i⟩
 ·rintro⟨k,h⟩;obtain⟨d,hd'⟩:=a.all k v h;exact aN.mpr ⟨(v,d),hd',rfl⟩
theorem bE.keys{kvs kvs':List (Int×Int)}(a:bE m ts r kvs)(b:bE m ts r kvs'):sortI (kvs.map (·.1))=sortI (kvs'.map (·.1)):=by
 have pm:(kvs.map (·.1)).Perm (kvs'.map (·.1)):=(List.perm_ext_iff_of_nodup a.nd b.nd).mpr λv=>by rw[a.mem,b.mem]
 exact iF ((sortI_perm _).trans pm) (jq _)
end
theorem CJ{w:W}{τ:Env}{J K:Env->Prop}{Q:D->Prop}{t:T}{b r:Ss}(I:Nat->Env->Prop){n:Nat}(h0:I n τ)(hn:n<fh)
  (ht:∀n σ,I n σ->∃v,evT w t σ=.ok v/\(v=true->∃k,n=k+1/\Ends (I k) Q (qe w b σ))/\(v=false->K σ)) (hr:∀σ,K σ->Ends J Q (qe w r σ)):Ends J Q (qe w (.cons (.while t b) r) τ):=by
 have key:∀(f n:Nat) (σ:Env),I n σ->n<f->Ends K Q (dE (λσ=>evT w t σ) (λσ=>qe w b σ) f σ):=by
  intro f
  induction f with
  |zero=>intro n σ _ h;lia
  |succ f ih=>
   intro n σ hi hf;obtain⟨v,e,a1,a2⟩:=ht n σ hi;rw[dE,e];simp only[R.out_ok];cases v with
   |false=>simp only[bZ,if_false];exact a2 rfl
   |true=>
    obtain⟨k,rfl,hb⟩:=a1 rfl;simp only[if_true];cases z:qe w b σ with
    |nx σ2=>rw[z]at hb;exact ih k σ2 hb (by lia)
    |rt d=>rw[z]at hb;exact hb
    |_=>rw[z]at hb;exact hb.elim
 refine jm (K:=K) ?_ hr;have hk:=key fh n τ h0 hn;rw[evS.eq_9];cases z:dE (λσ=>evT w t σ) (λσ=>qe w b σ) fh τ with
 |nx σ2=>rw[z]at hk;exact hk
 |rt d=>rw[z]at hk;exact hk
 |_=>rw[z]at hk;exact hk.elim
noncomputable def gA:Fn:=⟨2,6,false,(.cons (.set (.nm 2) (.dic1 (.var 1) (.con (.int 0)))) (.cons (.set (.nm 3) (.lst (.cons (.var 1) .nil))) (.cons (.while (.val (.own 3)) (.cons (.pop0 4 3) (.cons (.for (.nm 5) (.seq (.call "hood_of" (.cons (.var 0) (.cons (.var 4) .nil)))) (.cons (.ite (.cmp .notin (.var 5) (.own 2)) (.cons (.seti 2 (.var 5) (.op .add (.ix (.own 2) (.var 4)) (.con (.int 1)))) (.cons (.app 3 (.var 5)) .nil)) .nil) .nil)) .nil))) (.cons (.ret (.own 2)) .nil))))⟩
theorem fN{m:Int}{l:List Int}(nd:l.Nodup)(h:∀x∈l,0<=x/\x<m):l.length<=m.toNat:=by
 have s:∀x∈l,x∈rng m:=λx hx=>eM.mpr (h x hx)
 have key:∀{L M:List Int},L.Nodup->(∀x∈L,x∈M)->L.length<=M.length:=by
  intro L
  induction L with
  |nil=>intros;exact b8 _
  |cons x L ih=>
   intro M h s;have hx:=s x aJ;have h1:=List.nodup_cons.mp h;have:=ih (M:=M.erase x) h1.2 λy hy=>(List.mem_erase_of_ne (a:=y) (b:=x) (λe=>h1.1 (by rw[<-e];exact hy))).mpr (s y (aK _ hy))
   rw[List.length_erase_of_mem hx]at this;have:0<M.length:=List.length_pos_of_mem hx;rw[br];lia
 have:=key nd s
 rwa[eP]at this
theorem uC{kvs:List (Int×Int)}{u d:Int}(h:¬ Key kvs u):bP kvs u d=kvs++[(u,d)]:=by
 rw[bP,if_neg (λz=>h ((gS kvs u).mp z))]
section
variable{p:Pr}(hHo:p.fns "hood_of" = some eO)(hAt:p.fns "are_tied" = some el)(hf:p.fns "ways_from" = some gA)
include hHo hAt hf
theorem oK{k:Nat}{m:Int}{ts:List (Int×Int)}(h:GW m ts){r:Int}(h0:0<=r)(h1:r<m):∃kvs,bE m ts r kvs/\qa p (k+3) "ways_from" [wb m ts,.int r]=.ok (.dic kvs):=by
 have h8:=h.hi;have hood:∀a:Int,0<=a->a<m->qa p (k+2) "hood_of" [wb m ts,.int a]=.ok (tu (hd m ts a)):=λa _ _=>pT hHo hAt (k:=k) h a
 rw[qc hf];have main:Ends (λ_=>False) (λd=>∃kvs,bE m ts r kvs/\d=.dic kvs) (qe (wAt p (k+2)) gA.body [some (wb m ts),some (.int r),none,none,none,none]):=by
  refine zv (σ:=[some (wb m ts),some (.int r),some (.dic [(r,0)]),none,none,none]) rfl ?_;refine zv (σ:=[some (wb m ts),some (.int r),some (.dic [(r,0)]),some (.lst ([r].map D.int)),none,none]) rfl ?_;refine CJ (K:=λσ=>∃kvs v5 v6,bE m ts r kvs/\σ=[some (wb m ts),some (.int r),some (.dic kvs),some (.lst []),v5,v6])
   (λn σ=>∃kvs q v5 v6,Bfs m ts r kvs q/\n=q.length+(m.toNat-kvs.length)/\n<=8/\σ=[some (wb m ts),some (.int r),some (.dic kvs),some (.lst (q.map D.int)),v5,v6]) ⟨[(r,0)],[r],none,none,.start h0 h1,rfl,by simp;lia,rfl⟩ (by simp[fh];lia) ?_ ?_
  ·rintro n σ ⟨kvs,q,v5,v6,b,rfl,hn8,rfl⟩;cases q with
   |nil=>exact⟨false,rfl,λz=>(by cases z),λ_=>⟨kvs,v5,v6,b.ways,rfl⟩⟩
   |cons v q=>
    refine⟨true,rfl,λ_=>⟨q.length+(m.toNat-kvs.length),by rw[br];lia,?_⟩,λz=>(by cases z)⟩;obtain⟨dv,hv⟩:=b.qk v aJ;obtain⟨dv',bin⟩:=b.take;obtain⟨_,v0,v1⟩:=b.ok _ hv;refine zv (σ:=[some (wb m ts),some (.int r),some (.dic kvs),some (.lst (q.map D.int)),some (.int v),v6]) rfl ?_;have hh:=hood v v0 v1;refine dG (ds:=(hd m ts v).map D.int) (λl σ=>∃(us:List Int) (kvs':List (Int×Int)) (q':List Int) (v6:Option D),l=us.map D.int/\Bin m ts r v dv' kvs' q' us/\q'.length+(m.toNat-kvs'.length)=q.length+(m.toNat-kvs.length)/\σ=[some (wb m ts),some (.int r),some (.dic kvs'),some (.lst (q'.map D.int)),some (.int v),v6]) ?_ ⟨_,kvs,q,v6,rfl,bin,rfl,rfl⟩ ?_ ?_
    ·generalize wb m ts=WB at *;have e:seq? (tu (hd m ts v))=some ((hd m ts v).map D.int):=rfl;generalize tu (hd m ts v)=TH at *;simp[KG.Z,hh,e]
    ·rintro x t σ ⟨us,kvs',q',v6',e,bn,hm,rfl⟩;obtain⟨u,us,rfl,rfl,rfl⟩:=fx e;refine⟨[some (wb m ts),some (.int r),some (.dic kvs'),some (.lst (q'.map D.int)),some (.int v),some (.int u)],rfl,?_⟩;have kl:=fN bn.nd λy hy=>by
      obtain⟨p,hp,rfl⟩:=aN.mp hy;exact(bn.ok p hp).2
     rw[aI]at kl;have at1:ixD (.dic kvs') (.int v)=.ok (.int dv'):=by
      simp only[ixD,(eY bn.nd).mpr bn.vk]
     by_cases z:Key kvs' u
     ·have c1:qi .notin (.int u) (.dic kvs')=.ok false:=by
       simp only[qi,seq?,dq,R.bind_ok,(gS kvs' u).mpr z];rfl
      refine zv (σ:=[some (wb m ts),some (.int r),some (.dic kvs'),some (.lst (q'.map D.int)),some (.int v),some (.int u)]) ?_ (zF ⟨us,kvs',q',_,rfl,bn.old z,hm,rfl⟩);generalize wb m ts=WB at *;generalize D.dic kvs'=DK at *;generalize D.lst (q'.map D.int)=LQ at *;simp[KG.Z,c1]
     ·have c1:qi .notin (.int u) (.dic kvs')=.ok true:=by
       have:(kvs'.any λp=>decide (p.1=u))=false:=by
        cases q:(kvs'.any λp=>decide (p.1=u))with
        |false=>rfl
        |true=>exact absurd ((gS kvs' u).mp q) z
       simp only[qi,seq?,dq,R.bind_ok,this];rfl
      have bw:=bn.new z;have kl2:=fN bw.nd λy hy=>by
       obtain⟨p,hp,rfl⟩:=aN.mp hy;exact(bw.ok p hp).2
      rw[aI,bL]at kl2;simp only[br,List.length_nil]at kl2;have ql:q'.length<=8:=by rw[br]at hn8;lia
      have qz:(q'.map D.int).length<SZ:=by rw[aI];simp[SZ];lia
      have kz:kvs'.length<SZ:=by simp[SZ];lia
      have pn:=uC (d:=dv'+1) z;have a1:op2 .add (.int dv') (.int 1)=.ok (.int (dv'+1)):=rfl;refine zv (σ:=[some (wb m ts),some (.int r),some (.dic (kvs'++[(u,dv'+1)])),some (.lst ((q'++[u]).map D.int)),some (.int v),some (.int u)]) ?_ (zF ⟨us,_,_,_,rfl,bw,by rw[bL,bL];simp only[br,List.length_nil];lia,rfl⟩);rw[List.map_append];have st1:evS (wAt p (k+2)) (.seti 2 (.var 5) (.op .add (.ix (.own 2) (.var 4)) (.con (.int 1)))) [some (wb m ts),some (.int r),some (.dic kvs'),some (.lst (q'.map D.int)),some (.int v),some (.int u)]=.nx [some (wb m ts),some (.int r),some (.dic (kvs'++[(u,dv'+1)])),some (.lst (q'.map D.int)),some (.int v),some (.int u)]:=by
       have e1:evE (wAt p (k+2)) (.op .add (.ix (.own 2) (.var 4)) (.con (.int 1))) [some (wb m ts),some (.int r),some (.dic kvs'),some (.lst (q'.map D.int)),some (.int v),some (.int u)]=.ok (.int (dv'+1)):=by
        generalize wb m ts=WB at *;generalize D.dic kvs'=DK at *;generalize D.lst (q'.map D.int)=LQ at *;simp[KG.Z,at1,a1]
       rw[evS.eq_3,e1];show (if kvs'.length<SZ then EV.O.nx _ else EV.O.no)=_;rw[if_pos kz,pn];rfl
      have st2:evS (wAt p (k+2)) (.app 3 (.var 5)) [some (wb m ts),some (.int r),some (.dic (kvs'++[(u,dv'+1)])),some (.lst (q'.map D.int)),some (.int v),some (.int u)]=.nx [some (wb m ts),some (.int r),some (.dic (kvs'++[(u,dv'+1)])),some (.lst (q'.map D.int++[.int u])),some (.int v),some (.int u)]:=by
       rw[iG (xs:=q'.map D.int) (d:=.int u) rfl rfl qz];rfl
      have t1:evT (wAt p (k+2)) (.cmp .notin (.var 5) (.own 2)) [some (wb m ts),some (.int r),some (.dic kvs'),some (.lst (q'.map D.int)),some (.int v),some (.int u)]=.ok true:=by
       generalize wb m ts=WB at *;generalize D.dic kvs'=DK at *;generalize D.lst (q'.map D.int)=LQ at *;simp[KG.Z,c1]
      rw[evS.eq_7,t1];simp only[R.out_ok,if_true];rw[qe,st1];show qe _ (.cons _ .nil) _=_;rw[qe,st2];rfl
    ·rintro σ ⟨us,kvs',q',v6',e,bn,hm,rfl⟩;cases us with
     |nil=>exact zF ⟨kvs',q',_,_,bn.done,hm.symm,by rw[br]at hn8;lia,rfl⟩
     |cons _ _=>cases e
  ·rintro σ ⟨kvs,v5,v6,wy,rfl⟩;exact fZ (d:=.dic kvs) rfl ⟨kvs,wy,rfl⟩
 obtain⟨d,e,kvs,wy,rfl⟩:=iQ (w:=wAt p (k+2)) (f:=gA) (ds:=[wb m ts,.int r]) rfl rfl main;exact⟨kvs,wy,e⟩
end
theorem rq{kvs:List (Int×Int)}{u d:Int}:(bP kvs u d).map (·.1)=if (kvs.any λp=>decide (p.1=u))=true then kvs.map (·.1)else kvs.map (·.1)++[u]:=by
 rw[bP];split
 ·rw[b7];refine List.map_congr_left λp _=>?_
  show (if p.1=u then (p.1,d)else p).1=p.1;split<;>rfl
 ·rw[List.map_append];rfl
theorem nZ{kvs:List (Int×Int)}{u d:Int}(h:(kvs.map (·.1)).Nodup):((bP kvs u d).map (·.1)).Nodup:=by
 rw[rq];split
 ·exact h
 ·rename_i z
  refine List.nodup_append.mpr ⟨h,by simp,λa ha c hc e=>?_⟩;simp at hc;subst hc e;obtain⟨p,hp,e⟩:=aN.mp ha;exact z (cz.mpr ⟨p,hp,by simpa using e⟩)
theorem jk(kvs:List (Int×Int))(u d x:Int):atK (bP kvs u d) x=if x=u then some d else atK kvs x:=by
 rw[bP];split
 ·rename_i h
  have key:∀l:List (Int×Int),atK (l.map λp=>if p.1=u then (p.1,d)else p) x=if x=u then (atK l x).map λ_=>d else atK l x:=by
   intro l
   induction l with
   |nil=>simp[atK]
   |cons p l ih=>
    unfold atK at ih ⊢;rw[aS,List.find?_cons,List.find?_cons];by_cases e:p.1=u
    ·rw[if_pos e];by_cases f:p.1=x
     ·rw[decide_eq_true f];simp[<-f,e]
     ·rw[decide_eq_false f];exact ih
    ·rw[if_neg e];by_cases f:p.1=x
     ·have:¬ x=u:=λz=>e (f.trans z)
      rw[decide_eq_true f];simp[this]
     ·rw[decide_eq_false f];exact ih
  rw[key];by_cases e:x=u
  ·rw[if_pos e,if_pos e];obtain⟨p,hp,f⟩:=cz.mp h;have f:p.1=u:=by simpa using f
   cases q:atK kvs x with
   |some v=>rfl
   |none=>
    exfalso;unfold atK at q;rw[Option.map_eq_none_iff,List.find?_eq_none]at q;exact q p hp (by simp[f,e])
  ·rw[if_neg e,if_neg e]
 ·rename_i h
  unfold atK;rw[List.find?_append];by_cases e:x=u
  ·rw[if_pos e];have:kvs.find? (λp=>decide (p.1=x))=none:=by
    rw[List.find?_eq_none];intro p hp f;exact h (cz.mpr ⟨p,hp,by rw[<-e];exact f⟩)
   rw[this];simp[e]
  ·rw[if_neg e];have:[(u,d)].find? (λp=>decide (p.1=x))=none:=by
    have:¬ u=x:=λz=>e z.symm
    simp[this]
   rw[this];simp
section
variable{m:Int}{ts:List (Int×Int)}{r:Int}
structure Rd(m:Int)(ts:List (Int×Int))(r:Int)(t:Nat)(kvs:List (Int×Int)):Prop where
 nd:(kvs.map (·.1)).Nodup
 ok:∀x e,atK kvs x=some e->0<=x/\x<m/\∃k:Nat,e=k/\k<=t/\inR m ts r k x
noncomputable def Lss(kvs kvs':List (Int×Int)):Prop:=∀x e,atK kvs x=some e->∃e',atK kvs' x=some e'/\e'<=e
theorem Lss.refl(kvs:List (Int×Int)):Lss kvs kvs:=λx e h=>⟨e,h,Int.le_refl _⟩
theorem Lss.trans{a b c:List (Int×Int)}(h:Lss a b)(h':Lss b c):Lss a c:=λx e q=>by
 obtain⟨e1,q1,l1⟩:=h x e q;obtain⟨e2,q2,l2⟩:=h' x e1 q1;exact⟨e2,q2,by lia⟩
noncomputable def dZ(m:Int)(ts:List (Int×Int))(r:Int)(t:Nat)(kvs:List (Int×Int)):Prop:=∀(k:Nat) x,k<=t->inR m ts r k x->∃e,atK kvs x=some e/\e<=k
theorem dZ.less{t:Nat}{a b:List (Int×Int)}(h:dZ m ts r t a)(l:Lss a b):dZ m ts r t b:=λk x hk q=>by
 obtain⟨e,q1,l1⟩:=h k x hk q;obtain⟨e2,q2,l2⟩:=l x e q1;exact⟨e2,q2,by lia⟩
theorem Rd.up{t:Nat}{kvs:List (Int×Int)}(h:Rd m ts r t kvs):Rd m ts r (t+1) kvs:=⟨h.nd,λx e q=>by
 obtain⟨a,b,k,c,d,f⟩:=h.ok x e q;exact⟨a,b,k,c,by lia,f⟩⟩
theorem Rd.put{t:Nat}{kvs:List (Int×Int)}(h:Rd m ts r (t+1) kvs){u w du d:Int}(hu:atK kvs u=some du)(hdu:du<=t)(hw:w∈hd m ts u)(hd':d=(match atK kvs w with|some e=>if du+1<e then du+1 else e|none=>du+1)):Rd m ts r (t+1) (bP kvs w d)/\Lss kvs (bP kvs w d)/\∃e,atK (bP kvs w d) w=some e/\e<=du+1:=by
 obtain⟨w0,w1⟩:=i' hw;obtain⟨_,_,ku,rfl,ku1,ku2⟩:=h.ok u du hu;have hd1:d<=ku+1/\(∃k:Nat,d=k/\k<=t+1/\inR m ts r k w)/\∀e,atK kvs w=some e->d<=e:=by
  cases q:atK kvs w with
  |none=>
   rw[q]at hd';have hd':d=(ku:Int)+1:=hd';exact⟨by lia,⟨ku+1,by lia,by lia,.inr ⟨u,ku2,hw⟩⟩,λe z=>by cases z⟩
  |some e=>
   rw[q]at hd';have hd':d=if (ku:Int)+1<e then (ku:Int)+1 else e:=hd'
   obtain⟨_,_,k,rfl,k1,k2⟩:=h.ok w e q;by_cases z:(ku:Int)+1<k
   ·rw[if_pos z]at hd';refine⟨by lia,⟨ku+1,by lia,by lia,.inr ⟨u,ku2,hw⟩⟩,λe' z'=>?_⟩;cases z';lia
   ·rw[if_neg z]at hd';refine⟨by lia,⟨k,hd',k1,k2⟩,λe' z'=>?_⟩;cases z';lia
 obtain⟨a1,a2,a3⟩:=hd1;refine⟨⟨nZ h.nd,λx e q=>?_⟩,λx e q=>?_,d,by rw[jk,if_pos rfl],a1⟩
 ·rw[jk]at q;by_cases z:x=w
  ·rw[if_pos z]at q;cases q;subst z;exact⟨w0,w1,a2⟩
  ·rw[if_neg z]at q;exact h.ok x e q
 ·rw[jk];by_cases z:x=w
  ·rw[if_pos z];subst z;exact⟨d,rfl,a3 e q⟩
  ·rw[if_neg z];exact⟨e,q,Int.le_refl _⟩
theorem rC{v d:Int}(h0:0<=r)(h1:r<m)(h:cC m ts r v d):d<m:=by
 have key:∀(k:Nat) (v:Int),cC m ts r v k->0<=v/\v<m:=by
  intro k v h;obtain⟨j,e,i,mn⟩:=h;have:j=k:=by lia
  subst this;cases j with
  |zero=>
   have i:v=r:=i;subst i;exact⟨h0,h1⟩
  |succ j=>
   rcases i with i|⟨u,_,hw⟩
   ·exact absurd i (mn j (by lia))
   ·exact i' hw
 have chain:∀(k:Nat) (v:Int),cC m ts r v k->∃l:List Int,l.length=k+1/\l.Nodup/\(∀x∈l,0<=x/\x<m)/\∀x∈l,∃j:Nat,j<=k/\cC m ts r x j:=by
  intro k
  induction k with
  |zero=>intro v h;exact⟨[v],rfl,by simp,(λx hx=>by simp at hx;subst hx;exact key 0 x h),(λx hx=>by simp at hx;subst hx;exact⟨0,aD _,h⟩)⟩
  |succ k ih=>
   intro v h;have hv:=key (k+1) v h;obtain⟨j,e,i,mn⟩:=id h;have:j=k+1:=by lia
   subst this;rcases i with i|⟨u,i,hw⟩
   ·exact absurd i (mn k (by lia))
   ·have du:cC m ts r u k:=⟨k,rfl,i,λj hj y=>mn (j+1) (by lia) (.inr ⟨u,y,hw⟩)⟩
    obtain⟨l,l1,l2,l3,l4⟩:=ih u du;refine⟨v::l,by simp[l1],List.nodup_cons.mpr ⟨λz=>?_,l2⟩,λx hx=>?_,λx hx=>?_⟩
    ·obtain⟨j,j1,j2⟩:=l4 v z;have:=cC.uniq j2 h;lia
    ·rcases aE.mp hx with rfl|hx
     ·exact hv
     ·exact l3 x hx
    ·rcases aE.mp hx with rfl|hx
     ·exact⟨k+1,aD _,h⟩
     ·obtain⟨j,j1,j2⟩:=l4 x hx;exact⟨j,by lia,j2⟩
 obtain⟨k,rfl,_⟩:=id h;obtain⟨l,l1,l2,l3,_⟩:=chain k v h;have:=fN l2 l3;lia
theorem Rd.ways{kvs:List (Int×Int)}{t:Nat}(h0:0<=r)(h1:r<m)(h:Rd m ts r t kvs)(hm:m<=t)(u:dZ m ts r t kvs):bE m ts r kvs:=by
 refine⟨h.nd,λp hp=>?_,λk w hk=>?_⟩
 ·have q:=(eY h.nd (v:=p.1) (d:=p.2)).mpr hp;obtain⟨a,b,k,e,_,i⟩:=h.ok p.1 p.2 q;obtain⟨d,dd⟩:=rG i;have l1:=dd.le i;have l2:=rC h0 h1 dd;obtain⟨j,rfl,ij,mj⟩:=id dd;obtain⟨e',q',l3⟩:=u j p.1 (by lia) ij;rw[q]at q';cases q';have:p.2=j:=by lia
  rw[this];exact⟨dd,a,b⟩
 ·obtain⟨d,dd⟩:=rG hk;have l2:=rC h0 h1 dd;obtain⟨j,rfl,ij,mj⟩:=id dd;obtain⟨e',q',l3⟩:=u j w (by lia) ij;exact⟨e',(eY h.nd).mp q'⟩
theorem dZ.start:dZ m ts r 0 [(r,0)]:=λk x hk q=>by
 have:k=0:=by lia
 subst this;have q:x=r:=q;subst q;exact⟨0,by simp[atK],by lia⟩
theorem Rd.start(h0:0<=r)(h1:r<m):Rd m ts r 0 [(r,0)]:=⟨by simp,λx e q=>by
 have:x=r/\e=0:=by
  unfold atK at q;rw[List.find?_cons]at q;by_cases z:r=x
  ·rw[decide_eq_true z]at q;cases q;exact⟨z.symm,rfl⟩
  ·rw[decide_eq_false z]at q;cases q
 obtain⟨rfl,rfl⟩:=this;exact⟨h0,h1,0,rfl,aD _,rfl⟩⟩
theorem dZ.turn{t:Nat}{a b:List (Int×Int)}(h:dZ m ts r t a)(l:Lss a b)(lk:∀u du,atK a u=some du->∀w∈hd m ts u,∃e,atK b w=some e/\e<=du+1):dZ m ts r (t+1) b:=λk x hk q=>by
 by_cases z:k<=t
 ·exact(h.less l) k x z q
 ·have:k=t+1:=by lia
  subst this;rcases q with q|⟨u,q,hw⟩
  ·obtain⟨e,q1,l1⟩:=(h.less l) t x (aD _) q;exact⟨e,q1,by lia⟩
  ·obtain⟨du,q1,l1⟩:=h t u (aD _) q;obtain⟨e,q2,l2⟩:=lk u du q1 x hw;exact⟨e,q2,by lia⟩
end
noncomputable def fX:Fn:=⟨2,6,false,(.cons (.set (.nm 2) (.dic1 (.var 1) (.con (.int 0)))) (.cons (.for (.nm 3) (.rng (.ix (.var 0) (.con (.int 0)))) (.cons (.for (.nm 4) (.seq (.lsd (.own 2))) (.cons (.for (.nm 5) (.seq (.call "_law_hood" (.cons (.var 0) (.cons (.var 4) .nil)))) (.cons (.seti 2 (.var 5) (.ite (.cmp .ne (.var 5) (.var 4)) (.bi .min (.cons (.dget2 (.own 2) (.var 5) (.con (.int 99))) (.cons (.op .add (.ix (.own 2) (.var 4)) (.con (.int 1))) .nil))) (.ix (.own 2) (.var 5)))) .nil)) .nil)) .nil)) (.cons (.ret (.own 2)) .nil)))⟩
abbrev WS(m:Int)(ts:List (Int×Int))(r:Int)(kvs:List (Int×Int))(v3 v4 v5:Option D):Env:=[some (wb m ts),some (.int r),some (.dic kvs),v3,v4,v5]
theorem tO{w:W}{m:Int}{ts:List (Int×Int)}{r:Int}{kvs:List (Int×Int)}{v3:Option D}{u x du:Int}(nd:(kvs.map (·.1)).Nodup)(hu:atK kvs u=some du)(h8:du<=50)(hz:kvs.length<=8) :
  evS w (.seti 2 (.var 5) (.ite (.cmp .ne (.var 5) (.var 4)) (.bi .min (.cons (.dget2 (.own 2) (.var 5) (.con (.int 99))) (.cons (.op .add (.ix (.own 2) (.var 4)) (.con (.int 1))) .nil))) (.ix (.own 2) (.var 5)))) (WS m ts r kvs v3 (some (.int u)) (some (.int x)))=.nx (WS m ts r (bP kvs x (match atK kvs x with|some e=>if du+1<e then du+1 else e|none=>du+1)) v3 (some (.int u)) (some (.int x))):=by
 have kz:kvs.length<SZ:=by simp[SZ];lia
 have at1:ixD (.dic kvs) (.int u)=.ok (.int du):=by simp only[ixD,hu]
 have a1:op2 .add (.int du) (.int 1)=.ok (.int (du+1)):=rfl;have e1:evE w (.ite (.cmp .ne (.var 5) (.var 4)) (.bi .min (.cons (.dget2 (.own 2) (.var 5) (.con (.int 99))) (.cons (.op .add (.ix (.own 2) (.var 4)) (.con (.int 1))) .nil))) (.ix (.own 2) (.var 5))) (WS m ts r kvs v3 (some (.int u)) (some (.int x)))=.ok (.int (match atK kvs x with|some e=>if du+1<e then du+1 else e|none=>du+1)):=by
  have n1:=ne_int x u;by_cases z:x=u
  ·subst z;rw[decide_eq_true rfl]at n1;rw[hu];show _=R.ok (D.int (if du+1<du then du+1 else du));rw[if_neg (by lia)];dsimp only[WS];generalize wb m ts=WB at *;generalize D.dic kvs=DK at *;simp[KG.Z,n1,at1,evE.eq_15]
  ·rw[decide_eq_false z]at n1;have g2:gU kvs (.int x) (.int 99)=.ok (match atK kvs x with|some v=>.int v|none=>.int 99):=rfl;have c1:evT w (.cmp .ne (.var 5) (.var 4)) (WS m ts r kvs v3 (some (.int u)) (some (.int x)))=.ok true:=by
    dsimp only[WS];generalize wb m ts=WB at *;generalize D.dic kvs=DK at *;simp[KG.Z,n1]
   have c2:evE w (.op .add (.ix (.own 2) (.var 4)) (.con (.int 1))) (WS m ts r kvs v3 (some (.int u)) (some (.int x)))=.ok (.int (du+1)):=by
    dsimp only[WS];generalize wb m ts=WB at *;generalize D.dic kvs=DK at *;simp[KG.Z,at1,a1]
   have c3:evE w (.dget2 (.own 2) (.var 5) (.con (.int 99))) (WS m ts r kvs v3 (some (.int u)) (some (.int x)))=.ok (match atK kvs x with|some v=>.int v|none=>.int 99):=rfl;rw[evE.eq_15,c1];simp only[R.bind_ok,if_true];rw[evE.eq_22,zz,c3,zz,c2];simp only[R.bind_ok,zz];cases q:atK kvs x with
   |some e=>rfl
   |none=>
    show b12 .min (.int 99) (.int (du+1))=.ok (.int (du+1));show R.ok (D.int (if du+1<99 then du+1 else 99))=_;rw[if_pos (by lia)]
 rw[evS.eq_3,e1];show (if kvs.length<SZ then EV.O.nx _ else EV.O.no)=_;rw[if_pos kz];rfl
section
variable{p:Pr}(hH:p.fns "_law_hood" = some fJ)(hf:p.fns "_law_ways" = some fX)
include hH hf
theorem Cy{k:Nat}{m:Int}{ts:List (Int×Int)}(h:GW m ts){r:Int}(h0:0<=r)(h1:r<m):∃kvs,bE m ts r kvs/\qa p (k+2) "_law_ways" [wb m ts,.int r]=.ok (.dic kvs):=by
 have h8:=h.hi;have hx:ixD (wb m ts) (.int 0)=.ok (.int m):=rfl;have hm:zo m=true:=by have:=h.lo;simp[zo];lia
 have hood:∀a:Int,0<=a->a<m->qa p (k+1) "_law_hood" [wb m ts,.int a]=.ok (tu (hd m ts a)):=λa a0 a1=>BZ hH (k:=k) h ⟨a0,a1⟩
 have small:∀{t:Nat}{kvs:List (Int×Int)},Rd m ts r t kvs->kvs.length<=8:=λ{t kvs} b=>by
  have:=fN b.nd λy hy=>by
   obtain⟨q,hq,rfl⟩:=aN.mp hy;have:=b.ok q.1 q.2 ((eY b.nd).mpr hq);exact⟨this.1,this.2.1⟩
  rw[aI]at this;lia
 rw[qc hf];have main:Ends (λ_=>False) (λd=>∃kvs,bE m ts r kvs/\d=.dic kvs) (qe (wAt p (k+1)) fX.body (([wb m ts,.int r].map some)++bN 4 none)):=by
  refine zv (σ:=WS m ts r [(r,0)] none none none) rfl ?_;refine dG (ds:=(rng m).map D.int) (λl σ=>∃(t:Nat) (kvs:List (Int×Int)) (v3 v4 v5:Option D),l.length=m.toNat-t/\(t:Int)<=m/\Rd m ts r t kvs/\dZ m ts r t kvs/\σ=WS m ts r kvs v3 v4 v5) ?_ ⟨0,[(r,0)],none,none,none,by rw[aI,eP];rfl,by lia,.start h0 h1,.start,rfl⟩ ?_ ?_
  ·rw[<-fL];dsimp only[WS];generalize wb m ts=WB at *;simp[KG.Z,hx,hm]
  ·rintro x l σ ⟨t,kvs,v3,v4,v5,hl,htm,rd,up,rfl⟩;refine⟨WS m ts r kvs (some x) v4 v5,rfl,?_⟩;have htl:(t:Int)+1<=m:=by rw[br]at hl;lia
   refine dG (ds:=(kvs.map (·.1)).map D.int) (λl σ=>∃(us:List Int) (kvs':List (Int×Int)) (v4 v5:Option D),l=us.map D.int/\(∀u∈us,Key kvs u)/\Rd m ts r (t+1) kvs'/\Lss kvs kvs'/\(∀u du,atK kvs u=some du->u∈us\/∀w∈hd m ts u,∃e,atK kvs' w=some e/\e<=du+1)/\σ=WS m ts r kvs' (some x) v4 v5) ?_ ⟨kvs.map (·.1),kvs,v4,v5,rfl,λu hu=>?_,rd.up,.refl _,λu du hu=>.inl ?_,rfl⟩ ?_ ?_
   ·refine j_ ?_;show R.ok (D.lst (kvs.map λp=>.int p.1))=_;rw[b7];rfl
   ·obtain⟨q,hq,rfl⟩:=aN.mp hu;exact⟨q.2,hq⟩
   ·exact aN.mpr ⟨(u,du),(eY rd.nd).mp hu,rfl⟩
   ·rintro y l' σ ⟨us,kvs',v4',v5',e,hus,rd',ls,lk,rfl⟩;obtain⟨u,us,rfl,rfl,rfl⟩:=fx e;refine⟨WS m ts r kvs' (some x) (some (.int u)) v5',rfl,?_⟩;obtain⟨du,hdu⟩:=hus u aJ;have hdu:=(eY rd.nd).mpr hdu;obtain⟨u0,u1,ku,eku,kut,_⟩:=rd.ok u du hdu;obtain⟨d0,hd0,ld0⟩:=ls u du hdu;have hh:=hood u u0 u1;refine dG (ds:=(hd m ts u).map D.int) (λl σ=>∃(ws:List Int) (kv2:List (Int×Int)) (v5:Option D),l=ws.map D.int/\(∀w∈ws,w∈hd m ts u)/\Rd m ts r (t+1) kv2/\Lss kvs' kv2/\atK kv2 u=some d0/\(∀w∈hd m ts u,w∈ws\/∃e,atK kv2 w=some e/\e<=d0+1)/\σ=WS m ts r kv2 (some x) (some (.int u)) v5) ?_ ⟨hd m ts u,kvs',v5',rfl,λ_ h=>h,rd',.refl _,hd0,λw hw=>.inl hw,rfl⟩ ?_ ?_
    ·dsimp only[WS];have e:seq? (tu (hd m ts u))=some ((hd m ts u).map D.int):=rfl;generalize tu (hd m ts u)=TH at *;generalize wb m ts=WB at *;generalize D.dic kvs'=DK at *;simp[KG.Z,hh,e]
    ·rintro y l2 σ ⟨ws,kv2,v5'',e,hws,rd2,ls2,hu2,pr,rfl⟩;obtain⟨w,ws,rfl,rfl,rfl⟩:=fx e;refine⟨WS m ts r kv2 (some x) (some (.int u)) (some (.int w)),rfl,?_⟩;obtain⟨q1,q2,e3,q3,q4⟩:=rd2.put hu2 (by lia) (hws w aJ) rfl;refine zv (tO rd2.nd hu2 (by lia) (small rd2)) (zF ⟨ws,_,_,rfl,λy hy=>hws y (aK _ hy),q1,ls2.trans q2,?_,λy hy=>?_,rfl⟩)
     ·rw[jk];by_cases z:u=w
      ·rw[if_pos z,<-z,hu2];show some (if d0+1<d0 then d0+1 else d0)=some d0;rw[if_neg (by lia)]
      ·rw[if_neg z];exact hu2
     ·rcases pr y hy with z|⟨e,z1,z2⟩
      ·rcases aE.mp z with rfl|z
       ·exact .inr ⟨e3,q3,q4⟩
       ·exact .inl z
      ·obtain⟨e',z3,z4⟩:=q2 y e z1;exact .inr ⟨e',z3,by lia⟩
    ·rintro σ ⟨ws,kv2,v5'',e,hws,rd2,ls2,hu2,pr,rfl⟩;cases ws with
     |cons _ _=>cases e
     |nil=>
      refine zF ⟨us,kv2,_,_,rfl,λy hy=>hus y (aK _ hy),rd2,ls.trans ls2,λy dy hy=>?_,rfl⟩;rcases lk y dy hy with z|z
      ·rcases aE.mp z with rfl|z
       ·refine .inr λw hw=>?_
        rw[hdu]at hy;cases hy;rcases pr w hw with z|⟨e,z1,z2⟩
        ·cases z
        ·exact⟨e,z1,by lia⟩
       ·exact .inl z
      ·refine .inr λw hw=>?_
       obtain⟨e,z1,z2⟩:=z w hw;obtain⟨e',z3,z4⟩:=ls2 w e z1;exact⟨e',z3,by lia⟩
   ·rintro σ ⟨us,kvs',v4',v5',e,hus,rd',ls,lk,rfl⟩;cases us with
    |cons _ _=>cases e
    |nil=>
     refine zF ⟨t+1,kvs',_,_,_,by rw[br]at hl;lia,by lia,rd',up.turn ls λu du hu=>?_,rfl⟩;rcases lk u du hu with z|z
     ·cases z
     ·exact z
  ·rintro σ ⟨t,kvs,v3,v4,v5,hl,htm,rd,up,rfl⟩;have hl:0=m.toNat-t:=hl;exact fZ (d:=.dic kvs) rfl ⟨kvs,rd.ways h0 h1 (by lia) up,rfl⟩
 obtain⟨d,e,kvs,wy,rfl⟩:=iQ (w:=wAt p (k+1)) (f:=fX) (ds:=[wb m ts,.int r]) rfl rfl main;exact⟨kvs,wy,e⟩
end
section
variable{m:Int}{ts:List (Int×Int)}
theorem AA{a x:Int}(ha:0<=a/\a<m)(h:x∈hd m ts a):a∈hd m ts x:=by
 rw[vA]at h ⊢;exact⟨ha,h.2.imp Eq.symm λe=>by rw[vv];exact e⟩
noncomputable def Rch(m:Int)(ts:List (Int×Int))(r v:Int):Prop:=∃k,inR m ts r k v
theorem Rch.refl(r:Int):Rch m ts r r:=⟨0,rfl⟩
theorem Rch.step{r u v:Int}(h:Rch m ts r u)(q:v∈hd m ts u):Rch m ts r v:=by
 obtain⟨k,h⟩:=h;exact⟨k+1,.inr ⟨u,h,q⟩⟩
theorem Rch.trans{a b c:Int}(h:Rch m ts a b)(h':Rch m ts b c):Rch m ts a c:=by
 obtain⟨k,h'⟩:=h'
 induction k generalizing c with
 |zero=>
  have e:c=b:=h';rw[e];exact h
 |succ k ih=>
  rcases h' with q|⟨u,q,hw⟩
  ·exact ih q
  ·exact(ih q).step hw
theorem Rch.symm{a b:Int}(ha:0<=a/\a<m)(h:Rch m ts a b):Rch m ts b a/\0<=b/\b<m:=by
 obtain⟨k,h⟩:=h
 induction k generalizing b with
 |zero=>
  have e:b=a:=h;rw[e];exact⟨.refl a,ha⟩
 |succ k ih=>
  rcases h with q|⟨u,q,hw⟩
  ·exact ih q
  ·obtain⟨i1,i2⟩:=ih q;have:=AA (m:=m) (ts:=ts) i2 hw;exact⟨Rch.trans (Rch.step (.refl b) this) i1,i' hw⟩
theorem bE.key{r v:Int}{kvs:List (Int×Int)}(a:bE m ts r kvs):Key kvs v↔Rch m ts r v:=by
 constructor
 ·rintro⟨d,h⟩;obtain⟨k,_,i,_⟩:=(a.ok _ h).1;exact⟨k,i⟩
 ·rintro⟨k,h⟩;exact a.all k v h
noncomputable def ks(kvs:List (Int×Int)):List Int:=sortI (kvs.map (·.1))
theorem oD{kvs:List (Int×Int)}{v:Int}:v∈ks kvs↔Key kvs v:=by
 rw[ks,(sortI_perm _).mem_iff,aN];constructor
 ·rintro⟨p,hp,rfl⟩;exact⟨p.2,hp⟩
 ·rintro⟨d,h⟩;exact⟨(v,d),h,rfl⟩
theorem uI{a b:Int}{x y:List (Int×Int)}(ha:0<=a/\a<m)(hx:bE m ts a x)(hy:bE m ts b y)(h:Rch m ts a b):ks x=ks y:=by
 have hs:=(h.symm ha).1;have pm:(x.map (·.1)).Perm (y.map (·.1)):=(List.perm_ext_iff_of_nodup hx.nd hy.nd).mpr λv=>by
  rw[hx.mem,hy.mem];exact⟨λq=>hs.trans q,λq=>h.trans q⟩
 exact iF ((sortI_perm _).trans pm) (jq _)
noncomputable def ddp(S:Int->List Int):List Int->List (List Int)->List (List Int)
 | [],acc=>acc
 |a::l,acc=>ddp S l (if S a∈acc then acc else acc++[S a])
theorem B5{kvs:List (Int×Int)}{u d x:Int}:Key (bP kvs u d) x↔Key kvs x\/x=u:=by
 have e:∀l:List (Int×Int),Key l x↔x∈l.map (·.1):=λl=>by
  rw[aN];constructor
  ·rintro⟨d,h⟩;exact⟨(x,d),h,rfl⟩
  ·rintro⟨p,hp,rfl⟩;exact⟨p.2,hp⟩
 rw[e,e,rq];split
 ·rename_i h
  obtain⟨p,hp,f⟩:=cz.mp h;constructor
  ·exact .inl
  ·rintro(h|rfl)
   ·exact h
   ·exact aN.mpr ⟨p,hp,by simpa using f⟩
 ·simp
theorem kT{x:Int}:∀(ms kvs:List (Int×Int)),Key (cX kvs ms) x↔Key kvs x\/Key ms x
 | [],kvs=>by
  show Key kvs x↔_;constructor
  ·exact .inl
  ·rintro(h|⟨d,h⟩)
   ·exact h
   ·cases h
 |p::l,kvs=>by
  show Key (cX (bP kvs p.1 p.2) l) x↔_;rw[kT l,B5];constructor
  ·rintro((h|rfl)|⟨d,h⟩)
   ·exact .inl h
   ·exact .inr ⟨p.2,aJ⟩
   ·exact .inr ⟨d,aK _ h⟩
  ·rintro(h|⟨d,h⟩)
   ·exact .inl (.inl h)
   ·rcases aE.mp h with e|h
    ·exact .inl (.inr (by rw[<-e]))
    ·exact .inr ⟨d,h⟩
theorem oC:∀(ms kvs:List (Int×Int)),(kvs.map (·.1)).Nodup->((cX kvs ms).map (·.1)).Nodup
 | [],kvs,h=>h
 |p::l,kvs,h=>oC l (bP kvs p.1 p.2) (nZ h)
end
noncomputable def gp(b:Bool):Fn:=⟨1,5,b,(.cons (.exp (.call "need_web" (.cons (.var 0) .nil))) (.cons (.set (.nm 1) (.lst .nil)) (.cons (.set (.nm 2) .dic) (.cons (.for (.nm 3) (.rng (.ix (.var 0) (.con (.int 0)))) (.cons (.ite (.cmp .notin (.var 3) (.own 2)) (.cons (.set (.nm 4) (.call "ways_from" (.cons (.var 0) (.cons (.var 3) .nil)))) (.cons (.dupd 2 (.var 4)) (.cons (.app 1 (.bi .tuple (.cons (.bi .sorted (.cons (.var 4) .nil)) .nil))) .nil))) .nil) .nil)) (.cons (.ret (.own 1)) .nil)))))⟩
theorem mI{kvs:List (Int×Int)}(h:kvs.length<64):b1 .sorted [.dic kvs]=.ok (.lst ((ks kvs).map D.int)):=by
 show (if kvs.length<64 then R.ok (D.lst ((sortI (kvs.map (·.1))).map D.int))else .no)=_;rw[if_pos h];rfl
section
variable{p:Pr}{b:Bool}(B:Web p)(hf:p.fns "pieces" = some (gp b))
include B hf
theorem pieces{k:Nat}{m:Int}{ts:List (Int×Int)}(h:GW m ts){W:Int->List (Int×Int)}(hW:∀a,0<=a->a<m->bE m ts a (W a)/\qa p (k+4) "ways_from" [wb m ts,.int a]=.ok (.dic (W a))) :
  qa p (k+5) "pieces" [wb m ts]=.ok (.lst ((ddp (λa=>ks (W a)) (rng m) []).map tu)):=by
 have h8:=h.hi;have hl:=h.lo;have hx:ixD (wb m ts) (.int 0)=.ok (.int m):=rfl;have hm:zo m=true:=by simp[zo];lia
 have e1:=need_web B (k:=k) h;have wl:∀a,0<=a->a<m->(W a).length<=8:=λa a0 a1=>by
  have w:=(hW a a0 a1).1;have:=fN w.nd λy hy=>by
   obtain⟨q,hq,rfl⟩:=aN.mp hy;exact(w.ok q hq).2
  rw[aI]at this;lia
 rw[qc hf];have main:Ends (λ_=>False) (λd=>d=.lst ((ddp (λa=>ks (W a)) (rng m) []).map tu)) (qe (wAt p (k+4)) (gp b).body [some (wb m ts),none,none,none,none]):=by
  refine zv (σ:=[some (wb m ts),none,none,none,none]) (by generalize wb m ts=WB at *;simp[KG.Z,e1]) ?_;refine zv (σ:=[some (wb m ts),some (.lst []),none,none,none]) rfl ?_;refine zv (σ:=[some (wb m ts),some (.lst []),some (.dic []),none,none]) rfl ?_;refine dG (ds:=(rng m).map D.int) (λl σ=>∃(as:List Int) (acc:List (List Int)) (seen:List (Int×Int)) (v3 v4:Option D),l=as.map D.int/\(∀a∈as,0<=a/\a<m)/\ddp (λa=>ks (W a)) as acc=ddp (λa=>ks (W a)) (rng m) []/\acc.length+as.length<=8/\(seen.map (·.1)).Nodup/\(∀x,Key seen x->0<=x/\x<m)/\(∀x,0<=x->x<m->(Key seen x↔ks (W x)∈acc))/\σ=[some (wb m ts),some (.lst (acc.map tu)),some (.dic seen),v3,v4]) ?_ ⟨rng m,[],[],none,none,rfl,λa ha=>eM.mp ha,rfl,by rw[eP];simp;lia,by simp,λx ⟨d,z⟩=>(by cases z),λx _ _=>⟨λ⟨d,z⟩=>(by cases z),λz=>(by cases z)⟩,rfl⟩ ?_ ?_
  ·rw[<-fL];generalize wb m ts=WB at *;simp[KG.Z,hx,hm]
  ·rintro x l σ ⟨as,acc,seen,v3,v4,e,has,hd',hlen,nd,rg,iff,rfl⟩;obtain⟨a,as,rfl,rfl,rfl⟩:=fx e;obtain⟨a0,a1⟩:=has a aJ;refine⟨[some (wb m ts),some (.lst (acc.map tu)),some (.dic seen),some (.int a),v4],rfl,?_⟩;rw[ddp]at hd';rw[br]at hlen;by_cases z:Key seen a
   ·have c1:qi .notin (.int a) (.dic seen)=.ok false:=by
     simp only[qi,seq?,dq,R.bind_ok,(gS seen a).mpr z];rfl
    rw[if_pos ((iff a a0 a1).mp z)]at hd';refine zv (σ:=[some (wb m ts),some (.lst (acc.map tu)),some (.dic seen),some (.int a),v4]) ?_ (zF ⟨as,acc,seen,_,_,rfl,λy hy=>has y (aK _ hy),hd',by lia,nd,rg,iff,rfl⟩);generalize wb m ts=WB at *;generalize D.dic seen=DK at *;generalize D.lst (acc.map tu)=LQ at *;simp[KG.Z,c1]
   ·have c1:qi .notin (.int a) (.dic seen)=.ok true:=by
     have:(seen.any λp=>decide (p.1=a))=false:=by
      cases q:(seen.any λp=>decide (p.1=a))with
      |false=>rfl
      |true=>exact absurd ((gS seen a).mp q) z
     simp only[qi,seq?,dq,R.bind_ok,this];rfl
    have nz:ks (W a)∉acc:=λq=>z ((iff a a0 a1).mpr q)
    rw[if_neg nz]at hd';obtain⟨wa,ca⟩:=hW a a0 a1;have sl:=fN nd λy hy=>by
     obtain⟨q,hq,rfl⟩:=aN.mp hy;exact rg q.1 ⟨q.2,hq⟩
    rw[aI]at sl;have wl':=wl a a0 a1;have kz:seen.length+(W a).length<SZ:=by simp[SZ];lia
    have sd:=mI (kvs:=W a) (by lia);have az:(acc.map tu).length<SZ:=by rw[aI];simp[SZ];lia
    refine zv (σ:=[some (wb m ts),some (.lst ((acc++[ks (W a)]).map tu)),some (.dic (cX seen (W a))),some (.int a),some (.dic (W a))]) ?_ (zF ⟨as,_,_,_,_,rfl,λy hy=>has y (aK _ hy),hd',by rw[bL];simp only[br,List.length_nil];lia,oC _ _ nd,λx hx=>?_,λx x0 x1=>?_,rfl⟩)
    ·have s1:evS (wAt p (k+4)) (.set (.nm 4) (.call "ways_from" (.cons (.var 0) (.cons (.var 3) .nil)))) [some (wb m ts),some (.lst (acc.map tu)),some (.dic seen),some (.int a),v4]=.nx [some (wb m ts),some (.lst (acc.map tu)),some (.dic seen),some (.int a),some (.dic (W a))]:=by
      generalize wb m ts=WB at *;generalize D.dic seen=DK at *;generalize D.dic (W a)=DW at *;generalize D.lst (acc.map tu)=LQ at *;simp[KG.Z,ca]
     have s2:evS (wAt p (k+4)) (.dupd 2 (.var 4)) [some (wb m ts),some (.lst (acc.map tu)),some (.dic seen),some (.int a),some (.dic (W a))]=.nx [some (wb m ts),some (.lst (acc.map tu)),some (.dic (cX seen (W a))),some (.int a),some (.dic (W a))]:=by
      show (if seen.length+(W a).length<SZ then EV.O.nx _ else EV.O.no)=_;rw[if_pos kz];rfl
     have s3:evS (wAt p (k+4)) (.app 1 (.bi .tuple (.cons (.bi .sorted (.cons (.var 4) .nil)) .nil))) [some (wb m ts),some (.lst (acc.map tu)),some (.dic (cX seen (W a))),some (.int a),some (.dic (W a))]=.nx [some (wb m ts),some (.lst (acc.map tu++[tu (ks (W a))])),some (.dic (cX seen (W a))),some (.int a),some (.dic (W a))]:=by
      have t1:evE (wAt p (k+4)) (.bi .tuple (.cons (.bi .sorted (.cons (.var 4) .nil)) .nil)) [some (wb m ts),some (.lst (acc.map tu)),some (.dic (cX seen (W a))),some (.int a),some (.dic (W a))]=.ok (tu (ks (W a))):=by
       have t2:b1 .tuple [.lst ((ks (W a)).map D.int)]=.ok (tu (ks (W a))):=rfl;generalize wb m ts=WB at *;generalize D.dic (cX seen (W a))=DK at *;generalize D.dic (W a)=DW at *;generalize D.lst (acc.map tu)=LQ at *;generalize tu (ks (W a))=TT at *;simp[KG.Z,sd,t2]
      rw[iG (xs:=acc.map tu) (d:=tu (ks (W a))) rfl t1 az];rfl
     have t1:evT (wAt p (k+4)) (.cmp .notin (.var 3) (.own 2)) [some (wb m ts),some (.lst (acc.map tu)),some (.dic seen),some (.int a),v4]=.ok true:=by
      generalize wb m ts=WB at *;generalize D.dic seen=DK at *;generalize D.lst (acc.map tu)=LQ at *;simp[KG.Z,c1]
     rw[evS.eq_7,t1];simp only[R.out_ok,if_true];rw[qe,s1];show qe _ (.cons _ (.cons _ .nil)) _=_;rw[qe,s2];show qe _ (.cons _ .nil) _=_;rw[qe,s3,List.map_append];rfl
    ·rcases(kT (W a) seen).mp hx with q|⟨d,q⟩
     ·exact rg x q
     ·exact(wa.ok _ q).2
    ·rw[kT,iff x x0 x1,wa.key,List.mem_append];constructor
     ·rintro(q|q)
      ·exact .inl q
      ·exact .inr (by rw[uI ⟨a0,a1⟩ wa (hW x x0 x1).1 q];simp)
     ·rintro(q|q)
      ·exact .inl q
      ·simp only[aE,bM,or_false]at q;have:x∈ks (W x):=oD.mpr ((hW x x0 x1).1.key.mpr (.refl x));rw[q]at this;exact .inr (wa.key.mp (oD.mp this))
  ·rintro σ ⟨as,acc,seen,v3,v4,e,has,hd',hlen,nd,rg,iff,rfl⟩;cases as with
   |cons _ _=>cases e
   |nil=>
    rw[ddp]at hd';subst hd';exact fZ (d:=.lst ((ddp (λa=>ks (W a)) (rng m) []).map tu)) rfl rfl
 obtain⟨d,e,rfl⟩:=iQ (w:=wAt p (k+4)) (f:=gp b) (ds:=[wb m ts]) rfl rfl main;exact e
end
end KG
namespace KG
open EV
open PySem (Str)
open L2 (atI ixN ltP)
noncomputable def rg2(lo hi:Int):List Int:=(aW (hi-lo).toNat).map λ(i:Nat)=>lo+(i:Int)
theorem lO{lo hi i:Int}:i∈rg2 lo hi↔lo<=i/\i<hi:=by
 simp only[rg2,aN,List.mem_range];constructor
 ·rintro⟨a,h,rfl⟩;lia
 ·intro h;exact⟨(i-lo).toNat,by lia,by lia⟩
theorem xE(lo hi:Int):cD lo (hi-lo).toNat=(rg2 lo hi).map D.int:=by
 rw[cD,rg2,b7];rfl
noncomputable def PR(m:Int):List (Int×Int):=(rng m).flatMap λa=>(rg2 (a+1) m).map λb=>(a,b)
section
variable{p:Pr}
theorem yI(hf:p.fns "_law_pairs" = some eT){k:Nat}(m:Int)(h1:1<=m)(h2:m<=8):qa p (k+1) "_law_pairs" [.int m]=.ok (.lst ((PR m).map prD)):=by
 have:m=1\/m=2\/m=3\/m=4\/m=5\/m=6\/m=7\/m=8:=by lia
 rcases this with rfl|rfl|rfl|rfl|rfl|rfl|rfl|rfl<;>(rw[qc hf];kernel_rfl)
theorem pq(m:Int)(h1:1<=m)(h2:m<=8):(PR m).length<=28/\∀t∈PR m,0<=t.1/\t.1<t.2/\t.2<m:=by
 have:m=1\/m=2\/m=3\/m=4\/m=5\/m=6\/m=7\/m=8:=by lia
 rcases this with rfl|rfl|rfl|rfl|rfl|rfl|rfl|rfl<;>decide +kernel
end
noncomputable def srt(t:Int×Int):Int×Int:=if t.1<=t.2 then t else (t.2,t.1)
theorem An(a b:Int):sortI [a,b]=[(srt (a,b)).1,(srt (a,b)).2]:=by
 show insI a [b]=_;rw[insI,srt];by_cases h:a<=b
 ·rw[if_pos h,if_pos h]
 ·rw[if_neg h,if_neg h];rfl
theorem DC{a b c d:Int}(h:srt (a,b)=srt (c,d)):(a=c/\b=d)\/(a=d/\b=c):=by
 unfold srt at h;split at h<;>split at h<;>(injection h with h1 h2;lia)
structure Iok(m:Int)(I:List (Int×Int)):Prop where
 ok:∀t∈I,0<=t.1/\t.1<m/\0<=t.2/\t.2<m/\t.1≠t.2
 pw:I.Pairwise λs t=>¬ (s.1=t.1/\s.2=t.2)/\¬ (s.1=t.2/\s.2=t.1)
 len:I.length<=8
noncomputable instance (m:Int) (I:List (Int×Int)):Decidable (Iok m I):=
 decidable_of_iff ((∀t∈I,0<=t.1/\t.1<m/\0<=t.2/\t.2<m/\t.1≠t.2)/\I.Pairwise (λs t=>¬ (s.1=t.1/\s.2=t.2)/\¬ (s.1=t.2/\s.2=t.1))/\I.length<=8) ⟨λ⟨a,b,c⟩=>⟨a,b,c⟩,λ⟨a,b,c⟩=>⟨a,b,c⟩⟩
section
variable{m:Int}{o:List Int}
theorem mB(hp:o.Perm (rng m)){i:Int}(h0:0<=i)(h:i<m):0<=o.getD i.toNat 0/\o.getD i.toNat 0<m:=by
 have hl:i.toNat<o.length:=by rw[hp.length_eq,eP];lia
 have e:o.getD i.toNat 0=o[i.toNat]:=by simp[List.getD,hl]
 rw[e];exact eM.mp (hp.mem_iff.mp (List.getElem_mem hl))
theorem iA(hp:o.Perm (rng m)){i j:Int}(h0:0<=i)(h:i<m)(g0:0<=j)(g:j<m)(e:o.getD i.toNat 0=o.getD j.toNat 0):i=j:=by
 have nd:o.Nodup:=hp.nodup_iff.mpr ((oI m).imp λh=>Int.ne_of_lt h);have hl:i.toNat<o.length:=by rw[hp.length_eq,eP];lia
 have gl:j.toNat<o.length:=by rw[hp.length_eq,eP];lia
 have e1:o.getD i.toNat 0=o[i.toNat]:=by simp[List.getD,hl]
 have e2:o.getD j.toNat 0=o[j.toNat]:=by simp[List.getD,gl]
 rw[e1,e2]at e;have key:=List.pairwise_iff_getElem.mp nd;rcases Nat.lt_trichotomy i.toNat j.toNat with z|z|z
 ·exact absurd e (key _ _ hl gl z)
 ·lia
 ·exact absurd e.symm (key _ _ gl hl z)
noncomputable def zP(o:List Int)(t:Int×Int):Int×Int:=srt (o.getD t.1.toNat 0,o.getD t.2.toNat 0)
theorem y_(h1:1<=m)(h2:m<=8)(hp:o.Perm (rng m)){I:List (Int×Int)}(hI:Iok m I):GW m (zw (I.map (zP o))):=by
 have pm:=iU (I.map (zP o));have nd:(I.map (zP o)).Nodup:=by
  rw[List.Nodup,List.pairwise_map];refine hI.pw.imp_of_mem λ{s t} hs ht h e=>?_
  obtain⟨a1,a2,a3,a4,_⟩:=hI.ok s hs;obtain⟨b1,b2,b3,b4,_⟩:=hI.ok t ht;rcases DC e with ⟨e1,e2⟩|⟨e1,e2⟩
  ·exact h.1 ⟨iA hp a1 a2 b1 b2 e1,iA hp a3 a4 b3 b4 e2⟩
  ·exact h.2 ⟨iA hp a1 a2 b3 b4 e1,iA hp a3 a4 b1 b2 e2⟩
 refine⟨h1,h2,rF (iW _) (pm.nodup_iff.mpr nd),λt ht=>?_,?_⟩
 ·obtain⟨s,hs,rfl⟩:=aN.mp (pm.mem_iff.mp ht);obtain⟨a1,a2,a3,a4,a5⟩:=hI.ok s hs;have b1:=mB hp a1 a2;have b2:=mB hp a3 a4;have b3:o.getD s.1.toNat 0≠o.getD s.2.toNat 0:=λe=>a5 (iA hp a1 a2 a3 a4 e)
  rw[zP,srt];split<;>(simp only;simp only at *;lia)
 ·rw[pm.length_eq,aI];have:=hI.len;lia
theorem wN(hl:(o.length:Int)=m){i:Int}(h0:0<=i)(h:i<m):ixD (.lst (o.map D.int)) (.int i)=.ok (.int (o.getD i.toNat 0)):=by
 obtain⟨j,rfl⟩:∃j:Nat,i=j:=⟨i.toNat,by lia⟩
 have hj:j<o.length:=by lia
 have:=fW (xs:=o.map D.int) (i:=j) (by simpa using hj);simp only[ixD];rw[this];simp[hj]
end
theorem uh(j:Nat):rng ((j:Int)+1)=rng (j:Int)++[(j:Int)]:=by
 rw[rng,rng,show ((j:Int)+1).toNat=j+1 by lia,show ((j:Int)).toNat=j by lia,List.range_succ,List.map_append];rfl
theorem wj(m:Int):rng m=rg2 0 m:=by
 rw[rng,rg2,Int.sub_zero];simp
theorem oR{lo hi:Int}(h:lo<hi):rg2 lo hi=lo::rg2 (lo+1) hi:=by
 rw[rg2,rg2,show (hi-lo).toNat=(hi-(lo+1)).toNat+1 by lia,List.range_succ_eq_map,aS,b7]
 congr 1
 ·simp
 ·refine List.map_congr_left λi _=>?_
  simp only[Function.comp];lia
abbrev TE(m c:Int)(o:List Int)(v3 v4:Option D):Env:=[some (.int m),some (.int c),some (.lst (o.map D.int)),v3,v4]
noncomputable def i_:Fn:=⟨2,6,false,(.cons (.set (.nm 2) (.lst .nil)) (.cons (.for (.nm 3) (.rng (.var 0)) (.cons (.ins 2 (.op .mod (.call "_law_stir" (.cons (.var 1) (.cons (.op .add (.var 3) (.con (.int 40))) .nil))) (.op .add (.var 3) (.con (.int 1)))) (.var 3)) .nil)) (.cons (.set (.nm 4) (.lst .nil)) (.cons (.for (.nm 5) (.rng2 (.con (.int 1)) (.var 0)) (.cons (.app 4 (.bi .tuple (.cons (.bi .sorted (.cons (.lst (.cons (.ix (.own 2) (.var 5)) (.cons (.ix (.own 2) (.op .mod (.call "_law_stir" (.cons (.var 1) (.cons (.var 5) .nil))) (.var 5))) .nil))) .nil)) .nil))) .nil)) (.cons (.ret (.tup (.cons (.var 0) (.cons (.bi .tuple (.cons (.bi .sorted (.cons (.own 4) .nil)) .nil)) .nil)))) .nil)))))⟩
abbrev TB(m c:Int)(o:List Int)(v3 v4 v5:Option D):Env:=[some (.int m),some (.int c),some (.lst (o.map D.int)),v3,v4,v5]
noncomputable def It(c m:Int):List (Int×Int):=(rg2 1 m).map λi=>(i,st c i%i)
theorem xy(lo hi:Int):(rg2 lo hi).Pairwise (· < ·):=by
 rw[rg2,List.pairwise_map];exact List.pairwise_lt_range.imp λz=>by lia
theorem uP(c m:Int)(h2:m<=8):Iok m (It c m):=by
 have hm:∀i,i∈rg2 1 m->1<=i/\i<m/\0<=st c i%i/\st c i%i<i:=λi hi=>by
  obtain⟨a,b⟩:=lO.mp hi;exact⟨a,b,Int.emod_nonneg _ (by lia),Int.emod_lt_of_pos _ (by lia)⟩
 refine⟨λt ht=>?_,?_,?_⟩
 ·obtain⟨i,hi,rfl⟩:=aN.mp ht;obtain⟨a,b,c1,d⟩:=hm i hi;refine⟨?_,?_,?_,?_,?_⟩<;>(simp only;lia)
 ·rw[It,List.pairwise_map];refine(List.Pairwise.and_mem.mp (xy 1 m)).imp λ{i j} ⟨hi,hj,z⟩=>?_
  obtain⟨a,b,c1,d⟩:=hm i hi;obtain⟨a',b',c',d'⟩:=hm j hj;constructor
  ·rintro⟨e1,e2⟩;simp only at e1 e2;lia
  ·rintro⟨e1,e2⟩;simp only at e1 e2;lia
 ·rw[It,aI,rg2,aI,List.length_range];lia
theorem vK{p:Pr}(hS:p.fns "_law_stir" = some zI)(hf:p.fns "_law_tree_by" = some i_){k:Nat}(m c:Int)(h1:1<=m)(h2:m<=8):∃ts,GW m ts/\qa p (k+2) "_law_tree_by" [.int m,.int c]=.ok (wb m ts):=by
 suffices hs:∃d,qa p (k+2) "_law_tree_by" [.int m,.int c]=.ok d/\∃ts,GW m ts/\d=wb m ts by
  obtain⟨d,e,ts,g,rfl⟩:=hs;exact⟨ts,g,e⟩
 refine nB (k:=k+1) (τ:=[some (.int m),some (.int c),none,none,none,none]) hf rfl rfl ?_;refine zv (σ:=TB m c [] none none none) rfl ?_;have hm:zo m=true:=by simp[zo];lia
 refine dG (ds:=(rng m).map D.int) (λr σ=>∃(j:Nat) (o:List Int) (v3:Option D),(j:Int)<=m/\r=(rg2 (j:Int) m).map D.int/\o.Perm (rng (j:Int))/\σ=TB m c o v3 none none) (by rw[<-fL];simp[KG.Z,hm]) ⟨0,[],none,by lia,by rw[wj];rfl,by simp[rng],rfl⟩ ?_ ?_
 ·rintro x t σ ⟨j,o,v3,hj,e,hp,rfl⟩;have hlt:(j:Int)<m:=by
   by_cases z:(j:Int)<m
   ·exact z
   ·rw[rg2,show (m-(j:Int)).toNat=0 by lia]at e;cases e
  rw[oR hlt,aS]at e;injection e with e1 e2
  subst e1 e2;refine⟨TB m c o (some (.int (j:Nat))) none none,rfl,?_⟩;have e5:=fD hS (k:=k) c ((j:Int)+40);have z1:op2 .add (.int (j:Nat)) (.int 40)=.ok (.int ((j:Int)+40)):=rfl;have z2:op2 .add (.int (j:Nat)) (.int 1)=.ok (.int ((j:Int)+1)):=rfl;have z3:op2 .mod (.int (st c ((j:Int)+40))) (.int ((j:Int)+1))=.ok (.int (st c ((j:Int)+40)%((j:Int)+1))):=by
   show opI .mod _ _=_;rw[opI,if_pos (by lia)]
  have q0:=Int.emod_nonneg (st c ((j:Int)+40)) (show ((j:Int)+1)≠0 by lia);have q1:=Int.emod_lt_of_pos (st c ((j:Int)+40)) (show (0:Int)<(j:Int)+1 by lia);have hl:o.length=j:=by rw[hp.length_eq,eP];lia
  generalize st c ((j:Int)+40)%((j:Int)+1)=q at *;have hk:evE (wAt p (k+1)) (.op .mod (.call "_law_stir" (.cons (.var 1) (.cons (.op .add (.var 3) (.con (.int 40))) .nil))) (.op .add (.var 3) (.con (.int 1)))) (TB m c o (some (.int (j:Nat))) none none)=.ok (.int q):=by
   dsimp only[TB];generalize st c ((j:Int)+40)=QQ at *;generalize (j:Int)+40=J1 at *;generalize (j:Int)+1=J2 at *;generalize (j:Int)=J at *;simp[KG.Z,z1,z2,z3,e5]
  refine zv (σ:=TB m c (o.take q.toNat++(j:Int)::o.drop q.toNat) (some (.int (j:Nat))) none none) ?_ (zF ⟨j+1,_,_,by lia,by rw[show (((j+1:Nat)):Int)=(j:Int)+1 by lia],?_,rfl⟩)
  ·rw[evS.eq_12];show ((evE (wAt p (k+1)) _ (TB m c o (some (.int (j:Nat))) none none)).out _)=_;rw[hk];show ig (.lst (o.map D.int)) (.int q) (.int (j:Nat)) 2 (TB m c o (some (.int (j:Nat))) none none)=_;rw[ig];rw[if_pos ⟨q0,by rw[aI,hl];lia,by simp[SZ,hl];lia⟩,<-List.map_take,<-List.map_drop,<-aS,<-List.map_append]
   rfl
  ·rw[show (((j+1:Nat)):Int)=(j:Int)+1 by lia,uh];have a1:(o.take q.toNat++(j:Int)::o.drop q.toNat).Perm ((j:Int)::o):=by
    have:=List.perm_middle (a:=(j:Int)) (l₁:=o.take q.toNat) (l₂:=o.drop q.toNat)
    rwa[List.take_append_drop]at this
   exact a1.trans ((hp.cons _).trans (List.perm_append_comm (l₁:=[(j:Int)]) (l₂:=rng (j:Int))))
 ·rintro σ ⟨j,o,v3,hj,e,hp,rfl⟩;have hjm:(j:Int)=m:=by
   by_cases z:(j:Int)<m
   ·rw[oR z]at e;cases e
   ·lia
  rw[hjm]at hp;have hl:(o.length:Int)=m:=by rw[hp.length_eq,eP];lia
  have ho:=λ(i:Int) (h0:0<=i) (h:i<m)=>wN (o:=o) hl h0 h
  refine zv (σ:=TB m c o v3 (some (.lst [])) none) rfl ?_;have iok:=uP c m h2;refine dG (ds:=(rg2 1 m).map D.int) (λr σ=>∃(pre us:List Int) (v5:Option D),r=us.map D.int/\pre++us=rg2 1 m/\σ=TB m c o v3 (some (.lst (((pre.map λi=>(i,st c i%i)).map (zP o)).map prD))) v5) ?_ ⟨[],rg2 1 m,none,rfl,rfl,rfl⟩ ?_ ?_
  ·have s1:zo (1:Int)=true:=by decide
   rw[<-xE];dsimp only[TB];generalize D.lst (o.map D.int)=OL at *;simp[KG.Z,hm,s1]
  ·rintro x t σ ⟨pre,us,v5,e,hus,rfl⟩;obtain⟨i,us,rfl,rfl,rfl⟩:=fx e;have hi:i∈rg2 1 m:=by rw[<-hus];simp
   obtain⟨i1,i2⟩:=lO.mp hi;have t0:0<=st c i%i:=Int.emod_nonneg _ (by lia);have t1:st c i%i<i:=Int.emod_lt_of_pos _ (by lia);refine⟨TB m c o v3 (some (.lst (((pre.map λi=>(i,st c i%i)).map (zP o)).map prD))) (some (.int i)),rfl,?_⟩;have a0:=ho i (by lia) i2;have a1:=ho (st c i%i) t0 (by lia);have e5:=fD hS (k:=k) c i;have z3:op2 .mod (.int (st c i)) (.int i)=.ok (.int (st c i%i)):=by
    show opI .mod _ _=_;rw[opI,if_pos (by lia)]
   have pl:pre.length<=8:=by
    have:=congrArg List.length hus;rw[bL,rg2,aI,List.length_range]at this;lia
   have pz:((((pre.map λi=>(i,st c i%i)).map (zP o)).map prD)).length<SZ:=by simp[SZ];lia
   have hE:evE (wAt p (k+1)) (.bi .tuple (.cons (.bi .sorted (.cons (.lst (.cons (.ix (.own 2) (.var 5)) (.cons (.ix (.own 2) (.op .mod (.call "_law_stir" (.cons (.var 1) (.cons (.var 5) .nil))) (.var 5))) .nil))) .nil)) .nil)) (TB m c o v3 (some (.lst (((pre.map λi=>(i,st c i%i)).map (zP o)).map prD))) (some (.int i)))=.ok (prD (zP o (i,st c i%i))):=by
    have b1':b1 .sorted [.lst [.int (o.getD i.toNat 0),.int (o.getD (st c i%i).toNat 0)]]=.ok (.lst ((sortI [o.getD i.toNat 0,o.getD (st c i%i).toNat 0]).map D.int)):=rfl;have b2':b1 .tuple [.lst ((sortI [o.getD i.toNat 0,o.getD (st c i%i).toNat 0]).map D.int)]=.ok (prD (zP o (i,st c i%i))):=by rw[An];rfl
    dsimp only[TB];generalize D.lst ((sortI [o.getD i.toNat 0,o.getD (st c i%i).toNat 0]).map D.int)=Y at *;generalize prD (zP o (i,st c i%i))=Z at *;generalize D.lst (((pre.map λi=>(i,st c i%i)).map (zP o)).map prD)=L4 at *;generalize D.lst (o.map D.int)=OL at *;generalize o.getD (st c i%i).toNat 0=A2 at *;generalize o.getD i.toNat 0=A1 at *;generalize st c i%i=R1 at *;generalize st c i=S1 at *;simp[KG.Z,a0,a1,e5,z3,b1',b2']
   refine zv (σ:=TB m c o v3 (some (.lst ((((pre++[i]).map λi=>(i,st c i%i)).map (zP o)).map prD))) (some (.int i))) ?_ (zF ⟨pre++[i],us,_,rfl,by simpa using hus,rfl⟩);rw[iG (xs:=(((pre.map λi=>(i,st c i%i)).map (zP o)).map prD)) (d:=prD (zP o (i,st c i%i))) rfl hE pz];simp only[List.map_append,aS,List.map_nil]
   rfl
  ·rintro σ ⟨pre,us,v5,e,hus,rfl⟩;cases us with
   |cons _ _=>cases e
   |nil=>
    rw[List.append_nil]at hus;subst hus;show Ends _ _ (qe (wAt p (k+1)) (.cons (.ret _) .nil) (TB m c o v3 (some (.lst (((It c m).map (zP o)).map prD))) v5));refine fZ (d:=wb m (zw ((It c m).map (zP o)))) ?_ ⟨_,y_ h1 h2 hp iok,rfl⟩;have t2:=rN ((It c m).map (zP o)) (by rw[aI];have:=iok.len;lia);have t3:b1 .tuple [.lst ((zw ((It c m).map (zP o))).map prD)]=.ok (.tup ((zw ((It c m).map (zP o))).map prD)):=rfl;dsimp only[TB];show _=R.ok (D.tup [.int m,.tup ((zw ((It c m).map (zP o))).map prD)]);generalize D.lst (((It c m).map (zP o)).map prD)=L1 at *;generalize D.lst ((zw ((It c m).map (zP o))).map prD)=L2 at *;generalize D.tup ((zw ((It c m).map (zP o))).map prD)=L3 at *;generalize D.lst (o.map D.int)=OL at *;simp[KG.Z,t2,t3]
end KG
namespace K03
open EV KG
open PySem (Str)
open L2 (atI ixN ltP atK)
noncomputable def depth:Nat:=12
theorem B:Web p:=⟨by kernel_rfl,by kernel_rfl,by kernel_rfl,by kernel_rfl,by kernel_rfl,by kernel_rfl,by kernel_rfl,by kernel_rfl⟩
theorem hHo:p.fns "hood_of" = some KG.eO:=by kernel_rfl
theorem hAt:p.fns "are_tied" = some KG.el:=by kernel_rfl
theorem hWf:p.fns "ways_from" = some KG.gA:=by kernel_rfl
theorem hPc:p.fns "pieces" = some (KG.gp true):=by kernel_rfl
theorem hLH:p.fns "_law_hood" = some KG.fJ:=by kernel_rfl
theorem hLW:p.fns "_law_ways" = some KG.fX:=by kernel_rfl
theorem hNW:p.fns "_law_no_web" = some KG.gO:=by kernel_rfl
theorem hTB:p.fns "_law_tree_by" = some KG.i_:=by kernel_rfl
theorem hSt:p.fns "_law_stir" = some KG.zI:=by kernel_rfl
theorem hPr:p.fns "_law_pairs" = some KG.eT:=by kernel_rfl
theorem hWb:p.fns "_law_web_by" = some KG.gF:=by kernel_rfl
theorem hSm:p.fns "_law_same" = some KG.zQ:=by kernel_rfl
theorem m5{k:Nat}(i m:Int)(t:D):qa p (k+3) "is_place" [.tup [.int m,t],.int i]=.ok (.bl (decide (0<=i/\i<=m-1))):=by
 have e:=oh B (k:=k) i 0 (m-1);rw[qc rJ];refine qX rfl rfl ?_;simp[KG.Z,KG.eJ,ixD,atI,ixN,op2,e]
theorem uo{k:Nat}{d:D}(h:od d=true)(m:Int)(t:D):qa p (k+3) "is_place" [.tup [.int m,t],d]=.ok (.bl false):=by
 have e:=λa b=>lb B (k:=k) h a b
 rw[qc rJ];refine qX rfl rfl ?_;simp[KG.Z,KG.eJ,ixD,atI,ixN,op2,e]
noncomputable def BW(d:D):Prop:=∀k,qa p (k+3) "is_web" [d]=.ok (.bl false)
noncomputable def BP(u d:D):Prop:=∀k,qa p (k+3) "is_place" [u,d]=.ok (.bl false)
theorem Dq{k:Nat}{m:Int}(hm:1<=m/\m<=8)(t:D)(n:Int):∃d,qa p (k+1) "_law_no_place" [.int m,.int n]=.ok d/\BP (.tup [.int m,t]) d:=by
 have hT:op2 .pow (.int 10) (.int 30)=.ok (.int (10^30)):=by rw[op2,opI,if_pos (by decide)];rfl
 have hU:op2 .pow (.int 10) (.int 20)=.ok (.int (10^20)):=by rw[op2,opI,if_pos (by decide)];rfl
 have h8:(8:Int)<10^30:=by decide
 have h9:(8:Int)<10^20:=by decide
 generalize (10:Int)^30=T at *;generalize (10:Int)^20=V at *;have nm:∀i:Int,¬ (0<=i/\i<=m-1)->BP (.tup [.int m,t]) (.int i):=λi hi k=>by rw[m5,decide_eq_false hi]
 have ot:∀d,od d=true->BP (.tup [.int m,t]) d:=λd hd k=>uo hd m t
 have hL:∀d∈([.int m,.int (-1),.bl true,.bl false,.non,.str "0",.tup [.int 0],.int T,.lst [.int 0],.dic [],.int (-V),.int (m+7)]:List D),BP (.tup [.int m,t]) d:=by
  simp only[List.forall_mem_cons];exact⟨nm _ (by lia),nm _ (by lia),ot _ rfl,ot _ rfl,ot _ rfl,ot _ rfl,ot _ rfl,nm _ (by lia),ot _ rfl,ot _ rfl,nm _ (by lia),nm _ (by lia),by simp⟩
 obtain⟨d,e,hd⟩:=pick hL (n%12) ⟨by lia,by show n%12<12;lia⟩;refine⟨d,?_,hd⟩;have a3:op2 .mod (.int n) (.int 12)=.ok (.int (n%12)):=rfl;have a4:op2 .add (.int m) (.int 7)=.ok (.int (m+7)):=rfl;rw[qc Al];refine qX rfl rfl ?_;simp[KG.Z,kF,hT,hU,a3,a4,za,qt];rw[e];rfl
section
variable{k:Nat}
theorem vF{d:D}(h:BW d):qa p (k+4) "need_web" [d]=.ex "NoWeb":=by
 have h:=h k;rw[qc B.need_web];simp only[zV];simp[KG.Z,KG.gL,h]
theorem oY{u d:D}(h:BP u d):qa p (k+4) "need_place" [u,d]=.ex "NoPlace":=by
 have h:=h k;rw[qc oM];simp only[zV];simp[KG.Z,KG.fK,h]
theorem jI{m:Int}{ts:List (Int×Int)}{i:Int}(h:0<=i/\i<m):qa p (k+4) "need_place" [wb m ts,.int i]=.ok .non:=by
 have e:qa p (k+3) "is_place" [wb m ts,.int i]=.ok (.bl true):=by
  have:=m5 (k:=k) i m (.tup (ts.map prD));rw[decide_eq_true (by lia)]at this;exact this
 generalize wb m ts=WB at *;rw[qc oM];simp only[zV];simp[KG.Z,KG.fK,e]
end
noncomputable def gD(kvs:List (Int×Int))(b:Int):D:=match atK kvs b with
 |some v=>.int v
 |none=>.non
theorem wM{k:Nat}{m:Int}{ts:List (Int×Int)}(h:GW m ts){a b:Int}(ha:0<=a/\a<m)(hb:0<=b/\b<m){kvs:List (Int×Int)}(hw:qa p (k+4) "ways_from" [wb m ts,.int a]=.ok (.dic kvs)):qa p (k+5) "far" [wb m ts,.int a,.int b]=.ok (gD kvs b):=by
 have e1:=need_web B (k:=k) h;have e2:=jI (k:=k) (ts:=ts) ha;have e3:=jI (k:=k) (ts:=ts) hb;have e4:gP kvs (.int b)=.ok (gD kvs b):=rfl;rw[qc ji];refine qX (τ:=[some (wb m ts),some (.int a),some (.int b)]) rfl rfl ?_;have hr:evE (wAt p (k+4)) (.dget (.call "ways_from" (.cons (.var 0) (.cons (.var 1) .nil))) (.var 2)) [some (wb m ts),some (.int a),some (.int b)]=.ok (gD kvs b):=by
  have hc:evE (wAt p (k+4)) (.call "ways_from" (.cons (.var 0) (.cons (.var 1) .nil))) [some (wb m ts),some (.int a),some (.int b)]=.ok (.dic kvs):=by
   generalize wb m ts=WB at *;generalize D.dic kvs=DK at *;simp[KG.Z,hw]
  show ((evE (wAt p (k+4)) (.call "ways_from" (.cons (.var 0) (.cons (.var 1) .nil))) _).bind _)=_;rw[hc];exact e4
 refine zG (σ:=[some (wb m ts),some (.int a),some (.int b)]) (by generalize wb m ts=WB at *;simp[KG.Z,e1]) ?_;refine zG (σ:=[some (wb m ts),some (.int a),some (.int b)]) (by generalize wb m ts=WB at *;simp[KG.Z,e2]) ?_;refine zG (σ:=[some (wb m ts),some (.int a),some (.int b)]) (by generalize wb m ts=WB at *;simp[KG.Z,e3]) ?_;show qe (wAt p (k+4)) (.cons (.ret _) .nil) _=_;rw[qe,zL,hr];rfl
theorem Bj{k:Nat}{d a b:D}(h:BW d):qa p (k+5) "far" [d,a,b]=.ex "NoWeb":=by
 have e1:=vF (k:=k) h;rw[qc ji];simp only[zV];simp[KG.Z,iz,e1]
theorem Br{k:Nat}{m:Int}{ts:List (Int×Int)}(h:GW m ts){a b:D}(ha:BP (wb m ts) a):qa p (k+5) "far" [wb m ts,a,b]=.ex "NoPlace":=by
 have e1:=need_web B (k:=k) h;have e2:=oY (k:=k) ha;generalize wb m ts=WB at *;rw[qc ji];simp only[zV];simp[KG.Z,iz,e1,e2]
theorem BJ{k:Nat}{m:Int}{ts:List (Int×Int)}(h:GW m ts){a:Int}(ha:0<=a/\a<m){b:D}(hb:BP (wb m ts) b):qa p (k+5) "far" [wb m ts,.int a,b]=.ex "NoPlace":=by
 have e1:=need_web B (k:=k) h;have e2:=jI (k:=k) (ts:=ts) ha;have e3:=oY (k:=k) hb;generalize wb m ts=WB at *;rw[qc ji];simp only[zV];simp[KG.Z,iz,e1,e2,e3]
theorem Cd{k:Nat}{a b c d:D}(h0:qa p (k+7) "far" [a,b,c]=.ok d):qa p (k+8) "_law_told" [a,b,c]=.ok d:=by
 rw[qc ou];refine qX (τ:=[some a,some b,some c,none]) rfl rfl ?_;simp[KG.Z,jX,zH,h0]
theorem kK{k:Nat}{a b c:D}{X:Str}{r:Int}(h0:qa p (k+7) "far" [a,b,c]=.ex X)(hk:qa p (k+7) "_law_kinds" [.exn X]=.ok (.int r))(hc:p.cat X "PlaceError" = true):qa p (k+8) "_law_told" [a,b,c]=.ok (.tup [.str "no",.int r]):=by
 rw[qc ou];refine qX (τ:=[some a,some b,some c,none]) rfl rfl ?_;have hb:qe (wAt p (k+7)) (.cons (.ret (.call "far" (.cons (.var 0) (.cons (.var 1) (.cons (.var 2) .nil))))) .nil) [some a,some b,some c,none]=.ex X:=by
  simp[KG.Z,h0]
 show qe (wAt p (k+7)) (.cons (.try _ "PlaceError" (some 3) _) _) _=_;rw[qe,zH,hb];have hc':(wAt p (k+7)).cat X "PlaceError" = true:=hc;simp only[hc',if_true,dt];simp[KG.Z,hk,O.rtOnly,hc]
theorem xD{k:Nat}{d a b:D}(h:BW d):qa p (k+8) "_law_told" [d,a,b]=.ok (.tup [.str "no",.int 0]):=kK (X:="NoWeb") (Bj (k:=k+2) h) (by rw[qc jT];kernel_rfl) (by kernel_rfl)
theorem sN{k:Nat}{m:Int}{ts:List (Int×Int)}(h:GW m ts){a b:D}(ha:BP (wb m ts) a):qa p (k+8) "_law_told" [wb m ts,a,b]=.ok (.tup [.str "no",.int 2]):=kK (X:="NoPlace") (Br (k:=k+2) h ha) (by rw[qc jT];kernel_rfl) (by kernel_rfl)
theorem Eg{k:Nat}{m:Int}{ts:List (Int×Int)}(h:GW m ts){a:Int}(ha:0<=a/\a<m){b:D}(hb:BP (wb m ts) b):qa p (k+8) "_law_told" [wb m ts,.int a,b]=.ok (.tup [.str "no",.int 2]):=kK (X:="NoPlace") (BJ (k:=k+2) h ha hb) (by rw[qc jT];kernel_rfl) (by kernel_rfl)
open Classical in
noncomputable def CW(m:Int)(ts:List (Int×Int))(a:Int):List (Int×Int):=if h:∃kvs,bE m ts a kvs then Classical.choose h else []
theorem cw{m:Int}{ts:List (Int×Int)}{a:Int}{kvs:List (Int×Int)}(h:bE m ts a kvs):bE m ts a (CW m ts a):=by
 have e:∃kvs,bE m ts a kvs:=⟨kvs,h⟩
 rw[CW,dif_pos e];exact Classical.choose_spec e
theorem uz{k:Nat}:qa p (k+1) "_law_same" [.non,.non]=.ok (.bl true):=by
 rw[qc hSm];kernel_rfl
theorem D0{k:Nat}(kvs:List (Int×Int))(b:Int):qa p (k+1) "_law_same" [gD kvs b,gD kvs b]=.ok (.bl true):=by
 rw[gD];split
 ·exact same_int hSm _
 ·exact uz
theorem oa{S S':Int->List Int}:∀(l:List Int) (acc:List (List Int)),(∀a∈l,S a=S' a)->ddp S l acc=ddp S' l acc
 | [],_,_=>rfl
 |a::l,acc,h=>by
  rw[ddp,ddp,h a aJ];exact oa l _ λx hx=>h x (aK _ hx)
noncomputable abbrev PC(m:Int)(ts:List (Int×Int)):List (List Int):=ddp (λa=>ks (CW m ts a)) (rng m) []
section
variable{k:Nat}{m:Int}{ts:List (Int×Int)}(h:GW m ts)
include h
theorem ve{a b:Int}(ha:0<=a/\a<m)(hb:0<=b/\b<m):qa p (k+5) "far" [wb m ts,.int a,.int b]=.ok (gD (CW m ts a) b):=by
 obtain⟨kvs,w,e⟩:=oK hHo hAt hWf (k:=k+1) h ha.1 ha.2;have:=wM h ha hb e;rw[this,gD,gD,w.get (cw w) b]
theorem Av{a:Int}(ha:0<=a/\a<m):∃kvs,qa p (k+2) "_law_ways" [wb m ts,.int a]=.ok (.dic kvs)/\ks kvs=ks (CW m ts a)/\(∀b,gD kvs b=gD (CW m ts a) b)/\kvs.length<64:=by
 obtain⟨kvs,w,e⟩:=Cy hLH hLW (k:=k) h ha.1 ha.2;refine⟨kvs,e,w.keys (cw w),λb=>by rw[gD,gD,w.get (cw w) b],?_⟩;have:=fN w.nd λy hy=>by
  obtain⟨q,hq,rfl⟩:=aN.mp hy;exact(w.ok q hq).2
 rw[aI]at this;have:=h.hi;lia
theorem pS:qa p (k+5) "pieces" [wb m ts]=.ok (.lst ((PC m ts).map tu)):=by
 have ex:∀a,∃kvs,0<=a->a<m->bE m ts a kvs/\qa p (k+4) "ways_from" [wb m ts,.int a]=.ok (.dic kvs):=λa=>by
  by_cases z:0<=a/\a<m
  ·obtain⟨kvs,w,e⟩:=oK hHo hAt hWf (k:=k+1) h z.1 z.2;exact⟨kvs,λ_ _=>⟨w,e⟩⟩
  ·exact⟨[],λh1 h2=>absurd ⟨h1,h2⟩ z⟩
 have hW:=λa=>Classical.choose_spec (ex a)
 rw[KG.pieces B hPc h hW];rw[oa (S':=λa=>ks (CW m ts a)) (rng m) [] λa ha=>by
  obtain⟨a0,a1⟩:=eM.mp ha;have w:=(hW a a0 a1).1;exact w.keys (cw w)]
noncomputable abbrev TR(m:Int)(ts:List (Int×Int)):Bool:=decide (((PC m ts).length:Int)=1)&&decide ((ts.length:Int)=m-1)
theorem CS:qa p (k+6) "is_tree" [wb m ts]=.ok (.bl (TR m ts)):=by
 have e1:=need_web B (k:=k+1) h;have e2:=pS (k:=k) h;have l1:b1 .len [.lst ((PC m ts).map tu)]=.ok (.int ((PC m ts).length)):=by rw[ma,aI]
 have l2:b1 .len [.tup (ts.map prD)]=.ok (.int (ts.length)):=by rw[jJ,aI]
 have c1:=eq_int ((PC m ts).length) 1;have c2:=eq_int (ts.length) (m-1);have o1:op2 .sub (.int m) (.int 1)=.ok (.int (m-1)):=rfl;rw[qc D_];refine qX (τ:=[some (wb m ts),none,none]) rfl rfl ?_;refine zG (σ:=[some (wb m ts),none,none]) (by generalize wb m ts=WB at *;simp[KG.Z,e1]) ?_;refine zG (σ:=[some (wb m ts),some (.int m),some (.tup (ts.map prD))]) rfl ?_;rw[TR];generalize D.tup (ts.map prD)=TT at *;generalize D.lst ((PC m ts).map tu)=PL at *;generalize wb m ts=WB at *;generalize hq1:decide (((PC m ts).length:Int)=1)=q1 at *;generalize hq2:decide ((ts.length:Int)=m-1)=q2 at *;generalize ((PC m ts).length:Int)=n1 at *;generalize (ts.length:Int)=n2 at *;cases q1<;>simp[KG.Z,e2,l1,l2,c1,c2,o1]
theorem right:qa p (k+9) "_law_right" [wb m ts]=.ok (.bl true):=by
 have h8:=h.hi;have hl:=h.lo;have hx:ixD (wb m ts) (.int 0)=.ok (.int m):=rfl;have hx1:ixD (wb m ts) (.int 1)=.ok (.tup (ts.map prD)):=rfl;have hm:zo m=true:=by simp[zo];lia
 suffices hs:∃d,qa p (k+9) "_law_right" [wb m ts]=.ok d/\d=.bl true by
  obtain⟨d,e,rfl⟩:=hs;exact e
 refine nB (k:=k+8) (τ:=[some (wb m ts),none,none,none,none,none,none,none]) BS rfl rfl ?_;refine zv (σ:=[some (wb m ts),some (.lst []),none,none,none,none,none,none]) rfl ?_;refine dG (ds:=(rng m).map D.int) (λl σ=>∃(as:List Int) (acc:List (List Int)) (v2 v3 v4 v5:Option D),l=as.map D.int/\(∀a∈as,0<=a/\a<m)/\ddp (λa=>ks (CW m ts a)) as acc=PC m ts/\acc.length+as.length<=8/\σ=[some (wb m ts),some (.lst (acc.map tu)),v2,v3,v4,v5,none,none]) ?_ ⟨rng m,[],none,none,none,none,rfl,λa ha=>eM.mp ha,rfl,by rw[eP];simp;lia,rfl⟩ ?_ ?_
 ·rw[<-fL];generalize wb m ts=WB at *;simp[KG.Z,hx,hm]
 ·rintro x l σ ⟨as,acc,v2,v3,v4,v5,e,has,hd',hlen,rfl⟩;obtain⟨a,as,rfl,rfl,rfl⟩:=fx e;have ha:=has a aJ;refine⟨[some (wb m ts),some (.lst (acc.map tu)),some (.int a),v3,v4,v5,none,none],rfl,?_⟩;rw[ddp]at hd';rw[br]at hlen;obtain⟨kvs,e0,e1,e2,e3⟩:=Av (k:=k+6) h ha;refine zv (σ:=[some (wb m ts),some (.lst (acc.map tu)),some (.int a),some (.dic kvs),v4,v5,none,none]) (by
   generalize D.lst (acc.map tu)=LQ at *;generalize D.dic kvs=DK at *;generalize wb m ts=WB at *;simp[KG.Z,e0]) ?_
  refine dG (ds:=(rng m).map D.int) (λl σ=>∃(bs:List Int) (v4:Option D),l=bs.map D.int/\(∀a∈bs,0<=a/\a<m)/\σ=[some (wb m ts),some (.lst (acc.map tu)),some (.int a),some (.dic kvs),v4,v5,none,none]) ?_ ⟨rng m,v4,rfl,λa ha=>eM.mp ha,rfl⟩ ?_ ?_
  ·rw[<-fL];generalize D.lst (acc.map tu)=LQ at *;generalize D.dic kvs=DK at *;generalize wb m ts=WB at *;simp[KG.Z,hx,hm]
  ·rintro x l σ ⟨bs,v4,e,hbs,rfl⟩;obtain⟨b,bs,rfl,rfl,rfl⟩:=fx e;have hb:=hbs b aJ;refine⟨[some (wb m ts),some (.lst (acc.map tu)),some (.int a),some (.dic kvs),some (.int b),v5,none,none],rfl,?_⟩;have f1:qa p (k+8) "_law_told" [wb m ts,.int a,.int b]=.ok (gD (CW m ts a) b):=Cd (ve (k:=k+2) h ha hb);have f2:evE (wAt p (k+8)) (.dget (.var 3) (.var 4)) [some (wb m ts),some (.lst (acc.map tu)),some (.int a),some (.dic kvs),some (.int b),v5,none,none]=.ok (gD (CW m ts a) b):=by
    rw[<-e2 b];rfl
   have f3:=D0 (k:=k+7) (CW m ts a) b;refine zv (σ:=[some (wb m ts),some (.lst (acc.map tu)),some (.int a),some (.dic kvs),some (.int b),v5,none,none]) ?_ (zF ⟨bs,_,rfl,λy hy=>hbs y (aK _ hy),rfl⟩);generalize gD (CW m ts a) b=GG at *;generalize D.lst (acc.map tu)=LQ at *;generalize D.dic kvs=DK at *;generalize wb m ts=WB at *;generalize hE:(EV.E.dget (.var 3) (.var 4))=EE at *;simp[KG.Z,f1,f2,f3]
  ·rintro σ ⟨bs,v4,e,hbs,rfl⟩;have sd:=mI e3;rw[e1]at sd;have t2:b1 .tuple [.lst ((ks (CW m ts a)).map D.int)]=.ok (tu (ks (CW m ts a))):=rfl;refine zv (σ:=[some (wb m ts),some (.lst (acc.map tu)),some (.int a),some (.dic kvs),v4,some (tu (ks (CW m ts a))),none,none]) (by
    generalize tu (ks (CW m ts a))=TK at *;generalize D.lst ((ks (CW m ts a)).map D.int)=LK at *;generalize D.lst (acc.map tu)=LQ at *;generalize D.dic kvs=DK at *;generalize wb m ts=WB at *;simp[KG.Z,sd,t2]) ?_
   have c1:=yR acc (ks (CW m ts a));have az:(acc.map tu).length<SZ:=by rw[aI];simp[SZ];lia
   by_cases z:ks (CW m ts a)∈acc
   ·rw[if_pos z]at hd';rw[decide_eq_true z]at c1;refine zv (σ:=[some (wb m ts),some (.lst (acc.map tu)),some (.int a),some (.dic kvs),v4,some (tu (ks (CW m ts a))),none,none]) (by
     generalize tu (ks (CW m ts a))=TK at *;generalize D.lst (acc.map tu)=LQ at *;generalize D.dic kvs=DK at *;generalize wb m ts=WB at *;simp[KG.Z,c1]) (zF ⟨as,acc,_,_,_,_,rfl,λy hy=>has y (aK _ hy),hd',by lia,rfl⟩)
   ·rw[if_neg z]at hd';rw[decide_eq_false z]at c1;refine zv (σ:=[some (wb m ts),some (.lst ((acc++[ks (CW m ts a)]).map tu)),some (.int a),some (.dic kvs),v4,some (tu (ks (CW m ts a))),none,none]) ?_ (zF ⟨as,_,_,_,_,_,rfl,λy hy=>has y (aK _ hy),hd',by rw[bL];simp only[br,List.length_nil];lia,rfl⟩);have t1:evT (wAt p (k+8)) (.cmp .notin (.var 5) (.own 1)) [some (wb m ts),some (.lst (acc.map tu)),some (.int a),some (.dic kvs),v4,some (tu (ks (CW m ts a))),none,none]=.ok true:=by
     generalize tu (ks (CW m ts a))=TK at *;generalize D.lst (acc.map tu)=LQ at *;generalize D.dic kvs=DK at *;generalize wb m ts=WB at *;simp[KG.Z,c1]
    have s3:evS (wAt p (k+8)) (.app 1 (.var 5)) [some (wb m ts),some (.lst (acc.map tu)),some (.int a),some (.dic kvs),v4,some (tu (ks (CW m ts a))),none,none]=.nx [some (wb m ts),some (.lst ((acc++[ks (CW m ts a)]).map tu)),some (.int a),some (.dic kvs),v4,some (tu (ks (CW m ts a))),none,none]:=by
     rw[iG (xs:=acc.map tu) (d:=tu (ks (CW m ts a))) rfl rfl az,List.map_append];rfl
    rw[bU,t1];simp only[R.out_ok,if_true];rw[qe,s3]
    rfl
 ·rintro σ ⟨as,acc,v2,v3,v4,v5,e,has,hd',hlen,rfl⟩;have:as=[]:=by cases as with|nil=>rfl|cons=>cases e
  subst this;rw[ddp]at hd';subst hd';have lz:(PC m ts).length<=8:=by simpa using hlen
  have az:((PC m ts).map tu).length<SZ:=by rw[aI];simp[SZ];lia
  have p1:=pS (k:=k+3) h;have p2:=xR hSm (k:=k+5) (PC m ts);refine dG (ds:=(rng 2).map D.int) (λl σ=>∃(as:List Int) (v6 v7:Option D),l=as.map D.int/\σ=[some (wb m ts),some (.lst ((PC m ts).map tu)),v2,v3,v4,v5,v6,v7]) rfl ⟨_,none,none,rfl,rfl⟩ ?_ ?_
  ·rintro x l σ ⟨as,v6,v7,e,rfl⟩;obtain⟨t,as,rfl,rfl,rfl⟩:=fx e;refine⟨[some (wb m ts),some (.lst ((PC m ts).map tu)),v2,v3,v4,v5,some (.int t),v7],rfl,?_⟩;refine zv (σ:=[some (wb m ts),some (.lst ((PC m ts).map tu)),v2,v3,v4,v5,some (.int t),some (.lst ((PC m ts).map tu))]) (by
    generalize D.lst ((PC m ts).map tu)=PL at *;generalize wb m ts=WB at *;simp[KG.Z,p1]) ?_
   refine zv (σ:=[some (wb m ts),some (.lst ((PC m ts).map tu)),v2,v3,v4,v5,some (.int t),some (.lst ((PC m ts).map tu))]) (by
    generalize D.lst ((PC m ts).map tu)=PL at *;generalize wb m ts=WB at *;simp[KG.Z,p2,D.noL,qE]) ?_
   refine zv (σ:=[some (wb m ts),some (.lst ((PC m ts).map tu)),v2,v3,v4,v5,some (.int t),some (.lst ((PC m ts).map tu++[.tup []]))]) (by
    rw[iG (xs:=(PC m ts).map tu) (d:=.tup []) rfl rfl az];rfl) (zF ⟨as,_,_,rfl,rfl⟩)
  ·rintro σ ⟨as,v6,v7,e,rfl⟩;have e2:=CS (k:=k+2) h;have l1:b1 .len [.lst ((PC m ts).map tu)]=.ok (.int ((PC m ts).length)):=by rw[ma,aI]
   have l2:b1 .len [.tup (ts.map prD)]=.ok (.int (ts.length)):=by rw[jJ,aI]
   have c1:=eq_int ((PC m ts).length) 1;have c2:=eq_int (ts.length) (m-1);have o1:op2 .sub (.int m) (.int 1)=.ok (.int (m-1)):=rfl;have e3:=xx hSm (k:=k+7) (TR m ts);refine fZ (d:=.bl true) ?_ rfl;rw[TR]at e2 e3;generalize D.tup (ts.map prD)=TT at *;generalize D.lst ((PC m ts).map tu)=PL at *;generalize wb m ts=WB at *;generalize hq1:decide (((PC m ts).length:Int)=1)=q1 at *;generalize hq2:decide ((ts.length:Int)=m-1)=q2 at *;generalize ((PC m ts).length:Int)=n1 at *;generalize (ts.length:Int)=n2 at *;cases q1<;>simp only[Bool.false_and,Bool.true_and]at e2 e3<;>simp[KG.Z,e2,hx,hx1,l1,l2,c1,c2,o1,e3]
end
abbrev tp(ts:List (Int×Int)):D:=.tup (ts.map prD)
theorem rA(ts:List (Int×Int))(lo hi:Option Int):∃t',slD (tp ts) lo hi=.ok (tp t')/\t'.Sublist ts/\t'.length<=HT.sIx ts.length ts.length hi-HT.sIx ts.length 0 lo:=by
 refine⟨(ts.drop (HT.sIx ts.length 0 lo)).take (HT.sIx ts.length ts.length hi-HT.sIx ts.length 0 lo),?_,(List.take_sublist _ _).trans (List.drop_sublist _ _),by simp;lia⟩;show R.ok (D.tup (cutD (ts.map prD) lo hi))=_;rw[cutD,aI,<-List.map_drop,<-List.map_take]
theorem Ce(ts:List (Int×Int)):∃t':List (Int×Int),slD (.lst (ts.map prD)) none (some 1)=.ok (.lst (t'.map prD))/\t'.Sublist ts/\t'.length<=1:=by
 refine⟨(ts.drop (HT.sIx ts.length 0 none)).take (HT.sIx ts.length ts.length (some 1)-HT.sIx ts.length 0 none),?_,(List.take_sublist _ _).trans (List.drop_sublist _ _),?_⟩
 ·show R.ok (D.lst (cutD (ts.map prD) none (some 1)))=_;rw[cutD,aI,<-List.map_drop,<-List.map_take]
 ·have:=HT.m6 ts.length ts.length 1;have e:HT.sIx ts.length ts.length (some 1)=min 1 ts.length:=this;rw[e];simp;lia
theorem Df(ts:List (Int×Int))(t:Int×Int):qi .notin (prD t) (tp ts)=.ok (!decide (t∈ts)):=by
 show qi .notin (.tup [.int t.1,.int t.2]) (.tup (ts.map prD))=_;rw[qi];simp only[seq?];rw[if_pos (by simp only[aG,List.all_eq_true,aN];exact⟨rfl,λx ⟨t,_,e⟩=>e▸m_ t⟩),inD,List.any_map]
 congr 2
 rw[Bool.eq_iff_iff];simp only[cz,decide_eq_true_eq];constructor
 ·rintro⟨x,hx,e⟩;have e:((x.1==t.1)&&((x.2==t.2)&&true))=true:=e;simp only[Bool.and_true,aG,beq_iff_eq]at e;have:x=t:=Prod.ext e.1 e.2;exact this▸hx
 ·intro hx;refine⟨t,hx,?_⟩;show ((t.1==t.1)&&((t.2==t.2)&&true))=true;simp
theorem vW{m:Int}{ts t1 mo:List (Int×Int)}(g:GW m ts)(s1:t1.Sublist ts)(l1:t1.length<=27)(hm:mo.length<=1)(ok:∀t∈mo,t∉ts/\0<=t.1/\t.1<t.2/\t.2<m):GW m (zw (t1++mo)):=by
 have pm:=iU (t1++mo);have nd:(t1++mo).Nodup:=by
  rw[List.nodup_append];refine⟨?_,?_,λx hx y hy z=>(ok y hy).1 (z▸s1.subset hx)⟩
  ·refine List.Nodup.sublist s1 (g.lt.imp λ{a b} z=>?_);rintro rfl;rw[show ltP a a=false by simp[ltP]]at z;cases z
  ·match mo,hm with
   | [],_=>simp
   | [x],_=>simp
   |x::y::r,h=>simp at h
 refine⟨g.lo,g.hi,rF (iW _) (pm.nodup_iff.mpr nd),λt ht=>?_,?_⟩
 ·rcases List.mem_append.mp (pm.mem_iff.mp ht)with q|q
  ·exact g.ok t (s1.subset q)
  ·exact(ok t q).2
 ·rw[pm.length_eq,bL];lia
abbrev LS(ns:List Int)(v1 v2 v3 v4 v5 v6 v7:Option D):Env:=[some (.lst (ns.map D.int)),v1,v2,v3,v4,v5,v6,v7]
theorem Ci{w:W}{ns:List Int}{M:Int}{ts:List (Int×Int)}(m1:1<=M)(m2:M<=8)(hpr:w.call "_law_pairs" [.int M]=.ok (.lst ((PR M).map prD)))(v1 v4 v5 v6 v7:Option D) :
  evE w (.comp (.seq (.call "_law_pairs" (.cons (.var 2) .nil))) [none,none,some 3] (.nm 1) (.cmp .notin (.var 1) (.ix (.var 2) (.con (.int 1)))) (.var 1)) (LS ns v1 (some (.int M)) (some (wb M ts)) v4 v5 v6 v7)=.ok (.lst (((PR M).filter λt=>!decide (t∈ts)).map prD)):=by
 have hx1:ixD (wb M ts) (.int 1)=.ok (tp ts):=rfl;have e:=iC (w:=w) (it:=.seq (.call "_law_pairs" (.cons (.var 2) .nil))) (cap:=[none,none,some 3]) (t:=.cmp .notin (.var 1) (.ix (.var 2) (.con (.int 1)))) (elt:=.var 1) (τ:=LS ns v1 (some (.int M)) (some (wb M ts)) v4 v5 v6 v7) (c:=[some (wb M ts)]) (ds:=(PR M).map prD)
  (g:=λd=>match d with | .tup [.int a,.int b]=>(if !decide ((a,b)∈ts)then [prD (a,b)]else [])|_=>[]) ?_ ?_ rfl ?_
 ·rw[e]
  congr 2
  clear e hpr
  induction PR M with
  |nil=>rfl
  |cons x r ih=>
   rw[aS,List.flatMap_cons,ih,List.filter_cons];cases z:decide (x∈ts)<;>simp_all [prD,pairD]
 ·refine j_ ?_;dsimp only[LS];generalize wb M ts=WB at *;simp[KG.Z,hpr]
 ·have:=(pq M m1 m2).1;rw[aI];simp[SZ];lia
 ·intro x hx;obtain⟨t,_,rfl⟩:=aN.mp hx;have c:=Df ts t;have z:evT w (.cmp .notin (.var 1) (.ix (.var 2) (.con (.int 1)))) [none,some (prD t),some (wb M ts)]=.ok (!decide (t∈ts)):=by
   generalize prD t=PT at *;generalize wb M ts=WB at *;generalize tp ts=TT at *;generalize (!decide (t∈ts))=q at *;simp[KG.Z,hx1,c]
  rw[z];simp only[R.bind_ok];cases q:(!decide (t∈ts))with
  |true=>rw[if_pos rfl];show R.ok [prD t]=_;simp[prD,pairD]at q ⊢;simp[q]
  |false=>simp[prD,pairD]at q ⊢;simp[q]
theorem v_{w:W}(ns:List Int)(hn:ns.length<=63)(hst:∀c j:Int,w.call "_law_stir" [.int c,.int j]=.ok (.int (st c j)))
  (hw:∀m c:Int,1<=m->m<=8->∃ts,GW m ts/\w.call "_law_web_by" [.int m,.int c]=.ok (wb m ts))
  (ht:∀m c:Int,1<=m->m<=8->∃ts,GW m ts/\w.call "_law_tree_by" [.int m,.int c]=.ok (wb m ts))
  (hpr:∀m:Int,1<=m->m<=8->w.call "_law_pairs" [.int m]=.ok (.lst ((PR m).map prD)))
  (hr:∀m ts,GW m ts->w.call "_law_right" [wb m ts]=.ok (.bl true))
  (hb:∀m n:Int,∀t,1<=m->m<=8->∃d,w.call "_law_no_place" [.int m,.int n]=.ok d/\BP (.tup [.int m,t]) d)
  (h1:∀m ts a b,GW m ts->BP (wb m ts) a->w.call "_law_told" [wb m ts,a,b]=.ok (.tup [.str "no",.int 2]))
  (h2:∀m ts b,GW m ts->BP (wb m ts) b->w.call "_law_told" [wb m ts,.int 0,b]=.ok (.tup [.str "no",.int 2]))
  (h3:∀d a b,BW d->w.call "_law_told" [d,a,b]=.ok (.tup [.str "no",.int 0]))
  (hnw:∀m ts n,GW m ts->∃d,w.call "_law_no_web" [wb m ts,.int n]=.ok d/\BW d) :
  Ends (λ_=>False) (λd=>d=.bl true) (qe w fI.body (LS ns none none none none none none none)):=by
 obtain⟨cs,hcs,hcl⟩:=DQ ns none (some 5);refine dG (ds:=(cs++[0,5,2]).map D.int) (λr σ=>∃(ms:List Int) (v1 v2 v3 v4 v5 v6 v7:Option D),r=ms.map D.int/\σ=LS ns v1 v2 v3 v4 v5 v6 v7) ?_ ⟨_,none,none,none,none,none,none,none,rfl,rfl⟩ ?_ ?_
 ·have e:op2 .add (.lst (cs.map D.int)) (.lst [.int 0,.int 5,.int 2])=.ok (.lst ((cs++[0,5,2]).map D.int)):=by
   rw[op2,if_pos (by simp[SZ];lia)];simp
  simp[KG.Z,slD,hcs,e,seq?]
 ·rintro x t σ ⟨ms,v1,v2,v3,v4,v5,v6,v7,e,rfl⟩;obtain⟨c,ms,rfl,rfl,rfl⟩:=fx e;have m1:1<=1+c/64%8:=by lia
  have m2:1+c/64%8<=8:=by lia
  obtain⟨w0,g0,e0⟩:=hw (1+c/64%8) (c/512) m1 m2;obtain⟨ts,g,et⟩:=ht (1+c/64%8) (c/512) m1 m2;refine⟨LS ns (some (.int c)) v2 v3 v4 v5 v6 v7,rfl,?_⟩;refine zv (σ:=LS ns (some (.int c)) (some (.int (1+c/64%8))) v3 v4 v5 v6 v7) (by simp[KG.Z,op2]) ?_;generalize hM:1+c/64%8=M at *;have zd:op2 .fdiv (.int c) (.int 512)=.ok (.int (c/512)):=rfl;have hx1:ixD (wb M ts) (.int 1)=.ok (tp ts):=rfl;obtain⟨t1,c1,s1,k1⟩:=rA ts (some 1) none;obtain⟨t2,c2,s2,k2⟩:=rA ts none (some (-1));have l1:t1.length<=27:=by
   have e:HT.sIx ts.length 0 (some 1)=min 1 ts.length:=HT.m6 ts.length 0 1;rw[e,HT.sU]at k1;have:=g.len;lia
  obtain⟨mo,c3,s3,l3⟩:=Ce ((PR M).filter λt=>!decide (t∈ts));have mok:∀t∈mo,t∉ts/\0<=t.1/\t.1<t.2/\t.2<M:=λt ht=>by
   have q:=List.mem_filter.mp (s3.subset ht);exact⟨by simpa using q.2,(pq M m1 m2).2 t q.1⟩
  have g5:=vW g s1 l1 l3 mok;refine zv (σ:=LS ns (some (.int c)) (some (.int M)) (some (wb M ts)) v4 v5 v6 v7) (by
   generalize wb M ts=WT at *;generalize c/512=C1 at *;simp[KG.Z,zd,et]) ?_
  refine zv (σ:=LS ns (some (.int c)) (some (.int M)) (some (wb M ts)) (some (.lst ([w0,ts,t1,t2].map (wb M)))) v5 v6 v7) (by
   have n1:∀τ,evE w (.neg (.con (.int 1))) τ=.ok (.int (-1)):=λτ=>rfl
   show _=O.nx (LS ns (some (.int c)) (some (.int M)) (some (wb M ts)) (some (.lst [wb M w0,wb M ts,.tup [.int M,tp t1],.tup [.int M,tp t2]])) v5 v6 v7);dsimp only[LS];generalize wb M ts=WT at *;generalize wb M w0=W0 at *;generalize tp ts=TT at *;generalize tp t1=T1 at *;generalize tp t2=T2 at *;generalize c/512=C1 at *;simp[KG.Z,zd,e0,hx1,c1,c2,n1]) ?_
  refine zv (σ:=LS ns (some (.int c)) (some (.int M)) (some (wb M ts)) (some (.lst ([w0,ts,t1,t2].map (wb M)))) (some (.lst (mo.map prD))) v6 v7) (by
   have q:=Ci (w:=w) (ns:=ns) (ts:=ts) m1 m2 (hpr M m1 m2) (some (.int c)) (some (.lst ([w0,ts,t1,t2].map (wb M)))) v5 v6 v7;dsimp only[LS]at q ⊢;generalize (EV.E.comp (.seq (.call "_law_pairs" (.cons (.var 2) .nil))) [none,none,some 3] (.nm 1) (.cmp .notin (.var 1) (.ix (.var 2) (.con (.int 1)))) (.var 1))=EE at *;generalize D.lst (((PR M).filter λt=>!decide (t∈ts)).map prD)=LF at *;generalize D.lst (mo.map prD)=LM at *;generalize D.lst ([w0,ts,t1,t2].map (wb M))=LW at *;generalize wb M ts=WT at *;simp[KG.Z,q,c3]) ?_
  refine dG (ds:=[w0,ts,t1,t2,zw (t1++mo)].map (wb M)) (λr σ=>∃(l:List (List (Int×Int))) (v6:Option D),r=l.map (wb M)/\(∀z∈l,GW M z)/\σ=LS ns (some (.int c)) (some (.int M)) (some (wb M ts)) (some (.lst ([w0,ts,t1,t2].map (wb M)))) (some (.lst (mo.map prD))) v6 v7) ?_ ⟨_,v6,rfl,by
   intro z hz;simp only[aE,bM,or_false]at hz;rcases hz with rfl|rfl|rfl|rfl|rfl
   ·exact g0
   ·exact g
   ·exact g.sub s1
   ·exact g.sub s2
   ·exact g5,rfl⟩ ?_ ?_
  ·refine j_ ?_;have a1:b1 .list [tp t1]=.ok (.lst (t1.map prD)):=rfl;have a2:op2 .add (.lst (t1.map prD)) (.lst (mo.map prD))=.ok (.lst ((t1++mo).map prD)):=by
    rw[op2,if_pos (by simp[SZ];lia)];simp
   have a3:=rN (t1++mo) (by rw[bL];lia);have a4:b1 .tuple [.lst ((zw (t1++mo)).map prD)]=.ok (tp (zw (t1++mo))):=rfl;have a5:op2 .add (.lst ([w0,ts,t1,t2].map (wb M))) (.lst [.tup [.int M,tp (zw (t1++mo))]])=.ok (.lst ([w0,ts,t1,t2,zw (t1++mo)].map (wb M))):=by
    rw[op2,if_pos (by simp[SZ])];rfl
   dsimp only[LS];generalize D.lst ([w0,ts,t1,t2,zw (t1++mo)].map (wb M))=LX at *;generalize D.lst ([w0,ts,t1,t2].map (wb M))=LW at *;generalize tp (zw (t1++mo))=TP at *;generalize D.lst ((zw (t1++mo)).map prD)=SP at *;generalize D.lst ((t1++mo).map prD)=S2 at *;generalize D.lst (t1.map prD)=S1 at *;generalize D.lst (mo.map prD)=S3 at *;generalize wb M ts=WT at *;generalize tp ts=TT at *;generalize tp t1=T1 at *;simp[KG.Z,hx1,c1,a1,a2,a3,a4,a5]
  ·rintro x t σ ⟨l,v6,e,hl',rfl⟩;obtain⟨z,l,rfl,rfl,rfl⟩:=fx e;refine⟨LS ns (some (.int c)) (some (.int M)) (some (wb M ts)) (some (.lst ([w0,ts,t1,t2].map (wb M)))) (some (.lst (mo.map prD))) (some (wb M z)) v7,rfl,?_⟩;have r1:=hr M z (hl' z aJ);refine zv (σ:=LS ns (some (.int c)) (some (.int M)) (some (wb M ts)) (some (.lst ([w0,ts,t1,t2].map (wb M)))) (some (.lst (mo.map prD))) (some (wb M z)) v7) ?_ (zF ⟨l,_,rfl,λy hy=>hl' y (aK _ hy),rfl⟩);dsimp only[LS];generalize D.lst ([w0,ts,t1,t2].map (wb M))=LW at *;generalize D.lst (mo.map prD)=S3 at *;generalize wb M ts=WT at *;generalize wb M z=WZ at *;simp[KG.Z,r1]
  ·rintro σ ⟨l,v6,e,hl',rfl⟩;obtain⟨b,eb,hbp⟩:=hb M (st c 2) (.tup (ts.map prD)) m1 m2;have r1:=h1 M ts b .non g hbp;have r2:=h2 M ts b g hbp;obtain⟨u,eu,hu⟩:=hnw M ts (st c 3) g;have r3:=h3 u b .non hu;have q2:qi .ne (.tup [.str "no",.int 2]) (.tup [.str "no",.int 2])=.ok false:=by kernel_rfl
   have q0:qi .ne (.tup [.str "no",.int 0]) (.tup [.str "no",.int 0])=.ok false:=by kernel_rfl
   have t2':=hst c 2;have t3':=hst c 3;generalize st c 2=C2 at *;generalize st c 3=C3 at *;generalize some (D.lst ([w0,ts,t1,t2].map (wb M)))=LW at *;generalize some (D.lst (mo.map prD))=S3 at *;refine zv (σ:=LS ns (some (.int c)) (some (.int M)) (some (wb M ts)) LW S3 v6 (some b)) (by
    dsimp only[LS];generalize wb M ts=WT at *;simp[KG.Z,t2',eb]) ?_
   refine zv (σ:=LS ns (some (.int c)) (some (.int M)) (some (wb M ts)) LW S3 v6 (some b)) (by
    dsimp only[LS];generalize wb M ts=WT at *;generalize hQ:(D.tup [.str "no",.int 2])=QQ at *;simp[KG.Z,r1,r2,q2,hQ]) ?_
   refine zv (σ:=LS ns (some (.int c)) (some (.int M)) (some (wb M ts)) LW S3 v6 (some b)) (by
    dsimp only[LS];generalize wb M ts=WT at *;generalize hQ:(D.tup [.str "no",.int 0])=QQ at *;simp[KG.Z,t3',eu,r3,q0,hQ]) (zF ⟨ms,_,_,_,_,_,_,_,rfl,rfl⟩)
 ·rintro σ ⟨ms,v1,v2,v3,v4,v5,v6,v7,e,rfl⟩;exact fZ (d:=.bl true) rfl rfl
theorem CY{F:Str->List D->R D}(ns:List Int)(h:Ends (λ_=>False) (λd=>d=.bl true) (qe ⟨F,p.glb,p.sub,p.cat⟩ fI.body (LS ns none none none none none none none))):zV ⟨F,p.glb,p.sub,p.cat⟩ fI [.lst (ns.map D.int)]=.ok (.bl true):=by
 obtain⟨d,e,rfl⟩:=iQ (w:=⟨F,p.glb,p.sub,p.cat⟩) (f:=fI) (ds:=[.lst (ns.map D.int)]) rfl rfl h;exact e
theorem uS{F:Str->List D->R D}(hF:F=qa p 11)(ns:List Int)(hn:ns.length<=63):zV ⟨F,p.glb,p.sub,p.cat⟩ fI [.lst (ns.map D.int)]=.ok (.bl true):=by
 refine CY ns (v_ (w:=⟨F,p.glb,p.sub,p.cat⟩) ns hn ?_ ?_ ?_ ?_ ?_ ?_ ?_ ?_ ?_ ?_)<;>rw[hF]
 ·exact λc j=>fD hSt (k:=10) c j
 ·exact λm c h1 h2=>Ca hSt hPr hWb (k:=9) m c h1 h2
 ·exact λm c h1 h2=>vK hSt hTB (k:=9) m c h1 h2
 ·exact λm h1 h2=>yI hPr (k:=10) m h1 h2
 ·exact λm ts g=>right (k:=2) g
 ·exact λm n t h1 h2=>Dq (k:=10) ⟨h1,h2⟩ t n
 ·exact λm ts a b g ha=>sN (k:=3) g ha
 ·exact λm ts b g hb=>Eg (k:=3) g ⟨by lia,by have:=g.lo;lia⟩ hb
 ·exact λd a b h=>xD (k:=3) h
 ·exact λm ts n g=>De B hNW (k:=10) g n
theorem CT:∀ns:List Int,ns.length<=63->qa p depth "law" [.lst (ns.map D.int)]=.ok (.bl true):=by
 intro ns hn;rw[show depth=11+1 from rfl,qc vi];exact uS rfl ns hn
end K03
namespace K03
open PySem PySem.Spec PyProof.Rows L2 EV
theorem nr:∀e∈tab,cFn G (fB us oth) e.own e.fr e.st=some e.fn:=by
 intro e he;simp only[tab,aE,bM,or_false]at he;rcases he with rfl|rfl|rfl|rfl|rfl|rfl|rfl|rfl|rfl|rfl|rfl|rfl|rfl|rfl|rfl|rfl|rfl|rfl|rfl|rfl|rfl|rfl|rfl|rfl|rfl|rfl|rfl|rfl<;>kernel_rfl
theorem vC:∀e∈us,e∈tab:=by
 intro e he;simp only[us,aE,bM,or_false]at he;rcases he with rfl
 ·simp[tab]
theorem Du:∀e∈us,gk (eC oth) e.own e.fr e.st=some e.fn:=by
 intro e he;simp only[us,aE,bM,or_false]at he;rcases he with rfl<;>kernel_rfl
theorem nd:(tab.map (·.x)).Nodup:=by decide +kernel
section
variable{K:aq}{h:Heap}{mg:Str->Option ae}{f0:Addr}(d0:WB.Dd K "is_whole" (top 17) f0){f1:Addr}(d1:WB.Dd K "is_between" (top 18) f1){f2:Addr}(d2:WB.Dd K "is_pair" (top 19) f2){f3:Addr}(d3:WB.Dd K "rises" (top 20) f3){f4:Addr}(d4:WB.Dd K "is_web" (top 23) f4){f5:Addr}(d5:WB.Dd K "is_tie" (top 24) f5){f6:Addr}(d6:WB.Dd K "need_web" (top 25) f6){f7:Addr}(d7:WB.Dd K "is_place" (top 26) f7){f8:Addr}(d8:WB.Dd K "need_place" (top 27) f8){f9:Addr}(d9:WB.Dd K "hood_of" (top 28) f9){f10:Addr}(d10:WB.Dd K "are_tied" (top 29) f10){f11:Addr}(d11:WB.Dd K "far" (top 30) f11){f12:Addr}(d12:WB.Dd K "ways_from" (top 31) f12){f13:Addr}(d13:WB.Dd K "pieces" (top 32) f13){f14:Addr}(d14:WB.Dd K "is_tree" (top 33) f14){f15:Addr}(d15:WB.Dd K "_law_hood" (top 35) f15){f16:Addr}(d16:WB.Dd K "_law_kinds" (top 36) f16){f17:Addr}(d17:WB.Dd K "_law_same" (top 37) f17){f18:Addr}(d18:WB.Dd K "_law_stir" (top 38) f18){f19:Addr}(d19:WB.Dd K "_law_tree_by" (top 39) f19){f20:Addr}(d20:WB.Dd K "_law_pairs" (top 40) f20){f21:Addr}(d21:WB.Dd K "_law_web_by" (top 41) f21){f22:Addr}(d22:WB.Dd K "_law_no_place" (top 42) f22){f23:Addr}(d23:WB.Dd K "_law_no_web" (top 43) f23){f24:Addr}(d24:WB.Dd K "_law_ways" (top 44) f24){f25:Addr}(d25:WB.Dd K "_law_told" (top 45) f25){f26:Addr}(d26:WB.Dd K "_law_right" (top 46) f26){f27:Addr}(d27:WB.Dd K "law" (top 47) f27)
include d0 d1 d2 d3 d4 d5 d6 d7 d8 d9 d10 d11 d12 d13 d14 d15 d16 d17 d18 d19 d20 d21 d22 d23 d24 d25 d26 d27
theorem CG:∀e∈tab,gY K G e:=by
 intro e he;simp only[tab,aE,bM,or_false]at he;rcases he with rfl|rfl|rfl|rfl|rfl|rfl|rfl|rfl|rfl|rfl|rfl|rfl|rfl|rfl|rfl|rfl|rfl|rfl|rfl|rfl|rfl|rfl|rfl|rfl|rfl|rfl|rfl|rfl<;>refine⟨⟨_,by assumption⟩,λ_ _ _ _ _ _ us hl=>?_⟩<;>first|(obtain⟨_,rfl⟩:=WB.rl hl;rfl)|(obtain⟨_,_,rfl⟩:=WB.mr hl;rfl)|(obtain⟨_,_,_,rfl⟩:=WB.u7 hl;rfl)
omit d0 d1 d2 d3 d4 d5 d6 d7 d8 d9 d10 d11 d12 d13 d14 d15 d16 d17 d18 d19 d20 d21 d22 d23 d24 d25 d26 d27
theorem j6{x:Str}{k:GK}(h:oth.lookup x=some k):∃y∈oth,x=y.1/\k=y.2:=by
 generalize oth=l at h ⊢
 induction l with
 |nil=>cases h
 |cons a r ih=>
  rw[ba]at h;split at h
  ·rename_i q;cases h;exact⟨a,aJ,eq_of_beq q,rfl⟩
  ·obtain⟨y,h1,h2⟩:=ih h;exact⟨y,aK _ h1,h2⟩
theorem Ec{K:aq}{C0:Addr}(k0:ao K ak "PlaceError" = some (some (.ref C0))){C1:Addr}(k1:ao K ak "NoWeb" = some (some (.ref C1)))(x1:PySem.W.excIn K C1 gr "ValueError.__new__" = true){C2:Addr}(k2:ao K ak "NoPlaces" = some (some (.ref C2))){C3:Addr}(k3:ao K ak "NoPlace" = some (some (.ref C3)))(x3:PySem.W.excIn K C3 gr "ValueError.__new__" = true){C4:Addr}(k4:ao K ak "NoNumber" = some (some (.ref C4))){C5:Addr}(k5:ao K ak "NotAll" = some (some (.ref C5))){C6:Addr}(k6:ao K ak "NotUntied" = some (some (.ref C6))){C7:Addr}(k7:ao K ak "NoShares" = some (some (.ref C7))){C8:Addr}(k8:ao K ak "NotTree" = some (some (.ref C8))){C9:Addr}(k9:ao K ak "NotTold" = some (some (.ref C9))){C10:Addr}(k10:ao K ak "NoCrowds" = some (some (.ref C10))){C11:Addr}(k11:ao K ak "NoText" = some (some (.ref C11))){C12:Addr}(k12:ao K ak "NoLine" = some (some (.ref C12))){C13:Addr}(k13:ao K ak "NoDeed" = some (some (.ref C13))){C14:Addr}(k14:ao K ak "TooGreat" = some (some (.ref C14))){tk0:Tok}(u0:ao K ak "MOST" = some (some (.int 8 tk0)))(z0:ao K ak "len" = some none)(z1:ao K ak "tuple" = some none)(z2:ao K ak "list" = some none)(z3:ao K ak "int" = some none)(z4:ao K ak "bool" = some none)(z5:ao K ak "str" = some none)(z6:ao K ak "sorted" = some none)(z7:ao K ak "all" = some none)(z8:ao K ak "min" = some none)(z9:ao K ak "max" = some none)(z10:ao K ak "range" = some none)(z11:ao K ak "enumerate" = some none)(z12:ao K ak "zip" = some none)(z13:ao K ak "isinstance" = some none)(z14:ao K ak "ValueError" = some none):∀x k,oth.lookup x=some k->mV K vals x k:=by
 intro x k h;obtain⟨y,h1,rfl,rfl⟩:=j6 h;simp only[oth,aE,bM,or_false]at h1;rcases h1 with rfl|rfl|rfl|rfl|rfl|rfl|rfl|rfl|rfl|rfl|rfl|rfl|rfl|rfl|rfl|rfl|rfl|rfl|rfl|rfl|rfl|rfl|rfl|rfl|rfl|rfl|rfl|rfl|rfl|rfl|rfl
 ·exact⟨_,k0⟩
 ·exact⟨_,k1,x1⟩
 ·exact⟨_,k2⟩
 ·exact⟨_,k3,x3⟩
 ·exact⟨_,k4⟩
 ·exact⟨_,k5⟩
 ·exact⟨_,k6⟩
 ·exact⟨_,k7⟩
 ·exact⟨_,k8⟩
 ·exact⟨_,k9⟩
 ·exact⟨_,k10⟩
 ·exact⟨_,k11⟩
 ·exact⟨_,k12⟩
 ·exact⟨_,k13⟩
 ·exact⟨_,k14⟩
 ·exact⟨_,.int 8,.int 8,u0,⟨_,rfl⟩,rfl,λg H _=>.int _⟩
 ·exact⟨z0,rfl,_,rfl⟩
 ·exact⟨z1,by decide +kernel,by simp,by simp[b1N,b1V]⟩
 ·exact⟨z2,by decide +kernel,by simp,by simp[b1N,b1V]⟩
 ·exact⟨z3,by decide +kernel,by simp,by simp[b1N,b1V]⟩
 ·exact⟨z4,by decide +kernel,by simp,by simp[b1N,b1V]⟩
 ·exact⟨z5,by decide +kernel,by simp,by simp⟩
 ·exact⟨z6,rfl,_,rfl⟩
 ·exact⟨z7,rfl,_,rfl⟩
 ·exact⟨z8,rfl,_,rfl⟩
 ·exact⟨z9,rfl,_,rfl⟩
 ·exact⟨z10,rfl⟩
 ·exact⟨z11,rfl⟩
 ·exact⟨z12,rfl⟩
 ·exact⟨z13,rfl⟩
 ·exact⟨z14,by decide +kernel,by simp,by simp⟩
theorem vN:∀x fr,oth.lookup x≠some (.fn fr):=by
 intro x fr h;obtain⟨y,h1,rfl,h2⟩:=j6 h;simp only[oth,aE,bM,or_false]at h1;rcases h1 with rfl|rfl|rfl|rfl|rfl|rfl|rfl|rfl|rfl|rfl|rfl|rfl|rfl|rfl|rfl|rfl|rfl|rfl|rfl|rfl|rfl|rfl|rfl|rfl|rfl|rfl|rfl|rfl|rfl|rfl|rfl<;>cases h2
theorem Bp:∀x,(oth.lookup x=some .exc\/oth.lookup x=some .exk)->([ag "PlaceError",ag "NoWeb",ag "NoPlaces",ag "NoPlace",ag "NoNumber",ag "NotAll",ag "NotUntied",ag "NoShares",ag "NotTree",ag "NotTold",ag "NoCrowds",ag "NoText",ag "NoLine",ag "NoDeed",ag "TooGreat"]:List Str).contains x=true:=by
 intro x h;rcases h with h|h<;>obtain⟨y,h1,rfl,h2⟩:=j6 h<;>simp only[oth,aE,bM,or_false]at h1<;>rcases h1 with rfl|rfl|rfl|rfl|rfl|rfl|rfl|rfl|rfl|rfl|rfl|rfl|rfl|rfl|rfl|rfl|rfl|rfl|rfl|rfl|rfl|rfl|rfl|rfl|rfl|rfl|rfl|rfl|rfl|rfl|rfl<;>first|(cases h2;done)|decide +kernel
theorem CQ{K:aq}{C0:Addr}(k0:ao K ak "PlaceError" = some (some (.ref C0))){C1:Addr}(k1:ao K ak "NoWeb" = some (some (.ref C1))){C2:Addr}(k2:ao K ak "NoPlaces" = some (some (.ref C2))){C3:Addr}(k3:ao K ak "NoPlace" = some (some (.ref C3))){C4:Addr}(k4:ao K ak "NoNumber" = some (some (.ref C4))){C5:Addr}(k5:ao K ak "NotAll" = some (some (.ref C5))){C6:Addr}(k6:ao K ak "NotUntied" = some (some (.ref C6))){C7:Addr}(k7:ao K ak "NoShares" = some (some (.ref C7))){C8:Addr}(k8:ao K ak "NotTree" = some (some (.ref C8))){C9:Addr}(k9:ao K ak "NotTold" = some (some (.ref C9))){C10:Addr}(k10:ao K ak "NoCrowds" = some (some (.ref C10))){C11:Addr}(k11:ao K ak "NoText" = some (some (.ref C11))){C12:Addr}(k12:ao K ak "NoLine" = some (some (.ref C12))){C13:Addr}(k13:ao K ak "NoDeed" = some (some (.ref C13))){C14:Addr}(k14:ao K ak "TooGreat" = some (some (.ref C14)))(w0:bO K (.ref C1) (.ref C0)=some true)(w1:bO K (.ref C3) (.ref C0)=some true):∀y∈cU,∃C D,ao K ak y.1=some (some (.ref C))/\ao K ak y.2=some (some (.ref D))/\bO K (.ref C) (.ref D)=some true:=by
 intro y h1;simp only[cU,aE,bM,or_false]at h1;rcases h1 with rfl|rfl
 ·exact⟨_,_,k1,k0,w0⟩
 ·exact⟨_,_,k3,k0,w1⟩
theorem Cm{K:aq}{C0:Addr}(k0:ao K ak "PlaceError" = some (some (.ref C0))){C1:Addr}(k1:ao K ak "NoWeb" = some (some (.ref C1))){C2:Addr}(k2:ao K ak "NoPlaces" = some (some (.ref C2))){C3:Addr}(k3:ao K ak "NoPlace" = some (some (.ref C3))){C4:Addr}(k4:ao K ak "NoNumber" = some (some (.ref C4))){C5:Addr}(k5:ao K ak "NotAll" = some (some (.ref C5))){C6:Addr}(k6:ao K ak "NotUntied" = some (some (.ref C6))){C7:Addr}(k7:ao K ak "NoShares" = some (some (.ref C7))){C8:Addr}(k8:ao K ak "NotTree" = some (some (.ref C8))){C9:Addr}(k9:ao K ak "NotTold" = some (some (.ref C9))){C10:Addr}(k10:ao K ak "NoCrowds" = some (some (.ref C10))){C11:Addr}(k11:ao K ak "NoText" = some (some (.ref C11))){C12:Addr}(k12:ao K ak "NoLine" = some (some (.ref C12))){C13:Addr}(k13:ao K ak "NoDeed" = some (some (.ref C13))){C14:Addr}(k14:ao K ak "TooGreat" = some (some (.ref C14)))(y0:cV K C1)(v0:ay K (.ref C1) (.type "ValueError")=some true)(y1:cV K C3)(v1:ay K (.ref C3) (.type "ValueError")=some true)(t0:WB.Dk K "NoWeb" C1)(t1:WB.Dk K "NoPlaces" C2)(t2:WB.Dk K "NoPlace" C3)(t3:WB.Dk K "NoNumber" C4)(t4:WB.Dk K "NotUntied" C6)(t5:WB.Dk K "NoShares" C7)(t6:WB.Dk K "NotTree" C8)(t7:WB.Dk K "NotTold" C9)(t8:WB.Dk K "NoCrowds" C10)(t9:WB.Dk K "NoText" C11)(t10:WB.Dk K "NoLine" C12)(t11:WB.Dk K "NoDeed" C13)(t12:WB.Dk K "NotAll" C5)(t13:WB.Dk K "TooGreat" C14)(q0_1:ay K (.ref C1) (.ref C2)=some false)(n0_1:C1≠C2)(q0_2:ay K (.ref C1) (.ref C3)=some false)(n0_2:C1≠C3)(q0_3:ay K (.ref C1) (.ref C4)=some false)(n0_3:C1≠C4)(q0_4:ay K (.ref C1) (.ref C6)=some false)(n0_4:C1≠C6)(q0_5:ay K (.ref C1) (.ref C7)=some false)(n0_5:C1≠C7)(q0_6:ay K (.ref C1) (.ref C8)=some false)(n0_6:C1≠C8)(q0_7:ay K (.ref C1) (.ref C9)=some false)(n0_7:C1≠C9)(q0_8:ay K (.ref C1) (.ref C10)=some false)(n0_8:C1≠C10)(q0_9:ay K (.ref C1) (.ref C11)=some false)(n0_9:C1≠C11)(q0_10:ay K (.ref C1) (.ref C12)=some false)(n0_10:C1≠C12)(q0_11:ay K (.ref C1) (.ref C13)=some false)(n0_11:C1≠C13)(q0_12:ay K (.ref C1) (.ref C5)=some false)(n0_12:C1≠C5)(q0_13:ay K (.ref C1) (.ref C14)=some false)(n0_13:C1≠C14)(q1_0:ay K (.ref C3) (.ref C1)=some false)(n1_0:C3≠C1)(q1_1:ay K (.ref C3) (.ref C2)=some false)(n1_1:C3≠C2)(q1_3:ay K (.ref C3) (.ref C4)=some false)(n1_3:C3≠C4)(q1_4:ay K (.ref C3) (.ref C6)=some false)(n1_4:C3≠C6)(q1_5:ay K (.ref C3) (.ref C7)=some false)(n1_5:C3≠C7)(q1_6:ay K (.ref C3) (.ref C8)=some false)(n1_6:C3≠C8)(q1_7:ay K (.ref C3) (.ref C9)=some false)(n1_7:C3≠C9)(q1_8:ay K (.ref C3) (.ref C10)=some false)(n1_8:C3≠C10)(q1_9:ay K (.ref C3) (.ref C11)=some false)(n1_9:C3≠C11)(q1_10:ay K (.ref C3) (.ref C12)=some false)(n1_10:C3≠C12)(q1_11:ay K (.ref C3) (.ref C13)=some false)(n1_11:C3≠C13)(q1_12:ay K (.ref C3) (.ref C5)=some false)(n1_12:C3≠C5)(q1_13:ay K (.ref C3) (.ref C14)=some false)(n1_13:C3≠C14):∀y∈subs,mq K [ag "PlaceError",ag "NoWeb",ag "NoPlaces",ag "NoPlace",ag "NoNumber",ag "NotAll",ag "NotUntied",ag "NoShares",ag "NotTree",ag "NotTold",ag "NoCrowds",ag "NoText",ag "NoLine",ag "NoDeed",ag "TooGreat"] y:=by
 intro y h1;simp only[subs,aE,bM,or_false]at h1;rcases h1 with rfl|rfl|rfl|rfl|rfl|rfl|rfl|rfl|rfl|rfl|rfl|rfl|rfl|rfl|rfl|rfl|rfl|rfl|rfl|rfl|rfl|rfl|rfl|rfl|rfl|rfl|rfl|rfl|rfl|rfl
 ·exact⟨_,_,by decide +kernel,k1,y0,WB.o8 v0,rfl,rfl⟩
 ·exact⟨_,_,by decide +kernel,k1,y0,WB.nK,_,by decide +kernel,k1,rfl⟩
 ·exact⟨_,_,by decide +kernel,k1,y0,t1.kit q0_1 n0_1,_,by decide +kernel,k2,rfl⟩
 ·exact⟨_,_,by decide +kernel,k1,y0,t2.kit q0_2 n0_2,_,by decide +kernel,k3,rfl⟩
 ·exact⟨_,_,by decide +kernel,k1,y0,t3.kit q0_3 n0_3,_,by decide +kernel,k4,rfl⟩
 ·exact⟨_,_,by decide +kernel,k1,y0,t4.kit q0_4 n0_4,_,by decide +kernel,k6,rfl⟩
 ·exact⟨_,_,by decide +kernel,k1,y0,t5.kit q0_5 n0_5,_,by decide +kernel,k7,rfl⟩
 ·exact⟨_,_,by decide +kernel,k1,y0,t6.kit q0_6 n0_6,_,by decide +kernel,k8,rfl⟩
 ·exact⟨_,_,by decide +kernel,k1,y0,t7.kit q0_7 n0_7,_,by decide +kernel,k9,rfl⟩
 ·exact⟨_,_,by decide +kernel,k1,y0,t8.kit q0_8 n0_8,_,by decide +kernel,k10,rfl⟩
 ·exact⟨_,_,by decide +kernel,k1,y0,t9.kit q0_9 n0_9,_,by decide +kernel,k11,rfl⟩
 ·exact⟨_,_,by decide +kernel,k1,y0,t10.kit q0_10 n0_10,_,by decide +kernel,k12,rfl⟩
 ·exact⟨_,_,by decide +kernel,k1,y0,t11.kit q0_11 n0_11,_,by decide +kernel,k13,rfl⟩
 ·exact⟨_,_,by decide +kernel,k1,y0,t12.kit q0_12 n0_12,_,by decide +kernel,k5,rfl⟩
 ·exact⟨_,_,by decide +kernel,k1,y0,t13.kit q0_13 n0_13,_,by decide +kernel,k14,rfl⟩
 ·exact⟨_,_,by decide +kernel,k3,y1,WB.o8 v1,rfl,rfl⟩
 ·exact⟨_,_,by decide +kernel,k3,y1,t0.kit q1_0 n1_0,_,by decide +kernel,k1,rfl⟩
 ·exact⟨_,_,by decide +kernel,k3,y1,t1.kit q1_1 n1_1,_,by decide +kernel,k2,rfl⟩
 ·exact⟨_,_,by decide +kernel,k3,y1,WB.nK,_,by decide +kernel,k3,rfl⟩
 ·exact⟨_,_,by decide +kernel,k3,y1,t3.kit q1_3 n1_3,_,by decide +kernel,k4,rfl⟩
 ·exact⟨_,_,by decide +kernel,k3,y1,t4.kit q1_4 n1_4,_,by decide +kernel,k6,rfl⟩
 ·exact⟨_,_,by decide +kernel,k3,y1,t5.kit q1_5 n1_5,_,by decide +kernel,k7,rfl⟩
 ·exact⟨_,_,by decide +kernel,k3,y1,t6.kit q1_6 n1_6,_,by decide +kernel,k8,rfl⟩
 ·exact⟨_,_,by decide +kernel,k3,y1,t7.kit q1_7 n1_7,_,by decide +kernel,k9,rfl⟩
 ·exact⟨_,_,by decide +kernel,k3,y1,t8.kit q1_8 n1_8,_,by decide +kernel,k10,rfl⟩
 ·exact⟨_,_,by decide +kernel,k3,y1,t9.kit q1_9 n1_9,_,by decide +kernel,k11,rfl⟩
 ·exact⟨_,_,by decide +kernel,k3,y1,t10.kit q1_10 n1_10,_,by decide +kernel,k12,rfl⟩
 ·exact⟨_,_,by decide +kernel,k3,y1,t11.kit q1_11 n1_11,_,by decide +kernel,k13,rfl⟩
 ·exact⟨_,_,by decide +kernel,k3,y1,t12.kit q1_12 n1_12,_,by decide +kernel,k5,rfl⟩
 ·exact⟨_,_,by decide +kernel,k3,y1,t13.kit q1_13 n1_13,_,by decide +kernel,k14,rfl⟩
include d0 d1 d2 d3 d4 d5 d6 d7 d8 d9 d10 d11 d12 d13 d14 d15 d16 d17 d18 d19 d20 d21 d22 d23 d24 d25 d26 d27
theorem all_mk(X:K.In h)(N:h.Ns ak mg){C0:Addr}(k0:ao K ak "PlaceError" = some (some (.ref C0))){C1:Addr}(k1:ao K ak "NoWeb" = some (some (.ref C1)))(x1:PySem.W.excIn K C1 gr "ValueError.__new__" = true){C2:Addr}(k2:ao K ak "NoPlaces" = some (some (.ref C2))){C3:Addr}(k3:ao K ak "NoPlace" = some (some (.ref C3)))(x3:PySem.W.excIn K C3 gr "ValueError.__new__" = true){C4:Addr}(k4:ao K ak "NoNumber" = some (some (.ref C4))){C5:Addr}(k5:ao K ak "NotAll" = some (some (.ref C5))){C6:Addr}(k6:ao K ak "NotUntied" = some (some (.ref C6))){C7:Addr}(k7:ao K ak "NoShares" = some (some (.ref C7))){C8:Addr}(k8:ao K ak "NotTree" = some (some (.ref C8))){C9:Addr}(k9:ao K ak "NotTold" = some (some (.ref C9))){C10:Addr}(k10:ao K ak "NoCrowds" = some (some (.ref C10))){C11:Addr}(k11:ao K ak "NoText" = some (some (.ref C11))){C12:Addr}(k12:ao K ak "NoLine" = some (some (.ref C12))){C13:Addr}(k13:ao K ak "NoDeed" = some (some (.ref C13))){C14:Addr}(k14:ao K ak "TooGreat" = some (some (.ref C14))){tk0:Tok}(u0:ao K ak "MOST" = some (some (.int 8 tk0)))(z0:ao K ak "len" = some none)(z1:ao K ak "tuple" = some none)(z2:ao K ak "list" = some none)(z3:ao K ak "int" = some none)(z4:ao K ak "bool" = some none)(z5:ao K ak "str" = some none)(z6:ao K ak "sorted" = some none)(z7:ao K ak "all" = some none)(z8:ao K ak "min" = some none)(z9:ao K ak "max" = some none)(z10:ao K ak "range" = some none)(z11:ao K ak "enumerate" = some none)(z12:ao K ak "zip" = some none)(z13:ao K ak "isinstance" = some none)(z14:ao K ak "ValueError" = some none)(w0:bO K (.ref C1) (.ref C0)=some true)(w1:bO K (.ref C3) (.ref C0)=some true)(y0:cV K C1)(v0:ay K (.ref C1) (.type "ValueError")=some true)(y1:cV K C3)(v1:ay K (.ref C3) (.type "ValueError")=some true)(t0:WB.Dk K "NoWeb" C1)(t1:WB.Dk K "NoPlaces" C2)(t2:WB.Dk K "NoPlace" C3)(t3:WB.Dk K "NoNumber" C4)(t4:WB.Dk K "NotUntied" C6)(t5:WB.Dk K "NoShares" C7)(t6:WB.Dk K "NotTree" C8)(t7:WB.Dk K "NotTold" C9)(t8:WB.Dk K "NoCrowds" C10)(t9:WB.Dk K "NoText" C11)(t10:WB.Dk K "NoLine" C12)(t11:WB.Dk K "NoDeed" C13)(t12:WB.Dk K "NotAll" C5)(t13:WB.Dk K "TooGreat" C14)(q0_1:ay K (.ref C1) (.ref C2)=some false)(n0_1:C1≠C2)(q0_2:ay K (.ref C1) (.ref C3)=some false)(n0_2:C1≠C3)(q0_3:ay K (.ref C1) (.ref C4)=some false)(n0_3:C1≠C4)(q0_4:ay K (.ref C1) (.ref C6)=some false)(n0_4:C1≠C6)(q0_5:ay K (.ref C1) (.ref C7)=some false)(n0_5:C1≠C7)(q0_6:ay K (.ref C1) (.ref C8)=some false)(n0_6:C1≠C8)(q0_7:ay K (.ref C1) (.ref C9)=some false)(n0_7:C1≠C9)(q0_8:ay K (.ref C1) (.ref C10)=some false)(n0_8:C1≠C10)(q0_9:ay K (.ref C1) (.ref C11)=some false)(n0_9:C1≠C11)(q0_10:ay K (.ref C1) (.ref C12)=some false)(n0_10:C1≠C12)(q0_11:ay K (.ref C1) (.ref C13)=some false)(n0_11:C1≠C13)(q0_12:ay K (.ref C1) (.ref C5)=some false)(n0_12:C1≠C5)(q0_13:ay K (.ref C1) (.ref C14)=some false)(n0_13:C1≠C14)(q1_0:ay K (.ref C3) (.ref C1)=some false)(n1_0:C3≠C1)(q1_1:ay K (.ref C3) (.ref C2)=some false)(n1_1:C3≠C2)(q1_3:ay K (.ref C3) (.ref C4)=some false)(n1_3:C3≠C4)(q1_4:ay K (.ref C3) (.ref C6)=some false)(n1_4:C3≠C6)(q1_5:ay K (.ref C3) (.ref C7)=some false)(n1_5:C3≠C7)(q1_6:ay K (.ref C3) (.ref C8)=some false)(n1_6:C3≠C8)(q1_7:ay K (.ref C3) (.ref C9)=some false)(n1_7:C3≠C9)(q1_8:ay K (.ref C3) (.ref C10)=some false)(n1_8:C3≠C10)(q1_9:ay K (.ref C3) (.ref C11)=some false)(n1_9:C3≠C11)(q1_10:ay K (.ref C3) (.ref C12)=some false)(n1_10:C3≠C12)(q1_11:ay K (.ref C3) (.ref C13)=some false)(n1_11:C3≠C13)(q1_12:ay K (.ref C3) (.ref C5)=some false)(n1_12:C3≠C5)(q1_13:ay K (.ref C3) (.ref C14)=some false)(n1_13:C3≠C14):Ground p (gOf K (tab.map (·.x)) [ag "PlaceError",ag "NoWeb",ag "NoPlaces",ag "NoPlace",ag "NoNumber",ag "NotAll",ag "NotUntied",ag "NoShares",ag "NotTree",ag "NotTold",ag "NoCrowds",ag "NoText",ag "NoLine",ag "NoDeed",ag "TooGreat"]) G (fB us oth) (eC oth) mg/\gY K G fU:=
 have A:=CG d0 d1 d2 d3 d4 d5 d6 d7 d8 d9 d10 d11 d12 d13 d14 d15 d16 d17 d18 d19 d20 d21 d22 d23 d24 d25 d26 d27
 ⟨ux X N rfl nd (Ec k0 k1 x1 k2 k3 x3 k4 k5 k6 k7 k8 k9 k10 k11 k12 k13 k14 u0 z0 z1 z2 z3 z4 z5 z6 z7 z8 z9 z10 z11 z12 z13 z14) vN vC Du nr A _ (CQ k0 k1 k2 k3 k4 k5 k6 k7 k8 k9 k10 k11 k12 k13 k14 w0 w1) Bp (Cm k0 k1 k2 k3 k4 k5 k6 k7 k8 k9 k10 k11 k12 k13 k14 y0 v0 y1 v1 t0 t1 t2 t3 t4 t5 t6 t7 t8 t9 t10 t11 t12 t13 q0_1 n0_1 q0_2 n0_2 q0_3 n0_3 q0_4 n0_4 q0_5 n0_5 q0_6 n0_6 q0_7 n0_7 q0_8 n0_8 q0_9 n0_9 q0_10 n0_10 q0_11 n0_11 q0_12 n0_12 q0_13 n0_13 q1_0 n1_0 q1_1 n1_1 q1_3 n1_3 q1_4 n1_4 q1_5 n1_5 q1_6 n1_6 q1_7 n1_7 q1_8 n1_8 q1_9 n1_9 q1_10 n1_10 q1_11 n1_11 q1_12 n1_12 q1_13 n1_13),A fU (by simp[tab])⟩
end
theorem walk{l:PySem.W.OpenLaw}{q:av}{loose:List Str}{XP:(Str->Option ae)->Heap->Prop}{YP:au->Heap->Prop}{d:DefRec}{K:Params->aq}(hn:l.most=some 63)(hdf:d.params.defaults=[])(hd:d.name = "law")(hY:∀(w:au) (h:Heap),YP w h->(K w.params).In h)
  (hG:∀(w:au) (mg:Str->Option ae) (h:Heap),(K w.params).In h->h.Ns ak mg->Ground p (gOf (K w.params) (tab.map (·.x)) [ag "PlaceError",ag "NoWeb",ag "NoPlaces",ag "NoPlace",ag "NoNumber",ag "NotAll",ag "NotUntied",ag "NoShares",ag "NotTree",ag "NotTold",ag "NoCrowds",ag "NoText",ag "NoLine",ag "NoDeed",ag "TooGreat"]) G (fB us oth) (eC oth) mg/\gY (K w.params) G fU):PySem.W.WalkO q loose XP YP l.row.toRowW d [] (λf vs=>PySem.call f vs):=
 AJ (e:=fU) (k:=depth) hn hdf hd ⟨rfl,by decide,by decide⟩ hY (by simp[tab]) nd rfl rfl (by kernel_rfl) hG (nr fU (by simp[tab])) CT
end K03
end
open PySem PySem.W PyProof.Rows
namespace PySem.W.Fast
def tw14247647351101663698:Nat:=0
theorem te14247647351101663698:tw14247647351101663698=0:=rfl
def tw10449254205508034069:Nat:=0
theorem te10449254205508034069:tw10449254205508034069=0:=rfl
def tw16111035343110192764:Nat:=0
theorem te16111035343110192764:tw16111035343110192764=0:=rfl
def tw15914748968234700222:Nat:=0
theorem te15914748968234700222:tw15914748968234700222=0:=rfl
def tw3989039049370600346:Nat:=0
theorem te3989039049370600346:tw3989039049370600346=0:=rfl
def tw3096214434749591928:Nat:=0
theorem te3096214434749591928:tw3096214434749591928=0:=rfl
def tw590548657483209323:Nat:=0
theorem te590548657483209323:tw590548657483209323=0:=rfl
def tw16170857189300247431:Nat:=0
theorem te16170857189300247431:tw16170857189300247431=0:=rfl
def tw6424084382368504580:Nat:=0
theorem te6424084382368504580:tw6424084382368504580=0:=rfl
def tw4973800226049813189:Nat:=0
theorem te4973800226049813189:tw4973800226049813189=0:=rfl
def tw12124635137204598364:Nat:=0
theorem te12124635137204598364:tw12124635137204598364=0:=rfl
def tw1329755765278537715:Nat:=0
theorem te1329755765278537715:tw1329755765278537715=0:=rfl
def tw9027879444948272295:Nat:=0
theorem te9027879444948272295:tw9027879444948272295=0:=rfl
def tw12005653267918026216:Nat:=0
theorem te12005653267918026216:tw12005653267918026216=0:=rfl
def tw12142807452934084985:Nat:=0
theorem te12142807452934084985:tw12142807452934084985=0:=rfl
def tw5542050778296522626:Nat:=0
theorem te5542050778296522626:tw5542050778296522626=0:=rfl
def tw727734313291489687:Nat:=0
theorem te727734313291489687:tw727734313291489687=0:=rfl
def tw3356603108368676727:Nat:=0
theorem te3356603108368676727:tw3356603108368676727=0:=rfl
def tw17208200045781210156:Nat:=0
theorem te17208200045781210156:tw17208200045781210156=0:=rfl
def tw6056809164832713363:Nat:=0
theorem te6056809164832713363:tw6056809164832713363=0:=rfl
def tw11896770804958466932:Nat:=0
theorem te11896770804958466932:tw11896770804958466932=0:=rfl
def tw14167910442513400768:Nat:=0
theorem te14167910442513400768:tw14167910442513400768=0:=rfl
def tw7318711811280280357:Nat:=0
theorem te7318711811280280357:tw7318711811280280357=0:=rfl
def tw6563687937777672543:Nat:=0
theorem te6563687937777672543:tw6563687937777672543=0:=rfl
def tw15595761385976060966:Nat:=0
theorem te15595761385976060966:tw15595761385976060966=0:=rfl
def tw8357592088329886541:Nat:=0
theorem te8357592088329886541:tw8357592088329886541=0:=rfl
def tw7145817032428422298:Nat:=0
theorem te7145817032428422298:tw7145817032428422298=0:=rfl
def tw7540873354265958194:Nat:=0
theorem te7540873354265958194:tw7540873354265958194=0:=rfl
def tw2620275913351618514:Nat:=0
theorem te2620275913351618514:tw2620275913351618514=0:=rfl
def tw8493132240539987177:Nat:=0
theorem te8493132240539987177:tw8493132240539987177=0:=rfl
def tw8852244353403029481:Nat:=0
theorem te8852244353403029481:tw8852244353403029481=0:=rfl
def tw11910924184542002669:Nat:=0
theorem te11910924184542002669:tw11910924184542002669=0:=rfl
def tw11441484615176195019:Nat:=0
theorem te11441484615176195019:tw11441484615176195019=0:=rfl
def tw571940499749546229:Nat:=0
theorem te571940499749546229:tw571940499749546229=0:=rfl
def tw8226695521166876265:Nat:=0
theorem te8226695521166876265:tw8226695521166876265=0:=rfl
def tw6951550667865466363:Nat:=0
theorem te6951550667865466363:tw6951550667865466363=0:=rfl
def tw7198924163189640062:Nat:=0
theorem te7198924163189640062:tw7198924163189640062=0:=rfl
def tw7483575259149191205:Nat:=0
theorem te7483575259149191205:tw7483575259149191205=0:=rfl
def tw1317457392311094568:Nat:=0
theorem te1317457392311094568:tw1317457392311094568=0:=rfl
def tw18210147310879639641:Nat:=0
theorem te18210147310879639641:tw18210147310879639641=0:=rfl
def tw16252506896289732383:Nat:=0
theorem te16252506896289732383:tw16252506896289732383=0:=rfl
def tw14927600953259134310:Nat:=0
theorem te14927600953259134310:tw14927600953259134310=0:=rfl
def tw12575246296655094629:Nat:=0
theorem te12575246296655094629:tw12575246296655094629=0:=rfl
def tw7398098303679544164:Nat:=0
theorem te7398098303679544164:tw7398098303679544164=0:=rfl
def tw9790562576479127926:Nat:=0
theorem te9790562576479127926:tw9790562576479127926=0:=rfl
def tw10064270512368989219:Nat:=0
theorem te10064270512368989219:tw10064270512368989219=0:=rfl
def tw7271117182180072471:Nat:=0
theorem te7271117182180072471:tw7271117182180072471=0:=rfl
def tw10615064942262515876:Nat:=0
theorem te10615064942262515876:tw10615064942262515876=0:=rfl
def tw15163441110640102438:Nat:=0
theorem te15163441110640102438:tw15163441110640102438=0:=rfl
def tw15867123207376357399:Nat:=0
theorem te15867123207376357399:tw15867123207376357399=0:=rfl
def tw14228893173071601199:Nat:=0
theorem te14228893173071601199:tw14228893173071601199=0:=rfl
def tw6680105558458492254:Nat:=0
theorem te6680105558458492254:tw6680105558458492254=0:=rfl
def tw12382860910988748368:Nat:=0
theorem te12382860910988748368:tw12382860910988748368=0:=rfl
def tw12655710470885005492:Nat:=0
theorem te12655710470885005492:tw12655710470885005492=0:=rfl
def tw17039832781001749932:Nat:=0
theorem te17039832781001749932:tw17039832781001749932=0:=rfl
def tw12976083631572019815:Nat:=0
theorem te12976083631572019815:tw12976083631572019815=0:=rfl
def tw9836410461281764195:Nat:=0
theorem te9836410461281764195:tw9836410461281764195=0:=rfl
def tw7845668643653480041:Nat:=0
theorem te7845668643653480041:tw7845668643653480041=0:=rfl
def tw16071144197021706237:Nat:=0
theorem te16071144197021706237:tw16071144197021706237=0:=rfl
def tw16624178910476600548:Nat:=0
theorem te16624178910476600548:tw16624178910476600548=0:=rfl
def tw1091591649151532762:Nat:=0
theorem te1091591649151532762:tw1091591649151532762=0:=rfl
def tw1092354582625364586:Nat:=0
theorem te1092354582625364586:tw1092354582625364586=0:=rfl
def tw18092025630483093830:Nat:=0
theorem te18092025630483093830:tw18092025630483093830=0:=rfl
def tw11678424820762890757:Nat:=0
theorem te11678424820762890757:tw11678424820762890757=0:=rfl
def tw5302578956705795173:Nat:=0
theorem te5302578956705795173:tw5302578956705795173=0:=rfl
def tw8409093273120029797:Nat:=0
theorem te8409093273120029797:tw8409093273120029797=0:=rfl
def tw177098371611106690:Nat:=0
theorem te177098371611106690:tw177098371611106690=0:=rfl
def tw8392151172948109139:Nat:=0
theorem te8392151172948109139:tw8392151172948109139=0:=rfl
def tw4952324592978722901:Nat:=0
theorem te4952324592978722901:tw4952324592978722901=0:=rfl
def tw7149348648718217385:Nat:=0
theorem te7149348648718217385:tw7149348648718217385=0:=rfl
def tw11084845849144346958:Nat:=0
theorem te11084845849144346958:tw11084845849144346958=0:=rfl
def tw2677172559198079551:Nat:=0
theorem te2677172559198079551:tw2677172559198079551=0:=rfl
def tw3449022585597651128:Nat:=0
theorem te3449022585597651128:tw3449022585597651128=0:=rfl
def tw4790486153505047638:Nat:=0
theorem te4790486153505047638:tw4790486153505047638=0:=rfl
def tw2609640022017336319:Nat:=0
theorem te2609640022017336319:tw2609640022017336319=0:=rfl
def tw4270875215918301452:Nat:=0
theorem te4270875215918301452:tw4270875215918301452=0:=rfl
def tw375687667093300540:Nat:=0
theorem te375687667093300540:tw375687667093300540=0:=rfl
def tw18402374617059982541:Nat:=0
theorem te18402374617059982541:tw18402374617059982541=0:=rfl
def tw7608619282621536715:Nat:=0
theorem te7608619282621536715:tw7608619282621536715=0:=rfl
def tw2124630723001824349:Nat:=0
theorem te2124630723001824349:tw2124630723001824349=0:=rfl
def tw6710547133451211341:Nat:=0
theorem te6710547133451211341:tw6710547133451211341=0:=rfl
def tw4216112702485892729:Nat:=0
theorem te4216112702485892729:tw4216112702485892729=0:=rfl
def tw10761197797431505253:Nat:=0
theorem te10761197797431505253:tw10761197797431505253=0:=rfl
def tw10509902956412509493:Nat:=0
theorem te10509902956412509493:tw10509902956412509493=0:=rfl
def tw2401212389907690756:Nat:=0
theorem te2401212389907690756:tw2401212389907690756=0:=rfl
def tw3245809479744509298:Nat:=0
theorem te3245809479744509298:tw3245809479744509298=0:=rfl
def tw7935619843482781003:Nat:=0
theorem te7935619843482781003:tw7935619843482781003=0:=rfl
def tw4415112158204644502:Nat:=0
theorem te4415112158204644502:tw4415112158204644502=0:=rfl
def tw11668756143628346907:Nat:=0
theorem te11668756143628346907:tw11668756143628346907=0:=rfl
def tw15393245315775920235:Nat:=0
theorem te15393245315775920235:tw15393245315775920235=0:=rfl
def tw4075285730022581719:Nat:=0
theorem te4075285730022581719:tw4075285730022581719=0:=rfl
def tw1932445995042367552:Nat:=0
theorem te1932445995042367552:tw1932445995042367552=0:=rfl
def tw11638338256667858908:Nat:=0
theorem te11638338256667858908:tw11638338256667858908=0:=rfl
def tw10296631791957654277:Nat:=0
theorem te10296631791957654277:tw10296631791957654277=0:=rfl
def tw1733169476228400739:Nat:=0
theorem te1733169476228400739:tw1733169476228400739=0:=rfl
def tw11125302028085724737:Nat:=0
theorem te11125302028085724737:tw11125302028085724737=0:=rfl
def tw4345952217894562476:Nat:=0
theorem te4345952217894562476:tw4345952217894562476=0:=rfl
def tw5564499589845101517:Nat:=0
theorem te5564499589845101517:tw5564499589845101517=0:=rfl
def tw15293697625688225918:Nat:=0
theorem te15293697625688225918:tw15293697625688225918=0:=rfl
def tw3141189986398126457:Nat:=0
theorem te3141189986398126457:tw3141189986398126457=0:=rfl
def tw16011301052501841983:Nat:=0
theorem te16011301052501841983:tw16011301052501841983=0:=rfl
def tw2900334033274903596:Nat:=0
theorem te2900334033274903596:tw2900334033274903596=0:=rfl
def tw6777338082358438870:Nat:=0
theorem te6777338082358438870:tw6777338082358438870=0:=rfl
def tw766175934896179509:Nat:=0
theorem te766175934896179509:tw766175934896179509=0:=rfl
def tw14699365432984575680:Nat:=0
theorem te14699365432984575680:tw14699365432984575680=0:=rfl
def tw18302819781121222330:Nat:=0
theorem te18302819781121222330:tw18302819781121222330=0:=rfl
def tw16011221425249862028:Nat:=0
theorem te16011221425249862028:tw16011221425249862028=0:=rfl
def tw16008995784801109646:Nat:=0
theorem te16008995784801109646:tw16008995784801109646=0:=rfl
def tw8754486972727662684:Nat:=0
theorem te8754486972727662684:tw8754486972727662684=0:=rfl
def tw4741132643400513760:Nat:=0
theorem te4741132643400513760:tw4741132643400513760=0:=rfl
def tw11998384810075885890:Nat:=0
theorem te11998384810075885890:tw11998384810075885890=0:=rfl
def tw15312872196015477259:Nat:=0
theorem te15312872196015477259:tw15312872196015477259=0:=rfl
def tw11676639490306157826:Nat:=0
theorem te11676639490306157826:tw11676639490306157826=0:=rfl
def tw10893736701213727622:Nat:=0
theorem te10893736701213727622:tw10893736701213727622=0:=rfl
def tw17026553917795626336:Nat:=0
theorem te17026553917795626336:tw17026553917795626336=0:=rfl
def tw9767267022299468724:Nat:=0
theorem te9767267022299468724:tw9767267022299468724=0:=rfl
def tw1589514217136631198:Nat:=0
theorem te1589514217136631198:tw1589514217136631198=0:=rfl
def tw18066809519742054820:Nat:=0
theorem te18066809519742054820:tw18066809519742054820=0:=rfl
def tw789634034009627512:Nat:=0
theorem te789634034009627512:tw789634034009627512=0:=rfl
def tw12262920122128797267:Nat:=0
theorem te12262920122128797267:tw12262920122128797267=0:=rfl
def tw6046369833133688153:Nat:=0
theorem te6046369833133688153:tw6046369833133688153=0:=rfl
def tw1366212323569663916:Nat:=0
theorem te1366212323569663916:tw1366212323569663916=0:=rfl
def tw9907667076946434704:Nat:=0
theorem te9907667076946434704:tw9907667076946434704=0:=rfl
def tw16774489150305096213:Nat:=0
theorem te16774489150305096213:tw16774489150305096213=0:=rfl
def tw8382870165736964880:Nat:=0
theorem te8382870165736964880:tw8382870165736964880=0:=rfl
def tw10641824098071275124:Nat:=0
theorem te10641824098071275124:tw10641824098071275124=0:=rfl
def tw4374480246720308708:Nat:=0
theorem te4374480246720308708:tw4374480246720308708=0:=rfl
def tw15170860296386740158:Nat:=0
theorem te15170860296386740158:tw15170860296386740158=0:=rfl
def tw13894009510486655927:Nat:=0
theorem te13894009510486655927:tw13894009510486655927=0:=rfl
def tw11087341232920351375:Nat:=0
theorem te11087341232920351375:tw11087341232920351375=0:=rfl
def tw3798756537039803327:Nat:=0
theorem te3798756537039803327:tw3798756537039803327=0:=rfl
def tw2036856383464830266:Nat:=0
theorem te2036856383464830266:tw2036856383464830266=0:=rfl
def tw15136170936600756720:Nat:=0
theorem te15136170936600756720:tw15136170936600756720=0:=rfl
def tw1995638444247620403:Nat:=0
theorem te1995638444247620403:tw1995638444247620403=0:=rfl
def tw17848790565443911004:Nat:=0
theorem te17848790565443911004:tw17848790565443911004=0:=rfl
def tw5253970646519922019:Nat:=0
theorem te5253970646519922019:tw5253970646519922019=0:=rfl
def tw8650081557006521531:Nat:=0
theorem te8650081557006521531:tw8650081557006521531=0:=rfl
def tw4800558387392485630:Nat:=0
theorem te4800558387392485630:tw4800558387392485630=0:=rfl
def tw931001862508214852:Nat:=0
theorem te931001862508214852:tw931001862508214852=0:=rfl
def tw4211560427065330812:Nat:=0
theorem te4211560427065330812:tw4211560427065330812=0:=rfl
def tw4199829300752316897:Nat:=0
theorem te4199829300752316897:tw4199829300752316897=0:=rfl
def tw8813663562455707333:Nat:=0
theorem te8813663562455707333:tw8813663562455707333=0:=rfl
def tw17934222293763922824:Nat:=0
theorem te17934222293763922824:tw17934222293763922824=0:=rfl
def tw12134777346583448243:Nat:=0
theorem te12134777346583448243:tw12134777346583448243=0:=rfl
def tw18069341360936336361:Nat:=0
theorem te18069341360936336361:tw18069341360936336361=0:=rfl
def tw8487023764440372780:Nat:=0
theorem te8487023764440372780:tw8487023764440372780=0:=rfl
def tw1051376377284021130:Nat:=0
theorem te1051376377284021130:tw1051376377284021130=0:=rfl
def tw86305182509490342:Nat:=0
theorem te86305182509490342:tw86305182509490342=0:=rfl
def tw13520475032436774339:Nat:=0
theorem te13520475032436774339:tw13520475032436774339=0:=rfl
def tw8052950861519024198:Nat:=0
theorem te8052950861519024198:tw8052950861519024198=0:=rfl
def tw15604277755973152987:Nat:=0
theorem te15604277755973152987:tw15604277755973152987=0:=rfl
def tw9056953256241171293:Nat:=0
theorem te9056953256241171293:tw9056953256241171293=0:=rfl
def tw10249857883631269600:Nat:=0
theorem te10249857883631269600:tw10249857883631269600=0:=rfl
def tw5791727770370737007:Nat:=0
theorem te5791727770370737007:tw5791727770370737007=0:=rfl
def tw7884044524747338345:Nat:=0
theorem te7884044524747338345:tw7884044524747338345=0:=rfl
def tw6407873733127522034:Nat:=0
theorem te6407873733127522034:tw6407873733127522034=0:=rfl
def tw12416330193044430520:Nat:=0
theorem te12416330193044430520:tw12416330193044430520=0:=rfl
def tw14152084095447785534:Nat:=0
theorem te14152084095447785534:tw14152084095447785534=0:=rfl
def tw13566724985873722240:Nat:=0
theorem te13566724985873722240:tw13566724985873722240=0:=rfl
def tw4642028432990787173:Nat:=0
theorem te4642028432990787173:tw4642028432990787173=0:=rfl
def tw14337563930984527688:Nat:=0
theorem te14337563930984527688:tw14337563930984527688=0:=rfl
def tw17616258207837393782:Nat:=0
theorem te17616258207837393782:tw17616258207837393782=0:=rfl
def tw12024014279102788016:Nat:=0
theorem te12024014279102788016:tw12024014279102788016=0:=rfl
def tw3269161901638528065:Nat:=0
theorem te3269161901638528065:tw3269161901638528065=0:=rfl
def tw1432524071651208163:Nat:=0
theorem te1432524071651208163:tw1432524071651208163=0:=rfl
def tw7961854445500899849:Nat:=0
theorem te7961854445500899849:tw7961854445500899849=0:=rfl
def tw1465586796580675087:Nat:=0
theorem te1465586796580675087:tw1465586796580675087=0:=rfl
def tw6990759541509470869:Nat:=0
theorem te6990759541509470869:tw6990759541509470869=0:=rfl
def tw4821581532970191760:Nat:=0
theorem te4821581532970191760:tw4821581532970191760=0:=rfl
def tw17457335058741797077:Nat:=0
theorem te17457335058741797077:tw17457335058741797077=0:=rfl
def tw1058704373343081783:Nat:=0
theorem te1058704373343081783:tw1058704373343081783=0:=rfl
def tw11434187913952631413:Nat:=0
theorem te11434187913952631413:tw11434187913952631413=0:=rfl
def tw17569023266278066129:Nat:=0
theorem te17569023266278066129:tw17569023266278066129=0:=rfl
def tw2274879216233037400:Nat:=0
theorem te2274879216233037400:tw2274879216233037400=0:=rfl
def tw10110957526595601233:Nat:=0
theorem te10110957526595601233:tw10110957526595601233=0:=rfl
def tw12316947847339560163:Nat:=0
theorem te12316947847339560163:tw12316947847339560163=0:=rfl
def tw13777303079298822717:Nat:=0
theorem te13777303079298822717:tw13777303079298822717=0:=rfl
def tw2658089276553180836:Nat:=0
theorem te2658089276553180836:tw2658089276553180836=0:=rfl
def tw10304059646574463344:Nat:=0
theorem te10304059646574463344:tw10304059646574463344=0:=rfl
def tw3123722481291875604:Nat:=0
theorem te3123722481291875604:tw3123722481291875604=0:=rfl
def tw9909164584966366851:Nat:=0
theorem te9909164584966366851:tw9909164584966366851=0:=rfl
def tw3836328308093080861:Nat:=0
theorem te3836328308093080861:tw3836328308093080861=0:=rfl
def tw5020942954035719738:Nat:=0
theorem te5020942954035719738:tw5020942954035719738=0:=rfl
def tw11623625447162328377:Nat:=0
theorem te11623625447162328377:tw11623625447162328377=0:=rfl
def tw10521590382543894717:Nat:=0
theorem te10521590382543894717:tw10521590382543894717=0:=rfl
def tw17336244267702640032:Nat:=0
theorem te17336244267702640032:tw17336244267702640032=0:=rfl
def tw5311262349315344316:Nat:=0
theorem te5311262349315344316:tw5311262349315344316=0:=rfl
def tw4333959017624893225:Nat:=0
theorem te4333959017624893225:tw4333959017624893225=0:=rfl
def tw8121449115175844268:Nat:=0
theorem te8121449115175844268:tw8121449115175844268=0:=rfl
def tw10675908965505086669:Nat:=0
theorem te10675908965505086669:tw10675908965505086669=0:=rfl
def tw13469916486066260565:Nat:=0
theorem te13469916486066260565:tw13469916486066260565=0:=rfl
def tw3546391178023082518:Nat:=0
theorem te3546391178023082518:tw3546391178023082518=0:=rfl
def tw14695476519535545632:Nat:=0
theorem te14695476519535545632:tw14695476519535545632=0:=rfl
def tw7041708815748719957:Nat:=0
theorem te7041708815748719957:tw7041708815748719957=0:=rfl
def tw18297356580013813643:Nat:=0
theorem te18297356580013813643:tw18297356580013813643=0:=rfl
def tw5753364120648192981:Nat:=0
theorem te5753364120648192981:tw5753364120648192981=0:=rfl
def tw11798376538385675948:Nat:=0
theorem te11798376538385675948:tw11798376538385675948=0:=rfl
def tw16653162697002441074:Nat:=0
theorem te16653162697002441074:tw16653162697002441074=0:=rfl
def tw45128282314075358:Nat:=0
theorem te45128282314075358:tw45128282314075358=0:=rfl
def tw11718587913301884847:Nat:=0
theorem te11718587913301884847:tw11718587913301884847=0:=rfl
def tw12283174161436521707:Nat:=0
theorem te12283174161436521707:tw12283174161436521707=0:=rfl
def tw6536529745692850532:Nat:=0
theorem te6536529745692850532:tw6536529745692850532=0:=rfl
def tw9239793424870073758:Nat:=0
theorem te9239793424870073758:tw9239793424870073758=0:=rfl
def tw11198293549003500172:Nat:=0
theorem te11198293549003500172:tw11198293549003500172=0:=rfl
def tw9111536590120063676:Nat:=0
theorem te9111536590120063676:tw9111536590120063676=0:=rfl
def tw11406365378259884274:Nat:=0
theorem te11406365378259884274:tw11406365378259884274=0:=rfl
def tw9448232324691927881:Nat:=0
theorem te9448232324691927881:tw9448232324691927881=0:=rfl
def tw13920748746588241428:Nat:=0
theorem te13920748746588241428:tw13920748746588241428=0:=rfl
def tw10688764189557432188:Nat:=0
theorem te10688764189557432188:tw10688764189557432188=0:=rfl
def tw15537969535328056452:Nat:=0
theorem te15537969535328056452:tw15537969535328056452=0:=rfl
def tw11713422106283856288:Nat:=0
theorem te11713422106283856288:tw11713422106283856288=0:=rfl
def tw4755226156183908515:Nat:=0
theorem te4755226156183908515:tw4755226156183908515=0:=rfl
def tw2562703320416637715:Nat:=0
theorem te2562703320416637715:tw2562703320416637715=0:=rfl
def tw10315354198389743358:Nat:=0
theorem te10315354198389743358:tw10315354198389743358=0:=rfl
def tw7137500783220897795:Nat:=0
theorem te7137500783220897795:tw7137500783220897795=0:=rfl
def tw567109475989346320:Nat:=0
theorem te567109475989346320:tw567109475989346320=0:=rfl
def tw12157152295864395528:Nat:=0
theorem te12157152295864395528:tw12157152295864395528=0:=rfl
def tw1161469437446699499:Nat:=0
theorem te1161469437446699499:tw1161469437446699499=0:=rfl
def tw2319304768844339191:Nat:=0
theorem te2319304768844339191:tw2319304768844339191=0:=rfl
def tw2185295890525792989:Nat:=0
theorem te2185295890525792989:tw2185295890525792989=0:=rfl
def tw12495936617132908988:Nat:=0
theorem te12495936617132908988:tw12495936617132908988=0:=rfl
def tw6666614230897869583:Nat:=0
theorem te6666614230897869583:tw6666614230897869583=0:=rfl
def tw139417555623215498:Nat:=0
theorem te139417555623215498:tw139417555623215498=0:=rfl
def tw12504090118032603373:Nat:=0
theorem te12504090118032603373:tw12504090118032603373=0:=rfl
end PySem.W.Fast
set_option maxRecDepth 100000 in
set_option maxHeartbeats 0 in
theorem PySem.Challenge.cw_holdplaces_k03_far_and_pieces_holds : PySem.Challenge.rw_holdplaces_k03_far_and_pieces.Holds := by
 w_on;o_law;k_head;(case hw=>w_witness2)
 k_fill
 refine K03.walk (l:=PySem.Challenge.rw_holdplaces_k03_far_and_pieces) rfl rfl rfl (λw h Y=>PySem.W.kIn_of Y) ?F
 case F=>
  intro w mg h KX N
  refine' K03.all_mk (WB.zB ?_ ?_ ?_ ?_) (WB.zB ?_ ?_ ?_ ?_) (WB.zB ?_ ?_ ?_ ?_) (WB.zB ?_ ?_ ?_ ?_) (WB.zB ?_ ?_ ?_ ?_) (WB.zB ?_ ?_ ?_ ?_) (WB.zB ?_ ?_ ?_ ?_) (WB.zB ?_ ?_ ?_ ?_) (WB.zB ?_ ?_ ?_ ?_) (WB.zB ?_ ?_ ?_ ?_) (WB.zB ?_ ?_ ?_ ?_) (WB.zB ?_ ?_ ?_ ?_) (WB.zB ?_ ?_ ?_ ?_) (WB.zB ?_ ?_ ?_ ?_) (WB.zB ?_ ?_ ?_ ?_) (WB.zB ?_ ?_ ?_ ?_) (WB.zB ?_ ?_ ?_ ?_) (WB.zB ?_ ?_ ?_ ?_) (WB.zB ?_ ?_ ?_ ?_) (WB.zB ?_ ?_ ?_ ?_) (WB.zB ?_ ?_ ?_ ?_) (WB.zB ?_ ?_ ?_ ?_) (WB.zB ?_ ?_ ?_ ?_) (WB.zB ?_ ?_ ?_ ?_) (WB.zB ?_ ?_ ?_ ?_) (WB.zB ?_ ?_ ?_ ?_) (WB.zB ?_ ?_ ?_ ?_) (WB.zB ?_ ?_ ?_ ?_) KX N ?_ ?_ ?_ ?_ ?_ ?_ ?_ ?_ ?_ ?_ ?_ ?_ ?_ ?_ ?_ ?_ ?_ ?_ ?_ ?_ ?_ ?_ ?_ ?_ ?_ ?_ ?_ ?_ ?_ ?_ ?_ ?_ ?_ (WB.lZ ?w0_1 ?w0_2 ?w0_3 ?w0_4) (WB.lZ ?w1_1 ?w1_2 ?w1_3 ?w1_4) (WB.mw ?s0_1 ?s0_2 ?s0_3 ?s0_4 ?s0_5 ?s0_6) ?v0 (WB.mw ?s1_1 ?s1_2 ?s1_3 ?s1_4 ?s1_5 ?s1_6) ?v1 (WB.c0 ?t0_1 ?t0_2 ?t0_3) (WB.c0 ?t1_1 ?t1_2 ?t1_3) (WB.c0 ?t2_1 ?t2_2 ?t2_3) (WB.c0 ?t3_1 ?t3_2 ?t3_3) (WB.c0 ?t4_1 ?t4_2 ?t4_3) (WB.c0 ?t5_1 ?t5_2 ?t5_3) (WB.c0 ?t6_1 ?t6_2 ?t6_3) (WB.c0 ?t7_1 ?t7_2 ?t7_3) (WB.c0 ?t8_1 ?t8_2 ?t8_3) (WB.c0 ?t9_1 ?t9_2 ?t9_3) (WB.c0 ?t10_1 ?t10_2 ?t10_3) (WB.c0 ?t11_1 ?t11_2 ?t11_3) (WB.c0 ?t12_1 ?t12_2 ?t12_3) (WB.c0 ?t13_1 ?t13_2 ?t13_3) ?q0_1 ?n0_1 ?q0_2 ?n0_2 ?q0_3 ?n0_3 ?q0_4 ?n0_4 ?q0_5 ?n0_5 ?q0_6 ?n0_6 ?q0_7 ?n0_7 ?q0_8 ?n0_8 ?q0_9 ?n0_9 ?q0_10 ?n0_10 ?q0_11 ?n0_11 ?q0_12 ?n0_12 ?q0_13 ?n0_13 ?q1_0 ?n1_0 ?q1_1 ?n1_1 ?q1_3 ?n1_3 ?q1_4 ?n1_4 ?q1_5 ?n1_5 ?q1_6 ?n1_6 ?q1_7 ?n1_7 ?q1_8 ?n1_8 ?q1_9 ?n1_9 ?q1_10 ?n1_10 ?q1_11 ?n1_11 ?q1_12 ?n1_12 ?q1_13 ?n1_13
  any_goals k_is
  any_goals k_exc
  any_goals decide
#print axioms PySem.Challenge.cw_holdplaces_k03_far_and_pieces_holds
