import PyProof.Rows.All
import Wide.All
import OpenK.AllK
import Wide.FinOn
import Lean
import PyProof.EqAt
import PyProof.EqKinds
import PyProof.TupleCall
import PyProof.NeKinds
import PyProof.EnumFor
import PyProof.EnumMake
import PyProof.Rows.EnumRows
import PyProof.Rows.Range3
import PyProof.NoPylong
import PyProof.ListRange
import PyProof.TupleOfSeq
import PyProof.TupleOfStr
import PyProof.Draws
import PyProof.ZipIter
import PyProof.Rows.ZipGen
import PyProof.Rows.SortStr
import PyProof.Rows.TupAdd
import PyProof.SetRoads
import PyProof.Rows.SetFrom
import PyProof.StrWalks
import PyProof.CollectWalk
import KE.KDictList
import PyProof.Tail
import PyProof.TupleIter
import PyProof.AttrMiss
import KE.KDictOf
import OpenK.KTop
import PyProof.Rows.SortRev
import PyProof.Rows.CallKwBuiltin
import PyProof.Rows.CallKw2
import KE.KRevIter
import PyProof.SumWalkG
import Wide.Seal
import PyProof.AttrMissHeap
import PyProof.TupleKey
import PyProof.StrCalls2
import PyProof.Rows.StrKeys3
import PyProof.Conv_int
import PyProof.ExcBaseAll.ValueError
import KE.KTryMore
import PyProof.ExcArgsOwn
import KE.KIsAll
import KE.RegKTryMore
import KE.RegKIsAll
import PyProof.ToksMono
import PyProof.StrReplace2
import PySem.Challenge.RW_lassoscribe_k85_sentences_written
open Option renaming bind_eq_some_iff → qaA, bind_assoc → qyA
open PySem renaming wpAny_bind → qbA, wpAny_pure → qcA, sizeLine_eq → qxA
open List renaming length_map → qdA, length_append → qeA, length_cons → qfA, length_singleton → qgA, mem_append → qhA, mem_cons → qiA, mem_singleton → qjA, mem_cons_self → qkA, mem_cons_of_mem → qmA, mem_of_getElem? → qnA, getElem?_eq_some_iff → qoA, getElem?_eq_getElem → qpA, append_nil → qqA, size_toArray → qdB, not_mem_nil → qiB, mem_append_right → qkB
open Nat renaming le_refl → qrA, le_trans → qsA, ne_of_lt → qhB, lt_of_lt_of_le → qjB
open Option.some renaming inj → qtA
open PySem.Heap renaming lt_size → quA, get?_push_of_some → qvA, get?_push_size → qwA
open Int renaming eq_ofNat_of_zero_le → qzA, emod_nonneg → qaB, emod_lt_of_pos → qbB
open Bool renaming false_ne_true → qcB
open PySem.W renaming keepIn → qeB, fnOf → qfB
open Array renaming length_toList → qgB
noncomputable section
set_option Elab.async false
set_option linter.all false
set_option maxRecDepth 100000
set_option maxHeartbeats 4000000
local macro_rules
 | `(tactic| clear $n:num $rs*) => do
  let i := fun (n : Lean.Name) => Lean.mkIdent n
  match n.getNat with
  | 7 => let l := #[`G1, `s1, `c, `hc, `H, `sH, `Q, `k].map i; `(tactic| intro $l:ident*)
  | 8 => `(tactic| refine $(rs[0]!) $(i `G1) $(i `s1) $(rs[1]!) $(rs[2]!) $(i `H) $(i `sH) _ fun $(i `v) $(i `G2) $(i `H2) $(i `x2) $(i `r2) => ?_)
  | _ => Lean.Macro.throwUnsupported
theorem bE {α β : Type} {o : Option α} {f : α -> Option β} {b : β} {C : Prop} (h : o.bind f = some b) (k : ∀ a, o = some a -> f a = some b -> C) : C := by
 obtain ⟨a, h1, h2⟩ := qaA.mp h;exact k a h1 h2
abbrev FZ9 := PySem.W.Frag
namespace L2
open PySem PySem.Spec PyProof.Rows
abbrev Key:=Sum Int Str
def keyIs:Key->Value->Bool
 | .inl k,v=>Value.isInt k v
 | .inr x,v=>Value.isStrOf x v
def keyH (w:World):Key->Int
 | .inl k=>hashInt k
 | .inr x=>hashStr w x
theorem Az:∀ {k:Key}{v:Value},keyIs k v=true->(∃ i t,k=Sum.inl i/\v=Value.int i t)\/(∃ x t,k=Sum.inr x/\v=Value.str x t)
 | .inl i,v,h=>by
  obtain ⟨t,e⟩:=Value.isInt_shape (k:=i) (v:=v) h;exact .inl ⟨i,t,rfl,e⟩
 | .inr x,v,h=>by
  obtain ⟨t,e⟩:=Value.isStrOf_shape (x:=x) (v:=v) h;exact .inr ⟨x,t,rfl,e⟩
theorem key_ll (a b:Int):decide ((Sum.inl a:Key)=Sum.inl b)=(a == b):=by
 by_cases e:a=b
 ·subst e;simp
 ·have h:¬ (Sum.inl a:Key)=Sum.inl b:=fun q=>e (Sum.inl.inj q);rw [decide_eq_false h];exact (beq_eq_false_iff_ne.mpr e).symm
theorem key_rr (a b:Str):decide ((Sum.inr a:Key)=Sum.inr b)=decide (a=b):=by
 by_cases e:a=b
 ·subst e;simp
 ·have h:¬ (Sum.inr a:Key)=Sum.inr b:=fun q=>e (Sum.inr.inj q);rw [decide_eq_false h,decide_eq_false e]
theorem key_lr (a:Int)(b:Str):decide ((Sum.inl a:Key)=Sum.inr b)=false:=decide_eq_false (fun q=>nomatch q)
theorem key_rl (a:Str)(b:Int):decide ((Sum.inr a:Key)=Sum.inl b)=false:=decide_eq_false (fun q=>nomatch q)
def FI (prog:Program)(w:World):PySem.KeyKind prog w Key where
 is:=keyIs
 hash:=keyH w
 inj:=fun v a b ha hb=>by
  rcases Az ha with ⟨i,t,rfl,rfl⟩ | ⟨x,t,rfl,rfl⟩
  ·rcases Az hb with ⟨j,u,rfl,e⟩ | ⟨y,u,rfl,e⟩
   ·injection e with e1 _;rw [e1]
   ·exact nomatch e
  ·rcases Az hb with ⟨j,u,rfl,e⟩ | ⟨y,u,rfl,e⟩
   ·exact nomatch e
   ·injection e with e1 _;rw [e1]
 byValue:=fun k v h=>by
  rcases Az h with ⟨i,t,rfl,rfl⟩ | ⟨x,t,rfl,rfl⟩<;>rfl
 pyHash:=fun hv h=>by
  rcases Az hv with ⟨i,t,rfl,rfl⟩ | ⟨x,t,rfl,rfl⟩
  ·exact wpAny_pyHash_int h
  ·exact wpAny_pyHash_str h
 eqBool:=fun hu hv h=>by
  rcases Az hu with ⟨i,t,rfl,rfl⟩ | ⟨x,t,rfl,rfl⟩
  ·rcases Az hv with ⟨j,u,rfl,rfl⟩ | ⟨y,u,rfl,rfl⟩
   ·rw [key_ll] at h;exact wpAny_eqBool_int h
   ·rw [key_lr] at h;exact SeqAt.EqAt.int_str i t y u _ _ _ _ h
  ·rcases Az hv with ⟨j,u,rfl,rfl⟩ | ⟨y,u,rfl,rfl⟩
   ·rw [key_rl] at h;exact SeqAt.EqAt.str_int x t j u _ _ _ _ h
   ·rw [key_rr] at h;exact wpAny_eqBool_str h
 «strs»:=fun k x t v h=>by
  rcases Az h with ⟨i,u,rfl,e⟩ | ⟨y,u,rfl,e⟩
  ·exact nomatch e
  ·injection e with e1 _
   subst e1;cases v<;>rfl
inductive V where
 | non|bl (b:Bool)|int (i:Int)|str (x:Str)|byt (b:Array UInt8)|flt (b:UInt64)|ref (a:Addr)|ty (n:String)
 deriving DecidableEq
def RelV:V->Value->Prop
 | .non,u=>u=Value.none
 | .bl b,u=>u=Value.bool b
 | .int i,u=>∃ t,u=Value.int i t
 | .str x,u=>∃ t,u=Value.str x t
 | .byt b,u=>∃ t,u=Value.bytes b t
 | .flt b,u=>∃ t,u=Value.float b t
 | .ref a,u=>u=Value.ref a
 | .ty n,u=>u=Value.type n
abbrev Vals:List V->List Value->Prop:=Paired RelV
theorem Vals.length {xs:List V}{us:List Value}(r:Vals xs us):xs.length=us.length:=Paired.length r
theorem Vals.get:∀ {xs:List V}{us:List Value}{i:Nat}{x:V},Vals xs us->xs[i]? = some x->∃ u,us[i]? = some u/\RelV x u
 | _,_,_,_,.nil,e=>by simp at e
 | _,_,0,_,.cons r _,e=>by simp at e;subst e;exact ⟨_,rfl,r⟩
 | _,_,i+1,x,.cons _ t,e=>by
  obtain ⟨u,h1,h2⟩:=Vals.get (i:=i) (x:=x) t (by simpa using e);exact ⟨u,by simpa using h1,h2⟩
theorem Vals.append:∀ {xs ys:List V}{us ws:List Value},Vals xs us->Vals ys ws->Vals (xs++ys) (us++ws)
 | _,_,_,_,.nil,s=>s
 | _,_,_,_,.cons r t,s=>.cons r (Vals.append t s)
theorem Vals.take:∀ {xs:List V}{us:List Value}(n:Nat),Vals xs us->Vals (xs.take n) (us.take n)
 | _,_,0,_=>.nil
 | _,_,_+1,.nil=>.nil
 | _,_,n+1,.cons r t=>.cons r (Vals.take n t)
theorem Vals.drop:∀ {xs:List V}{us:List Value}(n:Nat),Vals xs us->Vals (xs.drop n) (us.drop n)
 | _,_,0,r=>r
 | _,_,_+1,.nil=>.nil
 | _,_,n+1,.cons _ t=>Vals.drop n t
def RelO:Option V->Option Value->Prop
 | some v,some u=>RelV v u
 | none,none=>True
 | _,_=>False
def KV {κ:Type}:List (κ × V)->List (κ × Value)->Prop:=Paired fun (p:κ × V) (q:κ × Value)=>p.1=q.1/\RelV p.2 q.2
def kV:Key->V
 | .inl i=>.int i
 | .inr x=>.str x
inductive HO where
 | lst (xs:List V)
 | tup (xs:List V)
 | dK (kvs:List (Key × V))|dT (kvs:List (List Key × V))
 | set (S:Int->Bool) (n:Nat)
 | ins (C dx:Addr) (fs:List (Str × V))
 | own (x:Addr)
 | xd (fs:List (Str × V))
 | met (f x:Addr)
 | rng (lo hi:Int)
 | frz (o:Obj) (u:HO)
 | tbl (ps:Array Value)
 | ext (φ:Heap->Prop)
abbrev Hp:=Addr->Option HO
def upd (H:Hp)(a:Addr)(o:HO):Hp:=fun b=>if b=a then some o else H b
theorem AX {H:Hp}{a:Addr}{o:HO}:upd H a o a=some o:=by unfold upd;rw [if_pos rfl]
theorem Aq {H:Hp}{a b:Addr}{o:HO}(h:b≠a):upd H a o b=H b:=by unfold upd;rw [if_neg h]
theorem BQ {H:Hp}{a b:Addr}{o:HO}(h:H a=some o)(h':H b=none):a≠b:=by
 intro e;subst e;rw [h] at h';cases h'
section
variable (P:Program)(w:World)
def ObjOk (H:Hp)(h:Heap)(a:Addr):HO->Prop
 | .lst xs=>xs.length<=sizeLine/\∃ (its:List Value) (n:Nat),Vals xs its/\h.get? a=some { cls:=.type "list",data:=.seq its.toArray n }
 | .tup xs=>xs.length<=sizeLine/\∃ its:List Value,Vals xs its/\IsTup h a its.toArray
 | .dK kvs=>kvs.length<=sizeLine/\(a == sysModules)=false/\∃ vs,KV kvs vs/\h.DictOf (FI P w) a vs
 | .dT kvs=>kvs.length<=sizeLine/\(a == sysModules)=false/\∃ xs:List (List Key × Addr × Value),
   Paired (fun (p:List Key × V) (q:List Key × Addr × Value)=>p.1=q.1/\H q.2.1=some (.tup (p.1.map kV))/\RelV p.2 q.2.2) kvs xs /\
   ∃ o es ep,h.get? a=some o/\o.ExactDict/\o.data = .dict es ep/\es.toList=xs.map (entryOfKey (tupleKind (FI P w)))/\(xs.map (·.1)).Nodup
 | .set S n=>h.SetOf (intKind P w) a S n
 | .ins C dx fs=>H dx=some (.own a)/\fs.length<=1000/\dx≠a/\h.get? a=some (PySem.W.instObj C dx) /\
   ∃ mA,h.Ns1 dx mA/\(∀ f,RelO (fs.lookup f) (mA f))/\PySem.Within mA (fs.map (·.1))
 | .own _=>∃ o,h.get? a=some o
 | .xd fs=>∃ mA,h.Ns1 a mA/\∀ f,RelO (fs.lookup f) (mA f)
 | .rng lo hi=>∃ t u v,h.get? a=some { cls:=.type "range",data:=.fields #[.int lo t,.int hi u,.int 1 v] }
 | .frz o u=>h.get? a=some o/\ObjOk H h a u
 | .tbl ps=>h.get? a=some { cls:=.none,data:=.fields ps }
 | .met f x=>h.get? a=some (PySem.W.methodObj (.ref f) (.ref x))
 | .ext φ=>φ h/\(∃ o,h.get? a=some o)/\∀ h1 h2:Heap,φ h1->(∀ o,h1.get? a=some o->h2.get? a=some o)->φ h2
def HOk (H:Hp)(h:Heap):Prop:=∀ a o,H a=some o->ObjOk P w H h a o
end
section
variable {P:Program}{w:World}{H H':Hp}{h h':Heap}{a:Addr}{o:HO}
theorem ObjOk.lt (x:ObjOk P w H h a o):a<h.objs.size:=by
 cases o with
 | lst xs=>obtain ⟨_,_,_,_,e⟩:=x;exact quA e
 | tup xs=>obtain ⟨_,_,_,p⟩:=x;exact p.lt
 | dK kvs=>obtain ⟨_,_,_,_,o,_,_,e,_⟩:=x;exact quA e
 | dT kvs=>obtain ⟨_,_,_,_,o,_,_,e,_⟩:=x;exact quA e
 | set S n=>obtain ⟨o,_,_,_,e,_⟩:=x;exact quA e
 | ins C dx fs=>obtain ⟨_,_,_,e,_⟩:=x;exact quA e
 | own y=>obtain ⟨_,e⟩:=x;exact quA e
 | xd fs=>obtain ⟨_,⟨_,_,_,e,_⟩,_⟩:=x;exact quA e
 | rng lo hi=>obtain ⟨_,_,_,e⟩:=x;exact quA e
 | frz ob u=>obtain ⟨e,_⟩:=x;exact quA e
 | tbl ps=>exact quA (show h.get? a=some _ from x)
 | met f y=>exact quA (show h.get? a=some _ from x)
 | ext φ=>obtain ⟨_,⟨_,e⟩,_⟩:=x;exact quA e
theorem Paired.mapP {α β:Type}{F G:α->β->Prop}:∀ {l₁:List α}{l₂:List β},Paired F l₁ l₂->(∀ a b,F a b->G a b)->Paired G l₁ l₂
 | _,_,.nil,_=>.nil
 | _,_,.cons r t,f=>.cons (f _ _ r) (Paired.mapP t f)
theorem Paired.imp' {α β:Type}{F G:α->β->Prop}(f:∀ a b,F a b->G a b){l₁:List α}{l₂:List β}(r:Paired F l₁ l₂):Paired G l₁ l₂:=Paired.mapP r f
theorem ObjOk.stay (x:ObjOk P w H h a o)(k:∀ b u,(b=a\/H b=some (.own a))->h.get? b=some u->h'.get? b=some u)
  (ho:∀ b,H b=some (.own a)->H' b=some (.own a)) (ht:∀ b xs,H b=some (.tup xs)->H' b=some (.tup xs)):ObjOk P w H' h' a o:=by
 induction o with
 | lst xs=>obtain ⟨z,its,n,r,e⟩:=x;exact ⟨z,its,n,r,k _ _ (.inl rfl) e⟩
 | tup xs=>obtain ⟨z,its,r,ob,e,c⟩:=x;exact ⟨z,its,r,ob,k _ _ (.inl rfl) e,c⟩
 | dK kvs=>obtain ⟨z,y,vs,r,ob,es,ep,e,c⟩:=x;exact ⟨z,y,vs,r,ob,es,ep,k _ _ (.inl rfl) e,c⟩
 | dT kvs =>
  obtain ⟨z,y,xs,r,ob,es,ep,e,c⟩:=x;exact ⟨z,y,xs,Paired.mapP r fun p q z=>⟨z.1,ht _ _ z.2.1,z.2.2⟩,ob,es,ep,k _ _ (.inl rfl) e,c⟩
 | set S n=>obtain ⟨ob,es,ep,t,e,c⟩:=x;exact ⟨ob,es,ep,t,k _ _ (.inl rfl) e,c⟩
 | ins C dx fs =>
  obtain ⟨d,z,ne,e,mA,⟨od,es,ep,e2,c⟩,r⟩:=x;exact ⟨ho _ d,z,ne,k _ _ (.inl rfl) e,mA,⟨od,es,ep,k _ _ (.inr d) e2,c⟩,r⟩
 | own y=>obtain ⟨ob,e⟩:=x;exact ⟨ob,k _ _ (.inl rfl) e⟩
 | xd fs=>obtain ⟨mA,⟨od,es,ep,e,c⟩,r⟩:=x;exact ⟨mA,⟨od,es,ep,k _ _ (.inl rfl) e,c⟩,r⟩
 | rng lo hi=>obtain ⟨t,u,v,e⟩:=x;exact ⟨t,u,v,k _ _ (.inl rfl) e⟩
 | frz ob u ih=>obtain ⟨e,q⟩:=x;exact ⟨k _ _ (.inl rfl) e,ih q⟩
 | tbl ps =>
  have e:h.get? a=some { cls:=.none,data:=.fields ps }:=x;show h'.get? a=some { cls:=.none,data:=.fields ps };exact k a _ (.inl rfl) e
 | met f y =>
  have e:h.get? a=some (PySem.W.methodObj (.ref f) (.ref y)):=x;show h'.get? a=some (PySem.W.methodObj (.ref f) (.ref y));exact k a _ (.inl rfl) e
 | ext φ=>obtain ⟨p,⟨o,e⟩,st⟩:=x;exact ⟨st _ _ p fun o q=>k _ _ (.inl rfl) q,⟨o,k _ _ (.inl rfl) e⟩,st⟩
theorem HOk.lt (x:HOk P w H h)(e:H a=some o):a<h.objs.size:=(x a o e).lt
theorem HOk.fresh (x:HOk P w H h)(e:h.objs.size<=a):H a=none:=by
 cases q:H a with
 | none=>rfl
 | some u=>exact absurd (qjB (x.lt q) e) (Nat.lt_irrefl _)
theorem HOk.kept (x:HOk P w H h)(k:∀ b u,h.get? b=some u->h'.get? b=some u):HOk P w H h':=fun a o e =>
 (x a o e).stay (fun b u _ q=>k b u q) (fun _ q=>q) fun _ _ q=>q
theorem HOk.laid (x:HOk P w H h)(k:∀ b u,h.get? b=some u->h'.get? b=some u)(hp:h.objs.size<=a)(new:ObjOk P w (upd H a o) h' a o):HOk P w (upd H a o) h':=fun b u e=>by
 have hn:=x.fresh hp;by_cases hb:b=a
 ·subst hb;rw [AX] at e;cases e;exact new
 ·rw [Aq hb] at e;exact (x b u e).stay (fun c v _ q=>k c v q) (fun c q=>by rw [Aq (BQ q hn)];exact q) fun c xs q=>by rw [Aq (BQ q hn)];exact q
end
def Rd (H:Hp)(a:Addr)(u:HO):Prop:=H a=some u\/∃ o,H a=some (.frz o u)
theorem Rd.ok {P:Program}{w:World}{H:Hp}{h:Heap}{a:Addr}{u:HO}(r:Rd H a u)(x:HOk P w H h):ObjOk P w H h a u:=by
 rcases r with r | ⟨o,r⟩
 ·exact x a u r
 ·obtain ⟨_,q⟩:=x a _ r;exact q
def Mut:Option HO->Prop
 | some (.lst _)=>True
 | some (.dK _)=>True
 | some (.dT _)=>True
 | some (.set _ _)=>True
 | some (.ins _ _ _)=>True
 | some (.ext _)=>True
 | _=>False
section
variable {P:Program}{w:World}{H:Hp}{h h':Heap}{x e:Addr}{o':HO}
theorem HOk.write (ok:HOk P w H h)(mu:Mut (H x))(he:e=x\/H e=some (.own x))(k:∀ b u,b≠e->h.get? b=some u->h'.get? b=some u)(heo:∃ u,h'.get? e=some u)
  (new:ObjOk P w (upd H x o') h' x o'):HOk P w (upd H x o') h':=fun b u q=>by
 have nown:∀ c y,H c=some (.own y)->c≠x:=fun c y r z=>by subst z;rw [r] at mu;exact mu
 have ntup:∀ c xs,H c=some (.tup xs)->c≠x:=fun c xs r z=>by subst z;rw [r] at mu;exact mu
 by_cases hb:b=x
 ·subst hb;rw [AX] at q;cases q;exact new
 ·rw [Aq hb] at q;by_cases hbe:b=e
  ·have q':H b=some (.own x):=by
    rcases he with z|z
    ·exact absurd (hbe.trans z) hb
    ·rw [hbe];exact z
   rw [q] at q';cases q';obtain ⟨v,hv⟩:=heo;exact ⟨v,by rw [hbe];exact hv⟩
  ·refine (ok b u q).stay (fun c v hc r=>k c v ?_ r) (fun c r=>by rw [Aq (nown c b r)];exact r) fun c xs r=>by rw [Aq (ntup c xs r)];exact r
   rcases hc with rfl|hc
   ·exact hbe
   ·rintro rfl;rcases he with z|z
    ·exact nown c b hc z
    ·rw [hc] at z;cases z;exact hb rfl
end
structure Un (fs ex:List Addr)(H H':Hp)(h h':Heap):Prop where
 keep:∀ b o,h.get? b=some o->H b=none->b ∉ fs->b ∉ ex->h'.get? b=some o
 slot:∀ b o,h.get? b=some o->H b=none->b∈fs->b ∉ ex->∃ sl,h'.get? b=some { o with slots:=sl }
 free:∀ b o,h.get? b=some o->H b=none->b ∉ ex->H' b=none
 there:∀ b o,h.get? b=some o->b ∉ ex->∃ o',h'.get? b=some o'
 tups:∀ b xs,H b=some (.tup xs)->H' b=some (.tup xs)
 frzs:∀ b o u,H b=some (.frz o u)->H' b=some (.frz o u)
 tbls:∀ b ps,H b=some (.tbl ps)->∃ more,H' b=some (.tbl (ps++more))
section
variable {fs fs' ex ex':List Addr}{H H1 H2:Hp}{h h1 h2 h':Heap}{a x e:Addr}{o:HO}
theorem Un.any (u:Un fs ex H H1 h h1){b:Addr}{ob:Obj}(q:h.get? b=some ob)(n:H b=none)(hx:b ∉ ex):∃ sl,h1.get? b=some { ob with slots:=sl }:=by
 by_cases hb:b∈fs
 ·exact u.slot b ob q n hb hx
 ·exact ⟨ob.slots,u.keep b ob q n hb hx⟩
theorem Un.kept (k:∀ b u,h.get? b=some u->h'.get? b=some u):Un fs ex H H h h' :=
 ⟨fun b ob q _ _ _=>k b ob q,fun b ob q _ _ _=>⟨ob.slots,k b ob q⟩,fun _ _ _ n _=>n,fun b ob q _=>⟨ob,k b ob q⟩,fun _ _ q=>q,fun _ _ _ q=>q,fun _ ps q=>⟨#[],by rw [q];simp⟩⟩
theorem Un.refl:Un fs ex H H h h:=Un.kept fun _ _ q=>q
theorem Un.laid (k:∀ b u,h.get? b=some u->h'.get? b=some u)(hp:h.objs.size<=a)(hn:H a=none):Un fs ex H (upd H a o) h h' where
 keep:=fun b u q _ _ _=>k b u q
 slot:=fun b u q _ _ _=>⟨u.slots,k b u q⟩
 free:=fun b u q n _=>by rw [Aq (qhB (qjB (quA q) hp))];exact n
 there:=fun b u q _=>⟨u,k b u q⟩
 tups:=fun b xs q=>by rw [Aq (BQ q hn)];exact q
 frzs:=fun b u xs q=>by rw [Aq (BQ q hn)];exact q
 tbls:=fun b ps q=>⟨#[],by rw [Aq (BQ q hn),q];simp⟩
theorem Un.write (mu:Mut (H x))(he:e=x\/H e=some (.own x))(k:∀ b u,b≠e->h.get? b=some u->h'.get? b=some u)(heo:∃ u,h'.get? e=some u):Un fs ex H (upd H x o) h h':=by
 have hx:∀ b,H b=none->b≠x:=fun b n z=>by subst z;rw [n] at mu;exact mu
 have hb:∀ b,H b=none->b≠e:=fun b n z=>by
  subst z;rcases he with r|r
  ·exact hx b n r
  ·rw [n] at r;cases r
 have hm:∀ b u,H b=some u->¬ Mut (some u)->b≠x:=fun b u q nm z=>by subst z;rw [q] at mu;exact nm mu
 refine ⟨fun b u q n _ _=>k b u (hb b n) q,fun b u q n _ _=>⟨u.slots,k b u (hb b n) q⟩,fun b u q n _=>by rw [Aq (hx b n)];exact n,fun b u q _=>?_,
  fun b xs q=>by rw [Aq (hm b _ q fun z=>z)];exact q,fun b u xs q=>by rw [Aq (hm b _ q fun z=>z)];exact q,fun b ps q=>⟨#[],by rw [Aq (hm b _ q fun z=>z),q];simp⟩⟩
 by_cases hbe:b=e
 ·subst hbe;exact heo
 ·exact ⟨u,k b u hbe q⟩
end
def trk (h:Heap)(H:Hp):List Addr:=(List.range h.objs.size).filter fun a=>(H a).isSome
def F7 (h:Heap)(H:Hp):Heap:=PySem.W.hideAll h (trk h H)
theorem Hn (h:Heap)(H:Hp):(F7 h H).objs.size=h.objs.size:=PySem.W.hideAll_size _ _
theorem hidT_get {h:Heap}{H:Hp}{b:Addr}{o:Obj}(e:h.get? b=some o)(n:H b=none):(F7 h H).get? b=some o :=
 PySem.W.hideAll_get _ e fun hm=>by
  have q:(H b).isSome=true:=(List.mem_filter.mp hm).2;rw [n] at q;simp at q
theorem of_hidT {h:Heap}{H:Hp}{b:Addr}{o:Obj}(e:(F7 h H).get? b=some o):h.get? b=some o/\H b=none:=by
 have e':h.get? b=some o:=PySem.W.of_hideAll (trk h H) e;refine ⟨e',?_⟩
 cases q:H b with
 | none=>rfl
 | some x =>
  have hm:b∈trk h H:=List.mem_filter.mpr ⟨List.mem_range.mpr (quA e'),by simp [q]⟩;have z:(F7 h H).get? b=none:=PySem.W.hideAll_none (trk h H) hm;rw [z] at e;cases e
structure Mod (K:FZ9)(mg:Str->Option Value)(base:Heap):Prop where
 kin:K.In base
 glob:base.Ns mainGlobals mg
 blt:∃ mb,base.Ns builtinsNs mb/\∀ x:Str,x ≠ "__name__" -> mb x=bootBuiltins x
 nolimit:base.NoLimit
structure Cx where
 prog:Program
 w:World
 K:FZ9
 mg:Str->Option Value
 base:Heap
 A:Around
 N:List Str
 s₀:Shared
 H₀:Hp
 env:Env
 outer:List Env
 stack:List Env
 ex:List Addr
 fn:Str->Bool
 calm:Bool
 pn:List (Addr × Obj)
 xe:Value->Shared->Prop
def frs (l:List Env):List Addr:=l.filterMap (·.frame)
abbrev Cx.fs (X:Cx):List Addr:=frs X.outer
def Vis (sc:Scope)(x:Str):Prop:=sc.names.lookup x=some .local \/ sc.names.lookup x=some .cell\/sc.names.lookup x=some .free
def Loc (sc:Scope)(x:Str):Prop:=sc.names.lookup x=some .local \/ sc.names.lookup x=some .cell
def Look (env:Env)(h:Heap)(m:Str->Option Value)(x:Str)(u:Value):Prop :=
 (env.kindOf x=some .local /\ m x=some u)\/((env.kindOf x=some .cell\/env.kindOf x=some .free)/\∃ c,env.cells.lookup x=some c/\h.IsCell c (some u))
structure Cx.Ok (X:Cx):Prop where
 mod:Mod X.K X.mg X.base
 kind:X.env.scope.kind = .function
 glob:X.env.globals=mainGlobals
 blt:X.env.builtins=builtinsNs
 above:X.s₀.heap.objs.size<=X.env.locals
 inj:∀ x y c,X.env.cells.lookup x=some c->X.env.cells.lookup y=some c->x=y
 has:∀ x,(X.env.kindOf x=some .cell\/X.env.kindOf x=some .free)->∃ c,X.env.cells.lookup x=some c
 cab:∀ x c,X.fn x=true->X.env.cells.lookup x=some c->X.s₀.heap.objs.size<=c
 hd:X.calm=true->X.A.handled=none
 frames:X.A.frames=some X.stack
 stk:X.stack=X.outer\/(X.stack=X.env::X.outer/\X.env.frame=some X.env.locals)
 exf:∀ b∈X.ex,b≠X.env.locals/\∀ x c,X.env.cells.lookup x=some c->c≠b
 bs:∀ b o,X.base.get? b=some o->X.s₀.heap.get? b=some o/\X.H₀ b=none
 bsz:X.base.objs.size<=X.s₀.heap.objs.size
 noex:∀ b o,X.base.get? b=some o->b ∉ X.ex
 exfs:∀ b∈X.ex,b ∉ X.fs
 funs:X.s₀.heap.FunFrames X.base X.outer
 frf:∀ b∈X.fs,X.H₀ b=none
structure Inv (X:Cx)(pins:List (Addr × Obj))(σ:List (Option V))(H:Hp)(s:Shared):Prop where
 ok:X.Ok
 os:s.os=X.s₀.os
 bare:AllBare s.gens
 base:Un X.fs X.ex X.H₀ H X.s₀.heap s.heap
 loc:∃ m,s.heap.Ns X.env.locals m/\∀ (i:Nat) (x:Str) (v:V),X.N[i]? = some x->σ[i]? = some (some v)->Vis X.env.scope x->∃ u,RelV v u/\Look X.env s.heap m x u
 cell:∀ x c,X.env.cells.lookup x=some c->∃ v,s.heap.IsCell c v
 free:H X.env.locals=none
 freeC:∀ x c,X.env.cells.lookup x=some c->H c=none
 pin:∀ p∈X.pn++pins,s.heap.get? p.1=some p.2/\H p.1=none/\p.1≠X.env.locals/\p.1 ∉ X.fs/\∀ v,p.2.data ≠ .cell v
 hok:HOk X.prog X.w H s.heap
 len:σ.length=X.N.length
section
variable {X:Cx}{pins:List (Addr × Obj)}{σ:List (Option V)}{H H':Hp}{s:Shared}{h':Heap}
theorem Cx.Ok.nofr (ok:X.Ok){b:Addr}{o:Obj}(e:X.base.get? b=some o):b ∉ X.fs:=fun hb=>by
 have:=(ok.funs.mem hb).1;rw [e] at this;cases this
theorem Inv.bs (I:Inv X pins σ H s):∀ b o,X.base.get? b=some o->s.heap.get? b=some o/\H b=none:=fun b o e =>
 ⟨I.base.keep b o (I.ok.bs b o e).1 (I.ok.bs b o e).2 (I.ok.nofr e) (I.ok.noex b o e),I.base.free b o (I.ok.bs b o e).1 (I.ok.bs b o e).2 (I.ok.noex b o e)⟩
theorem Inv.bk (I:Inv X pins σ H s):∀ b o,X.base.get? b=some o->s.heap.get? b=some o:=fun b o e=>(I.bs b o e).1
theorem Inv.mod (I:Inv X pins σ H s):Mod X.K X.mg X.base:=I.ok.mod
theorem Inv.kIn (I:Inv X pins σ H s):X.K.In s.heap:=I.ok.mod.kin.keeps I.bk
theorem Inv.lt (I:Inv X pins σ H s):X.env.locals<s.heap.objs.size:=let ⟨_,hn,_⟩:=I.loc;hn.lt
theorem Inv.sz (I:Inv X pins σ H s):X.s₀.heap.objs.size<=s.heap.objs.size:=qsA I.ok.above (Nat.le_of_lt I.lt)
theorem Inv.nofs (I:Inv X pins σ H s){a:Addr}(h:s.heap.objs.size<=a):a ∉ X.fs:=fun hb=>by
 obtain ⟨_,o,ho,_⟩:=I.ok.funs.mem hb;exact absurd (qjB (quA ho) (qsA I.sz h)) (Nat.lt_irrefl _)
theorem Inv.cne (I:Inv X pins σ H s):∀ x c,X.env.cells.lookup x=some c->c≠X.env.locals:=fun x c e z=>by
 obtain ⟨v,o,ho,hd⟩:=I.cell x c e;obtain ⟨m,⟨o',es,ep,ho',hd',_⟩,_⟩:=I.loc;rw [z,ho'] at ho;cases ho;rw [hd'] at hd;cases hd
theorem Inv.funs (I:Inv X pins σ H s):s.heap.FunFrames X.base X.outer:=by
 have all:∀ (l:List Env),(∀ b∈frs l,b∈X.fs)->X.s₀.heap.FunFrames X.base l->s.heap.FunFrames X.base l:=by
  intro l
  induction l with
  | nil=>intro _ _;trivial
  | cons env r ih =>
   intro hs hl;obtain ⟨hk,⟨L,o,hf,hn,ho,hd⟩,hr⟩:=hl;have hL:L∈X.fs:=hs L (by unfold frs;rw [List.filterMap_cons,hf];exact qkA);obtain ⟨sl,e⟩:=I.base.slot L o ho (I.ok.frf L hL) hL fun z=>I.ok.exfs L z hL;exact ⟨hk,⟨L,_,hf,hn,e,hd⟩,ih (fun b hb=>hs b (by unfold frs;rw [List.filterMap_cons,hf];exact qmA _ hb)) hr⟩
 exact all X.outer (fun _ hb=>hb) I.ok.funs
theorem Inv.stack (I:Inv X pins σ H s):s.heap.FunFrames X.base X.stack:=by
 rcases I.ok.stk with e | ⟨e,hf⟩
 ·rw [e];exact I.funs
 ·rw [e];obtain ⟨m,hn,_⟩:=I.loc;refine .cons (by rw [I.ok.kind];decide) hf hn ?_ I.funs;exact Heap.get?_none_of_le (qsA I.ok.bsz I.ok.above)
theorem Inv.stkSub (I:Inv X pins σ H s):∀ b∈frs X.stack,b∈X.env.locals::X.fs:=fun b hb=>by
 rcases I.ok.stk with e | ⟨e,hf⟩
 ·rw [e] at hb;exact qmA _ hb
 ·rw [e] at hb;unfold frs at hb;rw [List.filterMap_cons,hf] at hb;exact hb
theorem Inv.stkFree (I:Inv X pins σ H s):∀ b∈frs X.stack,H b=none:=fun b hb=>by
 rcases qiA.mp (I.stkSub b hb) with e|hb
 ·rw [e];exact I.free
 ·obtain ⟨_,o,ho,_⟩:=I.ok.funs.mem hb;exact I.base.free b o ho (I.ok.frf b hb) fun z=>I.ok.exfs b z hb
theorem Inv.step {g':Array GenState}{t':Nat}{d':Drawn}{ch:List Addr}(I:Inv X pins σ H s)
  (hch:∀ b∈ch,(b∈X.ex\/X.s₀.heap.objs.size<=b)/\b≠X.env.locals/\(∀ x c,X.env.cells.lookup x=some c->c≠b)/\∀ p∈X.pn++pins,p.1≠b)
  (keep:∀ b o,b≠X.env.locals->b ∉ X.fs->b ∉ ch->s.heap.get? b=some o->H b=none->h'.get? b=some o)
  (slot:∀ b o,b≠X.env.locals->b∈X.fs->b ∉ ch->s.heap.get? b=some o->H b=none->∃ sl,h'.get? b=some { o with slots:=sl }) (free:∀ b o,b ∉ ch->s.heap.get? b=some o->H b=none->H' b=none)
  (there:∀ b o,b ∉ ch->s.heap.get? b=some o->∃ o',h'.get? b=some o')
  (tups:∀ b xs,H b=some (.tup xs)->H' b=some (.tup xs)) (frzs:∀ b o u,H b=some (.frz o u)->H' b=some (.frz o u)) (tbls:∀ b ps,H b=some (.tbl ps)->∃ more,H' b=some (.tbl (ps++more)))
  (ns:∀ m,s.heap.Ns X.env.locals m->h'.Ns X.env.locals m) (hok:HOk X.prog X.w H' h') (hg:AllBare g') :
  Inv X pins σ H' { s with heap:=h',gens:=g',drawn:=d',toks:=t' }:=by
 have neL:∀ b o,X.s₀.heap.get? b=some o->b≠X.env.locals:=fun b o e=>qhB (qjB (quA e) I.ok.above)
 have neC:∀ b o,X.s₀.heap.get? b=some o->b ∉ X.ex->b ∉ ch:=fun b o e hx hb=>by
  rcases (hch b hb).1 with z|z
  ·exact hx z
  ·exact absurd (qjB (quA e) z) (Nat.lt_irrefl _)
 have cellK:∀ x c,X.env.cells.lookup x=some c->∀ v,s.heap.IsCell c v->h'.IsCell c v:=fun x c e v ⟨o,ho,hd⟩=>by
  have nch:c ∉ ch:=fun z=>(hch c z).2.2.1 x c e rfl;by_cases hc:c∈X.fs
  ·obtain ⟨sl,q⟩:=slot c o (I.cne x c e) hc nch ho (I.freeC x c e);exact ⟨_,q,hd⟩
  ·exact ⟨o,keep c o (I.cne x c e) hc nch ho (I.freeC x c e),hd⟩
 refine ⟨I.ok,I.os,hg,⟨fun b o e n hb hx=>?_,fun b o e n hb hx=>?_,fun b o e n hx=>?_,fun b o e hx=>?_,fun b xs e=>tups b xs (I.base.tups b xs e),fun b o xs e=>frzs b o xs (I.base.frzs b o xs e),fun b ps e=>?_⟩,?_,fun x c e=>?_,?_,fun x c e=>?_,fun p hp=>?_,hok,I.len⟩
 ·exact keep b o (neL b o e) hb (neC b o e hx) (I.base.keep b o e n hb hx) (I.base.free b o e n hx)
 ·obtain ⟨sl,e1⟩:=I.base.slot b o e n hb hx;obtain ⟨sl',e2⟩:=slot b _ (neL b o e) hb (neC b o e hx) e1 (I.base.free b o e n hx);exact ⟨sl',e2⟩
 ·obtain ⟨o',e1⟩:=I.base.there b o e hx;exact free b o' (neC b o e hx) e1 (I.base.free b o e n hx)
 ·obtain ⟨o',e1⟩:=I.base.there b o e hx;exact there b o' (neC b o e hx) e1
 ·obtain ⟨m1,e1⟩:=I.base.tbls b ps e;obtain ⟨m2,e2⟩:=tbls b _ e1;exact ⟨m1++m2,by rw [e2,Array.append_assoc]⟩
 ·obtain ⟨m,hn,hl⟩:=I.loc;refine ⟨m,ns m hn,fun i x v e1 e2 e3=>?_⟩;obtain ⟨u,r,l⟩:=hl i x v e1 e2 e3;refine ⟨u,r,?_⟩;rcases l with l | ⟨k,c,e,z⟩
  ·exact .inl l
  ·exact .inr ⟨k,c,e,cellK x c e _ z⟩
 ·obtain ⟨v,z⟩:=I.cell x c e;exact ⟨v,cellK x c e v z⟩
 ·obtain ⟨m,⟨o,_,_,ho,_⟩,_⟩:=I.loc;exact free _ o (fun z=>(hch _ z).2.1 rfl) ho I.free
 ·obtain ⟨v,o,ho,hd⟩:=I.cell x c e;exact free c o (fun z=>(hch c z).2.2.1 x c e rfl) ho (I.freeC x c e)
 ·obtain ⟨e,n,ne,nf,d⟩:=I.pin p hp;have nch:p.1 ∉ ch:=fun z=>(hch p.1 z).2.2.2 p hp rfl;exact ⟨keep p.1 p.2 ne nf nch e n,free p.1 p.2 nch e n,ne,nf,d⟩
theorem Inv.un {t':Nat}(I:Inv X pins σ H s)(u:Un X.fs [] H H' s.heap h')(hok:HOk X.prog X.w H' h'):Inv X pins σ H' { s with heap:=h',toks:=t' }:=by
 obtain ⟨m,⟨o,es,ep,ho,r⟩,_⟩:=id I.loc;obtain ⟨sl,hL⟩:=u.any ho I.free (by simp)
 exact I.step (g':=s.gens) (d':=s.drawn) (ch:=[]) (fun _ z=>nomatch z) (fun b o _ hb _ e n=>u.keep b o e n hb (by simp)) (fun b o _ hb _ e n=>u.slot b o e n hb (by simp)) (fun b o _ e n=>u.free b o e n (by simp)) (fun b o _ e=>u.there b o e (by simp)) u.tups u.frzs u.tbls (fun m' hm=>by
  obtain ⟨o',es',ep',ho',r'⟩:=hm;rw [ho] at ho';cases ho'
  exact ⟨_,es',ep',hL,r'⟩) hok I.bare
theorem Inv.call {g':Array GenState}{t':Nat}{d':Drawn}{ch:List Addr}(I:Inv X pins σ H s)(u:Un (frs X.stack) ch H H' s.heap h')(hok:HOk X.prog X.w H' h')(hg:AllBare g')
  (hch:∀ b∈ch,(b∈X.ex\/X.s₀.heap.objs.size<=b)/\b≠X.env.locals/\(∀ x c,X.env.cells.lookup x=some c->c≠b)/\∀ p∈X.pn++pins,p.1≠b) :
  Inv X pins σ H' { s with heap:=h',gens:=g',drawn:=d',toks:=t' }:=by
 obtain ⟨m,⟨o,es,ep,ho,r⟩,_⟩:=id I.loc;obtain ⟨sl,hL⟩:=u.any ho I.free fun z=>(hch _ z).2.1 rfl
 exact I.step (ch:=ch) hch (fun b o hL hb hc e n=>u.keep b o e n (fun z=>(qiA.mp (I.stkSub b z)).elim hL hb) hc) (fun b o _ _ hc e n=>u.any e n hc) (fun b o hc e n=>u.free b o e n hc) (fun b o hc e=>u.there b o e hc) u.tups u.frzs u.tbls (fun m' hm=>by
  obtain ⟨o',es',ep',ho',r'⟩:=hm;rw [ho] at ho';cases ho'
  exact ⟨_,es',ep',hL,r'⟩) hok hg
theorem Inv.turned {t':Nat}{it:Addr}(I:Inv X pins σ H s)(k:∀ b o,b≠it->s.heap.get? b=some o->h'.get? b=some o)(hn:H it=none)(hL:it≠X.env.locals)
  (h1:it∈X.ex\/X.s₀.heap.objs.size<=it) (h2:∀ x c,X.env.cells.lookup x=some c->c≠it) (h3:∀ p∈X.pn++pins,p.1≠it):Inv X pins σ H { s with heap:=h',toks:=t' }:=by
 have nit:∀ b u,H b=some u->b≠it:=fun b u e z=>by rw [z,hn] at e;cases e
 refine I.step (g':=s.gens) (d':=s.drawn) (ch:=[it]) (fun b hb=>?_) (fun b o _ _ hc e _=>k b o (fun z=>hc (by simp [z])) e) (fun b o _ _ hc e _=>⟨o.slots,k b o (fun z=>hc (by simp [z])) e⟩) (fun _ _ _ _ n=>n)
  (fun b o hc e=>⟨o,k b o (fun z=>hc (by simp [z])) e⟩) (fun _ _ e=>e) (fun _ _ _ e=>e) (fun b ps e=>⟨#[],by rw [e];simp⟩) (fun m hm=>?_) (fun b u e=>?_) I.bare
 ·have e:b=it:=by simpa using hb
  subst e;exact ⟨h1,hL,h2,h3⟩
 ·obtain ⟨o,es,ep,ho,r⟩:=hm;exact ⟨o,es,ep,k _ o (Ne.symm hL) ho,r⟩
 ·refine (I.hok b u e).stay (fun c v hc q=>k c v ?_ q) (fun _ q=>q) fun _ _ q=>q;rcases hc with z|z
  ·rw [z];exact nit b u e
  ·exact nit c _ z
theorem Inv.tok (I:Inv X pins σ H s)(t:Nat):Inv X pins σ H { s with toks:=t }:=I.un (h':=s.heap) (t':=t) Un.refl I.hok
theorem Inv.kept {t':Nat}(I:Inv X pins σ H s)(k:∀ b u,s.heap.get? b=some u->h'.get? b=some u):Inv X pins σ H { s with heap:=h',toks:=t' }:=I.un (Un.kept k) (I.hok.kept k)
theorem Inv.laid {a:Addr}{o:HO}{t':Nat}(I:Inv X pins σ H s)(k:∀ b u,s.heap.get? b=some u->h'.get? b=some u)(hp:s.heap.objs.size<=a)(new:ObjOk X.prog X.w (upd H a o) h' a o) :
  Inv X pins σ (upd H a o) { s with heap:=h',toks:=t' }:=I.un (Un.laid k hp (I.hok.fresh hp)) (I.hok.laid k hp new)
theorem Inv.write {x e:Addr}{o:HO}{t':Nat}(I:Inv X pins σ H s)(mu:Mut (H x))(he:e=x\/H e=some (.own x))(k:∀ b u,b≠e->s.heap.get? b=some u->h'.get? b=some u)(heo:∃ u,h'.get? e=some u)
  (new:ObjOk X.prog X.w (upd H x o) h' x o):Inv X pins σ (upd H x o) { s with heap:=h',toks:=t' }:=I.un (Un.write mu he k heo) (I.hok.write mu he k heo new)
theorem Inv.pins_of {pins':List (Addr × Obj)}(I:Inv X pins σ H s)(h:∀ p∈pins',s.heap.get? p.1=some p.2/\H p.1=none/\p.1≠X.env.locals/\p.1 ∉ X.fs/\∀ v,p.2.data ≠ .cell v):Inv X pins' σ H s :=
 ⟨I.ok,I.os,I.bare,I.base,I.loc,I.cell,I.free,I.freeC,fun p hp=>(qhA.mp hp).elim (fun z=>I.pin p (List.mem_append_left _ z)) (h p),I.hok,I.len⟩
theorem Fj {N:List Str}(hN:N.Nodup){i j:Nat}{x:Str}(a:N[i]? = some x)(b:N[j]? = some x):i=j:=by
 obtain ⟨h1,e1⟩:=qoA.mp a;obtain ⟨h2,e2⟩:=qoA.mp b;exact (List.getElem_inj hN).mp (e1.trans e2.symm)
theorem Hv {M:Model}{A:Around}{E:Value->Shared->Prop}{i:Nat}{x:Str}{v:V}{u:Value}{Q:Unit->Shared->Prop}(I:Inv X pins σ H s)(hN:X.N.Nodup)(hi:X.N[i]? = some x)(hx:Loc X.env.scope x)(r:RelV v u)
  (h:∀ s',Inv X pins (σ.set i (some v)) H s'->(∃ a,Heap.SameBut a s.heap s'.heap/\(a=X.env.locals\/X.env.cells.lookup x=some a))->Q () s') (hf:X.fn x=true\/X.env.scope.names.lookup x=some .local := by first|exact .inl rfl|exact .inr rfl|assumption):wpAny M A (storeName X.env x u) Q E s:=by
 obtain ⟨m,hn,hl⟩:=id I.loc;have hcls:(X.env.scope.kind == .class || (X.env.scope.kind == .module && X.env.locals != X.env.globals))=false:=by rw [I.ok.kind];rfl
 have hiσ:i<σ.length:=by rw [I.len];exact (qoA.mp hi).1
 have cne:=I.cne
 have tracked:∀ {a:Addr}{h':Heap},(∃ o,s.heap.get? a=some o/\H a=none)->Heap.SameBut a s.heap h'->HOk X.prog X.w H h':=fun {a h'} ha hs b ob e=>by
  obtain ⟨_,_,hfree⟩:=ha;refine (I.hok b ob e).stay (fun c w' hc q=>(hs.2 c ?_).trans q) (fun _ q=>q) fun _ _ q=>q;rintro rfl;rcases hc with rfl|hc
  ·rw [hfree] at e;cases e
  ·rw [hfree] at hc;cases hc
 rcases hx with hk|hk
 ·refine wpAny_storeName_local hk hn (fun h' hn' hs=>?_) hcls;obtain ⟨oL,_,_,hoL,_⟩:=id hn;refine h _ ⟨I.ok,I.os,I.bare,⟨fun b o e n hb hx=>?_,fun b o e n hb hx=>?_,I.base.free,fun b o e hx=>?_,I.base.tups,I.base.frzs,I.base.tbls⟩,⟨_,hn',fun j y v' e1 e2 e3=>?_⟩,fun y c e=>?_,I.free,I.freeC,fun p hp=>?_,tracked ⟨oL,hoL,I.free⟩ hs,by simpa using I.len⟩ ⟨_,hs,.inl rfl⟩
  ·exact (hs.2 b (qhB (qjB (quA e) I.ok.above))).trans (I.base.keep b o e n hb hx)
  ·obtain ⟨sl,e1⟩:=I.base.slot b o e n hb hx;exact ⟨sl,(hs.2 b (qhB (qjB (quA e) I.ok.above))).trans e1⟩
  ·obtain ⟨o',e1⟩:=I.base.there b o e hx;exact ⟨o',(hs.2 b (qhB (qjB (quA e) I.ok.above))).trans e1⟩
  ·by_cases hj:j=i
   ·subst hj;rw [hi] at e1;cases e1;rw [List.getElem?_set_self hiσ] at e2;cases e2;exact ⟨u,r,.inl ⟨hk,by simp⟩⟩
   ·rw [List.getElem?_set_ne (Ne.symm hj)] at e2;obtain ⟨u',r',q⟩:=hl j y v' e1 e2 e3;refine ⟨u',r',?_⟩;rcases q with ⟨k,e⟩ | ⟨k,c,e,z⟩
    ·refine .inl ⟨k,?_⟩;have:y≠x:=fun e=>hj (Fj hN e1 (e ▸ hi));simp [this,e]
    ·exact .inr ⟨k,c,e,z.sameBut hs (cne y c e)⟩
  ·obtain ⟨w',z⟩:=I.cell y c e;exact ⟨w',z.sameBut hs (cne y c e)⟩
  ·obtain ⟨e,n,ne,nf,d⟩:=I.pin p hp;exact ⟨(hs.2 p.1 ne).trans e,n,ne,nf,d⟩
 ·have hfn:X.fn x=true:=by
   rcases hf with z|z
   ·exact z
   ·rw [z] at hk;cases hk
  obtain ⟨c,hc⟩:=I.ok.has x (.inl hk);obtain ⟨w',z⟩:=I.cell x c hc;refine wpAny_storeName_cell I.ok.kind hk hc z (fun h' hc' hs=>?_);obtain ⟨oc,hoc,hocd⟩:=id z;refine h { s with heap:=h' } ⟨I.ok,I.os,I.bare,⟨fun b o e n hb hx=>?_,fun b o e n hb hx=>?_,I.base.free,fun b o e hx=>?_,I.base.tups,I.base.frzs,I.base.tbls⟩,⟨m,hn.sameBut hs (Ne.symm (cne x c hc)),fun j y v' e1 e2 e3=>?_⟩,fun y c' e=>?_,I.free,I.freeC,fun p hp=>?_,tracked ⟨oc,hoc,I.freeC x c hc⟩ hs,by simpa using I.len⟩ ⟨c,hs,.inr hc⟩
  ·exact (hs.2 b (qhB (qjB (quA e) (I.ok.cab x c hfn hc)))).trans (I.base.keep b o e n hb hx)
  ·obtain ⟨sl,e1⟩:=I.base.slot b o e n hb hx;exact ⟨sl,(hs.2 b (qhB (qjB (quA e) (I.ok.cab x c hfn hc)))).trans e1⟩
  ·obtain ⟨o',e1⟩:=I.base.there b o e hx;exact ⟨o',(hs.2 b (qhB (qjB (quA e) (I.ok.cab x c hfn hc)))).trans e1⟩
  ·by_cases hj:j=i
   ·subst hj;rw [hi] at e1;cases e1;rw [List.getElem?_set_self hiσ] at e2;cases e2;exact ⟨u,r,.inr ⟨.inl hk,c,hc,hc'⟩⟩
   ·rw [List.getElem?_set_ne (Ne.symm hj)] at e2;obtain ⟨u',r',q⟩:=hl j y v' e1 e2 e3;refine ⟨u',r',?_⟩;rcases q with q | ⟨k,c',e,z'⟩
    ·exact .inl q
    ·refine .inr ⟨k,c',e,z'.sameBut hs ?_⟩;rintro rfl;exact hj (Fj hN e1 (I.ok.inj _ _ _ e hc ▸ hi))
  ·by_cases hcc:c'=c
   ·subst hcc;exact ⟨_,hc'⟩
   ·obtain ⟨w2,z2⟩:=I.cell y c' e;exact ⟨w2,z2.sameBut hs hcc⟩
  ·obtain ⟨e,n,ne,nf,d⟩:=I.pin p hp;refine ⟨(hs.2 p.1 ?_).trans e,n,ne,nf,d⟩;intro q;rw [q,hoc] at e;have q':oc=p.2:=qtA e;exact d w' (by rw [<- q'];exact hocd)
theorem DZ {M:Model}{A:Around}{E:Value->Shared->Prop}{i:Nat}{x:Str}{v:V}{u:Value}{Q:Unit->Shared->Prop}(I:Inv X pins σ H s)(hN:X.N.Nodup)(hi:X.N[i]? = some x)(hx:Loc X.env.scope x)(r:RelV v u)
  (h:∀ s',Inv X pins (σ.set i (some v)) H s'->Q () s') (hf:X.fn x=true\/X.env.scope.names.lookup x=some .local := by first|exact .inl rfl|exact .inr rfl|assumption):wpAny M A (storeName X.env x u) Q E s :=
 Hv I hN hi hx r (fun s' I' _=>h s' I') hf
end
abbrev XK:=Value->Option Addr->Hp->Prop
abbrev St:=List (Option V)
abbrev VK:=V->Hp->Prop
abbrev TE:=St->Hp->VK->Prop
abbrev TT:=St->Hp->(Bool->Hp->Prop)->Prop
abbrev TA:=St->Hp->(List V->Hp->Prop)->Prop
structure Ends where
 nx:St->Hp->Prop
 rt:VK
 bk:St->Hp->Prop:=fun _ _=>False
 ct:St->Hp->Prop:=fun _ _=>False
abbrev TS:=Ends->St->Hp->Prop
def EP (X:Cx)(pins:List (Addr × Obj))(σ:St)(Q:VK)(u:Value)(s':Shared):Prop:=∃ v H',Inv X pins σ H' s'/\RelV v u/\Q v H'
def TP (X:Cx)(pins:List (Addr × Obj))(σ:St)(Q:Bool->Hp->Prop)(b:Bool)(s':Shared):Prop:=∃ H',Inv X pins σ H' s'/\Q b H'
def AP (X:Cx)(pins:List (Addr × Obj))(σ:St)(Q:List V->Hp->Prop)(us:List Value)(s':Shared):Prop:=∃ vs H',Inv X pins σ H' s'/\Vals vs us/\Q vs H'
def SP (X:Cx)(pins:List (Addr × Obj))(D:Ends)(f:Flow)(s':Shared):Prop :=
 match f with
 | .next=>∃ σ' H',Inv X pins σ' H' s'/\D.nx σ' H'
 | .brk=>∃ σ' H',Inv X pins σ' H' s'/\D.bk σ' H'
 | .cont=>∃ σ' H',Inv X pins σ' H' s'/\D.ct σ' H'
 | .ret u=>∃ v σ' H',Inv X pins σ' H' s'/\RelV v u/\D.rt v H'
def PE (X:Cx)(e:Expr)(t:TE):Prop :=
 ∀ (pins:List (Addr × Obj)) (s:Shared) (σ:St) (H:Hp) (Q:VK),Inv X pins σ H s->t σ H Q->wpAny (model X.prog X.w) X.A (eval e X.env) (EP X pins σ Q) X.xe s
def PT (X:Cx)(e:Expr)(t:TT):Prop :=
 ∀ (pins:List (Addr × Obj)) (s:Shared) (σ:St) (H:Hp) (Q:Bool->Hp->Prop),Inv X pins σ H s->t σ H Q->wpAny (model X.prog X.w) X.A (isTrue e X.env (eval e X.env)) (TP X pins σ Q) X.xe s
def PW (X:Cx)(e:Expr)(t:TT):Prop :=
 ∀ (whole:Sem Value) (pins:List (Addr × Obj)) (s:Shared) (σ:St) (H:Hp) (Q:Bool->Hp->Prop),Inv X pins σ H s->t σ H Q->wpAny (model X.prog X.w) X.A (isTrue e X.env whole) (TP X pins σ Q) X.xe s
theorem PW.pt {X:Cx}{e:Expr}{t:TT}(h:PW X e t):PT X e t:=h _
def PA (X:Cx)(es:List Expr)(t:TA):Prop :=
 ∀ (pos:Pos) (pins:List (Addr × Obj)) (s:Shared) (σ:St) (H:Hp) (Q:List V->Hp->Prop),Inv X pins σ H s->t σ H Q->wpAny (model X.prog X.w) X.A (spliced (backTo pos (starEach es X.env))) (AP X pins σ Q) X.xe s
def PS (X:Cx)(st:Stmt)(t:TS):Prop :=
 ∀ (pins:List (Addr × Obj)) (s:Shared) (σ:St) (H:Hp) (D:Ends),Inv X pins σ H s->t D σ H->wpAny (model X.prog X.w) X.A (exec st X.env) (SP X pins D) X.xe s
def PSs (X:Cx)(st:List Stmt)(t:TS):Prop :=
 ∀ (pins:List (Addr × Obj)) (s:Shared) (σ:St) (H:Hp) (D:Ends),Inv X pins σ H s->t D σ H->wpAny (model X.prog X.w) X.A (execs st X.env) (SP X pins D) X.xe s
theorem thn {α:Type}{t:Sem α}{Q Q':α->Shared->Prop}{M:Model}{A:Around}{E:Value->Shared->Prop}{s:Shared}(h:wpAny M A t Q E s)(hQ:∀ a s,Q a s->Q' a s):wpAny M A t Q' E s:=wpAny_mono h hQ fun _ _ x=>x
section
variable {X:Cx}
abbrev EB (i:Nat):TE:=fun σ H Q=>∃ v,σ[i]? = some (some v)/\Q v H
abbrev tC (v:V):TE:=fun _ H Q=>Q v H
theorem pe_var {i:Nat}{x:Str}{pos:Pos}(hN:X.N[i]? = some x)(hv:Vis X.env.scope x)(hd:(x == ("__debug__" : Str))=false:=by decide)(hcd:(x == ("__classdict__" : Str))=false:=by decide):PE X (.Name x pos) (EB i):=by
 intro pins s σ H Q I h;obtain ⟨v,e,h⟩:=h;obtain ⟨m,hn,hl⟩:=I.loc;obtain ⟨u,r,l⟩:=hl i x v hN e hv;have fin:EP X pins σ Q u s:=⟨v,H,I,r,h⟩;rcases l with ⟨hk,hm⟩ | ⟨hk,c,hc,hcell⟩
 ·exact wpAny_Name (wpAny_loadName_local I.ok.kind hk hn hm fin) hd
 ·rcases hk with hk|hk
  ·exact wpAny_Name (wpAny_loadName_cell I.ok.kind hk hc hcell fin) hd
  ·exact wpAny_Name (wpAny_loadName_free I.ok.kind hk hc hcell fin hcd) hd
theorem A6 {i j pos}:PE X (.Constant (.int i) j pos) (tC (.int i)):=fun _ _ _ H _ I h=>wpAny_Constant_int ⟨.int i,H,I.tok _,⟨_,rfl⟩,h⟩
theorem E2 {b j pos}:PE X (.Constant (.bool b) j pos) (tC (.bl b)):=fun _ _ _ H _ I h=>Constant_bool ⟨.bl b,H,I,rfl,h⟩
theorem AL {x j pos}:PE X (.Constant (.str x) j pos) (tC (.str x)):=fun _ _ _ H _ I h=>Calls.Constant_str ⟨.str x,H,I.tok _,⟨_,rfl⟩,h⟩
def Gl (X:Cx)(x:Str):Prop:=X.env.kindOf x=some .globalImplicit
theorem EF {E:Value->Shared->Prop}{pins:List (Addr × Obj)}{s:Shared}{σ:St}{H:Hp}{x:Str}{u:Value}{pos:Pos}{Q:Value->Shared->Prop}(I:Inv X pins σ H s)(hg:Gl X x)(hm:X.mg x=some u)(h:Q u s)
  (hd:(x == ("__debug__" : Str))=false:=by decide):wpAny (model X.prog X.w) X.A (eval (.Name x pos) X.env) Q E s :=
 Calls.Name_function_global I.ok.kind hg (Calls.loadGlobal_global (by rw [I.ok.glob];exact I.mod.glob.keeps I.bk) hm h) hd
theorem FU {E:Value->Shared->Prop}{pins:List (Addr × Obj)}{s:Shared}{σ:St}{H:Hp}{x:Str}{u:Value}{pos:Pos}{Q:Value->Shared->Prop}(I:Inv X pins σ H s)(hg:Gl X x)(hm:X.mg x=none)(hv:bootBuiltins x=some u)(h:Q u s)
  (hn:x ≠ "__name__" := by decide) (hd:(x == ("__debug__" : Str))=false:=by decide):wpAny (model X.prog X.w) X.A (eval (.Name x pos) X.env) Q E s:=by
 obtain ⟨mb,h1,h2⟩:=I.mod.blt;exact Calls.Name_function_global I.ok.kind hg (Calls.loadGlobal_builtin (by rw [I.ok.glob];exact I.mod.glob.keeps I.bk) hm (by rw [I.ok.blt];exact h1.keeps I.bk) ((h2 x hn).trans hv) h) hd
theorem Hb {x:Str}{v:V}{u:Value}{pos:Pos}(hg:Gl X x)(hm:X.mg x=some u)(r:RelV v u)(hd:(x == ("__debug__" : Str))=false:=by decide):PE X (.Name x pos) (tC v) :=
 fun _ _ _ H _ I h=>EF I hg hm ⟨v,H,I,r,h⟩ hd
theorem D8 {x:Str}{v:V}{u:Value}{pos:Pos}(hg:Gl X x)(hm:X.mg x=none)(hv:bootBuiltins x=some u)(r:RelV v u)(hn:x ≠ "__name__" := by decide)(hd:(x == ("__debug__" : Str))=false:=by decide):PE X (.Name x pos) (tC v) :=
 fun _ _ _ H _ I h=>FU I hg hm hv ⟨v,H,I,r,h⟩ hn hd
variable {a b:Expr}{ta tb:TE}{pos:Pos}
def PC (X:Cx)(op:CmpOp)(a b:Expr)(t:TE):Prop :=
 ∀ (pins:List (Addr × Obj)) (s:Shared) (σ:St) (H:Hp) (Q:VK),Inv X pins σ H s->t σ H Q ->
  wpAny (model X.prog X.w) X.A (eval a X.env) (fun v s₁=>wpAny (model X.prog X.w) X.A (eval b X.env) (fun u s₂=>wpAny (model X.prog X.w) X.A (compareOp op v u) (EP X pins σ Q) X.xe s₂) X.xe s₁) X.xe s
theorem pe_cmp {op:CmpOp}{t:TE}(h:PC X op a b t)(h1:behindInMarks op b=false:=by first|exact nobehind _ (by decide) (by decide)|rfl):PE X (.Compare a [op] [b] pos) t:=fun pins s σ H Q I hw=>wpAny_Compare1 (h pins s σ H Q I hw) h1
variable {tA tB':TT}{rest:List Expr}
abbrev tOr (t u:TT):TT:=fun σ H Q=>t σ H fun c H1=>if c=true then Q true H1 else u σ H1 Q
abbrev tNot (t:TT):TT:=fun σ H Q=>t σ H fun c H1=>Q (!c) H1
theorem EZ (ha:PT X a tA):PW X (.BoolOp .Or [a] pos) tA:=by
 intro wh pins s σ H Q I h;refine isTrue_or (thn (ha pins s σ H Q I h) fun c s1 e=>?_)
 cases c with
 | false=>exact isTrue_or_nil e
 | true=>exact e
theorem Ds (ha:PT X a tA)(hb:PW X (.BoolOp .Or (b::rest) pos) tB'):PW X (.BoolOp .Or (a::b::rest) pos) (tOr tA tB'):=by
 intro wh pins s σ H Q I h;refine isTrue_or (thn (ha pins s σ H _ I h) fun c s1 ⟨H1,I1,q1⟩=>?_)
 cases c with
 | true=>exact ⟨H1,I1,q1⟩
 | false=>exact hb wh pins s1 σ H1 Q I1 q1
theorem DL (ha:PT X a tA):PT X (.UnaryOp .Not a pos) (tNot tA):=by
 intro pins s σ H Q I h;exact isTrue_not (ha pins s σ H (fun c H1=>Q (!c) H1) I h)
abbrev tAndV (ta tb:TE):TE:=fun σ H Q=>ta σ H fun x H1=>∃ c,x = .bl c/\if c=true then tb σ H1 Q else Q (.bl false) H1
theorem FA {op}{t:TE}(h:PE X a t):PE X (.BoolOp op [a] pos) t:=fun pins s σ H Q I hw=>BoolOp_one (h pins s σ H Q I hw)
theorem Ff (ha:PE X a ta)(hb:PE X (.BoolOp .And (b::rest) pos) tb):PE X (.BoolOp .And (a::b::rest) pos) (tAndV ta tb):=by
 intro pins s σ H Q I h;refine BoolOp_and (thn (ha pins s σ H _ I h) fun v s1 ⟨x,H1,I1,r1,q1⟩=>?_);obtain ⟨c,rfl,q1⟩:=q1;cases r1;refine wpAny_truthy_bool ?_
 cases c with
 | true=>exact hb pins s1 σ H1 Q I1 q1
 | false=>exact ⟨.bl false,H1,I1,rfl,q1⟩
end
def SqL (K:FZ9)(H:Hp)(a:Addr)(xs:List V):Prop :=
 Rd H a (.lst xs) \/
  ∃ (o:Obj) (its:Array Value) (n:Nat),K.lookup a=some o/\o.cls = .type "list" /\ o.dict=none/\o.data = .seq its n/\its.size<=sizeLine/\Vals xs its.toList
def SqT (K:FZ9)(H:Hp)(a:Addr)(xs:List V):Prop :=
 Rd H a (.tup xs) \/
  ∃ (o:Obj) (its:Array Value) (n:Nat),K.lookup a=some o/\o.cls = .type "tuple" /\ o.data = .seq its n/\its.size<=sizeLine/\Vals xs its.toList
def absV:Value->Option V
 | .none=>some .non
 | .bool b=>some (.bl b)
 | .int i _=>some (.int i)
 | .str x _=>some (.str x)
 | .bytes b _=>some (.byt b)
 | .float b _=>some (.flt b)
 | .ref a=>some (.ref a)
 | .type n=>some (.ty n)
 | _=>none
theorem RelV.abs {x:V}{u:Value}(r:RelV x u):absV u=some x:=by
 cases x with
 | non=>cases r;rfl
 | bl _=>cases r;rfl
 | int _=>obtain ⟨t,rfl⟩:=r;rfl
 | str _=>obtain ⟨t,rfl⟩:=r;rfl
 | byt _=>obtain ⟨t,rfl⟩:=r;rfl
 | flt _=>obtain ⟨t,rfl⟩:=r;rfl
 | ref _=>cases r;rfl
 | ty _=>cases r;rfl
theorem RelV.inj {x y:V}{u:Value}(r:RelV x u)(q:RelV y u):x=y:=qtA (r.abs.symm.trans q.abs)
theorem Vals.inj:∀ {xs ys:List V}{us:List Value},Vals xs us->Vals ys us->xs=ys
 | _,_,_,.nil,.nil=>rfl
 | _,_,_,.cons r t,.cons r' t'=>by rw [r.inj r',Vals.inj t t']
section
variable {X:Cx}{pins:List (Addr × Obj)}{σ:St}{H:Hp}{s:Shared}{a:Addr}{xs ys:List V}
theorem SqL.of {K:FZ9}(h:H a=some (.lst xs)):SqL K H a xs:=.inl (.inl h)
theorem SqT.of {K:FZ9}(h:H a=some (.tup xs)):SqT K H a xs:=.inl (.inl h)
theorem Inv.list (I:Inv X pins σ H s)(h:SqL X.K H a xs):∃ its:List Value,Vals xs its/\PlainL s.heap a its.toArray/\xs.length<=sizeLine:=by
 rcases h with h | ⟨o,its,n,hk,hc,hd,hs,hz,r⟩
 ·obtain ⟨z,its,n,r,e⟩:=h.ok I.hok;exact ⟨its,r,⟨_,n,e,rfl,rfl,rfl⟩,z⟩
 ·refine ⟨its.toList,r,⟨o,n,I.kIn a o hk,hc,hd,by simpa using hs⟩,?_⟩;have e:=r.length;simp only [qgB] at e;omega
theorem Inv.tuple (I:Inv X pins σ H s)(h:SqT X.K H a xs):∃ its:List Value,Vals xs its/\IsTup s.heap a its.toArray/\xs.length<=sizeLine:=by
 rcases h with h | ⟨o,its,n,hk,hc,hs,hz,r⟩
 ·obtain ⟨z,its,r,p⟩:=h.ok I.hok;exact ⟨its,r,p,z⟩
 ·refine ⟨its.toList,r,⟨o,I.kIn a o hk,hc,n,by simpa using hs⟩,?_⟩;have e:=r.length;simp only [qgB] at e;omega
theorem Inv.list_inj (I:Inv X pins σ H s)(h:SqL X.K H a xs)(h':SqL X.K H a ys):xs=ys:=by
 obtain ⟨its,r,⟨o,n,e,_,_,d⟩,_⟩:=I.list h;obtain ⟨its',r',⟨o',n',e',_,_,d'⟩,_⟩:=I.list h';rw [e] at e';cases e';rw [d] at d';injection d' with d1 _
 have:its=its':=by simpa using congrArg Array.toList d1
 subst this;exact r.inj r'
theorem Inv.tuple_inj (I:Inv X pins σ H s)(h:SqT X.K H a xs)(h':SqT X.K H a ys):xs=ys:=by
 obtain ⟨its,r,⟨o,e,_,n,d⟩,_⟩:=I.tuple h;obtain ⟨its',r',⟨o',e',_,n',d'⟩,_⟩:=I.tuple h';rw [e] at e';cases e';rw [d] at d';injection d' with d1 _
 have:its=its':=by simpa using congrArg Array.toList d1
 subst this;exact r.inj r'
end
abbrev Cx.wish (X:Cx)(E:Value->Shared->Prop):Cx:={ X with xe:=E }
abbrev Cx.nox (X:Cx):Cx:=X.wish fun _ _=>False
theorem Cx.Ok.wish {X:Cx}(ok:X.Ok)(E:Value->Shared->Prop):(X.wish E).Ok :=
 ⟨ok.mod,ok.kind,ok.glob,ok.blt,ok.above,ok.inj,ok.has,ok.cab,ok.hd,ok.frames,ok.stk,ok.exf,ok.bs,ok.bsz,ok.noex,ok.exfs,ok.funs,ok.frf⟩
theorem Cx.Ok.unwish {X:Cx}{E:Value->Shared->Prop}(ok:(X.wish E).Ok):X.Ok :=
 ⟨ok.mod,ok.kind,ok.glob,ok.blt,ok.above,ok.inj,ok.has,ok.cab,ok.hd,ok.frames,ok.stk,ok.exf,ok.bs,ok.bsz,ok.noex,ok.exfs,ok.funs,ok.frf⟩
section
variable {X:Cx}{pins:List (Addr × Obj)}{σ:St}{H:Hp}{s:Shared}{E:Value->Shared->Prop}
theorem Inv.wish (I:Inv X pins σ H s)(E:Value->Shared->Prop):Inv (X.wish E) pins σ H s:=⟨I.ok.wish E,I.os,I.bare,I.base,I.loc,I.cell,I.free,I.freeC,I.pin,I.hok,I.len⟩
theorem Inv.unwish (I:Inv (X.wish E) pins σ H s):Inv X pins σ H s:=⟨I.ok.unwish,I.os,I.bare,I.base,I.loc,I.cell,I.free,I.freeC,I.pin,I.hok,I.len⟩
theorem SP.unwish {D:Ends}{f:Flow}{s':Shared}(h:SP (X.wish E) pins D f s'):SP X pins D f s':=by
 cases f with
 | next=>obtain ⟨σ',H',I,q⟩:=h;exact ⟨σ',H',I.unwish,q⟩
 | brk=>obtain ⟨σ',H',I,q⟩:=h;exact ⟨σ',H',I.unwish,q⟩
 | cont=>obtain ⟨σ',H',I,q⟩:=h;exact ⟨σ',H',I.unwish,q⟩
 | ret u=>obtain ⟨v,σ',H',I,r,q⟩:=h;exact ⟨v,σ',H',I.unwish,r,q⟩
theorem PSs.nox {st:List Stmt}{t:TS}(h:PSs X.nox st t):PSs X st t:=fun pins s σ H D I hw =>
 wpAny_mono (h pins s σ H D (I.wish _) hw) (fun _ _ q=>q.unwish) fun _ _ z=>False.elim z
end
section
variable {X:Cx}{st:Stmt}{rest:List Stmt}{t u:TS}{e:Expr}{te:TE}{pos:Pos}
abbrev Cm:TS:=fun D σ H=>D.nx σ H
abbrev CW (t u:TS):TS:=fun D σ H=>t { D with nx:=u D } σ H
theorem A5:PSs X [] Cm:=fun _ _ σ H _ I h=>wpAny_execs_nil ⟨σ,H,I,h⟩
theorem A2 (h1:PS X st t)(h2:PSs X rest u):PSs X (st::rest) (CW t u):=by
 intro pins s σ H D I h;refine wpAny_execs_cons (thn (h1 pins s σ H { D with nx:=u D } I h) fun f s1 q=>?_)
 cases f with
 | next =>
  obtain ⟨σ',H',I',q⟩:=q;exact h2 pins s1 σ' H' D I' q
 | ret v=>exact q
 | brk=>exact q
 | cont=>exact q
theorem Inv.quiet {pins:List (Addr × Obj)}{σ:St}{H:Hp}{s:Shared}(I:Inv X pins σ H s):interactive X.env=false:=by simp [interactive,I.ok.kind]
abbrev Ek (te:TE):TS:=fun D σ H=>te σ H fun _ H1=>D.nx σ H1
theorem Ba (he:PE X e te)(hs:swapsWith e none pos.line X.env=pure false:=by rfl):PS X (.Expr e pos) (Ek te):=by
 intro pins s σ H D I h;exact wpAny_Expr_any (thn (he pins s σ H _ I h) fun v s1 ⟨x,H1,I1,r1,q1⟩=>⟨σ,H1,I1,q1⟩) I.quiet hs
abbrev tRet (te:TE):TS:=fun D σ H=>te σ H D.rt
theorem Ag (he:PE X e te):PS X (.Return (some e) pos) (tRet te):=by
 intro pins s σ H D I h;exact wpAny_Return_some (thn (he pins s σ H _ I h) fun v s1 ⟨x,H1,I1,r1,q1⟩=>⟨x,σ,H1,I1,r1,q1⟩)
abbrev F9 (c:TT)(t u:TS):TS:=fun D σ H=>c σ H fun b H1=>if b=true then t D σ H1 else u D σ H1
theorem B9 {c:Expr}{a b:List Stmt}{tc:TT}(hc:PT X c tc)(ha:PSs X a t)(hb:PSs X b u):PS X (.If c a b pos) (F9 tc t u):=by
 intro pins s σ H D I h;refine wpAny_If (thn (hc pins s σ H _ I h) fun d s1 ⟨H1,I1,q1⟩=>?_)
 cases d with
 | true=>exact ha pins s1 σ H1 D I1 q1
 | false=>exact hb pins s1 σ H1 D I1 q1
def tNever:TS:=fun _ _ _=>False
theorem El:PS X st tNever:=fun _ _ _ _ _ _ h=>h.elim
end
abbrev TG:=V->St->Hp->(St->Hp->Prop)->Prop
def PG (X:Cx)(target:Expr)(t:TG):Prop :=
 ∀ (pins:List (Addr × Obj)) (s:Shared) (σ:St) (H:Hp) (v:V) (u:Value) (Q:St->Hp->Prop),Inv X pins σ H s->RelV v u->t v σ H Q ->
  wpAny (model X.prog X.w) X.A (assign target X.env u) (fun _ s'=>∃ σ' H',Inv X pins σ' H' s'/\Q σ' H') X.xe s
section
variable {X:Cx}{pos:Pos}
abbrev Ct (i:Nat):TG:=fun v σ H Q=>Q (σ.set i (some v)) H
theorem pg_name {i:Nat}{x:Str}(hN:X.N.Nodup)(hi:X.N[i]? = some x)(hx:Loc X.env.scope x)(hf:X.fn x=true\/X.env.scope.names.lookup x=some .local := by first|exact .inl rfl|exact .inr rfl|assumption):PG X (.Name x pos) (Ct i):=by
 intro pins s σ H v u Q I r h;exact wpAny_assign_Name (DZ I hN hi hx r (fun s' I'=>⟨_,H,I',h⟩) hf)
abbrev Ft (te:TE)(g:TG):TS:=fun D σ H=>te σ H fun x H1=>g x σ H1 D.nx
theorem ps_set {i:Nat}{x:Str}{e:Expr}{te:TE}{pos':Pos}(hN:X.N.Nodup)(hi:X.N[i]? = some x)(hx:Loc X.env.scope x)(he:PE X e te)(hs:swapsWith e (some (.Name x pos')) pos.line X.env=pure false:=by rfl)(hf:X.fn x=true\/X.env.scope.names.lookup x=some .local := by first|exact .inl rfl|exact .inr rfl|assumption) :
  PS X (.Assign [.Name x pos'] e pos) (Ft te (Ct i)):=by
 intro pins s σ H D I h;refine wpAny_Assign_Name (thn (he pins s σ H _ I h) fun v s1 ⟨y,H1,I1,r1,q1⟩=>?_) hs;exact DZ I1 hN hi hx r1 (fun s2 I2=>⟨_,H1,I2,q1⟩) hf
end
section
variable {X:Cx}{pos:Pos}
def tWhile (c:TT)(tb:TS):TS:=fun D σ H=>∃ W:Nat->St->Hp->Prop,(∃ m,W m σ H)/\∀ m σ H,W m σ H ->
 c σ H fun b H1=>if b=true then ∃ N:St->Hp->Prop,(∀ σ' H',N σ' H'->∃ m',m'<m/\W m' σ' H')/\tb { D with nx:=N,ct:=N,bk:=D.nx } σ H1 else D.nx σ H1
theorem ps_while {c:Expr}{body:List Stmt}{tc:TT}{tb:TS}(hp:PassesOwn (model X.prog X.w) X.A X.env X.xe)(hc:PT X c tc)(hb:PSs X body tb):PS X (.While c body [] pos) (tWhile tc tb):=by
 intro pins s σ H D I h;obtain ⟨W,⟨m0,w0⟩,turn⟩:=h;refine wpAny_While (codeAny_whileLoop (fun n s'=>∃ σ' H',Inv X pins σ' H' s'/\W n σ' H') ?_ m0 ⟨σ,H,I,w0⟩);rintro n s1 ⟨σ1,H1,I1,w1⟩;refine wpAny_passesOwn hp (thn (hc pins s1 σ1 H1 _ I1 (turn n σ1 H1 w1)) fun b s2 ⟨H2,I2,q2⟩=>?_)
 cases b with
 | true =>
  obtain ⟨N,hN,q2⟩:=q2;rw [if_pos rfl];refine wpAny_passesOwn hp (thn (hb pins s2 σ1 H2 _ I2 q2) fun f s3 q3=>?_)
  cases f with
  | next =>
   obtain ⟨σ3,H3,I3,n3⟩:=q3;obtain ⟨m',hm,w3⟩:=hN σ3 H3 n3;exact ⟨m',hm,σ3,H3,I3,w3⟩
  | cont =>
   obtain ⟨σ3,H3,I3,n3⟩:=q3;obtain ⟨m',hm,w3⟩:=hN σ3 H3 n3;exact ⟨m',hm,σ3,H3,I3,w3⟩
  | brk=>exact q3
  | ret v=>exact q3
 | false =>
  rw [if_neg qcB];exact wpAny_execs_nil ⟨σ1,H2,I2,q2⟩
end
structure It where
 go:Nat->Hp->Prop
 yld:Nat->Hp->V->Hp->Prop
 stop:Nat->Hp->Prop
def Fi (X:Cx)(pins:List (Addr × Obj))(H:Hp)(b:Addr):Prop :=
 H b=none/\b≠X.env.locals/\b ∉ X.fs/\(b∈X.ex\/X.s₀.heap.objs.size<=b)/\(∀ x c,X.env.cells.lookup x=some c->c≠b)/\∀ p∈X.pn++pins,p.1≠b
theorem Inv.fpOk {X:Cx}{pins:List (Addr × Obj)}{σ:St}{H H':Hp}{s:Shared}{b:Addr}(I:Inv X pins σ H s)(hb:s.heap.objs.size<=b)(hn:H' b=none):Fi X pins H' b:=by
 refine ⟨hn,Nat.ne_of_gt (qjB I.lt hb),I.nofs hb,.inr (qsA I.sz hb),fun x c e z=>?_,fun p hp z=>?_⟩
 ·obtain ⟨v,q⟩:=I.cell x c e;exact absurd (qjB q.lt (by rw [z];exact hb)) (Nat.lt_irrefl _)
 ·exact absurd (qjB (quA (I.pin p hp).1) (by rw [z];exact hb)) (Nat.lt_irrefl _)
structure Turn (P:Program)(w:World)(K:FZ9)(tg:Expr)(J:It)(fp:List Addr)(it:Addr)(tn:Nat->Heap->Prop):Prop where
 mem:it∈fp
 obj:∀ i h,tn i h->∀ b∈fp,∃ o,h.get? b=some o/\∀ v,o.data ≠ .cell v
 keep:∀ i h h',tn i h->(∀ b∈fp,∀ o,h.get? b=some o->h'.get? b=some o)->tn i h'
 item:∀ (X:Cx),X.prog=P->X.w=w->X.K=K->X.calm=true->∀ (i:Nat) (pins:List (Addr × Obj)) (s:Shared) (σ:St) (H:Hp) (E:Value->Shared->Prop),Inv X pins σ H s->(∀ b∈fp,Fi X pins H b)->tn i s.heap->J.go i H ->
  wpAny (model P w) X.A (pyNext (.ref it)) (fun r s1=>∃ u,r=some u /\
   wpAny (model P w) X.A (letOwnedTupleGo tg (.ref it) u) (fun _ s2=>∃ x H',Inv X pins σ H' s2/\RelV x u/\J.yld i H x H'/\tn (i+1) s2.heap/\∀ b∈fp,H' b=none) E s1) E s
 done:∀ (X:Cx),X.prog=P->X.w=w->X.K=K->X.calm=true->∀ (i:Nat) (pins:List (Addr × Obj)) (s:Shared) (σ:St) (H:Hp) (E:Value->Shared->Prop),Inv X pins σ H s->(∀ b∈fp,Fi X pins H b)->tn i s.heap->J.stop i H ->
  wpAny (model P w) X.A (pyNext (.ref it)) (fun r s1=>r=none/\Inv X pins σ H s1) E s
 self:∀ (A:Around) (i:Nat) (s:Shared) (Q:Value->Shared->Prop) (E:Value->Shared->Prop),tn i s.heap->Q (.ref it) s->wpAny (model P w) A (pyIter (.ref it)) Q E s
abbrev TI:=St->Hp->(It->Hp->Prop)->Prop
def PIE (X:Cx)(pins:List (Addr × Obj))(σ:St)(tg:Expr)(R:It->Hp->Prop)(itv:Value)(s2:Shared):Prop :=
 ∃ (it:Addr) (fp:List Addr) (tn:Nat->Heap->Prop) (J:It) (H':Hp),itv = .ref it/\Inv X pins σ H' s2/\Turn X.prog X.w X.K tg J fp it tn/\tn 0 s2.heap/\(∀ b∈fp,Fi X pins H' b)/\R J H'
def PI (X:Cx)(tg iter:Expr)(wi:TI):Prop :=
 ∀ (pins:List (Addr × Obj)) (s:Shared) (σ:St) (H:Hp) (R:It->Hp->Prop),Inv X pins σ H s->wi σ H R ->
  wpAny (model X.prog X.w) X.A (eval iter X.env) (fun v s1=>wpAny (model X.prog X.w) X.A (pyIter v) (PIE X pins σ tg R) X.xe s1) X.xe s
theorem Ey {M:Model}{A:Around}{E:Value->Shared->Prop}{s:Shared}{tg:Expr}{it:Addr}{u:Value}{o:Obj}{n:String}{vs:Array Value}{Q:Unit->Shared->Prop}(ho:s.heap.get? it=some o)(hc:o.cls = .type n)(hd:o.data = .fields vs)
  (hn:["enumerate","zip","dict_itemiterator","dict_reverseitemiterator","odict_iterator","itertools.zip_longest","itertools.pairwise"].contains n=false) (hQ:Q () s):wpAny M A (letOwnedTupleGo tg (.ref it) u) Q E s:=by
 unfold letOwnedTupleGo
 cases tg<;>first
  | exact qcA hQ
  | (cases u<;>first
    | exact qcA hQ
    | (refine qbA (wpAny_load ho ?_)
       rw [hc,hd];show wpAny M A (if (["enumerate","zip","dict_itemiterator","dict_reverseitemiterator","odict_iterator","itertools.zip_longest","itertools.pairwise"].contains n && vs[0]? == some (rawInt _))=true then _ else _) Q E s;rw [if_neg (by intro h;rw [hn,Bool.false_and] at h;cases h)]
       exact qcA hQ))
def Itl (K:FZ9)(a:Addr):It :=
 ⟨fun i H=>∃ xs x,SqL K H a xs/\xs[i]? = some x,fun i H x H'=>H'=H/\∀ xs,SqL K H a xs->xs[i]? = some x,fun i H=>∃ xs,SqL K H a xs/\xs.length<=i⟩
def Itt (K:FZ9)(a:Addr):It :=
 ⟨fun i H=>∃ xs x,SqT K H a xs/\xs[i]? = some x,fun i H x H'=>H'=H/\∀ xs,SqT K H a xs->xs[i]? = some x,fun i H=>∃ xs,SqT K H a xs/\xs.length<=i⟩
def Itr (lo:Int)(n:Nat):It:=⟨fun i _=>i<n,fun i H x H'=>H'=H/\x = .int (lo+i),fun i _=>n<=i⟩
theorem Ho {P:Program}{w:World}{K:FZ9}{tg:Expr}(a it:Addr):Turn P w K tg (Itl K a) [it] it (fun i h=>h.IsListIter it a i) where
 mem:=by simp
 obj:=fun i h st b hb=>by
  have e:b=it:=by simpa using hb
  subst e;obtain ⟨o,e,c,d⟩:=st;exact ⟨o,e,fun v z=>by rw [d] at z;cases z⟩
 keep:=fun i h h' st k=>st.at fun o e=>k it (by simp) o e
 item:=by
  intro X hP hw hK hc i pins s σ H E I hf st hg;subst hP hw hK;obtain ⟨xs,x,hq,hx⟩:=hg;obtain ⟨its,rv,p,hz⟩:=I.list hq;obtain ⟨u,hu,ru⟩:=rv.get hx;obtain ⟨f0,f1,f2,f3,f4,f5⟩:=hf it (by simp);refine wpAny_pyNext_list_item st p.isList (x:=u) (by simpa using hu) fun h' st' sb=>?_;have I1:Inv X pins σ H { s with heap:=h' }:=I.turned (t':=s.toks) (fun b o hb e=>(sb.2 b hb).trans e) f0 f1 f3 f4 f5;obtain ⟨o,e,c,d⟩:=id st';exact ⟨u,rfl,Ey (s:={ s with heap:=h' }) e c d (by decide) ⟨x,H,I1,ru,⟨rfl,fun ys hy=>by rw [I.list_inj hy hq];exact hx⟩,st',fun b hb=>(hf b hb).1⟩⟩
 done:=by
  intro X hP hw hK hc i pins s σ H E I hf st hg;subst hP hw hK;obtain ⟨xs,hq,hx⟩:=hg;obtain ⟨its,rv,p,hz⟩:=I.list hq;obtain ⟨f0,f1,f2,f3,f4,f5⟩:=hf it (by simp);have hl:=rv.length;exact wpAny_pyNext_list_end (I.ok.hd hc) st p.isList (by simp;omega) fun h' eb=>⟨rfl,I.turned (t':=s.toks) (fun b o hb e=>eb b o hb e) f0 f1 f3 f4 f5⟩
 self:=fun _ _ _ _ _ st h=>wpAny_pyIter_listiter st h
theorem Ge {P:Program}{w:World}{K:FZ9}{tg:Expr}(a it:Addr):Turn P w K tg (Itt K a) [it] it (fun i h=>h.IsTupleIter it a i) where
 mem:=by simp
 obj:=fun i h st b hb=>by
  have e:b=it:=by simpa using hb
  subst e;obtain ⟨o,e,c,d⟩:=st;exact ⟨o,e,fun v z=>by rw [d] at z;cases z⟩
 keep:=fun i h h' st k=>st.at fun o e=>k it (by simp) o e
 item:=by
  intro X hP hw hK hc i pins s σ H E I hf st hg;subst hP hw hK;obtain ⟨xs,x,hq,hx⟩:=hg;obtain ⟨its,rv,p,hz⟩:=I.tuple hq;obtain ⟨u,hu,ru⟩:=rv.get hx;obtain ⟨f0,f1,f2,f3,f4,f5⟩:=hf it (by simp);refine wpAny_pyNext_tuple_item st (show s.heap.IsTuple a its.toArray from p) (x:=u) (by simpa using hu) fun h' st' sb=>?_;have I1:Inv X pins σ H { s with heap:=h' }:=I.turned (t':=s.toks) (fun b o hb e=>(sb.2 b hb).trans e) f0 f1 f3 f4 f5;obtain ⟨o,e,c,d⟩:=id st';exact ⟨u,rfl,Ey (s:={ s with heap:=h' }) e c d (by decide) ⟨x,H,I1,ru,⟨rfl,fun ys hy=>by rw [I.tuple_inj hy hq];exact hx⟩,st',fun b hb=>(hf b hb).1⟩⟩
 done:=by
  intro X hP hw hK hc i pins s σ H E I hf st hg;subst hP hw hK;obtain ⟨xs,hq,hx⟩:=hg;obtain ⟨its,rv,p,hz⟩:=I.tuple hq;obtain ⟨f0,f1,f2,f3,f4,f5⟩:=hf it (by simp);have hl:=rv.length;exact wpAny_pyNext_tuple_end (I.ok.hd hc) st (show s.heap.IsTuple a its.toArray from p) (by simp;omega) fun h' eb=>⟨rfl,I.turned (t':=s.toks) (fun b o hb e=>eb b o hb e) f0 f1 f3 f4 f5⟩
 self:=fun _ _ _ _ _ st h=>wpAny_pyIter_tupleiter st h
theorem Gg {P:Program}{w:World}{K:FZ9}{tg:Expr}(it:Addr)(lo:Int)(n:Nat):Turn P w K tg (Itr lo n) [it] it (fun i h=>IsRangeIter h it (lo+(i:Nat) * 1) ((n:Int) - (i:Nat)) 1) where
 mem:=by simp
 obj:=fun i h st b hb=>by
  have e:b=it:=by simpa using hb
  subst e
  exact ⟨_,st,fun v z=>by
   have z':Data.fields _=Data.cell v:=z
   cases z'⟩
 keep:=fun i h h' st k=>k it (by simp) _ st
 item:=by
  intro X hP hw hK hc i pins s σ H E I hf st hg;subst hP hw hK;obtain ⟨f0,f1,f2,f3,f4,f5⟩:=hf it (by simp);have W:=Walks.range (prog:=X.prog) (w:=X.w) (I.ok.hd hc) it lo 1 n;refine W.item i s _ _ hg st fun v h' tk hv st' kk=>?_;obtain ⟨t,rfl⟩:=hv;have I1:Inv X pins σ H { s with heap:=h',toks:=tk }:=I.turned (fun b o hb e=>kk b o (by simpa using hb) e) f0 f1 f3 f4 f5;refine ⟨_,rfl,Ey (s:={ s with heap:=h',toks:=tk }) (n := "range_iterator") st' rfl rfl (by decide) ⟨.int (lo+i),H,I1,⟨t,?_⟩,⟨rfl,rfl⟩,st',fun b hb=>(hf b hb).1⟩⟩;rw [Int.mul_one]
 done:=by
  intro X hP hw hK hc i pins s σ H E I hf st hg;subst hP hw hK;obtain ⟨f0,f1,f2,f3,f4,f5⟩:=hf it (by simp);exact wpAny_pyNext_range_end (I.ok.hd hc) st (by have:n<=i:=hg;omega) fun h' eb=>⟨rfl,I.turned (t':=s.toks) (fun b o hb e=>eb b o hb e) f0 f1 f3 f4 f5⟩
 self:=fun _ _ _ _ _ st h=>wpAny_pyIter_rangeiter st h
section
variable {X:Cx}{tg:Expr}
theorem range_it {pins:List (Addr × Obj)}{σ:St}{H:Hp}{s:Shared}{R:It->Hp->Prop}{E:Value->Shared->Prop}{lo hi:Int}{t u v:Tok}{tk:Nat}(I:Inv X pins σ H s)(h1:-(2 ^ 62)<=lo)(h2:lo<2 ^ 62)(h3:-(2 ^ 62)<=hi)(h4:hi<2 ^ 62)
  (q:R (Itr lo (hi - lo).toNat) H):wpAny (model X.prog X.w) X.A (pyIter (.ref s.heap.objs.size)) (PIE X pins σ tg R) E { s with heap:=s.heap.push { cls:=.type "range",data:=.fields #[.int lo t,.int hi u,.int 1 v] },toks:=tk }:=by
 refine wpAny_pyIter_range (IsRange.new ..) (small_one h1 h2 h3 h4) ?_;have I1:Inv X pins σ H { s with heap:=s.heap.push { cls:=.type "range",data:=.fields #[.int lo t,.int hi u,.int 1 v] },toks:=tk }:=I.kept fun b o e=>qvA _ e
 refine ⟨(s.heap.push { cls:=.type "range",data:=.fields #[.int lo t,.int hi u,.int 1 v] }).objs.size,[(s.heap.push { cls:=.type "range",data:=.fields #[.int lo t,.int hi u,.int 1 v] }).objs.size],_,_,H,rfl,
  I1.kept (t':=tk) fun b o e=>qvA _ e,Gg _ lo (hi - lo).toNat,?_,fun b hb=>?_,q⟩
 ·have e1:lo+((0:Nat):Int) * 1=lo:=by simp
  have e2:(((hi - lo).toNat:Nat):Int) - ((0:Nat):Int)=Builtin.Range.rangeSize lo hi 1:=by rw [rangeSize_one];split<;>omega
  show IsRangeIter _ _ (lo+((0:Nat):Int) * 1) ((((hi - lo).toNat:Nat):Int) - ((0:Nat):Int)) 1;rw [e1,e2];exact qwA _ rfl
 ·have e:b=(s.heap.push { cls:=.type "range",data:=.fields #[.int lo t,.int hi u,.int 1 v] }).objs.size:=by simpa using hb
  subst e;exact I1.fpOk (qrA _) (I1.hok.fresh (qrA _))
def iRng1 (ta:TA):TI:=fun σ H R=>ta σ H fun vs H1=>∃ j:Int,vs=[.int j]/\-(2 ^ 62)<=j/\j<2 ^ 62/\R (Itr 0 j.toNat) H1
theorem Df {a:Expr}{ta:TA}{p pos:Pos}(hg:Gl X "range")(hm:X.mg "range" = none)(ha:PA X [a] ta)(hs:starEach [a] X.env=[(false,eval a X.env)]:=by rfl):PI X tg (.Call (.Name "range" p) [a] [] pos) (iRng1 ta):=by
 intro pins s σ H R I h;refine Call_ (FU I hg hm boot_range (PyProof.Rows.callWith_type1 (thn (ha pos pins s σ H _ I h) fun us s1 ⟨vs,H1,I1,r1,q1⟩=>?_) hs rfl));obtain ⟨j,e,q1,q2,q⟩:=q1;subst e
 cases r1 with
 | cons r rr =>
  cases rr;obtain ⟨t,rfl⟩:=r;exact call_range_1 (range_it I1 (by omega) (by omega) q1 q2 (by simpa using q))
def tFor (wi:TI)(g:TG)(tb:TS):TS:=fun D σ H=>wi σ H fun J H1=>∃ W:Nat->Nat->St->Hp->Prop,(∃ m,W 0 m σ H1)/\∀ i m σ H,W i m σ H ->
 (J.stop i H/\D.nx σ H)\/(J.go i H/\∃ N:St->Hp->Prop,(∀ σ' H',N σ' H'->∃ m',m'<m/\W (i+1) m' σ' H')/\∀ x H',J.yld i H x H'->g x σ H' fun σ2 H2=>tb { D with nx:=N,ct:=N,bk:=D.nx } σ2 H2)
def Ee (fp:List Addr)(h:Heap):List (Addr × Obj):=fp.filterMap fun b=>(h.get? b).map fun o=>(b,o)
theorem Ck {fp:List Addr}{h:Heap}{b:Addr}{o:Obj}(hb:b∈fp)(e:h.get? b=some o):(b,o)∈Ee fp h:=List.mem_filterMap.mpr ⟨b,hb,by rw [e];rfl⟩
theorem IE {fp:List Addr}{h:Heap}{p:Addr × Obj}(hp:p∈Ee fp h):p.1∈fp/\h.get? p.1=some p.2:=by
 obtain ⟨b,hb,e⟩:=List.mem_filterMap.mp hp
 cases q:h.get? b with
 | none=>rw [q] at e;cases e
 | some o =>
  rw [q] at e;have e':(b,o)=p:=qtA e;subst e';exact ⟨hb,q⟩
theorem Inv.pinned {pins:List (Addr × Obj)}{σ:St}{H:Hp}{s:Shared}{fp:List Addr}(I:Inv X pins σ H s)(hf:∀ b∈fp,Fi X pins H b)(ho:∀ b∈fp,∃ o,s.heap.get? b=some o/\∀ v,o.data ≠ .cell v):Inv X (pins++Ee fp s.heap) σ H s :=
 I.pins_of fun p hp=>(qhA.mp hp).elim (fun z=>I.pin p (qkB _ z)) fun z=>by
  obtain ⟨hb,e⟩:=IE z;obtain ⟨f0,f1,f2,_⟩:=hf p.1 hb;obtain ⟨o,e',d⟩:=ho p.1 hb;rw [e] at e';cases e';exact ⟨e,f0,f1,f2,d⟩
theorem Inv.unpinned {pins pl:List (Addr × Obj)}{σ:St}{H:Hp}{s:Shared}(I:Inv X (pins++pl) σ H s):Inv X pins σ H s:=I.pins_of fun p hp=>I.pin p (qkB _ (List.mem_append_left _ hp))
theorem FK {iter:Expr}{body:List Stmt}{wi:TI}{g:TG}{tb:TS}{pos:Pos}(hp:PassesOwn (model X.prog X.w) X.A X.env X.xe)(hc:X.calm=true)(hi:PI X tg iter wi)(hg:PG X tg g)(hb:PSs X body tb)
  (hs:∀ x,foldedSetIterable iter X.env x=pure x:=by intro _;rfl):PS X (.For tg iter body [] pos) (tFor wi g tb):=by
 intro pins s σ H D I h;refine wpAny_For (thn (hi pins s σ H _ I h) fun v s1 h1=>thn h1 fun itv s2 h2=>?_) hs;obtain ⟨it,fp,tn,J,H2,e,I2,T,st2,f2,W,⟨m0,w0⟩,turn⟩:=h2;subst e;have stat:∀ {H':Hp},(∀ b∈fp,H' b=none)->∀ b∈fp,Fi X pins H' b:=fun hn b hb=>⟨hn b hb,(f2 b hb).2⟩;refine codeAny_forLoop_any (fun n s'=>∃ i σ' H',Inv X pins σ' H' s'/\tn i s'.heap/\(∀ b∈fp,H' b=none)/\W i n σ' H') ?_ m0 ⟨0,σ,H2,I2,st2,fun b hb=>(f2 b hb).1,w0⟩;rintro n s3 ⟨i,σ3,H3,I3,st3,fr3,w3⟩;rcases turn i n σ3 H3 w3 with ⟨stop,qn⟩ | ⟨go,N,hN,step⟩
 ·refine wpAny_passesOwn hp (thn (T.done X rfl rfl rfl hc i pins s3 σ3 H3 X.xe I3 (stat fr3) st3 stop) fun r s4 ⟨hr,I4⟩=>?_);subst hr;exact wpAny_execs_nil ⟨σ3,H3,I4,qn⟩
 ·refine wpAny_passesOwn hp (thn (T.item X rfl rfl rfl hc i pins s3 σ3 H3 X.xe I3 (stat fr3) st3 go) fun r s4 ⟨u,hr,h4⟩=>?_);subst hr;refine wpAny_passesOwn hp (thn h4 fun _ s5 ⟨x,H5,I5,r5,y5,st5,fr5⟩=>?_);have I5':=I5.pinned (stat fr5) (T.obj _ _ st5);refine wpAny_passesOwn hp (thn (hg _ s5 σ3 H5 x u _ I5' r5 (step x H5 y5)) fun _ s6 ⟨σ6,H6,I6,q6⟩=>?_);refine wpAny_passesOwn hp (thn (hb _ s6 σ6 H6 _ I6 q6) fun f s7 q7=>?_)
  have again:∀ {σ7:St}{H7:Hp},Inv X (pins++Ee fp s5.heap) σ7 H7 s7->N σ7 H7->∃ m,m<n/\∃ i σ' H',Inv X pins σ' H' s7/\tn i s7.heap/\(∀ b∈fp,H' b=none)/\W i m σ' H':=fun {σ7 H7} I7 n7=>by
   obtain ⟨m',hm,w7⟩:=hN σ7 H7 n7;refine ⟨m',hm,i+1,σ7,H7,I7.unpinned,T.keep _ _ _ st5 fun b hb o e=>(I7.pin (b,o) (qkB _ (qkB _ (Ck hb e)))).1,fun b hb=>?_,w7⟩;obtain ⟨o,e,d⟩:=T.obj _ _ st5 b hb;exact (I7.pin (b,o) (qkB _ (qkB _ (Ck hb e)))).2.1
  cases f with
  | next=>obtain ⟨σ7,H7,I7,n7⟩:=q7;exact again I7 n7
  | cont=>obtain ⟨σ7,H7,I7,n7⟩:=q7;exact again I7 n7
  | brk=>obtain ⟨σ7,H7,I7,q7⟩:=q7;exact ⟨σ7,H7,I7.unpinned,q7⟩
  | ret v=>obtain ⟨x7,σ7,H7,I7,r7,q7⟩:=q7;exact ⟨x7,σ7,H7,I7.unpinned,r7,q7⟩
end
abbrev R2:=V->V->Hp->VK->Prop
def OpR (X:Cx)(f:Value->Value->Sem Value)(r:R2):Prop :=
 ∀ (pins:List (Addr × Obj)) (s:Shared) (σ:St) (H:Hp) (x y:V) (v u:Value) (Q:VK),Inv X pins σ H s->RelV x v->RelV y u->r x y H Q ->
  wpAny (model X.prog X.w) X.A (f v u) (EP X pins σ Q) X.xe s
def UnR (X:Cx)(f:Value->Sem Value)(r:V->Hp->VK->Prop):Prop :=
 ∀ (pins:List (Addr × Obj)) (s:Shared) (σ:St) (H:Hp) (x:V) (v:Value) (Q:VK),Inv X pins σ H s->RelV x v->r x H Q ->
  wpAny (model X.prog X.w) X.A (f v) (EP X pins σ Q) X.xe s
def Dv (X:Cx)(f:Value)(r:List V->Hp->VK->Prop):Prop :=
 ∀ (pins:List (Addr × Obj)) (s:Shared) (σ:St) (H:Hp) (xs:List V) (us:List Value) (Q:VK),Inv X pins σ H s->Vals xs us->r xs H Q ->
  wpAny (model X.prog X.w) X.A (call f us) (EP X pins σ Q) X.xe s
def TruR (X:Cx)(r:V->Hp->(Bool->Hp->Prop)->Prop):Prop :=
 ∀ (pins:List (Addr × Obj)) (s:Shared) (σ:St) (H:Hp) (x:V) (v:Value) (Q:Bool->Hp->Prop),Inv X pins σ H s->RelV x v->r x H Q ->
  wpAny (model X.prog X.w) X.A (truthy v) (TP X pins σ Q) X.xe s
abbrev tOp (r:R2)(ta tb:TE):TE:=fun σ H Q=>ta σ H fun x H1=>tb σ H1 fun y H2=>r x y H2 Q
abbrev tUn (r:V->Hp->VK->Prop)(ta:TE):TE:=fun σ H Q=>ta σ H fun x H1=>r x H1 Q
def rI (C:Int->Int->Prop)(g:Int->Int->V):R2:=fun x y H Q=>∃ i j,x = .int i/\y = .int j/\C i j/\Q (g i j) H
def rI0 (g:Int->Int->V):R2:=fun x y H Q=>∃ i j,x = .int i/\y = .int j/\Q (g i j) H
def rU (g:Int->V):V->Hp->VK->Prop:=fun x H Q=>∃ i,x = .int i/\Q (g i) H
section
variable {X:Cx}{a b c:Expr}{ta tb tc:TE}{pos:Pos}
theorem binT (ha:PE X a ta)(hb:PE X b tb){pins:List (Addr × Obj)}{s:Shared}{σ:St}{H:Hp}{R:V->V->Hp->Prop}(I:Inv X pins σ H s)
  (h:ta σ H fun x H1=>tb σ H1 fun y H2=>R x y H2) {Q:Value->Shared->Prop}{f:Value->Value->Sem Value}
  (hf:∀ v u s2 x y H2,Inv X pins σ H2 s2->RelV x v->RelV y u->R x y H2->wpAny (model X.prog X.w) X.A (f v u) Q X.xe s2) :
  wpAny (model X.prog X.w) X.A (eval a X.env) (fun v s₁=>wpAny (model X.prog X.w) X.A (eval b X.env) (fun u s₂=>wpAny (model X.prog X.w) X.A (f v u) Q X.xe s₂) X.xe s₁) X.xe s:=by
 refine thn (ha pins s σ H _ I h) fun v s1 ⟨x,H1,I1,r1,q1⟩=>?_;refine thn (hb pins s1 σ H1 _ I1 q1) fun u s2 ⟨y,H2,I2,r2,q2⟩=>?_;exact hf v u s2 x y H2 I2 r1 r2 q2
theorem BA {op:Operator}{r:R2}(ho:OpR X (binaryOp op) r)(ha:PE X a ta)(hb:PE X b tb):PE X (.BinOp a op b pos) (tOp r ta tb):=by
 intro pins s σ H Q I h;exact wpAny_BinOp (binT ha hb I h fun v u s2 x y H2 I2 rx ry q=>ho pins s2 σ H2 x y v u Q I2 rx ry q)
theorem pe_un {op:UnaryOp}{r:V->Hp->VK->Prop}(ho:UnR X (unaryOp op) r)(ha:PE X a ta):PE X (.UnaryOp op a pos) (tUn r ta):=by
 intro pins s σ H Q I h;exact UnaryOp_ (thn (ha pins s σ H _ I h) fun v s1 ⟨x,H1,I1,r1,q1⟩=>ho pins s1 σ H1 x v Q I1 r1 q1)
theorem opI {f:Value->Value->Sem Value}{C:Int->Int->Prop}{g:Int->Int->Int}
  (rule:∀ (i j:Int) (t u:Tok) (s:Shared) (Q:Value->Shared->Prop) (E:Value->Shared->Prop),C i j->Q (.int (g i j) s.toks) { s with toks:=s.toks+1 }->wpAny (model X.prog X.w) X.A (f (.int i t) (.int j u)) Q E s) :
  OpR X f (rI C fun i j=>.int (g i j)):=by
 intro pins s σ H x y v u Q I rx ry h;obtain ⟨i,j,rfl,rfl,hc,q⟩:=h;obtain ⟨t,rfl⟩:=rx;obtain ⟨t',rfl⟩:=ry;exact rule i j t t' s _ _ hc ⟨.int (g i j),H,I.tok _,⟨_,rfl⟩,q⟩
theorem opI0 {f:Value->Value->Sem Value}{g:Int->Int->Int}
  (rule:∀ (i j:Int) (t u:Tok) (s:Shared) (Q:Value->Shared->Prop) (E:Value->Shared->Prop),Q (.int (g i j) s.toks) { s with toks:=s.toks+1 }->wpAny (model X.prog X.w) X.A (f (.int i t) (.int j u)) Q E s) :
  OpR X f (rI0 fun i j=>.int (g i j)):=by
 intro pins s σ H x y v u Q I rx ry h;obtain ⟨i,j,rfl,rfl,q⟩:=h;obtain ⟨t,rfl⟩:=rx;obtain ⟨t',rfl⟩:=ry;exact rule i j t t' s _ _ ⟨.int (g i j),H,I.tok _,⟨_,rfl⟩,q⟩
theorem opB0 {f:Value->Value->Sem Value}{g:Int->Int->Bool}
  (rule:∀ (i j:Int) (t u:Tok) (s:Shared) (Q:Value->Shared->Prop) (E:Value->Shared->Prop),Q (.bool (g i j)) s->wpAny (model X.prog X.w) X.A (f (.int i t) (.int j u)) Q E s) :
  OpR X f (rI0 fun i j=>.bl (g i j)):=by
 intro pins s σ H x y v u Q I rx ry h;obtain ⟨i,j,rfl,rfl,q⟩:=h;obtain ⟨t,rfl⟩:=rx;obtain ⟨t',rfl⟩:=ry;exact rule i j t t' s _ _ ⟨.bl (g i j),H,I,rfl,q⟩
def Go (i j:Int):Prop:=0<j/\j<1073741824
def CMul (i j:Int):Prop:=(-(2 ^ 64)<i/\i<2 ^ 64)\/(-(2 ^ 64)<j/\j<2 ^ 64)
theorem CMul.ok {i j:Int}(h:CMul i j):IntMulOk i j:=by
 rcases h with ⟨h1,h2⟩ | ⟨h1,h2⟩
 ·exact .of_left (intBits_le_64 h1 h2)
 ·exact .of_right (intBits_le_64 h1 h2)
theorem op_add:OpR X (binaryOp .Add) (rI0 fun i j=>.int (i+j)):=opI0 fun _ _ _ _ _ _ _ q=>add_int q
theorem op_sub:OpR X (binaryOp .Sub) (rI0 fun i j=>.int (i - j)):=opI0 fun _ _ _ _ _ _ _ q=>sub_int q
theorem op_mul:OpR X (binaryOp .Mult) (rI CMul fun i j=>.int (i * j)):=opI fun _ _ _ _ _ _ _ hc q=>mul_int q hc.ok
theorem Dc:OpR X (binaryOp .FloorDiv) (rI Go fun i j=>.int (i / j)):=opI fun i j _ _ _ _ _ hc q=>by
 have h1:(0:Int)<j:=hc.1;have h2:j<1073741824:=hc.2;exact floordiv_int (by omega) (by rw [Int.fdiv_eq_ediv_of_nonneg i (by omega)];exact q) (.inl (PyProof.noPylong_small (by omega)))
theorem Bw:OpR X (binaryOp .Mod) (rI (fun _ j=>0<j) fun i j=>.int (i % j)):=opI fun i j _ _ _ _ _ hc q=>by
 have h1:(0:Int)<j:=hc;exact mod_int' (by omega) (by rw [Int.fmod_eq_emod_of_nonneg i (by omega)];exact q)
theorem unI {f:Value->Sem Value}{g:Int->Int}
  (rule:∀ (i:Int) (t:Tok) (s:Shared) (Q:Value->Shared->Prop) (E:Value->Shared->Prop),Q (.int (g i) s.toks) { s with toks:=s.toks+1 }->wpAny (model X.prog X.w) X.A (f (.int i t)) Q E s) :
  UnR X f (rU fun i=>.int (g i)):=by
 intro pins s σ H x v Q I rx h;obtain ⟨i,rfl,q⟩:=h;obtain ⟨t,rfl⟩:=rx;exact rule i t s _ _ ⟨.int (g i),H,I.tok _,⟨_,rfl⟩,q⟩
theorem un_neg:UnR X (unaryOp .USub) (rU fun i=>.int (-i)):=unI fun _ _ _ _ _ q=>neg_int q
end
def scal:V->V->Bool
 | .non,.non=>true | .non,.int _=>true | .int _,.non=>true | .non,.bl _=>true | .bl _,.non=>true | .non,.str _=>true | .str _,.non=>true
 | .int _,.int _=>true | .bl _,.bl _=>true | .str _,.str _=>true | .byt _,.byt _=>true
 | .int _,.str _=>true | .str _,.int _=>true | .bl _,.str _=>true | .str _,.bl _=>true
 | _,_=>false
def rEq:R2:=fun x y H Q=>scal x y=true/\Q (.bl (decide (x=y))) H
def rNe:R2:=fun x y H Q=>scal x y=true/\Q (.bl (!decide (x=y))) H
theorem HN {i j:Int}:decide (V.int i=V.int j)=(i == j):=by
 rw [Bool.eq_iff_iff];simp
theorem dec_bl {i j:Bool}:decide (V.bl i=V.bl j)=(i == j):=by
 rw [Bool.eq_iff_iff];simp
theorem Hh {i j:Str}:decide (V.str i=V.str j)=(i == j):=by
 rw [Bool.eq_iff_iff];simp
theorem HW {i j:Array UInt8}:decide (V.byt i=V.byt j)=(i.toList == j.toList):=by
 rw [Bool.eq_iff_iff];cases i;cases j;simp
section
variable {X:Cx}{a b c:Expr}{ta tb tc:TE}{pos:Pos}
theorem Ac {pins:List (Addr × Obj)}{σ:St}{H:Hp}{s:Shared}{Q:VK}{k k':Bool}(I:Inv X pins σ H s)(q:Q (.bl k) H)(e:k=k'):EP X pins σ Q (.bool k') s:=by
 subst e;exact ⟨.bl k,H,I,rfl,q⟩
theorem Bm:OpR X (compareOp .Eq) rEq:=by
 intro pins s σ H x y v u Q I rx ry h;obtain ⟨hs,q⟩:=h
 cases x with
 | non =>
  cases rx
  cases y with
  | non=>cases ry;exact PySem.EqNone.eq_none_none (Ac I q (by simp))
  | bl j=>cases ry;exact PySem.EqNone.eq_none_bool (Ac I q (by simp))
  | int j=>obtain ⟨t',rfl⟩:=ry;exact PySem.EqNone.eq_none_int (Ac I q (by simp))
  | str j=>obtain ⟨t',rfl⟩:=ry;exact PySem.EqNone.eq_none_str (Ac I q (by simp))
  | _=>exact absurd (show false=true from hs) qcB
 | bl i =>
  cases rx
  cases y with
  | non=>cases ry;exact PySem.EqNone.eq_bool_none (Ac I q (by simp))
  | bl j=>cases ry;exact eq_bool (Ac I q dec_bl)
  | str j=>obtain ⟨t',rfl⟩:=ry;exact PySem.EqMixed.eq_bool_str (Ac I q (by simp))
  | _=>exact absurd (show false=true from hs) qcB
 | int i =>
  obtain ⟨t,rfl⟩:=rx
  cases y with
  | non=>cases ry;exact PySem.EqNone.eq_int_none (Ac I q (by simp))
  | int j=>obtain ⟨t',rfl⟩:=ry;exact eq_int (Ac I q HN)
  | str j=>obtain ⟨t',rfl⟩:=ry;exact PySem.EqMixed.eq_int_str (Ac I q (by simp))
  | _=>exact absurd (show false=true from hs) qcB
 | str i =>
  obtain ⟨t,rfl⟩:=rx
  cases y with
  | non=>cases ry;exact PySem.EqNone.eq_str_none (Ac I q (by simp))
  | bl j=>cases ry;exact PySem.EqMixed.eq_str_bool (Ac I q (by simp))
  | int j=>obtain ⟨t',rfl⟩:=ry;exact PySem.EqMixed.eq_str_int (Ac I q (by simp))
  | str j=>obtain ⟨t',rfl⟩:=ry;exact eq_str (Ac I q Hh)
  | _=>exact absurd (show false=true from hs) qcB
 | byt i =>
  obtain ⟨t,rfl⟩:=rx
  cases y with
  | byt j=>obtain ⟨t',rfl⟩:=ry;exact PySem.W.eq_bytes (Ac I q HW)
  | _=>exact absurd (show false=true from hs) qcB
 | _=>cases y<;>exact absurd (show false=true from hs) qcB
theorem op_ne:OpR X (compareOp .NotEq) rNe:=by
 intro pins s σ H x y v u Q I rx ry h;obtain ⟨hs,q⟩:=h
 cases x with
 | non =>
  cases rx
  cases y with
  | non=>cases ry;exact PySem.EqNone.ne_none_none (Ac I q (by simp))
  | bl j=>cases ry;exact PySem.EqNone.ne_none_bool (Ac I q (by simp))
  | int j=>obtain ⟨t',rfl⟩:=ry;exact PySem.EqNone.ne_none_int (Ac I q (by simp))
  | str j=>obtain ⟨t',rfl⟩:=ry;exact PySem.EqNone.ne_none_str (Ac I q (by simp))
  | _=>exact absurd (show false=true from hs) qcB
 | bl i =>
  cases rx
  cases y with
  | non=>cases ry;exact PySem.EqNone.ne_bool_none (Ac I q (by simp))
  | bl j=>cases ry;exact ne_bool (Ac I q (congrArg not dec_bl))
  | str j=>obtain ⟨t',rfl⟩:=ry;exact PySem.EqMixed.ne_bool_str (Ac I q (by simp))
  | _=>exact absurd (show false=true from hs) qcB
 | int i =>
  obtain ⟨t,rfl⟩:=rx
  cases y with
  | non=>cases ry;exact PySem.EqNone.ne_int_none (Ac I q (by simp))
  | int j=>obtain ⟨t',rfl⟩:=ry;exact ne_int (Ac I q (congrArg not HN))
  | str j=>obtain ⟨t',rfl⟩:=ry;exact PySem.EqMixed.ne_int_str (Ac I q (by simp))
  | _=>exact absurd (show false=true from hs) qcB
 | str i =>
  obtain ⟨t,rfl⟩:=rx
  cases y with
  | non=>cases ry;exact PySem.EqNone.ne_str_none (Ac I q (by simp))
  | bl j=>cases ry;exact PySem.EqMixed.ne_str_bool (Ac I q (by simp))
  | int j=>obtain ⟨t',rfl⟩:=ry;exact PySem.EqMixed.ne_str_int (Ac I q (by simp))
  | str j=>obtain ⟨t',rfl⟩:=ry;exact ne_str (Ac I q (congrArg not Hh))
  | _=>exact absurd (show false=true from hs) qcB
 | byt i =>
  obtain ⟨t,rfl⟩:=rx
  cases y with
  | byt j=>obtain ⟨t',rfl⟩:=ry;exact PySem.W.ne_bytes (Ac I q (congrArg not HW))
  | _=>exact absurd (show false=true from hs) qcB
 | _=>cases y<;>exact absurd (show false=true from hs) qcB
theorem op_lt:OpR X (compareOp .Lt) (rI0 fun i j=>.bl (decide (i<j))):=opB0 fun _ _ _ _ _ _ _ q=>lt_int q
theorem op_le:OpR X (compareOp .LtE) (rI0 fun i j=>.bl (decide (i<=j))):=opB0 fun _ _ _ _ _ _ _ q=>le_int q
theorem op_gt:OpR X (compareOp .Gt) (rI0 fun i j=>.bl (decide (j<i))):=opB0 fun _ _ _ _ _ _ _ q=>gt_int q
theorem AY (b:Expr){op:CmpOp}(h:op ≠ .In:=by decide)(h2:op ≠ .NotIn:=by decide):behindInMarks op b=false:=by
 have e1:(op == CmpOp.In)=false:=by cases op<;>first|rfl|exact absurd rfl h
 have e2:(op == CmpOp.NotIn)=false:=by cases op<;>first|rfl|exact absurd rfl h2
 cases b<;>simp [behindInMarks,e1,e2]
theorem DV {op:CmpOp}{r:R2}(ho:OpR X (compareOp op) r)(ha:PE X a ta)(hb:PE X b tb)(hm:behindInMarks op b=false):PE X (.Compare a [op] [b] pos) (tOp r ta tb):=by
 intro pins s σ H Q I h;exact wpAny_Compare1 (binT ha hb I h fun v u s2 x y H2 I2 rx ry q=>ho pins s2 σ H2 x y v u Q I2 rx ry q) hm
abbrev tTest (t:TE):TT:=fun σ H Q=>t σ H fun x H'=>∃ k,x = .bl k/\Q k H'
theorem AT {op:CmpOp}{r:R2}(ho:OpR X (compareOp op) r)(ha:PE X a ta)(hb:PE X b tb)(hm:behindInMarks op b=false):PT X (.Compare a [op] [b] pos) (tTest (tOp r ta tb)):=by
 intro pins s σ H Q I h
 refine wpAny_isTrue_Compare1 (thn (ha pins s σ H _ I h) fun v s1 ⟨x,H1,I1,r1,q1⟩=>thn (hb pins s1 σ H1 _ I1 q1) fun u s2 ⟨y,H2,I2,r2,q2⟩ =>
  thn (ho pins s2 σ H2 x y v u _ I2 r1 r2 q2) fun c s3 ⟨z,H3,I3,r3,k,e,q3⟩=>?_) hm
 subst e;cases r3;exact wpAny_truthy_bool ⟨H3,I3,q3⟩
def TruV (K:FZ9)(x:V)(H:Hp)(k:Bool):Prop :=
 match x with
 | .non=>k=false
 | .bl b=>k=b
 | .int i=>k=(i != 0)
 | .str y=>y.length<=sizeLine/\k=((y.length:Int) != 0)
 | .byt y=>y.size<=sizeLine/\k=((y.size:Int) != 0)
 | .ref p=>(∃ xs,SqL K H p xs/\k = !xs.isEmpty)\/(∃ xs,SqT K H p xs/\k = !xs.isEmpty)\/∃ kvs,H p=some (.dK kvs)/\k = !kvs.isEmpty
 | _=>False
theorem Gk {κ:Type}{kvs:List (κ × V)}{vs:List (κ × Value)}(r:KV kvs vs):(!vs.isEmpty) = !kvs.isEmpty:=by
 cases r<;>rfl
theorem Ef {xs:List V}{its:List Value}(r:Vals xs its):(!its.toArray.isEmpty) = !xs.isEmpty:=by
 cases r<;>simp
theorem Dp:(sizeLine:Nat)<2 ^ 63:=by rw [qxA];decide
theorem tru_ok:TruR X (fun x H Q=>∃ k,TruV X.K x H k/\Q k H):=by
 intro pins s σ H x v Q I rx h;obtain ⟨k,e,q⟩:=h;have hl:=Dp;have hs:sizeLine=16777216:=qxA
 cases x with
 | non =>
  cases rx;have e':k=false:=e;subst e';exact truthy_none ⟨H,I,q⟩
 | bl b =>
  cases rx;have e':k=b:=e;subst e';exact wpAny_truthy_bool ⟨H,I,q⟩
 | int i =>
  obtain ⟨t,rfl⟩:=rx;have e':k=(i != 0):=e;subst e';exact PySem.P.truthy_int ⟨H,I,q⟩
 | str y =>
  obtain ⟨t,rfl⟩:=rx;obtain ⟨hy,e'⟩:y.length<=sizeLine/\k=((y.length:Int) != 0):=e;subst e';exact PySem.P.truthy_str (by omega) ⟨H,I.tok _,q⟩
 | byt y =>
  obtain ⟨t,rfl⟩:=rx;obtain ⟨hy,e'⟩:y.size<=sizeLine/\k=((y.size:Int) != 0):=e;subst e';exact PySem.W.truthy_bytes (by omega) ⟨H,I.tok _,q⟩
 | ref p =>
  cases rx;have e':(∃ xs,SqL X.K H p xs/\k = !xs.isEmpty)\/(∃ xs,SqT X.K H p xs/\k = !xs.isEmpty)\/∃ kvs,H p=some (.dK kvs)/\k = !kvs.isEmpty:=e;rcases e' with ⟨xs,hx,e'⟩ | ⟨xs,hx,e'⟩ | ⟨kvs,hx,e'⟩
  ·subst e';obtain ⟨its,r,pl,hz⟩:=I.list hx;have hlen:=r.length;exact wpAny_truthy_list pl.isList (by simp only [qdB];omega) ⟨H,I.tok _,by rw [Ef r];exact q⟩
  ·subst e';obtain ⟨its,r,pl,hz⟩:=I.tuple hx;have hlen:=r.length;exact truthy_tuple pl (by simp only [qdB];omega) ⟨H,I.tok _,by rw [Ef r];exact q⟩
  ·subst e';obtain ⟨hz,hS,vs,r,m⟩:kvs.length<=sizeLine/\(p == sysModules)=false/\∃ vs,KV kvs vs/\s.heap.DictOf (FI X.prog X.w) p vs:=I.hok p _ hx;have hlen:kvs.length=vs.length:=Paired.length r;exact wpAny_truthy_dict hS m (by omega) ⟨H,I.tok _,by rw [Gk r];exact q⟩
 | _=>exact (show False from e).elim
theorem pt_truth (ha:PE X a ta)(he:∀ whole,isTrue a X.env whole=(do let v <- whole;standAt a.pos;holding [v] (truthy v))) :
  PT X a (fun σ H Q=>ta σ H fun x H'=>∃ k,TruV X.K x H' k/\Q k H'):=by
 intro pins s σ H Q I h;exact isTrue_plain (thn (ha pins s σ H _ I h) fun v s1 ⟨x,H1,I1,r1,q1⟩=>tru_ok pins s1 σ H1 x v Q I1 r1 q1) (he _)
theorem Gd:OpR X (binaryOp .Add) (fun x y H Q=>∃ i j,x = .str i/\y = .str j/\i.length+j.length<=sizeLine/\Q (.str (i++j)) H):=by
 intro pins s σ H x y v u Q I rx ry h;obtain ⟨i,j,rfl,rfl,hz,q⟩:=h;obtain ⟨t,rfl⟩:=rx;obtain ⟨t',rfl⟩:=ry;exact add_str (fun t' tk=>⟨.str (i++j),H,I.tok _,⟨_,rfl⟩,q⟩) hz
theorem Ha {x:V}{us:List Value}(r:Vals [x] us):∃ u,us=[u]/\RelV x u:=by
 cases r with
 | cons r1 r2=>cases r2;exact ⟨_,rfl,r1⟩
theorem vals2 {x y:V}{us:List Value}(r:Vals [x,y] us):∃ u w',us=[u,w']/\RelV x u/\RelV y w':=by
 cases r with
 | cons r1 r2 =>
  cases r2 with
  | cons r3 r4=>cases r4;exact ⟨_,_,rfl,r1,r3⟩
theorem Hu (hc:X.calm=true):Dv X (.builtin "min") (fun xs H Q=>∃ i j,xs=[.int i,.int j]/\Q (.int (if j<i then j else i)) H):=by
 intro pins s σ H xs us Q I r h;obtain ⟨i,j,rfl,q⟩:=h;obtain ⟨u,w',rfl,⟨t,rfl⟩,⟨t',rfl⟩⟩:=vals2 r;refine min_two_ints (I.ok.hd hc) fun h' tk k=>⟨_,H,I.kept k,?_,q⟩;by_cases hj:j<i
 ·rw [if_pos hj,if_pos hj];exact ⟨_,rfl⟩
 ·rw [if_neg hj,if_neg hj];exact ⟨_,rfl⟩
end
structure Room (k:Nat)(A:Around):Prop where
 hd:A.handled=none
 dp:A.depth+3 * k+5<recursionLimit
 un:A.units+16 * k+200<cLine
theorem Room.mono {j k:Nat}{A:Around}(r:Room k A)(h:j<=k):Room j A:=⟨r.hd,by have:=r.dp;omega,by have:=r.un;omega⟩
theorem Room.deeper {k:Nat}{A:Around}(r:Room (k+1) A)(env:Env):Room k (A.deeper env) :=
 ⟨r.hd,by have:=r.dp;show A.depth+1+3 * k+5<_;omega,by have:=r.un;show A.units+3+16 * k+200<_;omega⟩
theorem Room.depth {k:Nat}{A:Around}(r:Room k A):A.depth<recursionLimit:=by have:=r.dp;omega
abbrev C8:TA:=fun _ H Q=>Q [] H
abbrev An (ta:TE)(tr:TA):TA:=fun σ H Q=>ta σ H fun x H1=>tr σ H1 fun xs H2=>Q (x::xs) H2
section
variable {X:Cx}{e:Expr}{es:List Expr}{te:TE}{t:TA}{pos:Pos}
theorem A8:PA X [] C8:=fun _ _ _ _ H Q I h=>Calls.spliced_nil ⟨[],H,I,.nil,h⟩
theorem A3 (ha:PE X e te)(hr:PA X es t)(hs:starEach (e::es) X.env=(false,eval e X.env)::starEach es X.env:=by rfl):PA X (e::es) (An te t):=by
 intro pos pins s σ H Q I h;rw [hs];show wpAny _ _ (spliced ((false,eval e X.env)::backTo pos (starEach es X.env))) _ _ s;refine Calls.spliced_cons (thn (ha pins s σ H _ I h) fun u s1 ⟨x,H1,I1,r1,q1⟩=>?_);exact thn (hr pos pins s1 σ H1 _ I1 q1) fun us s2 ⟨xs,H2,I2,r2,q2⟩=>⟨x::xs,H2,I2,.cons r1 r2,q2⟩
abbrev tTup (t:TA):TE:=fun σ H Q=>t σ H fun xs H1=>xs.length<=sizeLine/\∀ p,H1 p=none->Q (.ref p) (upd H1 p (.tup xs))
abbrev tLst (t:TA):TE:=fun σ H Q=>t σ H fun xs H1=>xs.length<=sizeLine/\∀ p,H1 p=none->Q (.ref p) (upd H1 p (.lst xs))
theorem BD {x1}(h:PA X es t):PE X (.Tuple es x1 pos) (tTup t):=by
 intro pins s σ H Q I hq;refine wpAny_Tuple_spliced (thn (h pos pins s σ H _ I hq) fun us s1 ⟨xs,H1,I1,r,z,q⟩=>⟨by rw [<- r.length];exact z,?_⟩);have hf:H1 s1.heap.objs.size=none:=I1.hok.fresh (qrA _);refine ⟨.ref s1.heap.objs.size,upd H1 s1.heap.objs.size (.tup xs),I1.laid (t':=s1.toks) (fun b u e=>qvA _ e) (qrA _) ?_,rfl,q _ hf⟩;exact ⟨z,us,r,⟨_,qwA _ rfl,rfl,_,rfl⟩⟩
theorem Fa (h:PA X es t):PE X (.List es pos) (tLst t):=by
 intro pins s σ H Q I hq;refine wpAny_List_spliced (thn (h pos pins s σ H _ I hq) fun us s1 ⟨xs,H1,I1,r,z,q⟩=>⟨by rw [<- r.length];exact z,?_⟩);have hf:H1 s1.heap.objs.size=none:=I1.hok.fresh (qrA _);refine ⟨.ref s1.heap.objs.size,upd H1 s1.heap.objs.size (.lst xs),I1.laid (t':=s1.toks) (fun b u e=>qvA _ e) (qrA _) ?_,rfl,q _ hf⟩;exact ⟨z,us,0,r,qwA _ rfl⟩
end
abbrev Sp:=List V->Hp->VK->XK->Prop
abbrev CXT:=List Env->Hp->Shared->XK->Value->Shared->Prop
structure Env0 (P:Program)(w:World)(K:FZ9)(mg:Str->Option Value)(base:Heap)(A:Around)(outer:List Env)(s:Shared)(H:Hp):Prop where
 frames:A.frames=some outer
 mod:Mod K mg base
 bs:∀ b o,base.get? b=some o->s.heap.get? b=some o/\H b=none
 bsz:base.objs.size<=s.heap.objs.size
 funs:s.heap.FunFrames base outer
 frf:∀ b∈frs outer,H b=none
 hok:HOk P w H s.heap
 bare:AllBare s.gens
def CE (outer:List Env)(P:Program)(w:World)(H:Hp)(s:Shared)(Q:VK)(u:Value)(s':Shared):Prop :=
 ∃ v H',s'.os=s.os/\AllBare s'.gens/\Un (frs outer) [] H H' s.heap s'.heap/\HOk P w H' s'.heap/\RelV v u/\Q v H'
def CR (CX:CXT)(outer:List Env)(P:Program)(w:World)(H:Hp)(s:Shared)(Q:VK)(E:XK)(r:Result)(s':Shared):Prop :=
 match r with
 | .ok (.ret u)=>CE outer P w H s Q u s'
 | .ok _=>False
 | .error e=>CX outer H s E e s'
structure FnOk (P:Program)(w:World)(K:FZ9)(mg:Str->Option Value)(base:Heap)(CX:CXT)(k:Nat)(f:Addr)(fd:FuncData)(ps:List Str)(sp:Sp):Prop where
 len:∀ vs H Q E,sp vs H Q E->vs.length=ps.length
 run:∀ (A:Around) (outer:List Env) (s:Shared) (H:Hp) (args:Args) (us:List Value) (vs:List V) (Q:VK) (E:XK),Room k A->Env0 P w K mg base A outer s H->BindsTo s fd args (ps.zip us)->Vals vs us->sp vs H Q E ->
  codeAny (model P w) A (.call (.ref f) args) (CR CX outer P w H s Q E) s
theorem FnOk.imp {P:Program}{w:World}{K:FZ9}{mg:Str->Option Value}{base:Heap}{CX:CXT}{k:Nat}{f:Addr}{fd:FuncData}{ps:List Str}{sp sp':Sp}(F:FnOk P w K mg base CX k f fd ps sp)
  (h:∀ vs H Q E,sp' vs H Q E->sp vs H Q E):FnOk P w K mg base CX k f fd ps sp' :=
 ⟨fun vs H Q E q=>F.len vs H Q E (h _ _ _ _ q),fun A outer s H args us vs Q E hr he hb hv hs=>F.run A outer s H args us vs Q E hr he hb hv (h _ _ _ _ hs)⟩
section
variable {X:Cx}{pins:List (Addr × Obj)}{σ:St}{H:Hp}{s s':Shared}
theorem Inv.env0 (I:Inv X pins σ H s):Env0 X.prog X.w X.K X.mg X.base X.A X.stack s H :=
 ⟨I.ok.frames,I.ok.mod,I.bs,qsA I.ok.bsz I.sz,I.stack,I.stkFree,I.hok,I.bare⟩
theorem Inv.after {Q:VK}{u:Value}(I:Inv X pins σ H s)(h:CE X.stack X.prog X.w H s Q u s'):EP X pins σ Q u s':=by
 obtain ⟨v,H',os,bare,un,hok,r,q⟩:=h;obtain ⟨hh,g,d,t,os'⟩:=s';obtain rfl:os'=s.os:=os;exact ⟨v,H',I.call (h':=hh) (g':=g) (d':=d) (t':=t) (ch:=[]) un hok bare (fun b z=>absurd z (by simp)),r,q⟩
end
abbrev DB (sp:Sp)(dvs:List V)(E:XK)(t:TA):TE:=fun σ H Q=>t σ H fun vs H1=>sp (vs++dvs) H1 Q E
def Binds (K:FZ9)(fd:FuncData)(ps:List Str)(ds:List Value):Prop :=
 ∀ (s:Shared) (us:List Value),K.In s.heap->(us++ds).length=ps.length->BindsTo s fd ⟨us,[]⟩ (ps.zip (us++ds))
theorem Binds.all {K:FZ9}{fd:FuncData}{ps:List Str}(h:∀ us:List Value,us.length=ps.length->bindArgs fd ⟨us,[]⟩=pure (ps.zip us)):Binds K fd ps []:=fun s us _ hl=>by
 rw [qqA] at hl ⊢;exact .of_eq (h us hl)
def Gn (CX:CXT)(X:Cx)(E:XK):Prop:=∀ (pins:List (Addr × Obj)) (σ:St) (H:Hp) (s:Shared) (e:Value) (s':Shared),Inv X pins σ H s->CX X.stack H s E e s'->X.xe e s'
section
variable {X:Cx}{CX:CXT}{k:Nat}{f C:Addr}{fd:FuncData}{ps:List Str}{sp:Sp}{dvs:List V}{ds:List Value}{E:XK}{x m:Str}{p pos apos:Pos}{e o:Expr}{es:List Expr}{ta:TE}{t:TA}
theorem run_fn {pins:List (Addr × Obj)}{σ:St}{H:Hp}{s:Shared}{Q:VK}{us:List Value}{vs:List V}(F:FnOk X.prog X.w X.K X.mg X.base CX k f fd ps sp)(hr:Room k X.A)(hb:Binds X.K fd ps ds)(hd:Vals dvs ds)(hx:Gn CX X E)
  (I:Inv X pins σ H s) (r:Vals vs us) (h:sp (vs++dvs) H Q E):wpAny (model X.prog X.w) X.A (call (.ref f) us) (EP X pins σ Q) X.xe s:=by
 have r2:Vals (vs++dvs) (us++ds):=r.append hd;have hl:(us++ds).length=ps.length:=by rw [<- r2.length];exact F.len _ _ _ _ h
 refine wpAny_call (codeAny_mono (F.run X.A X.stack s H ⟨us,[]⟩ (us++ds) (vs++dvs) Q E hr I.env0 (hb s us I.kIn hl) r2 h) fun r s' hq=>?_)
 cases r with
 | error e=>exact hx pins σ H s e s' I hq
 | ok fl =>
  cases fl with
  | ret u=>exact I.after hq
  | next=>exact False.elim hq
  | brk=>exact False.elim hq
  | cont=>exact False.elim hq
theorem pe_call (F:FnOk X.prog X.w X.K X.mg X.base CX k f fd ps sp)(hr:Room k X.A)(hg:Gl X x)(hm:X.mg x=some (.ref f))(hk:qeB X.K (.ref f)=true)(hb:Binds X.K fd ps ds)(hd:Vals dvs ds)(hx:Gn CX X E)
  (ha:PA X (e::es) t) (hdb:(x == ("__debug__" : Str))=false:=by decide) (he:starEach (e::es) X.env=(false,eval e X.env)::starEach es X.env:=by rfl) (hpl:(backTo pos (starEach es X.env)).any (·.1)=false:=by rfl) :
  PE X (.Call (.Name x p) (e::es) [] pos) (DB sp dvs E t):=by
 intro pins s σ H Q I h;refine wpAny_Call_Name_kw (EF I hg hm ?_ hdb);refine PySem.W.callWith_K (h₀:=X.base) I.ok.mod.kin hk (thn (ha pos pins s σ H _ I h) fun us s1 ⟨vs,H1,I1,r,q⟩=>⟨I1.kIn,?_⟩) he hpl;exact run_fn F hr hb hd hx I1 r q
end
structure FnScope (N P:List Str)(sc:Scope):Prop where
 kind:sc.kind = .function
 co:sc.isCoroutine=false
 gen:sc.isGenerator=false
 nd:N.Nodup
 pre:N.take P.length=P
 par:∀ x∈P,sc.names.lookup x=some .local \/ sc.names.lookup x=some .cell
 nofree:∀ y∈sc.names,y.2 ≠ .free
theorem Es {kindOf:Str->Option NameKind}{x:Str}:∀ {binds:List (Str × Value)}{m:Str->Option Value},(∀ v,(x,v) ∉ binds)->bindL kindOf binds m x=m x
 | [],_,_=>rfl
 | (n,v)::r,m,h=>by
  unfold bindL;rw [Es fun w hw=>h w (qmA _ hw)];split
  ·have:x≠n:=by rintro rfl;exact h v qkA
   simp [this]
  ·rfl
theorem F2 {kindOf:Str->Option NameKind}{x:Str}:∀ {binds:List (Str × Value)}{m:Str->Option Value},(∀ v,(x,v) ∉ binds)->bindC kindOf binds m x=m x
 | [],_,_=>rfl
 | (n,v)::r,m,h=>by
  unfold bindC;rw [F2 fun w hw=>h w (qmA _ hw)];split
  ·rfl
  ·have:x≠n:=by rintro rfl;exact h v qkA
   simp [this]
theorem Et {kindOf:Str->Option NameKind}{x:Str}{v:Value}:∀ {P:List Str}{vs:List Value}{i:Nat}{m:Str->Option Value},P.Nodup->P[i]? = some x->vs[i]? = some v->kindOf x=some .local ->
  bindL kindOf (P.zip vs) m x=some v
 | [],_,_,_,_,h,_,_=>by simp at h
 | _::_,[],_,_,_,_,h,_=>by simp at h
 | p::P,w::vs,0,m,nd,h1,h2,hk=>by
  simp at h1 h2;subst h1;subst h2;show bindL kindOf ((p,w)::P.zip vs) m p=_;unfold bindL;rw [Es fun v hv=>(List.nodup_cons.mp nd).1 (List.of_mem_zip hv).1,if_pos hk];simp
 | p::P,w::vs,i+1,m,nd,h1,h2,hk=>by
  show bindL kindOf ((p,w)::P.zip vs) m x=_;unfold bindL;exact Et (i:=i) (List.nodup_cons.mp nd).2 (by simpa using h1) (by simpa using h2) hk
theorem Ex {kindOf:Str->Option NameKind}{x:Str}{v:Value}:∀ {P:List Str}{vs:List Value}{i:Nat}{m:Str->Option Value},P.Nodup->P[i]? = some x->vs[i]? = some v->kindOf x≠some .local ->
  bindC kindOf (P.zip vs) m x=some v
 | [],_,_,_,_,h,_,_=>by simp at h
 | _::_,[],_,_,_,_,h,_=>by simp at h
 | p::P,w::vs,0,m,nd,h1,h2,hk=>by
  simp at h1 h2;subst h1;subst h2;show bindC kindOf ((p,w)::P.zip vs) m p=_;unfold bindC;rw [F2 fun v hv=>(List.nodup_cons.mp nd).1 (List.of_mem_zip hv).1,if_neg hk];simp
 | p::P,w::vs,i+1,m,nd,h1,h2,hk=>by
  show bindC kindOf ((p,w)::P.zip vs) m x=_;unfold bindC;exact Ex (i:=i) (List.nodup_cons.mp nd).2 (by simpa using h1) (by simpa using h2) hk
def start (N:List Str)(vs:List V):St:=vs.map some++List.replicate (N.length - vs.length) none
def DS (CX:CXT)(P:Program)(w:World)(K:FZ9)(mg:Str->Option Value)(base:Heap)(N:List Str)(qual:Str)(scope:Scope)(f:Addr)(cd:Value)(A:Around)(outer:List Env)(s:Shared)(H:Hp)(E:XK):Cx where
 prog:=P
 w:=w
 K:=K
 mg:=mg
 base:=base
 A:=A.deeper (envOfC qual scope s.heap.objs.size f cd)
 N:=N
 s₀:=s
 H₀:=H
 env:=envOfC qual scope s.heap.objs.size f cd
 outer:=outer
 stack:=envOfC qual scope s.heap.objs.size f cd::outer
 ex:=[]
 calm:=true
 fn:=fun _=>true
 pn:=[]
 xe:=fun e s'=>wpAny (model P w) (A.deeper (envOfC qual scope s.heap.objs.size f cd)) (leaving (envOfC qual scope s.heap.objs.size f cd) e) (fun _ s''=>CX outer H s E e s'') (fun e' s''=>CX outer H s E e' s'') s'
theorem Fx {sc:Scope}{n:Nat}{x:Str}(h:sc.names.lookup x=some .cell):∃ c,(cellsFrom n sc.names []).lookup x=some c:=by
 have q:=PySem.W.cellsFrom_some sc.names n [] (.inl h);exact Option.isSome_iff_exists.mp q
theorem F1 {CX:CXT}{P:Program}{w:World}{K:FZ9}{mg:Str->Option Value}{base:Heap}{N ps:List Str}{qual:Str}{scope:Scope}{f:Addr}{cd:Value}{A:Around}{outer:List Env}{s s1:Shared}{H:Hp}{E:XK}{us:List Value}{vs:List V}
  (S:FnScope N ps scope) (hd:A.handled=none) (e0:Env0 P w K mg base A outer s H) (hl:vs.length=ps.length) (r:Vals vs us)
  (x:InCallC s s.heap.objs.size (bindL (envOfC qual scope s.heap.objs.size f cd).kindOf (ps.zip us) fun _=>none) (cellsFrom (s.heap.objs.size+1) scope.names []) (bindC (envOfC qual scope s.heap.objs.size f cd).kindOf (ps.zip us) fun _=>none) s1) :
  Inv (DS CX P w K mg base N qual scope f cd A outer s H E) [] (start N vs) H s1:=by
 have hpl:ps.length<=N.length:=by have:=congrArg List.length S.pre;rw [List.length_take] at this;omega
 obtain ⟨h1,tk,rfl,hk⟩:=x.done;have noA:∀ b:Addr,b ∉ (DS CX P w K mg base N qual scope f cd A outer s H E).ex:=fun b z=>absurd (show b∈([]:List Addr) from z) (by simp)
 refine ⟨⟨e0.mod,S.kind,rfl,rfl,qrA _,fun y z c h1 h2=>?_,fun y hy=>?_,fun y c _ h=>?_,fun _=>hd,Around.frames_deeper e0.frames,.inr ⟨rfl,rfl⟩,fun b z=>absurd z (noA b),e0.bs,e0.bsz,fun b _ _=>noA b,fun b z=>absurd z (noA b),e0.funs,e0.frf⟩,
  rfl,e0.bare,Un.kept hk,⟨_,x.toInCall.ns,fun i y v h1 h2 h3=>?_⟩,fun y c h=>⟨_,x.cell y c h⟩,e0.hok.fresh (qrA _),fun y c h=>?_,fun p hp=>absurd (show p∈([]:List (Addr × Obj)) from hp) (by simp),e0.hok.kept hk,?_⟩
 ·exact name_of_addr x.apart (PySem.mem_of_lookup h1) (PySem.mem_of_lookup h2)
 ·have hy:scope.names.lookup y=some .cell\/scope.names.lookup y=some .free:=hy;rcases hy with hy|hy
  ·exact Fx hy
  ·exact absurd rfl (S.nofree _ (PySem.mem_of_lookup hy))
 ·exact Nat.le_of_lt (x.above y c (PySem.mem_of_lookup h))
 ·have hi:i<vs.length:=by
   unfold start at h2;by_cases hi:i<vs.length
   ·exact hi
   ·rw [List.getElem?_append_right (by simpa using hi)] at h2;rw [List.getElem?_replicate] at h2;split at h2<;>cases h2
  have ha:vs[i]? = some v:=by
   unfold start at h2;rw [List.getElem?_append_left (by simpa using hi),List.getElem?_map] at h2
   cases e:vs[i]? with
   | none=>rw [e] at h2;cases h2
   | some a=>rw [e] at h2;cases h2;rfl
  obtain ⟨u,hu,rv⟩:=r.get ha
  have hp:ps[i]? = some y:=by
   rw [<- S.pre,List.getElem?_take_of_lt (by omega)];exact h1
  have ndP:ps.Nodup:=by rw [<- S.pre];exact S.nd.sublist (List.take_sublist _ _)
  refine ⟨u,rv,?_⟩;rcases S.par y (qnA hp) with k|k
  ·exact .inl ⟨k,Et ndP hp hu k⟩
  ·obtain ⟨c,e⟩:=Fx (n:=s.heap.objs.size+1) k;refine .inr ⟨.inl k,c,e,?_⟩;have q:=x.cell y c e;rw [Ex ndP hp hu (by show scope.names.lookup y≠_;rw [k];decide)] at q;exact q
 ·exact e0.hok.fresh (Nat.le_of_lt (x.above y c (PySem.mem_of_lookup h)))
 ·unfold start;show _=N.length;rw [qeA,qdA,List.length_replicate];omega
theorem fn_of {CX:CXT}{P:Program}{w:World}{K:FZ9}{mg:Str->Option Value}{base:Heap}{k:Nat}{f:Addr}{name qual:Str}{params:Arguments}{body:List Stmt}{scope:Scope}{dV kV doc pm cdv ct oc:Value}{an od:Option Addr}
  {osl:Array (Option Value)}{N ps:List Str}{sp:Sp}(lk:K.lookup f=some ⟨oc,od,.func (qfB name qual params body scope dV kV doc pm an cdv ct),osl⟩) (hcd:PySem.W.codeIn K cdv qual=true) (S:FnScope N ps scope)
  (len:∀ vs H Q E,sp vs H Q E->vs.length=ps.length)
  (hbody:∀ (A:Around) (outer:List Env) (s:Shared) (H:Hp) (vs:List V) (Q:VK) (E:XK),Room k (A.deeper (envOfC qual scope s.heap.objs.size f cdv))->sp vs H Q E ->
   ∃ t,PSs (DS CX P w K mg base N qual scope f cdv A outer s H E) body t/\t { nx:=fun _ H'=>Q .non H',rt:=Q } (start N vs) H) :
  FnOk P w K mg base CX (k+1) f (qfB name qual params body scope dV kV doc pm an cdv ct) ps sp:=by
 refine ⟨len,fun A outer s H args us vs Q E hr e0 hb r hsp=>?_⟩;have hl:=len _ _ _ _ hsp;have KX:K.In s.heap:=e0.mod.kin.keeps fun b o e=>(e0.bs b o e).1;have lim:s.heap.NoLimit:=e0.mod.nolimit.keeps fun b o e=>(e0.bs b o e).1
 have hkind:∀ y∈ps.zip us,scope.names.lookup y.1=some .local \/ (scope.names.lookup y.1=some .cell/\((cellsFrom (s.heap.objs.size+1) scope.names []).lookup y.1).isSome=true):=fun ⟨n,v⟩ hy=>by
  rcases S.par n (List.of_mem_zip hy).1 with q|q
  ·exact .inl q
  ·exact .inr ⟨q,PySem.W.cellsFrom_some _ _ _ (.inl q)⟩
 refine codeAny_call_function hr.depth (KX _ _ lk) rfl S.co S.gen rfl (PySem.W.codeRec_of KX hcd) (hb _ _ _ _ ?_);refine wpAny_newFunctionEnv_cells S.kind hkind fun env he s1 x=>?_;subst he;refine ⟨lim.keeps x.toInCall.keep,codeAny_func ?_⟩;obtain ⟨t,ht,hq⟩:=hbody A outer s H vs Q E (hr.deeper _) hsp;have I:Inv (DS CX P w K mg base N qual scope f cdv A outer s H E) [] (start N vs) H s1:=F1 S hr.hd e0 hl r x;refine wpAny_mono (ht [] s1 (start N vs) H _ I hq) (fun fl s' hs=>?_) fun e s' hs=>hs
 have fin:∀ {σ':St}{H':Hp}{v:V}{u:Value},Inv (DS CX P w K mg base N qual scope f cdv A outer s H E) [] σ' H' s'->RelV v u->Q v H'->CE outer P w H s Q u s' :=
  fun {σ' H' v u} J rv q=>⟨v,H',J.os,J.bare,J.base,J.hok,rv,q⟩
 cases fl with
 | ret u =>
  obtain ⟨v,σ',H',J,rv,q⟩:=hs;exact fin J rv q
 | next =>
  obtain ⟨σ',H',J,q⟩:=hs;exact fin (v:=V.non) (u:=Value.none) J rfl q
 | brk =>
  obtain ⟨_,_,_,q⟩:=hs;exact False.elim q
 | cont =>
  obtain ⟨_,_,_,q⟩:=hs;exact False.elim q
section
variable {X:Cx}{x:Str}{p pos:Pos}{e:Expr}{es:List Expr}{t:TA}{id T:String}{r:List V->Hp->VK->Prop}
abbrev tCB (r:List V->Hp->VK->Prop)(t:TA):TE:=fun σ H Q=>t σ H fun vs H1=>r vs H1 Q
theorem C4 (hc:Dv X (.builtin id) r)(hg:Gl X x)(hm:X.mg x=none)(hv:bootBuiltins x=some (.builtin id))(ha:PA X (e::es) t)(hn:x ≠ "__name__" := by decide)(hdb:(x == ("__debug__" : Str))=false:=by decide)
  (he:starEach (e::es) X.env=(false,eval e X.env)::starEach es X.env:=by rfl) (hpl:(backTo pos (starEach es X.env)).any (·.1)=false:=by rfl):PE X (.Call (.Name x p) (e::es) [] pos) (tCB r t):=by
 intro pins s σ H Q I h;refine wpAny_Call_Name_kw (FU I hg hm hv ?_ hn hdb);exact PyProof.Rows.callWith_builtin1 (thn (ha pos pins s σ H _ I h) fun us s1 ⟨vs,H1,I1,r1,q1⟩=>hc pins s1 σ H1 vs us Q I1 r1 q1) he hpl
end
end L2
namespace HT
open PySem PyProof.Rows
section
open PySem.SeqAt
open PySem.AutoSeq1 (wpAny_loadPart')
open PySem.MeetsSeq PySem.MeetsSeq2 PySem.MeetsSeq3
end
section
variable {prog:Program}{w:World}{A:Around}{E:Value->Shared->Prop}{s:Shared}
def sIx (n d:Nat):Option Int->Nat
 | none=>d
 | some v=>if v<0 then (v+(n:Int)).toNat else min v.toNat n
theorem sIx_le (n d:Nat)(hd:d<=n)(o:Option Int):sIx n d o<=n:=by
 cases o with
 | none=>exact hd
 | some v =>
  show (if v<0 then (v+(n:Int)).toNat else min v.toNat n)<=n;by_cases hv:v<0
  ·rw [if_pos hv];omega
  ·rw [if_neg hv];exact Nat.min_le_right _ _
theorem Hf (v:Int)(n d:Nat):(if v<0 then max (v+(n:Int)) 0 else min v (n:Int))=((sIx n d (some v):Nat):Int):=by
 show (if v<0 then max (v+(n:Int)) 0 else min v (n:Int))=(((if v<0 then (v+(n:Int)).toNat else min v.toNat n):Nat):Int);by_cases hv:v<0
 ·simp only [if_pos hv];omega
 ·simp only [if_neg hv];omega
theorem Gp (lo hi:Option Int)(n:Nat):Builtin.Slice.sliceAdjust lo hi 1 (n:Int)=(((sIx n 0 lo:Nat):Int),((sIx n n hi:Nat):Int)):=by
 have h1:¬ ((1:Int)<0):=by omega
 unfold Builtin.Slice.sliceAdjust;simp only [h1,if_false];refine Prod.ext ?_ ?_
 ·cases lo with
  | none=>rfl
  | some v=>exact Hf v n 0
 ·cases hi with
  | none=>rfl
  | some v=>exact Hf v n n
theorem GT (i j:Nat):Builtin.Slice.slicePlaces (i:Int) (j:Int) 1=j - i:=by
 unfold Builtin.Slice.slicePlaces;have h1:(1:Int) > 0:=by omega
 simp only [h1,if_true,Int.ediv_one];split<;>omega
theorem Ed {v:Value}{o:Option Int}{Q:Option Int->Shared->Prop}(p:IsPart v o)(h:Q o s):wpAny (model prog w) A (Builtin.Slice.slicePartIndex v) Q E s:=by
 cases p with
 | none=>exact slicePart_none h
 | int i t=>exact slicePart_int h
theorem Dk {sl:Addr}{vl vu:Value}{lo hi:Option Int}{n:Nat}{Q:Int × Int × Nat->Shared->Prop}(hs:s.heap.IsSliceOf sl vl vu .none)(pl:IsPart vl lo)(pu:IsPart vu hi)
  (h:Q (((sIx n 0 lo:Nat):Int),1,sIx n n hi - sIx n 0 lo) s):wpAny (model prog w) A (Builtin.Slice.sliceApplied (.ref sl) (pure (n:Int))) Q E s:=by
 obtain ⟨os,hos,hcs,hds⟩:=id hs;unfold Builtin.Slice.sliceApplied Builtin.Slice.sliceFields;refine qbA (qbA (wpAny_field hos hds (x:=vl) rfl (qbA (wpAny_field hos hds (x:=vu) rfl (qbA (wpAny_field hos hds (x:=.none) rfl (qcA ?_)))))));refine qbA (slicePart_none ?_);show wpAny _ _ (if ((1:Int) == 0)=true then _ else _) _ _ s;rw [if_neg (by decide)];refine qbA (Ed pl (qbA (Ed pu (qbA (qcA ?_)))));show wpAny _ _ (match Builtin.Slice.sliceAdjust lo hi 1 (n:Int) with | (lo,hi)=>pure (lo,(1:Int),Builtin.Slice.slicePlaces lo hi 1)) _ _ s;rw [Gp lo hi n];show wpAny _ _ (pure (((sIx n 0 lo:Nat):Int),(1:Int),Builtin.Slice.slicePlaces ((sIx n 0 lo:Nat):Int) ((sIx n n hi:Nat):Int) 1)) _ _ s;rw [GT];exact qcA h
theorem pick_gen (xs:Array Value)(i k:Nat):((List.range k).filterMap fun (m:Nat)=>xs[((i:Int)+(m:Int) * 1).toNat]?).toArray=((xs.toList.drop i).take k).toArray:=by
 have e:(fun (m:Nat)=>xs[((i:Int)+(m:Int) * 1).toNat]?)=fun m=>xs[i+m]?:=by
  funext m
  have:((i:Int)+(m:Int) * 1).toNat=i+m:=by omega
  rw [this]
 rw [e];have:=pick_run xs i k;rw [List.filterMap_map] at this;have e2:((fun x=>xs[x]?)∘fun x=>i+x)=fun m=>xs[i+m]?:=rfl;rw [e2] at this;rw [this]
theorem getItem_tuple_cut {t sl:Addr}{items:Array Value}{vl vu:Value}{lo hi:Option Int}{Q:Value->Shared->Prop}(ht:IsTup s.heap t items)(hs:s.heap.IsSliceOf sl vl vu .none)(pl:IsPart vl lo)(pu:IsPart vu hi)
  (hw:¬ (sIx items.size 0 lo=0/\sIx items.size items.size hi=items.size))
  (h:Q (.ref s.heap.objs.size) { s with heap:=s.heap.push { cls:=.type "tuple",data:=.seq ((items.toList.drop (sIx items.size 0 lo)).take (sIx items.size items.size hi - sIx items.size 0 lo)).toArray } })
  (hsz:items.size<=sizeLine):wpAny (model prog w) A (getItem (.ref t) (.ref sl)) Q E s:=by
 have htake:sizeOk (.seq ((items.toList.drop (sIx items.size 0 lo)).take (sIx items.size items.size hi - sIx items.size 0 lo)).toArray):=by
  show ((items.toList.drop (sIx items.size 0 lo)).take (sIx items.size items.size hi - sIx items.size 0 lo)).toArray.size<=sizeLine;rw [qdB,List.length_take,List.length_drop,qgB];omega
 have hj:sIx items.size items.size hi<=items.size:=sIx_le _ _ (qrA _) hi;obtain ⟨os,hos,hcs,hds⟩:=id hs;have hTs:s.TypeIs (.ref sl) "slice" := ⟨os,hos,hcs⟩;unfold getItem
 try with_reducible refine wpAny_holding ?_
 first|refine qbA (qcA ?_)|skip
 refine qbA (wpAny_sequenceKey ht.typeIs (by decide) ?_)
 refine qbA (wpAny_callSpecial?_slot (name:=Str.ofString "__getitem__") ht.typeIs PyProof.Rows.slot_tuple_getitem
  (wpAny_call_entry PyProof.Rows.slot_tuple_getitem ht.typeIs entry_tuple_getitem ?_ (args_tuple_getitem _ _)))
 show wpAny _ _ (Builtin.Tuple.tupleItemsOf (.ref t) >>= _) _ _ s;refine qbA (tupleItemsOf_ ht ?_);refine qbA (wpAny_typeOf hTs ?_);rw [if_pos (by decide)];refine qbA (Dk hs pl pu ?_)
 have hno:¬ ((((sIx items.size 0 lo:Nat):Int) == 0 && (1:Int) == 1 && (sIx items.size items.size hi - sIx items.size 0 lo) == items.size)=true):=by
  intro q;rw [Bool.and_eq_true,Bool.and_eq_true] at q;have q1:((sIx items.size 0 lo:Nat):Int)=0:=eq_of_beq q.1.1;have q2:sIx items.size items.size hi - sIx items.size 0 lo=items.size:=eq_of_beq q.2;exact hw ⟨by omega,by omega⟩
 show wpAny _ _ (if (((sIx items.size 0 lo:Nat):Int) == 0 && (1:Int) == 1 && (sIx items.size items.size hi - sIx items.size 0 lo) == items.size)=true then _ else _) _ _ s;rw [if_neg hno,pick_gen]
 first
  | exact qbA (m:=Builtin.Tuple.tupleExact _) (wpAny_newObj_type (qcA ⟨_,rfl,qcA h⟩) htake)
  | exact qbA (m:=Builtin.Tuple.tupleExact _) (wpAny_newObj_type (qbA (qcA (qcA ⟨_,rfl,qcA h⟩))) htake)
  | exact qbA (qbA (m:=Builtin.Tuple.tupleExact _) (wpAny_newObj_type (qcA (qcA ⟨_,rfl,qcA h⟩)) htake))
  | exact qbA (qbA (m:=Builtin.Tuple.tupleExact _) (wpAny_newObj_type (qcA ⟨_,rfl,qcA h⟩) htake))
end
end HT
namespace L2
open PySem PySem.Spec PyProof.Rows
abbrev TO:=St->Hp->(Option Int->Hp->Prop)->Prop
def PO (X:Cx)(e:Option Expr)(t:TO):Prop :=
 ∀ (pins:List (Addr × Obj)) (s:Shared) (σ:St) (H:Hp) (Q:Option Int->Hp->Prop),Inv X pins σ H s->t σ H Q ->
  wpAny (model X.prog X.w) X.A (evalPart e X.env) (fun u s'=>∃ o H',Inv X pins σ H' s'/\IsPart u o/\Q o H') X.xe s
abbrev HG:TO:=fun _ H Q=>Q none H
abbrev tPart (t:TE):TO:=fun σ H Q=>t σ H fun x H1=>∃ i,x = .int i/\Q (some i) H1
section
variable {X:Cx}{e:Expr}{te:TE}{lo hi:Option Expr}{tl th:TO}{pos p2:Pos}
theorem po_none:PO X none HG:=by
 intro pins s σ H Q I h;rw [evalPart_none];exact qcA ⟨none,H,I,.none,h⟩
theorem po_some (h:PE X e te):PO X (some e) (tPart te):=by
 intro pins s σ H Q I hw;rw [evalPart_some];refine thn (h pins s σ H _ I hw) fun u s1 ⟨x,H1,I1,r1,q1⟩=>?_;obtain ⟨i,rfl,q⟩:=q1;obtain ⟨t,rfl⟩:=r1;exact ⟨some i,H1,I1,.int i t,q⟩
def SlR (X:Cx)(r:V->Option Int->Option Int->Hp->VK->Prop):Prop :=
 ∀ (pins:List (Addr × Obj)) (s:Shared) (σ:St) (H:Hp) (x:V) (v vl vu:Value) (lo hi:Option Int) (sl:Addr) (Q:VK),Inv X pins σ H s->RelV x v->s.heap.IsSliceOf sl vl vu .none->IsPart vl lo->IsPart vu hi->r x lo hi H Q ->
  ∃ T id,typeLookup (.type T) "__getitem__" = pure (some (.builtin id))/\s.TypeIs v T/\wpAny (model X.prog X.w) X.A (getItem v (.ref sl)) (EP X pins σ Q) X.xe s
abbrev tSl (r:V->Option Int->Option Int->Hp->VK->Prop)(te:TE)(tl th:TO):TE:=fun σ H Q=>te σ H fun x H1=>tl σ H1 fun l H2=>th σ H2 fun u H3=>r x l u H3 Q
theorem pe_slice {r:V->Option Int->Option Int->Hp->VK->Prop}(hr:SlR X r)(he:PE X e te)(hl:PO X lo tl)(hu:PO X hi th):PE X (.Subscript e (.Slice lo hi none p2) pos) (tSl r te tl th):=by
 intro pins s σ H Q I h;refine Subscript_ (thn (he pins s σ H _ I h) fun v s1 ⟨x,H1,I1,r1,q1⟩=>?_);refine wpAny_Slice (thn (hl pins s1 σ H1 _ I1 q1) fun vl s2 ⟨l,H2,I2,pl,q2⟩=>thn (hu pins s2 σ H2 _ I2 q2) fun vu s3 ⟨u,H3,I3,pu,q3⟩=>?_);rw [evalPart_none];refine qcA ?_;have I4:Inv X pins σ H3 { s3 with heap:=s3.heap.push { cls:=.type "slice",data:=.fields #[vl,vu,.none] } }:=I3.kept (t':=s3.toks) fun b ob q=>qvA _ q;obtain ⟨T,id,hT,ht,hg⟩:=hr pins { s3 with heap:=s3.heap.push { cls:=.type "slice",data:=.fields #[vl,vu,.none] } } σ H3 x v vl vu l u s3.heap.objs.size Q I4 r1 (Heap.IsSliceOf.new ..) pl pu q3;show wpAny (model X.prog X.w) X.A (subscriptTail e (.Slice lo hi none p2) v (.ref s3.heap.objs.size)) (EP X pins σ Q) X.xe { s3 with heap:=s3.heap.push { cls:=.type "slice",data:=.fields #[vl,vu,.none] } };exact tail_any (ops:=[.ref s3.heap.objs.size,v]) ht hT hg (by with_unfolding_all rfl)
def Gu (xs:List V)(lo hi:Option Int):List V:=(xs.drop (HT.sIx xs.length 0 lo)).take (HT.sIx xs.length xs.length hi - HT.sIx xs.length 0 lo)
theorem Dt (xs:List V)(lo hi:Option Int):(Gu xs lo hi).length<=xs.length:=by
 unfold Gu;rw [List.length_take,List.length_drop];omega
def rSlT (K:FZ9):V->Option Int->Option Int->Hp->VK->Prop:=fun x lo hi H Q=>∃ a xs,x = .ref a/\SqT K H a xs /\
 ¬ (HT.sIx xs.length 0 lo=0/\HT.sIx xs.length xs.length hi=xs.length)/\∀ p,H p=none->Q (.ref p) (upd H p (.tup (Gu xs lo hi)))
theorem sl_tup:SlR X (rSlT X.K):=by
 intro pins s σ H x v vl vu lo hi sl Q I rx hs pl pu h;obtain ⟨a,xs,rfl,hx,hw,q⟩:=h;cases rx;obtain ⟨its,r,ht,hz⟩:=I.tuple hx;have hlen:its.toArray.size=xs.length:=by rw [qdB];exact r.length.symm
 refine ⟨"tuple",_,PyProof.Rows.slot_tuple_getitem.lookup,ht.typeIs,?_⟩;refine HT.getItem_tuple_cut ht hs pl pu (by rw [hlen];exact hw) ?_ (by rw [hlen];exact hz);rw [hlen];refine ⟨.ref s.heap.objs.size,_,I.laid (t':=s.toks) (o:=.tup (Gu xs lo hi)) (fun b ob q=>qvA _ q) (qrA _) ?_,rfl,q _ (I.hok.fresh (qrA _))⟩;exact ⟨qsA (Dt xs lo hi) hz,_,(r.drop (HT.sIx xs.length 0 lo)).take (HT.sIx xs.length xs.length hi - HT.sIx xs.length 0 lo),IsTup.new _ _⟩
end
def ixN (n:Nat)(i:Int):Option Nat:=if 0<=i then (if i<n then some i.toNat else none) else if -(n:Int)<=i then some (i+n).toNat else none
def atI {α:Type}(xs:List α)(i:Int):Option α:=(ixN xs.length i).bind fun j=>xs[j]?
theorem ixN_seq {n:Nat}{i:Int}{j:Nat}(h:ixN n i=some j):seqIndex? i n=some j/\j<n/\-(n:Int)<=i/\i<n:=by
 unfold ixN at h;by_cases h0:0<=i
 ·rw [if_pos h0] at h;by_cases h1:i<n
  ·rw [if_pos h1] at h;have e:i.toNat=j:=qtA h;exact ⟨by rw [seqIndex_of h0 h1,e],by omega,by omega,h1⟩
  ·rw [if_neg h1] at h;cases h
 ·rw [if_neg h0] at h;by_cases h1:-(n:Int)<=i
  ·rw [if_pos h1] at h;have e:(i+n).toNat=j:=qtA h;exact ⟨by rw [seqIndex_neg (by omega) h1,e],by omega,h1,by omega⟩
  ·rw [if_neg h1] at h;cases h
theorem FY {α:Type}{xs:List α}{i:Int}{v:α}(h:atI xs i=some v):∃ j,seqIndex? i xs.length=some j/\xs[j]? = some v/\j<xs.length/\-(xs.length:Int)<=i/\i<xs.length:=by
 unfold atI at h
 cases e:ixN xs.length i with
 | none=>rw [e] at h;cases h
 | some j =>
  rw [e] at h;obtain ⟨h1,h2,h3,h4⟩:=ixN_seq e;exact ⟨j,h1,h,h2,h3,h4⟩
theorem CO {α:Type}{xs:List α}{j:Nat}{v:α}(h:xs[j]? = some v):atI xs (j:Int)=some v:=by
 have hj:j<xs.length:=(qoA.mp h).1
 have e:ixN xs.length (j:Int)=some j:=by
  unfold ixN;rw [if_pos (by omega),if_pos (by omega)];simp
 unfold atI;rw [e];exact h
theorem atI_last {α:Type}(xs:List α)(v:α):atI (xs++[v]) (-1)=some v:=by
 have hl:(xs++[v]).length=xs.length+1:=by simp
 have e:ixN (xs++[v]).length (-1)=some xs.length:=by
  unfold ixN;rw [hl,if_neg (by decide),if_pos (by omega)]
  congr 1
  omega
 unfold atI;rw [e];show (xs++[v])[xs.length]? = some v;simp
def HI (b:Expr):Prop:=∀ o i,subscripted b false o i=operate [o,i] (getItem o i)
def IxR (X:Cx)(r:R2):Prop :=
 ∀ (value slice:Expr) (pins:List (Addr × Obj)) (s:Shared) (σ:St) (H:Hp) (x y:V) (v u:Value) (Q:VK),Inv X pins σ H s->RelV x v->RelV y u->r x y H Q ->
  subscripted slice false v u=operate [v,u] (getItem v u)->wpAny (model X.prog X.w) X.A (subscriptTail value slice v u) (EP X pins σ Q) X.xe s
def MtR (X:Cx)(id:String)(r:V->List V->Hp->VK->Prop):Prop :=
 ∀ (pins:List (Addr × Obj)) (s:Shared) (σ:St) (H:Hp) (x:V) (xs:List V) (v:Value) (us:List Value) (Q:VK),Inv X pins σ H s->RelV x v->Vals xs us->r x xs H Q ->
  wpAny (model X.prog X.w) X.A (call (.builtin id) (v::us)) (EP X pins σ Q) X.xe s
section
variable {X:Cx}{a b:Expr}{ta tb:TE}{pos:Pos}
theorem pe_ix {r:R2}(hr:IxR X r)(ha:PE X a ta)(hb:PE X b tb)(hs:HI b):PE X (.Subscript a b pos) (tOp r ta tb):=by
 intro pins s σ H Q I h;exact Subscript_ (binT ha hb I h fun v u s2 x y H2 I2 rx ry q=>hr a b pins s2 σ H2 x y v u Q I2 rx ry q (hs _ _))
def rIxL (K:FZ9):R2:=fun x y H Q=>∃ p xs i v,x = .ref p/\y = .int i/\SqL K H p xs/\atI xs i=some v/\Q v H
def rIxT (K:FZ9):R2:=fun x y H Q=>∃ p xs i v,x = .ref p/\y = .int i/\SqT K H p xs/\atI xs i=some v/\Q v H
def rIxS:R2:=fun x y H Q=>∃ z i c,x = .str z/\y = .int i/\z.length<=sizeLine/\atI z.cps.toList i=some c/\Q (.str ⟨#[c]⟩) H
theorem ix_list:IxR X (rIxL X.K):=by
 intro value slice pins s σ H x y v u Q I rx ry h hs;obtain ⟨p,xs,i,z,rfl,rfl,hq,he,q⟩:=h;cases rx;obtain ⟨t,rfl⟩:=ry;obtain ⟨its,r,pl,hz⟩:=I.list hq;obtain ⟨j,h1,h2,h3,h4,h5⟩:=FY he;obtain ⟨w,ew,rw'⟩:=r.get h2;have hl:=r.length;have hn:=Dp;have fin:EP X pins σ Q w s:=⟨z,H,I,rw',q⟩;by_cases h0:0<=i
 ·have hj:i.toNat=j:=by
   rw [seqIndex_of h0 h5] at h1;exact qtA h1
  exact item_listR pl.isList h0 (by omega) (by rw [hj];simpa using ew) fin hs
 ·have hj:(i+(its.toArray.size:Int)).toNat=j:=by
   rw [seqIndex_neg (by omega) h4] at h1;rw [qdB,<- hl];exact qtA h1
  exact subscriptTail_builtinR (x:=w) pl.isList.typeIs slot_list_getitem.lookup
   (wpAny_getItem_list_neg (Q:=fun r s'=>r=w/\EP X pins σ Q r s') pl.isList (by omega) (by rw [qdB]<;>omega) (by omega) (by rw [hj];simpa using ew) ⟨rfl,fin⟩) hs
theorem ix_tup:IxR X (rIxT X.K):=by
 intro value slice pins s σ H x y v u Q I rx ry h hs;obtain ⟨p,xs,i,z,rfl,rfl,hq,he,q⟩:=h;cases rx;obtain ⟨t,rfl⟩:=ry;obtain ⟨its,r,pl,hz⟩:=I.tuple hq;obtain ⟨j,h1,h2,h3,h4,h5⟩:=FY he;obtain ⟨w,ew,rw'⟩:=r.get h2;have hl:=r.length;have hn:=Dp;have fin:EP X pins σ Q w s:=⟨z,H,I,rw',q⟩
 exact subscriptTail_builtinR (x:=w) pl.typeIs slot_tuple_getitem.lookup
  (getItem_tuple (j:=j) (Q:=fun r s'=>r=w/\EP X pins σ Q r s') pl (by omega) (by omega) (by rw [qdB,<- hl];exact h1) (by simpa using ew) ⟨rfl,fin⟩) hs
theorem ix_str:IxR X rIxS:=by
 intro value slice pins s σ H x y v u Q I rx ry h hs;obtain ⟨z,i,c,rfl,rfl,hz,he,q⟩:=h;obtain ⟨t,rfl⟩:=rx;obtain ⟨t',rfl⟩:=ry;obtain ⟨j,h1,h2,h3,h4,h5⟩:=FY he;have hl:z.cps.toList.length=z.length:=by simp [Str.length]
 rw [hl] at h1 h4 h5;have hn:=Dp
 exact tail_any (typeIs_str s z t) slot_str_getitem.lookup (getItem_str (c:=c) (by
  have e1:decide (i < -(2 ^ 63:Int))=false:=decide_eq_false (by omega);have e2:decide (i>=2 ^ 63)=false:=decide_eq_false (by omega)
  rw [e1,e2,Bool.or_false]) (by rw [h1];simpa using h2) ⟨.str ⟨#[c]⟩,H,I.tok _,⟨_,rfl⟩,q⟩) hs
def flatV:V->Bool
 | .non=>true
 | .bl _=>true
 | .int _=>true
 | .str _=>true
 | _=>false
def eqV:V->V->Bool
 | .non,.non=>true
 | .bl a,.bl b=>a == b
 | .bl a,.int b=>(if a then 1 else 0) == b
 | .int a,.bl b=>a == (if b then 1 else 0)
 | .int a,.int b=>a == b
 | .str a,.str b=>a == b
 | _,_=>false
theorem FC:Dv X (.builtin "len") (fun xs H Q=>∃ p ys,xs=[.ref p]/\(SqL X.K H p ys\/SqT X.K H p ys)/\Q (.int ys.length) H):=by
 intro pins s σ H xs us Q I r h;obtain ⟨p,ys,rfl,hq,q⟩:=h;obtain ⟨u,rfl,rx⟩:=Ha r;cases rx;have hn:=Dp;rcases hq with hq|hq
 ·obtain ⟨its,r',pl,hz⟩:=I.list hq;have hlen:=r'.length;exact Calls.call_len_list pl.isList (by simp only [qdB]<;>omega) ⟨.int ys.length,H,I.tok _,⟨s.toks+1,by rw [qdB,hlen]⟩,q⟩
 ·obtain ⟨its,r',pl,hz⟩:=I.tuple hq;have hlen:=r'.length;exact len_tuple pl (by simp only [qdB]<;>omega) ⟨.int ys.length,H,I.tok _,⟨s.toks+1,by rw [qdB,hlen]⟩,q⟩
theorem Fc:Dv X (.builtin "len") (fun xs H Q=>∃ z,xs=[.str z]/\z.length<=sizeLine/\Q (.int z.length) H):=by
 intro pins s σ H xs us Q I r h;obtain ⟨z,rfl,hz,q⟩:=h;obtain ⟨u,rfl,t,rfl⟩:=Ha r;have hn:=Dp;exact len_str (by omega) ⟨.int z.length,H,I.tok _,⟨_,rfl⟩,q⟩
def tyV (K:FZ9)(T:String)(x:V)(H:Hp):Prop:=match x with
 | .str _=>T = "str"
 | .int _=>T = "int"
 | .ref p=>(T = "list" /\ ∃ xs,SqL K H p xs)\/(T = "tuple" /\ ∃ o,K.lookup p=some o/\o.cls = .type "tuple" /\ o.dict=none) \/
   (T = "dict" /\ ((∃ kvs,H p=some (.dK kvs))\/∃ kvs,H p=some (.dT kvs)))\/(T = "set" /\ ∃ S n,H p=some (.set S n))
 | _=>False
theorem Gq {pins:List (Addr × Obj)}{σ:St}{H:Hp}{s:Shared}{T:String}{x:V}{v:Value}(I:Inv X pins σ H s)(r:RelV x v)(ty:tyV X.K T x H) :
  s.TypeIs v T/\∀ a,v = .ref a->∃ ob,s.heap.get? a=some ob/\ob.dict=none:=by
 cases x with
 | str z =>
  obtain ⟨t,rfl⟩:=r;cases (show T = "str" from ty);exact ⟨typeIs_str s z t,fun _ e=>nomatch e⟩
 | int i =>
  obtain ⟨t,rfl⟩:=r;cases (show T = "int" from ty);exact ⟨typeIs_int s i t,fun _ e=>nomatch e⟩
 | ref p =>
  cases r;rcases ty with ⟨rfl,xs,hq⟩ | ⟨rfl,o,hk,hc,hd⟩ | ⟨rfl,hk⟩ | ⟨rfl,S,n,hk⟩
  ·obtain ⟨its,_,pl,_⟩:=I.list hq;refine ⟨pl.isList.typeIs,fun a e=>?_⟩;cases e;obtain ⟨o,n,e,c,hd,_⟩:=pl;exact ⟨o,e,hd⟩
  ·refine ⟨⟨o,I.kIn p o hk,hc⟩,fun a e=>?_⟩;cases e;exact ⟨o,I.kIn _ o hk,hd⟩
  ·have z:∃ o,s.heap.get? p=some o/\o.ExactDict:=by
    rcases hk with ⟨kvs,hk⟩ | ⟨kvs,hk⟩
    ·obtain ⟨_,_,_,_,o,_,_,e,ex,_⟩:=I.hok p _ hk;exact ⟨o,e,ex⟩
    ·obtain ⟨_,_,_,_,o,_,_,e,ex,_⟩:=I.hok p _ hk;exact ⟨o,e,ex⟩
   obtain ⟨o,e,ex⟩:=z;refine ⟨⟨o,e,ex.1⟩,fun a e2=>?_⟩;cases e2;exact ⟨o,e,ex.2.1⟩
  ·obtain ⟨o,_,_,_,e,ex,_⟩:=I.hok p _ hk;refine ⟨⟨o,e,ex.1⟩,fun a e2=>?_⟩;cases e2;exact ⟨o,e,ex.2.1⟩
 | _=>exact False.elim ty
abbrev tBM0 (K:FZ9)(T:String)(r:V->List V->Hp->VK->Prop)(to:TE):TE:=fun σ H Q=>to σ H fun x H1=>tyV K T x H1/\r x [] H1 Q
abbrev tBM (K:FZ9)(T:String)(r:V->List V->Hp->VK->Prop)(to:TE)(t:TA):TE:=fun σ H Q=>to σ H fun x H1=>tyV K T x H1/\t σ H1 fun xs H2=>r x xs H2 Q
variable {o e:Expr}{es:List Expr}{to:TE}{t:TA}{name:Str}{apos cpos:Pos}{T id:String}{r:V->List V->Hp->VK->Prop}
theorem pe_bm0 (pa:PlainAttrs T)(slot:Slot T name id)(hty:typeOf (.builtin id)=pure (.type "method_descriptor"))(hm:MtR X id r)(ho:PE X o to)
  (hbase:attributeBase o name X.env (eval o X.env)=eval o X.env:=by rfl) (hline:(apos.endLine == cpos.line)=true:=by rfl):PE X (.Call (.Attribute o name apos) [] [] cpos) (tBM0 X.K T r to):=by
 intro pins s σ H Q I h;refine wpAny_Call_method0_late hbase hline (thn (ho pins s σ H _ I h) fun v s1 ⟨x,H1,I1,r1,ty,q1⟩=>?_);obtain ⟨h1,h2⟩:=Gq I1 r1 ty;exact ⟨T,id,pa,slot,hty,h1,h2,Calls.callWith_builtin rfl (PySem.evalArgs_none (hm pins s1 σ H1 x [] v [] Q I1 r1 .nil q1))⟩
theorem pe_bm (pa:PlainAttrs T)(slot:Slot T name id)(hty:typeOf (.builtin id)=pure (.type "method_descriptor"))(hm:MtR X id r)(ho:PE X o to)(ha:PA X (e::es) t)
  (hbase:attributeBase o name X.env (eval o X.env)=eval o X.env:=by rfl)
  (hfew:((backTo cpos (starEach (e::es) X.env)).all (fun x=>!x.1) && (backToKw cpos (keywordEach [] X.env)).all (fun x=>x.1.isSome)
   && decide ((e::es).length+([]:List Keyword).length+(if ([]:List Keyword).isEmpty then 0 else 1)<30))=true:=by rfl)
  (hline:(apos.endLine == cpos.line)=true:=by rfl) (hs:starEach (e::es) X.env=(false,eval e X.env)::starEach es X.env:=by rfl) (hplain:(backTo cpos (starEach es X.env)).any (·.1)=false:=by rfl) :
  PE X (.Call (.Attribute o name apos) (e::es) [] cpos) (tBM X.K T r to t):=by
 intro pins s σ H Q I h;refine wpAny_Call_method_late hbase hfew hline rfl (thn (ho pins s σ H _ I h) fun v s1 ⟨x,H1,I1,r1,ty,q1⟩=>?_);obtain ⟨h1,h2⟩:=Gq I1 r1 ty;refine ⟨T,id,pa,slot,hty,h1,h2,?_⟩;have hA:=ha cpos pins s1 σ H1 _ I1 q1;rw [hs] at hA ⊢;refine Calls.callWith_builtin (by show (false || (backTo cpos (starEach es X.env)).any (·.1))=false;rw [hplain]<;>rfl) (Calls.evalArgs_plain ?_);exact thn hA fun us s2 ⟨vs,H2,I2,r2,q2⟩=>hm pins s2 σ H2 x vs v us Q I2 r1 r2 q2
end
def MtM (X:Cx)(id:String)(r:V->List V->Hp->VK->Prop):Prop :=
 ∀ (pins:List (Addr × Obj)) (s:Shared) (σ:St) (H:Hp) (x:V) (xs:List V) (v:Value) (us:List Value) (Q:VK),Inv X pins σ H s->RelV x v->Vals xs us->r x xs H Q ->
  wpAny (model X.prog X.w) X.A (call (.builtin id) (v::us)) (EP X pins σ Q) X.xe s
theorem Vals.one:∀ {x:V}{us:List Value},Vals [x] us->∃ u,us=[u]/\RelV x u
 | _,_,.cons r .nil=>⟨_,rfl,r⟩
theorem Vals.zero:∀ {us:List Value},Vals [] us->us=[]
 | _,.nil=>rfl
theorem Vals.dropLast {xs:List V}{us:List Value}(h:Vals xs us):Vals xs.dropLast us.dropLast:=by
 induction h with
 | nil=>exact .nil
 | cons r t ih =>
  cases t with
  | nil=>exact .nil
  | cons q t'=>exact .cons r ih
theorem Vals.rep {xs:List V}{us:List Value}(h:Vals xs us):∀ k:Nat,Vals (List.replicate k xs).flatten (List.replicate k us).flatten
 | 0=>.nil
 | k+1=>by
  rw [List.replicate_succ,List.replicate_succ,List.flatten_cons,List.flatten_cons];exact Vals.append h (Vals.rep h k)
theorem Gw {α:Type}(l:List α):l.eraseIdx (l.length - 1)=l.dropLast:=by
 induction l with
 | nil=>rfl
 | cons a r ih =>
  cases r with
  | nil=>rfl
  | cons b r =>
   have e:(a::b::r).length - 1=((b::r).length - 1)+1:=by
    have h1:(a::b::r).length=r.length+2:=rfl;have h2:(b::r).length=r.length+1:=rfl;omega
   rw [e,List.eraseIdx_cons_succ,ih]
   all_goals rfl
theorem Ez (its:List Value):∀ (k:Nat) (acc:List Value),
  List.foldl (fun x1 x2=>x1++x2) acc.toArray (List.replicate k its.toArray)=(acc++(List.replicate k its).flatten).toArray
 | 0,acc=>by simp
 | k+1,acc=>by
  have e:acc.toArray++its.toArray=(acc++its).toArray:=by simp
  have e2:(acc++its)++(List.replicate k its).flatten=acc++(List.replicate (k+1) its).flatten:=by
   rw [List.replicate_succ,List.flatten_cons,List.append_assoc]
  rw [<- e2,<- Ez its k (acc++its),<- e,List.replicate_succ,List.foldl_cons]
section
variable {X:Cx}{pins:List (Addr × Obj)}{σ:St}{H:Hp}{s:Shared}{l b:Addr}{xs ys zs:List V}
theorem Inv.lset {its its':List Value}{n:Nat}{f:Array Value->Array Value}{t':Nat}(I:Inv X pins σ H s)(hH:H l=some (.lst xs))
  (e:s.heap.get? l=some { cls:=.type "list",data:=.seq its.toArray n }) (hf:f its.toArray=its'.toArray) (hv:Vals ys its') (hz:ys.length<=sizeLine) :
  Inv X pins σ (upd H l (.lst ys)) { s with heap:=s.heap.update l (Obj.mapSeq f),toks:=t' }:=by
 have q:=PySem.IsL.update e f;rw [hf] at q;refine I.write (x:=l) (e:=l) (by rw [hH];exact trivial) (.inl rfl) (fun b' u hb hu=>(Heap.get?_update_other s.heap (Obj.mapSeq f) (Ne.symm hb)).trans hu) ⟨_,q⟩ ?_;exact ⟨hz,its',_,hv,q⟩
theorem Inv.lnew {its:List Value}{t':Nat}(I:Inv X pins σ H s)(hv:Vals ys its)(hz:ys.length<=sizeLine) :
  Inv X pins σ (upd H s.heap.objs.size (.lst ys)) { s with heap:=s.heap.push { cls:=.type "list",data:=.seq its.toArray },toks:=t' } :=
 I.laid (fun _ _ q=>qvA _ q) (qrA _) ⟨hz,its,0,hv,qwA _ rfl⟩
theorem Inv.fresh (I:Inv X pins σ H s):H s.heap.objs.size=none:=I.hok.fresh (qrA _)
theorem Inv.lstM (I:Inv X pins σ H s)(hH:H l=some (.lst xs)):xs.length<=sizeLine/\∃ (its:List Value) (n:Nat),Vals xs its/\xs.length=its.length/\s.heap.get? l=some { cls:=.type "list",data:=.seq its.toArray n }:=by
 obtain ⟨z,its,n,r,e⟩:=I.hok l _ hH;exact ⟨z,its,n,r,r.length,e⟩
theorem GF {n:Nat}(h:n<=sizeLine):Builtin.List.listTooLong n=false:=by
 unfold Builtin.List.listTooLong;exact decide_eq_false (by omega)
end
section
variable {X:Cx}
def EE:V->List V->Hp->VK->Prop:=fun x vs H Q=>∃ l xs y,x = .ref l/\vs=[y]/\H l=some (.lst xs)/\xs.length<sizeLine/\Q .non (upd H l (.lst (xs++[y])))
theorem Hw:MtM X "list.append" EE:=by
 intro pins s σ H x vs v us Q I rx rv h;obtain ⟨l,xs,y,rfl,rfl,hH,hz,q⟩:=h;cases rx;obtain ⟨u,rfl,ru⟩:=rv.one;obtain ⟨z,its,n,r,hl,e⟩:=I.lstM hH;refine call_meets F.slot_list_append ⟨_,e,rfl⟩ F.entry_list_append (F.args_list_append_2 _ _) (PySem.list_append l its.toArray n u (by rw [qdB];omega)) ⟨e,?_⟩;refine ⟨.non,_,I.lset (its':=its++[u]) hH e (by simp) (r.append (.cons ru .nil)) ?_,rfl,q⟩;rw [qeA,qgA];omega
def rPop:V->List V->Hp->VK->Prop:=fun x vs H Q=>∃ l xs y,x = .ref l/\vs=[]/\H l=some (.lst xs)/\xs[xs.length - 1]? = some y/\Q y (upd H l (.lst xs.dropLast))
theorem mt_pop:MtM X "list.pop" rPop:=by
 intro pins s σ H x vs v us Q I rx rv h;obtain ⟨l,xs,y,rfl,rfl,hH,hy,q⟩:=h;cases rx;have hus:=rv.zero;subst hus;obtain ⟨z,its,n,r,hl,e⟩:=I.lstM hH;obtain ⟨u,hu,ru⟩:=r.get hy
 have hy':its.toArray[its.toArray.size - 1]? = some u:=by
  show its.toArray[its.length - 1]? = some u;rw [<- Array.getElem?_toList,<- hl];exact hu
 refine call_meets F.slot_list_pop ⟨_,e,rfl⟩ F.entry_list_pop (F.args_list_pop_1 _) (MeetsSeq.list_pop_last l its.toArray n u hy' (by rw [qdB];omega)) ⟨e,?_⟩;refine ⟨y,_,I.lset (its':=its.dropLast) hH e ?_ r.dropLast ?_,ru,q⟩
 ·show its.toArray.eraseIdxIfInBounds (its.toArray.size - 1)=its.dropLast.toArray;rw [qdB,List.eraseIdxIfInBounds_toArray,Gw]
 ·rw [List.length_dropLast];omega
def rRep:R2:=fun x y H Q=>∃ l k xs,x = .ref l/\y = .int k/\H l=some (.lst xs)/\-(2 ^ 63)<=k/\k<2 ^ 63/\xs.length * k.toNat<=sizeLine /\
 ∀ p,H p=none->Q (.ref p) (upd H p (.lst (List.replicate k.toNat xs).flatten))
theorem len_rep {α:Type}(xs:List α)(k:Nat):(List.replicate k xs).flatten.length=k * xs.length:=by
 induction k with
 | zero=>simp
 | succ k ih=>rw [List.replicate_succ,List.flatten_cons,qeA,ih,Nat.succ_mul,Nat.add_comm]
theorem op_rep:OpR X (binaryOp .Mult) rRep:=by
 intro pins s σ H x y v u Q I rx ry h;obtain ⟨l,k,xs,rfl,rfl,hH,h1,h2,hz,q⟩:=h;cases rx;obtain ⟨t,rfl⟩:=ry;obtain ⟨z,its,n,r,hl,e⟩:=I.lstM hH;have hlen:its.toArray.size * k.toNat<=sizeLine:=by rw [qdB,<- hl];exact hz
 have hcap:¬ its.toArray.size * k.toNat > (2 ^ 63 - 1) / 8:=by
  have:(sizeLine:Nat)<=(2 ^ 63 - 1) / 8:=by decide
  omega
 have hfit:¬ (!Builtin.List.listFitsIndex k)=true:=by
  rw [fitsIndex_both h1 h2];exact qcB
 have hlong:¬ Builtin.List.listTooLong (its.toArray.size * k.toNat)=true:=by
  rw [GF hlen];exact qcB
 have hnew:List.foldl (fun x1 x2=>x1++x2) #[] (List.replicate (if its.toArray.isEmpty=true then 0 else k.toNat) its.toArray)=(List.replicate k.toNat its).flatten.toArray:=by
  have f0:∀ m:Nat,List.foldl (fun x1 x2=>x1++x2) #[] (List.replicate m its.toArray)=(List.replicate m its).flatten.toArray:=fun m=>by
   have:=Ez its m [];rw [List.nil_append] at this;exact this
  rw [f0]
  cases its with
  | nil=>simp
  | cons a r'=>rw [if_neg (by simp)]
 refine wpAny_binaryOp_repeat_ref (T := "list") (U := "int") (by decide) ⟨_,e,rfl⟩ (fun s'=>typeIs_int s' k t) noFill_list_mul F.fills_int_mul F.slot_int_rmul repeat_list F.slot_int_index.lookup
  (call_meets F.slot_int_rmul (typeIs_int s k t) F.entry_int_rmul (F.args_int_rmul_2 _ _) (int___rmul___int_list k t l its.toArray n)
   ⟨e,rfl,⟨_,e,rfl⟩,call_meets F.slot_list_mul ⟨_,e,rfl⟩ F.entry_list_mul (F.args_list_mul_2 _ _) (AutoListH.list___mul___list_int_3 l its.toArray n k t hfit hcap hlong) ⟨e,?_⟩⟩)
 rw [hnew];exact ⟨.ref _,_,I.lnew (t':=s.toks) (r.rep k.toNat) (by rw [len_rep,Nat.mul_comm];exact hz),rfl,q _ I.fresh⟩
end
end L2
namespace Att
open PySem PySem.W PySem.Calls PyProof.Rows
theorem E9 {P:Params}{h:Heap}:∀ (ns:List Int) (vs:List Value),WellAll P h vs (ns.map WData.int)->IntsAre vs ns:=by
 intro ns
 induction ns with
 | nil =>
  intro vs w;rw [List.map_nil] at w;cases w;exact .nil
 | cons n ns ih =>
  intro vs w;rw [List.map_cons] at w
  cases w with
  | cons a b =>
   cases a;exact .cons _ _ (ih _ b)
theorem Hr {l:OpenLaw}{n:Nat}(hn:l.most=some n){P:Params}{h:Heap}{args:List WData}{vals:List Value}
  (hpre:l.row.toRowW.claim.pre args=true) (hwl:WellAll P h vals args) :
  ∃ a vs ns,vals=[Value.ref a]/\args=[WData.list (ns.map WData.int)]/\h.get? a=some { cls:=.type "list",data:=.seq vs.toArray }/\IntsAre vs ns/\ns.length<=n:=by
 have hsh:WShape.hasAll [] args [.list .int]=true:=(pre_splitW hpre).1;have hc:l.pre.holds [] { args:=args }=true:=(pre_splitW hpre).2;obtain ⟨d,r,rfl,h1,h2⟩:=hasAllW_cons hsh;obtain rfl:=hasAllW_nil h2;obtain ⟨xs,rfl,h3⟩:=hasW_list h1;obtain ⟨ns,rfl⟩:=items_int h3
 have hlen:ns.length<=n:=by
  unfold OpenLaw.pre at hc
  have h4:(WTm.not (.lt (.lit (.int (n:Int))) (.len (.arg 0)))).holds [] { args:=[.list (ns.map .int)] }=true:=by
   have h4:=(holds_andW hc).1;rw [hn] at h4;exact h4
  have h5:=condW_of h4 (w_not (w_lt w_lit (w_len_list (w_arg rfl))));rw [qdA] at h5;refine Nat.le_of_not_lt fun q=>?_;have q':(n:Int)<((ns.length:Nat):Int):=by omega
  first
   | (rw [decide_eq_true q'] at h5;exact absurd h5 (by decide))
   | (simp at h5;omega)
 cases hwl with
 | cons w1 w2 =>
  cases w2
  cases w1 with
  | list ho hall=>exact ⟨_,_,ns,rfl,rfl,ho,E9 ns _ hall,hlen⟩
theorem Hy (l:OpenLaw)(args:List WData):l.row.toRowW.claim.post args (.bool true) args=true :=
 postW_of (r:=l.row.toRowW) (X:=(true == true))
  (show WShape.has [] (.bool true) .bool=true by first|rfl|decide|simp [WShape.has,WShape.arms,WShape.armsAll])
  (show (WTm.eq .res (.lit (.bool true))).value [] { args:=args,res:=some (.bool true),after:=args }=some (.bool (true == true)) from w_eq_bool (w_res rfl) w_lit) rfl
theorem attach_call {l:OpenLaw}{n:Nat}{q:Program}{loose:List Str}{XP:(Str->Option Value)->Heap->Prop}{YP:World->Heap->Prop}{d:DefRec}
  (hn:l.most=some n) (hdf:d.params.defaults=[])
  (call:∀ (w:World) (s₀ s₁:Shared) (mg mb:Str->Option Value) (fa:Addr) (o:Obj) (pm cd doc:Value) (a:Addr) (vs:List Value) (ns:List Int),
   Ground q loose [] XP w s₀ mg mb s₁.heap->YP w s₁.heap ->
   s₁.heap.get? fa=some o->o.data = .func (docDef d.name d.params d.body d.scope pm cd doc)->s₁.heap.CodeRec cd d.name->mg d.name=some (.ref fa) ->
   s₁.heap.get? a=some { cls:=.type "list",data:=.seq vs.toArray }->IntsAre vs ns->ns.length<=n->s₁.gens = #[] ->
   codeAny (model l.prog w) callerA (.call (.ref fa) ⟨[.ref a],[]⟩) (fun r s'=>r = .ok (.ret (.bool true))/\OldK s₁.heap s'.heap/\s'.os=s₁.os/\AllBare s'.gens) s₁) :
  WalkO q loose XP YP l.row.toRowW d [] (fun f vs=>PySem.call f vs):=by
 intro w s₀ s₁ mg mb G Y fa o pm cd doc dV kV ho hd hcd hD hmg hg args vals as hpre hlay hrd hwl hlo;obtain rfl:dV = .none:=Dflts.none hD hdf;obtain rfl:kV = .none:=Dflts.noKw hD;obtain ⟨a,vs,ns,rfl,rfl,hobj,hints,hlen⟩:=Hr hn hpre hwl;refine enter_call (codeAny_mono (call w s₀ s₁ mg mb fa o pm cd doc a vs ns G Y ho (fd_plain hd) hcd hmg hobj hints hlen hg) fun r s' hq=>?_);obtain ⟨rfl,h2,h3,h4⟩:=hq;exact ⟨.inl ⟨.bool true,.bool true,[],rfl,fun _=>rfl,.bool true,Hy l _,fun _=>⟨List.Pairwise.nil,fun _ hm=>(nomatch hm)⟩⟩,h2,h3,h4⟩
end Att
namespace L2
open PySem PySem.Spec PyProof.Rows
theorem F0:∀ {vs:List Value}{ns:List Int},IntsAre vs ns->Vals (ns.map V.int) vs
 | _,_,.nil=>.nil
 | _,_,.cons n t h=>.cons ⟨t,rfl⟩ (F0 h)
def Only (H:Hp):Prop:=∀ b,H b=none\/∃ o xs,H b=some (.frz o (.lst xs))
theorem law_call {P:Program}{w:World}{K:FZ9}{mg mb:Str->Option Value}{CX:CXT}{k:Nat}{fa a:Addr}{fd:FuncData}{x:Str}{sp:Sp}{s₁:Shared}{vs:List Value}{ns:List Int}
  (KX:K.In s₁.heap) (hns:s₁.heap.Ns mainGlobals mg) (hb:s₁.heap.Ns builtinsNs mb) (hbb:∀ x:Str,x ≠ "__name__" -> mb x=bootBuiltins x) (hlim:s₁.heap.NoLimit) (hg:s₁.gens = #[])
  (ha:s₁.heap.get? a=some { cls:=.type "list",data:=.seq vs.toArray }) (hi:IntsAre vs ns) (hl:ns.length<=sizeLine) (hr:Room k callerA)
  (F:∀ base:Heap,K.In base->base.Ns mainGlobals mg->FnOk P w K mg base CX k fa fd [x] sp) (hbind:∀ (s:Shared) (u:Value),BindsTo s fd ⟨[u],[]⟩ [(x,u)])
  (hsp:∀ H:Hp,Only H->SqL K H a (ns.map V.int)->sp [.ref a] H (fun v _=>v = .bl true) fun _ _ _=>False)
  (hCX:∀ H e s',CX [] H s₁ (fun _ _ _=>False) e s'->False) :
  codeAny (model P w) callerA (.call (.ref fa) ⟨[.ref a],[]⟩) (fun r s'=>r = .ok (.ret (.bool true))/\OldK s₁.heap s'.heap/\s'.os=s₁.os/\AllBare s'.gens) s₁:=by
 have rv:=F0 hi;have lenV:=hi.length
 have core:∀ H:Hp,Only H->SqL K H a (ns.map V.int)->HOk P w H s₁.heap->(∀ b,H b≠none->b=a)->(H a≠none->K.lookup a=none) ->
   codeAny (model P w) callerA (.call (.ref fa) ⟨[.ref a],[]⟩) (fun r s'=>r = .ok (.ret (.bool true))/\OldK s₁.heap s'.heap/\s'.os=s₁.os/\AllBare s'.gens) s₁:=by
  intro H hO hS hok hA hK;have base_of:∀ {b:Addr}{o:Obj},s₁.heap.get? b=some o->H b=none->(F7 s₁.heap H).get? b=some o:=fun e n=>hidT_get e n
  have noA:∀ {b:Addr}{o:Obj}{es:Array DictEntry}{ep:Nat},s₁.heap.get? b=some o->o.data = .dict es ep->H b=none:=fun {b o es ep} e d=>by
   cases q:H b with
   | none=>rfl
   | some u =>
    have e':b=a:=hA b (by rw [q];simp);subst e';rw [ha] at e;cases e;have d':Data.seq vs.toArray _=Data.dict es ep:=d;cases d'
  have nsK:∀ {b:Addr}{m:Str->Option Value},s₁.heap.Ns b m->(F7 s₁.heap H).Ns b m:=fun {b m} ⟨o,es,ep,e,d,r⟩=>⟨o,es,ep,base_of e (noA e d),d,r⟩
  have hKb:K.In (F7 s₁.heap H):=fun b o e=>base_of (KX b o e) (by
   cases q:H b with
   | none=>rfl
   | some u =>
    have e':b=a:=hA b (by rw [q];simp);subst e'
    rw [hK (by rw [q];simp)] at e;cases e)
  have hM:Mod K mg (F7 s₁.heap H):=⟨hKb,nsK hns,⟨mb,nsK hb,hbb⟩,let ⟨mc,h1,h2⟩:=hlim;⟨mc,nsK h1,h2⟩⟩;have e0:Env0 P w K mg (F7 s₁.heap H) callerA [] s₁ H:=⟨rfl,hM,fun b o e=>of_hidT e,Nat.le_of_eq (Hn _ _),trivial,fun b hb=>absurd (show b∈([]:List Addr) from hb) (by simp),hok,.of_eq hg⟩;refine codeAny_mono ((F _ hKb (nsK hns)).run callerA [] s₁ H ⟨[.ref a],[]⟩ [.ref a] [.ref a] _ _ hr e0 (hbind s₁ (.ref a)) (.cons rfl .nil) (hsp H hO hS)) fun r s' h=>?_
  cases r with
  | error e=>exact (hCX H e s' h).elim
  | ok fl =>
   cases fl with
   | next=>exact False.elim h
   | brk=>exact False.elim h
   | cont=>exact False.elim h
   | ret u =>
    obtain ⟨v,H',os,bare,un,hok',r',q⟩:=h;have q':v = .bl true:=q;subst q';obtain rfl:u=Value.bool true:=r';refine ⟨rfl,OldK.of_keep fun b o e=>?_,os,bare⟩
    cases q:H b with
    | none=>exact un.keep b o e q (by intro z;exact absurd (show b∈([]:List Addr) from z) (by simp)) (by simp)
    | some u =>
     rcases hO b with z | ⟨ob,xs,z⟩
     ·rw [q] at z;cases z
     ·have z2:=un.frzs b ob _ z;obtain ⟨e1,_⟩:=hok b _ z;obtain ⟨e2,_⟩:=hok' b _ z2;rw [e] at e1;cases e1;exact e2
 cases hk:K.lookup a with
 | some o =>
  have e:=KX a o hk;rw [ha] at e;cases e;refine core (fun _=>none) (fun _=>.inl rfl) (.inr ⟨_,vs.toArray,_,hk,rfl,rfl,rfl,by rw [qdB,lenV];exact hl,by simpa using rv⟩) (fun b u z=>by have z':(none:Option HO)=some u:=z;cases z') (fun b z=>absurd rfl z) fun z=>absurd rfl z
 | none =>
  refine core (fun b=>if b=a then some (.frz { cls:=.type "list",data:=.seq vs.toArray } (.lst (ns.map V.int))) else none) (fun b=>?_) (.inl (.inr ⟨{ cls:=.type "list",data:=.seq vs.toArray },if_pos rfl⟩)) (fun b u z=>?_) (fun b z=>?_) fun _=>hk
  ·by_cases hb:b=a
   ·exact .inr ⟨_,_,if_pos hb⟩
   ·exact .inl (if_neg hb)
  ·by_cases hb:b=a
   ·have z':=(if_pos hb).symm.trans z;cases z';subst hb;exact ⟨ha,by rw [qdA];exact hl,vs,_,rv,ha⟩
   ·have z':=(if_neg hb).symm.trans z;cases z'
  ·by_cases hb:b=a
   ·exact hb
   ·exact absurd (if_neg hb) z
theorem walk_of {l:PySem.W.OpenLaw}{n k:Nat}{q:Program}{loose:List Str}{XP:(Str->Option Value)->Heap->Prop}{YP:World->Heap->Prop}{d:DefRec}{K:Params->FZ9}{CX:World->CXT}{sp:World->Sp}{x:Str}
  (hn:l.most=some n) (hn2:n<=sizeLine) (hdf:d.params.defaults=[]) (hr:Room k callerA)
  (hY:∀ (w:World) (h:Heap),YP w h->(K w.params).In h)
  (F:∀ (w:World) (mg:Str->Option Value) (fa:Addr) (h:Heap),(K w.params).In h->h.Ns mainGlobals mg->mg d.name=some (.ref fa) ->
   ∃ fd:FuncData,(∀ (s:Shared) (u:Value),BindsTo s fd ⟨[u],[]⟩ [(x,u)]) /\
    ∀ base:Heap,(K w.params).In base->base.Ns mainGlobals mg->FnOk l.prog w (K w.params) mg base (CX w) k fa fd [x] (sp w))
  (hsp:∀ (w:World) (H:Hp) (a:Addr) (ns:List Int),ns.length<=n->Only H->SqL (K w.params) H a (ns.map V.int)->sp w [.ref a] H (fun v _=>v = .bl true) fun _ _ _=>False)
  (hCX:∀ (w:World) (H:Hp) (s:Shared) (e:Value) (s':Shared),CX w [] H s (fun _ _ _=>False) e s'->False) :
  PySem.W.WalkO q loose XP YP l.row.toRowW d [] (fun f vs=>PySem.call f vs):=by
 refine Att.attach_call hn hdf fun w s₀ s₁ mg mb fa o pm cd doc a vs ns G Y ho hd hcd hmg hobj hints hlen hg=>?_;have KX:=hY w _ Y;obtain ⟨fd,hb,hF⟩:=F w mg fa _ KX G.T.g hmg;exact law_call KX G.T.g G.T.b G.T.builtins G.T.nolimit hg hobj hints (qsA hlen hn2) hr hF hb (fun H hO hS=>hsp w H a ns hlen hO hS) fun H e s'=>hCX w H s₁ e s'
def CM (s:Stmt):Arguments:=match s with
 | .FunctionDef _ a _ _ _ _ _ _ _ _=>a
 | _=>{ posonlyargs:=[],args:=[],vararg:=none,kwonlyargs:=[],kw_defaults:=[],kwarg:=none,defaults:=[] }
def BO (s:Stmt):List Stmt:=match s with
 | .FunctionDef _ _ b _ _ _ _ _ _ _=>b
 | _=>[]
def AC (s:Stmt):Scope:=match s with
 | .FunctionDef _ _ _ _ _ _ sc _ _ _=>sc
 | _=>{ kind:=.function,names:=[],isGenerator:=false,isCoroutine:=false }
abbrev CX0:CXT:=fun _ _ _ _ _ _=>False
abbrev E0:XK:=fun _ _ _=>False
theorem pass0 {X:Cx}:Gn CX0 X E0:=fun _ _ _ _ _ _ _ h=>h.elim
structure Fun (K:FZ9)(x qual:Str)(st:Stmt)(f:Addr)(fd:FuncData):Prop where
 ex:∃ (oc:Value) (od:Option Addr) (kV doc pm:Value) (an:Option Addr) (cdv ct:Value) (osl:Array (Option Value)),
  fd=qfB x qual (CM st) (BO st) (AC st) .none kV doc pm an cdv ct/\K.lookup f=some ⟨oc,od,.func fd,osl⟩/\PySem.W.codeIn K cdv qual=true
 kp:qeB K (.ref f)=true
section
variable {P:Program}{w:World}{K:FZ9}{mg:Str->Option Value}{base:Heap}
theorem Fun.ok {x qual:Str}{st:Stmt}{f:Addr}{fd:FuncData}{N ps:List Str}{k:Nat}{sp:Sp}(F:Fun K x qual st f fd)(S:FnScope N ps (AC st))(len:∀ vs H Q E,sp vs H Q E->vs.length=ps.length)
  (hbody:∀ (cdv:Value) (A:Around) (outer:List Env) (s:Shared) (H:Hp) (vs:List V) (Q:VK) (E:XK),Room k (A.deeper (envOfC qual (AC st) s.heap.objs.size f cdv))->sp vs H Q E ->
   ∃ t,PSs (DS CX0 P w K mg base N qual (AC st) f cdv A outer s H E).nox (BO st) t/\t { nx:=fun _ H'=>Q .non H',rt:=Q } (start N vs) H):FnOk P w K mg base CX0 (k+1) f fd ps sp:=by
 obtain ⟨oc,od,kV,doc,pm,an,cdv,ct,osl,rfl,lk,hcd⟩:=F.ex;refine fn_of lk hcd S len fun A outer s H vs Q E hr hsp=>?_;obtain ⟨t,h,q⟩:=hbody cdv A outer s H vs Q E hr hsp;exact ⟨t,h.nox,q⟩
theorem Fun.binds {x qual:Str}{st:Stmt}{f:Addr}{fd:FuncData}{ps:List Str}(F:Fun K x qual st f fd)
  (h:∀ (kV doc pm:Value) (an:Option Addr) (cdv ct:Value) (us:List Value),us.length=ps.length->bindArgs (qfB x qual (CM st) (BO st) (AC st) .none kV doc pm an cdv ct) ⟨us,[]⟩=pure (ps.zip us)):Binds K fd ps []:=by
 obtain ⟨oc,od,kV,doc,pm,an,cdv,ct,osl,rfl,lk,hcd⟩:=F.ex;exact .all (h kV doc pm an cdv ct)
theorem fun_mk {x qual:Str}{st:Stmt}{f:Addr}{oc:Value}{od an:Option Addr}{osl:Array (Option Value)}{kV doc pm cdv ct:Value}(l:K.lookup f=some ⟨oc,od,.func (qfB x qual (CM st) (BO st) (AC st) .none kV doc pm an cdv ct),osl⟩)
  (c:PySem.W.codeIn K cdv qual=true) (k:qeB K (.ref f)=true):Fun K x qual st f (qfB x qual (CM st) (BO st) (AC st) .none kV doc pm an cdv ct):=⟨⟨oc,od,kV,doc,pm,an,cdv,ct,osl,rfl,l,c⟩,k⟩
end
section
variable {X:Cx}
theorem pv (i:Nat){x:Str}{pos:Pos}(hN:X.N[i]? = some x:=by rfl)(hv:Vis X.env.scope x:=by first|exact Or.inl rfl|exact Or.inr (Or.inl rfl)|exact Or.inr (Or.inr rfl))(hd:(x == ("__debug__" : Str))=false:=by decide)
  (hcd:(x == ("__classdict__" : Str))=false:=by decide):PE X (.Name x pos) (EB i):=pe_var hN hv hd hcd
end
theorem Bl {A B:Prop}(h:B):if false=true then A else B:=by
 rw [if_neg qcB];exact h
theorem Bq {A B:Prop}(h:A):if true=true then A else B:=by
 rw [if_pos rfl];exact h
def Same (H H':Hp):Prop:=∀ b o,H b=some o->H' b=some o
theorem Same.refl (H:Hp):Same H H:=fun _ _ h=>h
theorem Same.trans {H H1 H2:Hp}(a:Same H H1)(b:Same H1 H2):Same H H2:=fun c o h=>b c o (a c o h)
theorem Same.free {H H':Hp}(e:Same H H'){l:Addr}(h:H' l=Option.none):H l=Option.none:=by
 cases q:H l with
 | none=>rfl
 | some o =>
  rw [e l o q] at h;cases h
theorem Same.seq {K:FZ9}{H H':Hp}{a:Addr}{xs:List V}(e:Same H H')(h:SqL K H a xs):SqL K H' a xs:=by
 rcases h with (h | ⟨o,h⟩)|h
 ·exact .inl (.inl (e _ _ h))
 ·exact .inl (.inr ⟨o,e _ _ h⟩)
 ·exact .inr h
def NoSl (i:Expr):Prop:=∀ ov iv,subscripted i false ov iv=operate [ov,iv] (getItem ov iv)
theorem subD_of {prog:Program}{w:World}{A:Around}{E:Value->Shared->Prop}{s:Shared}{env:Env}{value slice:Expr}{pos:Pos}{T id:String}{Q:Value->Shared->Prop}
  (hl:typeLookup (.type T) "__getitem__" = pure (some (.builtin id))) (hs:NoSl slice)
  (h:wpAny (model prog w) A (eval value env) (fun o s₁=>wpAny (model prog w) A (eval slice env) (fun i s₂=>s₂.TypeIs o T/\wpAny (model prog w) A (getItem o i) Q E s₂) E s₁) E s) :
  wpAny (model prog w) A (eval (.Subscript value slice pos) env) Q E s:=by
 refine Subscript_ (wpAny_mono h (fun o s₁ h₁=>wpAny_mono h₁ (fun i s₂ h₂=>?_) fun _ _ x=>x) fun _ _ x=>x);obtain ⟨hT,h₂⟩:=h₂;unfold subscriptTail;refine qbA ?_;rw [getitemInPython_of_ne hT.not_modules];refine qbA (wpAny_specialOf hT hl ?_)
 have fin:wpAny (model prog w) A (subscripted slice false o i) (fun r s₃=>wpAny (model prog w) A (letTemporaryGo value o r >>= fun _=>pure r) Q E s₃) E s₂:=by
  rw [hs o i];exact wpAny_operating (wpAny_mono h₂ (fun r s₃ h₃=>qbA (wpAny_letTemporaryGo (qcA h₃))) fun _ _ x=>x)
 first
  | exact qcA (qbA fin)
  | exact qbA (qcA (qbA fin))
  | exact qbA fin
theorem len_app (x y:Str):(x++y).length=x.length+y.length:=by
 show (x.cps++y.cps).size=_;rw [Array.size_append]
 rfl
theorem bt_len:bootBuiltins "len" = some (.builtin "len"):=by decide +kernel
theorem BK:bootBuiltins "isinstance" = some (.builtin "isinstance"):=by decide +kernel
theorem bt_min:bootBuiltins "min" = some (.builtin "min"):=by decide +kernel
theorem GS:bootBuiltins "tuple" = some (.type "tuple"):=by decide +kernel
theorem FS:bootBuiltins "str" = some (.type "str"):=by decide +kernel
theorem pe_globI {X:Cx}{x:Str}{i:Int}{pos:Pos}(hg:Gl X x)(h:∃ t,X.mg x=some (.int i t))(hd:(x == ("__debug__" : Str))=false:=by decide):PE X (.Name x pos) (tC (.int i)):=by
 obtain ⟨t,h⟩:=h;exact Hb (u:=.int i t) hg h ⟨t,rfl⟩ hd
def Hq (T c:String):Option Bool:=if (T == c)=true then some true else if PySem.W.kitMeta c=true then (fastBuiltinMro T).map (·.contains (.type c)) else none
theorem kit_of {K:FZ9}{T c:String}{b:Bool}(h:Hq T c=some b):PySem.W.kitOne K (.type T) (.type c)=some b:=by
 unfold Hq at h;unfold PySem.W.kitOne;by_cases e:T=c
 ·subst e;rw [if_pos (by simp)] at h;rw [if_pos (by simp)];exact h
 ·rw [if_neg (by simpa using e)] at h;rw [if_neg (by intro z;exact e (by simpa using z))];exact h
structure DefOk (P:Program)(w:World)(K:FZ9)(mg:Str->Option Value)(base:Heap)(x:Str)(k:Nat)(ps:List Str)(sp:Sp):Prop where
 ex:∃ f fd,FnOk P w K mg base CX0 k f fd ps sp/\mg x=some (.ref f)/\qeB K (.ref f)=true/\Binds K fd ps []
section
variable {X:Cx}{x:Str}{k j:Nat}{ps:List Str}{sp:Sp}{e:Expr}{es:List Expr}{t:TA}{p pos:Pos}
theorem AZ (F:DefOk X.prog X.w X.K X.mg X.base x k ps sp)(hr:Room j X.A)(hj:k<=j)(hg:Gl X x)(ha:PA X (e::es) t)(hdb:(x == ("__debug__" : Str))=false:=by decide)
  (he:starEach (e::es) X.env=(false,eval e X.env)::starEach es X.env:=by rfl) (hpl:(backTo pos (starEach es X.env)).any (·.1)=false:=by rfl) :
  PE X (.Call (.Name x p) (e::es) [] pos) (DB sp [] E0 t):=by
 obtain ⟨f,fd,G,m,kp,b⟩:=F.ex;exact pe_call G (hr.mono hj) hg m kp b .nil pass0 ha hdb he hpl
end
theorem Eh {P:Program}{w:World}{K:FZ9}{mg:Str->Option Value}{base:Heap}{x:Str}{st:Stmt}{f:Addr}{fd:FuncData}{k:Nat}{ps:List Str}{sp:Sp}(F:Fun K x x st f fd)(m:mg x=some (.ref f))(b:Binds K fd ps [])(G:FnOk P w K mg base CX0 k f fd ps sp):DefOk P w K mg base x k ps sp :=
 ⟨f,fd,G,m,F.kp,b⟩
theorem Same.new {H:Hp}{p:Addr}{o:HO}(h:H p=none):Same H (upd H p o):=fun b u e=>by rw [Aq (BQ e h)];exact e
theorem Same.put {H H':Hp}{p:Addr}{o:HO}(s:Same H H')(h:H p=none):Same H (upd H' p o):=fun b u e=>by rw [Aq (BQ e h)];exact s b u e
def Its (x:Str):It:=⟨fun i _=>i<x.cps.size,fun i H v H'=>H'=H/\∃ c,x.cps[i]? = some c/\v = .str ⟨#[c]⟩,fun i _=>i=x.cps.size⟩
def StrIt (it:Addr)(x:Str)(t:Tok)(i:Nat)(h:Heap):Prop:=h.IsStrIter it "str_ascii_iterator" x t i\/h.IsStrIter it "str_iterator" x t i
theorem GP {P:Program}{w:World}{K:FZ9}{tg:Expr}(x:Str)(t:Tok)(it:Addr):Turn P w K tg (Its x) [it] it (StrIt it x t) where
 mem:=by simp
 obj:=fun i h st b hb=>by
  have e:b=it:=by simpa using hb
  subst e;rcases st with ⟨o,e,c,d⟩ | ⟨o,e,c,d⟩<;>exact ⟨o,e,fun v z=>by rw [d] at z;cases z⟩
 keep:=fun i h h' st k=>by
  rcases st with ⟨o,e,r⟩ | ⟨o,e,r⟩
  ·exact .inl ⟨o,k it (by simp) o e,r⟩
  ·exact .inr ⟨o,k it (by simp) o e,r⟩
 item:=by
  intro X hP hw hK hc i pins s σ H E I hf st hg;subst hP hw hK;obtain ⟨f0,f1,f2,f3,f4,f5⟩:=hf it (by simp);rcases st with st|st
  ·refine (Walks.strAscii (prog:=X.prog) (w:=X.w) (I.ok.hd hc) it x t).item i s _ _ hg st fun v h' tk hv st' kk=>?_;obtain ⟨c,u,hcx,rfl⟩:=hv;have I1:=I.turned (h':=h') (t':=tk) (fun b o hb e=>kk b o (by simpa using hb) e) f0 f1 f3 f4 f5;obtain ⟨o,e,hc',d⟩:=id st';exact ⟨_,rfl,Ey (s:={ s with heap:=h',toks:=tk }) e hc' d (by decide) ⟨.str ⟨#[c]⟩,H,I1,⟨u,rfl⟩,⟨rfl,c,hcx,rfl⟩,.inl st',fun b hb=>(hf b hb).1⟩⟩
  ·refine (Walks.strWide (prog:=X.prog) (w:=X.w) (I.ok.hd hc) it x t).item i s _ _ hg st fun v h' tk hv st' kk=>?_;obtain ⟨c,u,hcx,rfl⟩:=hv;have I1:=I.turned (h':=h') (t':=tk) (fun b o hb e=>kk b o (by simpa using hb) e) f0 f1 f3 f4 f5;obtain ⟨o,e,hc',d⟩:=id st';exact ⟨_,rfl,Ey (s:={ s with heap:=h',toks:=tk }) e hc' d (by decide) ⟨.str ⟨#[c]⟩,H,I1,⟨u,rfl⟩,⟨rfl,c,hcx,rfl⟩,.inr st',fun b hb=>(hf b hb).1⟩⟩
 done:=by
  intro X hP hw hK hc i pins s σ H E I hf st hg;subst hP hw hK;obtain ⟨f0,f1,f2,f3,f4,f5⟩:=hf it (by simp);have hg:i=x.cps.size:=hg;subst hg;rcases st with st|st
  ·exact (Walks.strAscii (prog:=X.prog) (w:=X.w) (I.ok.hd hc) it x t).done s _ _ st fun h' tk kk=>⟨rfl,I.turned (fun b o hb e=>kk b o (by simpa using hb) e) f0 f1 f3 f4 f5⟩
  ·exact (Walks.strWide (prog:=X.prog) (w:=X.w) (I.ok.hd hc) it x t).done s _ _ st fun h' tk kk=>⟨rfl,I.turned (fun b o hb e=>kk b o (by simpa using hb) e) f0 f1 f3 f4 f5⟩
 self:=fun _ _ _ _ _ st h=>by
  rcases st with st|st
  ·exact wpAny_pyIter_striter_ascii st h
  ·exact wpAny_pyIter_striter_wide st h
section
variable {X:Cx}{tg:Expr}
def iAny (K:FZ9)(tl:TE):TI:=fun σ H R=>tl σ H fun v H1=>match v with
 | .str x=>R (Its x) H1
 | .ref a=>((∃ xs,SqL K H1 a xs)/\R (Itl K a) H1)\/((∃ xs,SqT K H1 a xs)/\R (Itt K a) H1)
 | _=>False
theorem pi_any {l:Expr}{tl:TE}(hl:PE X l tl):PI X tg l (iAny X.K tl):=by
 intro pins s σ H R I h;refine thn (hl pins s σ H _ I h) fun v s1 ⟨x,H1,I1,r1,q1⟩=>?_
 have one:∀ b∈[s1.heap.objs.size],Fi X pins H1 b:=fun b hb=>by
  have e:b=s1.heap.objs.size:=by simpa using hb
  subst e;exact I1.fpOk (qrA _) (I1.hok.fresh (qrA _))
 cases x with
 | str z =>
  obtain ⟨t,rfl⟩:=r1;have q1:R (Its z) H1:=q1;cases ha:z.cps.all (· < 128)
  ·exact wpAny_pyIter_wide ha ⟨s1.heap.objs.size,[s1.heap.objs.size],_,_,H1,rfl,I1.kept (t':=s1.toks) fun b o e=>qvA _ e,GP z t _,.inr ⟨_,qwA _ rfl,rfl,rfl⟩,one,q1⟩
  ·exact wpAny_pyIter_ascii ha ⟨s1.heap.objs.size,[s1.heap.objs.size],_,_,H1,rfl,I1.kept (t':=s1.toks) fun b o e=>qvA _ e,GP z t _,.inl ⟨_,qwA _ rfl,rfl,rfl⟩,one,q1⟩
 | ref a =>
  cases r1;have q1:((∃ xs,SqL X.K H1 a xs)/\R (Itl X.K a) H1)\/((∃ xs,SqT X.K H1 a xs)/\R (Itt X.K a) H1):=q1;rcases q1 with ⟨⟨xs,hq⟩,q⟩ | ⟨⟨xs,hq⟩,q⟩
  ·obtain ⟨its,rv,p,hz⟩:=I1.list hq;exact wpAny_pyIter_list p.isList ⟨s1.heap.objs.size,[s1.heap.objs.size],_,_,H1,rfl,I1.kept (t':=s1.toks) fun b o e=>qvA _ e,Ho a _,⟨_,qwA _ rfl,rfl,rfl⟩,one,q⟩
  ·obtain ⟨its,rv,p,hz⟩:=I1.tuple hq;exact wpAny_pyIter_tuple (show s1.heap.IsTuple a its.toArray from p) ⟨s1.heap.objs.size,[s1.heap.objs.size],_,_,H1,rfl,I1.kept (t':=s1.toks) fun b o e=>qvA _ e,Ge a _,⟨_,qwA _ rfl,rfl,rfl⟩,one,q⟩
 | _=>exact (show False from q1).elim
end
structure Yields (J:It)(H:Hp)(xs:List V):Prop where
 go:∀ i H',Same H H'->i<xs.length->J.go i H'
 stop:∀ H',Same H H'->J.stop xs.length H'
 yld:∀ i H' x H'',Same H H'->i<xs.length->J.yld i H' x H''->H''=H'/\xs[i]? = some x
def CU (x:Str):List V:=x.cps.toList.map fun c=>.str ⟨#[c]⟩
theorem Gf (x:Str)(H:Hp):Yields (Its x) H (CU x) where
 go:=fun i H' _ hi=>by
  have:(CU x).length=x.cps.size:=by simp [CU]
  show i<x.cps.size;omega
 stop:=fun H' _=>by
  show (CU x).length=x.cps.size;simp [CU]
 yld:=fun i H' v H'' _ _ y=>by
  obtain ⟨rfl,c,hc,rfl⟩:=y;refine ⟨rfl,?_⟩;simp only [CU,List.getElem?_map,Array.getElem?_toList,hc,Option.map_some]
theorem F3 (lo:Int)(n:Nat)(H:Hp):Yields (Itr lo n) H ((List.range n).map fun (i:Nat)=>V.int (lo+(i:Int))) where
 go:=fun i H' _ hi=>by
  show i<n
  simpa using hi
 stop:=fun H' _=>by
  show n<=((List.range n).map fun (i:Nat)=>V.int (lo+(i:Int))).length;simp
 yld:=fun i H' v H'' _ hi y=>by
  obtain ⟨rfl,rfl⟩:=y;rw [qdA,List.length_range] at hi;refine ⟨rfl,?_⟩;simp [hi]
section
variable {X:Cx}
def Fu (K:FZ9):R2:=fun x y H Q=>match x,y with
 | .int i,.int j=>Q (.int (i+j)) H
 | .str a,.str b=>a.length+b.length<=sizeLine/\Q (.str (a++b)) H
 | .ref a,.ref b=>∃ xs ys,Rd H a (.lst xs)/\Rd H b (.lst ys)/\xs.length+ys.length<=sizeLine/\∀ p,H p=none->Q (.ref p) (upd H p (.lst (xs++ys)))
 | _,_=>False
theorem op_catS:OpR X (binaryOp .Add) (fun x y H Q=>∃ a b xs ys,x = .ref a/\y = .ref b/\Rd H a (.lst xs)/\Rd H b (.lst ys)/\xs.length+ys.length<=sizeLine/\∀ p,H p=none->Q (.ref p) (upd H p (.lst (xs++ys)))):=by
 intro pins s σ H x y v u Q I rx ry h;obtain ⟨l,b,xs,zs,rfl,rfl,hH,hB,hz,q⟩:=h;cases rx;cases ry;obtain ⟨z,its,n,r,e⟩:=hH.ok I.hok;obtain ⟨z2,its2,n2,r2,e2⟩:=hB.ok I.hok;have hl:=r.length;have hl2:=r2.length;refine PySem.P.add_list e e2 ?_ (by rw [qdB,qdB];omega);have ea:its.toArray++its2.toArray=(its++its2).toArray:=by simp
 rw [ea];exact ⟨.ref _,_,I.lnew (t':=s.toks) (r.append r2) (by rw [qeA];omega),rfl,q _ I.fresh⟩
theorem op_plus:OpR X (binaryOp .Add) (Fu X.K):=by
 intro pins s σ H x y v u Q I rx ry h
 cases x with
 | int i=>cases y with
  | int j=>exact op_add pins s σ H _ _ v u Q I rx ry ⟨i,j,rfl,rfl,h⟩
  | _=>exact (show False from h).elim
 | str a=>cases y with
  | str b=>exact Gd pins s σ H _ _ v u Q I rx ry ⟨a,b,rfl,rfl,h.1,h.2⟩
  | _=>exact (show False from h).elim
 | ref a=>cases y with
  | ref b =>
   obtain ⟨xs,ys,h1,h2,h3,h4⟩:=h;exact op_catS pins s σ H _ _ v u Q I rx ry ⟨a,b,xs,ys,rfl,rfl,h1,h2,h3,h4⟩
  | _=>exact (show False from h).elim
 | _=>exact (show False from h).elim
def Hj (fi:Int->Int->Bool)(fs:List Nat->List Nat->Bool):R2:=fun x y H Q=>match x,y with
 | .int i,.int j=>Q (.bl (fi i j)) H
 | .str a,.str b=>Q (.bl (fs a.cps.toList b.cps.toList)) H
 | _,_=>False
theorem GV {f:Value->Value->Sem Value}{fi:Int->Int->Bool}{fs:List Nat->List Nat->Bool}(hi:OpR X f (rI0 fun i j=>.bl (fi i j)))
  (hs:∀ (s:Shared) (a b:Str) (t u:Tok) (Q:Value->Shared->Prop),Q (.bool (fs a.cps.toList b.cps.toList)) s->wpAny (model X.prog X.w) X.A (f (.str a t) (.str b u)) Q X.xe s):OpR X f (Hj fi fs):=by
 intro pins s σ H x y v u Q I rx ry h
 cases x with
 | int i=>cases y with
  | int j=>exact hi pins s σ H _ _ v u Q I rx ry ⟨i,j,rfl,rfl,h⟩
  | _=>exact (show False from h).elim
 | str a=>cases y with
  | str b =>
   obtain ⟨t,rfl⟩:=rx;obtain ⟨t',rfl⟩:=ry;exact hs s a b t t' _ ⟨.bl _,H,I,rfl,h⟩
  | _=>exact (show False from h).elim
 | _=>exact (show False from h).elim
theorem F6:OpR X (compareOp .Lt) (Hj (fun i j=>decide (i<j)) fun a b=>decide (a<b)):=GV op_lt fun _ _ _ _ _ _ h=>lt_str h
theorem op_leU:OpR X (compareOp .LtE) (Hj (fun i j=>decide (i<=j)) fun a b=>!decide (b<a)):=GV op_le fun _ _ _ _ _ _ h=>PySem.P.le_str h
theorem Fb:OpR X (compareOp .Gt) (Hj (fun i j=>decide (j<i)) fun a b=>decide (b<a)):=GV op_gt fun _ _ _ _ _ _ h=>PySem.P.gt_str h
def rMul (K:FZ9):R2:=fun x y H Q=>match x,y with
 | .int i,.int j=>CMul i j/\Q (.int (i * j)) H
 | .ref l,.int k=>∃ xs,H l=some (.lst xs)/\-(2 ^ 63)<=k/\k<2 ^ 63/\xs.length * k.toNat<=sizeLine/\∀ p,H p=none->Q (.ref p) (upd H p (.lst (List.replicate k.toNat xs).flatten))
 | _,_=>False
theorem op_mulU:OpR X (binaryOp .Mult) (rMul X.K):=by
 intro pins s σ H x y v u Q I rx ry h
 cases x with
 | int i=>cases y with
  | int j=>exact op_mul pins s σ H _ _ v u Q I rx ry ⟨i,j,rfl,rfl,h.1,h.2⟩
  | _=>exact (show False from h).elim
 | ref l=>cases y with
  | int k =>
   obtain ⟨xs,h1,h2,h3,h4,h5⟩:=h;exact op_rep pins s σ H _ _ v u Q I rx ry ⟨l,k,xs,rfl,rfl,h1,h2,h3,h4,h5⟩
  | _=>exact (show False from h).elim
 | _=>exact (show False from h).elim
def rAt (K:FZ9):R2:=fun x y H Q=>match x,y with
 | .str z,.int i=>z.length<=sizeLine/\∃ c,atI z.cps.toList i=some c/\Q (.str ⟨#[c]⟩) H
 | .ref p,.int i=>(∃ xs v,SqL K H p xs/\atI xs i=some v/\Q v H)\/(∃ xs v,SqT K H p xs/\atI xs i=some v/\Q v H)
 | _,_=>False
theorem ix_any:IxR X (rAt X.K):=by
 intro value slice pins s σ H x y v u Q I rx ry q hs
 cases x with
 | str z=>cases y with
  | int i =>
   obtain ⟨hz,c,hc,q⟩:=q;exact ix_str value slice pins s σ H _ _ v u Q I rx ry ⟨z,i,c,rfl,rfl,hz,hc,q⟩ hs
  | _=>exact (show False from q).elim
 | ref p=>cases y with
  | int i =>
   rcases q with ⟨xs,w',h1,h2,h3⟩ | ⟨xs,w',h1,h2,h3⟩
   ·exact ix_list value slice pins s σ H _ _ v u Q I rx ry ⟨p,xs,i,w',rfl,rfl,h1,h2,h3⟩ hs
   ·exact ix_tup value slice pins s σ H _ _ v u Q I rx ry ⟨p,xs,i,w',rfl,rfl,h1,h2,h3⟩ hs
  | _=>exact (show False from q).elim
 | _=>exact (show False from q).elim
def Gv (K:FZ9):List V->Hp->VK->Prop:=fun vs H Q=>match vs with
 | [.str z]=>z.length<=sizeLine/\Q (.int z.length) H
 | [.ref p]=>∃ ys,(SqL K H p ys\/SqT K H p ys)/\Q (.int ys.length) H
 | _=>False
theorem ID:Dv X (.builtin "len") (Gv X.K):=by
 intro pins s σ H vs us Q I r h
 match vs,h with
 | [.str z],h=>exact Fc pins s σ H _ us Q I r ⟨z,rfl,h.1,h.2⟩
 | [.ref p],h =>
  obtain ⟨ys,h1,h2⟩:=h;exact FC pins s σ H _ us Q I r ⟨p,ys,rfl,h1,h2⟩
end
structure EqTy (K:FZ9)(k:Nat){α:Type}[DecidableEq α](R:Hp->V->α->Prop):Prop where
 fn:∀ {X:Cx}{pins:List (Addr × Obj)}{σ:St}{H:Hp}{s:Shared}{x:V}{a b:α},X.K=K->Inv X pins σ H s->R H x a->R H x b->a=b
 eq:∀ {X:Cx}{pins:List (Addr × Obj)}{σ:St}{H:Hp}{s:Shared}{x y:V}{u v:Value}{a b:α}(A:Around),X.K=K->Inv X pins σ H s->A.units+k<cLine->RelV x u->RelV y v->R H x a->R H y b->SeqAt.EqAt A s u v (decide (a=b))
 rc:∀ {X:Cx}{pins:List (Addr × Obj)}{σ:St}{H:Hp}{s:Shared}{x y:V}{u v:Value}{a b:α}(A:Around),X.K=K->Inv X pins σ H s->A.units+k<cLine->RelV x u->RelV y v->R H x a->R H y b->SeqAt.RcAt A s u v (decide (a=b))/\SeqAt.RcNeAt A s u v (!decide (a=b))
theorem dec_beq {α:Type}[DecidableEq α][BEq α][LawfulBEq α](a b:α):(a == b)=decide (a=b):=by
 by_cases h:a=b
 ·subst h;simp
 ·rw [decide_eq_false h];simpa using h
theorem Paired.at' {α β:Type}{F:α->β->Prop}:∀ {l₁:List α}{l₂:List β}{i:Nat}{a:α}{b:β},Paired F l₁ l₂->l₁[i]? = some a->l₂[i]? = some b->F a b
 | _,_,_,_,_,.nil,e,_=>by simp at e
 | _,_,0,_,_,.cons h _,e1,e2=>by simp at e1 e2;subst e1;subst e2;exact h
 | _,_,i+1,_,_,.cons _ t,e1,e2=>Paired.at' (i:=i) t (by simpa using e1) (by simpa using e2)
theorem Ev {α β:Type}{F:α->β->Prop}(hf:∀ a b c,F a b->F a c->b=c):∀ {xs:List α}{as bs:List β},Paired F xs as->Paired F xs bs->as=bs
 | _,_,_,.nil,.nil=>rfl
 | _,_,_,.cons h t,.cons h' t'=>by rw [hf _ _ _ h h',Ev hf t t']
theorem all_dec {α:Type}[DecidableEq α]:∀ (as bs:List α) (hl:as.length=bs.length),((List.range as.length).all fun j=>decide (as[j]? = bs[j]?))=decide (as=bs):=by
 intro as bs hl;apply Bool.eq_iff_iff.mpr;rw [decide_eq_true_iff,List.all_eq_true];constructor
 ·intro h;apply List.ext_getElem?;intro i;by_cases hi:i<as.length
  ·exact of_decide_eq_true (h i (List.mem_range.mpr hi))
  ·rw [List.getElem?_eq_none (by omega),List.getElem?_eq_none (by omega)]
 ·rintro rfl i _;simp
theorem GZ {K:FZ9}{k:Nat}{α:Type}[DecidableEq α]{R:Hp->V->α->Prop}(E:EqTy K k R){X:Cx}{pins:List (Addr × Obj)}{σ:St}{H:Hp}{s:Shared}{A:Around}(hK:X.K=K)(I:Inv X pins σ H s)(hu:A.units+(k+1)<cLine)
  {xs ys:List V}{us vs:List Value}{as bs:List α}(rx:Vals xs us) (ry:Vals ys vs) (px:Paired (R H) xs as) (py:Paired (R H) ys bs) :
  ∀ j (h1:j<us.toArray.size) (h2:j<vs.toArray.size),SeqAt.EqAt A.in1 s us.toArray[j] vs.toArray[j] (decide (as[j]? = bs[j]?)):=by
 intro j h1 h2;have h1':j<us.length:=by simpa using h1
 have h2':j<vs.length:=by simpa using h2
 have lx:=rx.length;have ly:=ry.length;have lpx:=Paired.length px;have lpy:=Paired.length py;have ex:xs[j]? = some xs[j]:=qpA (by omega);have ey:ys[j]? = some ys[j]:=qpA (by omega);have ea:as[j]? = some as[j]:=qpA (by omega);have eb:bs[j]? = some bs[j]:=qpA (by omega);obtain ⟨u,hu',ru⟩:=rx.get ex;obtain ⟨v,hv',rv⟩:=ry.get ey
 have e1:us.toArray[j]=u:=by
  rw [qpA h1'] at hu'
  simpa using hu'
 have e2:vs.toArray[j]=v:=by
  rw [qpA h2'] at hv'
  simpa using hv'
 rw [e1,e2,ea,eb];have:=E.eq A.in1 hK I (show A.units+1+k<cLine by omega) ru rv (Paired.at' px ex ea) (Paired.at' py ey eb);have e3:decide (some as[j]=some bs[j])=decide (as[j]=bs[j]):=by simp
 rw [e3];exact this
class Rp (α:Type) where
 rel:FZ9->Hp->V->α->Prop
 mono:∀ {K:FZ9}{H H':Hp}{v:V}{a:α},Same H H'->rel K H v a->rel K H' v a
theorem Same.rd {H H':Hp}{a:Addr}{u:HO}(s:Same H H')(h:Rd H a u):Rd H' a u:=by
 rcases h with h | ⟨o,h⟩
 ·exact .inl (s _ _ h)
 ·exact .inr ⟨o,s _ _ h⟩
theorem Same.tup {K:FZ9}{H H':Hp}{a:Addr}{xs:List V}(e:Same H H')(h:SqT K H a xs):SqT K H' a xs:=by
 rcases h with h|h
 ·exact .inl (e.rd h)
 ·exact .inr h
instance rpInt:Rp Int:=⟨fun _ _ v a=>v = .int a,fun _ h=>h⟩
instance rpBool:Rp Bool:=⟨fun _ _ v a=>v = .bl a,fun _ h=>h⟩
instance rpStr:Rp Str:=⟨fun _ _ v a=>v = .str a/\a.length<=sizeLine,fun _ h=>h⟩
instance rpUnit:Rp Unit:=⟨fun _ _ v _=>v = .non,fun _ h=>h⟩
instance rpList {α:Type}[Rp α]:Rp (List α) :=
 ⟨fun K H v as=>∃ l xs,v = .ref l/\Rd H l (.lst xs)/\xs.length<=sizeLine/\Paired (Rp.rel K H) xs as,
  fun s ⟨l,xs,e,h,z,p⟩=>⟨l,xs,e,s.rd h,z,Paired.imp' (fun _ _ r=>Rp.mono s r) p⟩⟩
instance rpPair {α β:Type}[Rp α][Rp β]:Rp (α × β) :=
 ⟨fun K H v p=>∃ t a b,v = .ref t/\SqT K H t [a,b]/\Rp.rel K H a p.1/\Rp.rel K H b p.2,
  fun s ⟨t,a,b,e,h,r1,r2⟩=>⟨t,a,b,e,s.tup h,Rp.mono s r1,Rp.mono s r2⟩⟩
structure T3 (α β γ:Type) where
 a:α
 b:β
 c:γ
 deriving DecidableEq
structure T4 (α β γ δ:Type) where
 a:α
 b:β
 c:γ
 d:δ
 deriving DecidableEq
structure Tp (α:Type) where
 l:List α
 deriving DecidableEq
instance rpTp {α:Type}[Rp α]:Rp (Tp α) :=
 ⟨fun K H v as=>∃ t xs,v = .ref t/\SqT K H t xs/\xs.length<=sizeLine/\Paired (Rp.rel K H) xs as.l,
  fun s ⟨l,xs,e,h,z,p⟩=>⟨l,xs,e,s.tup h,z,Paired.imp' (fun _ _ r=>Rp.mono s r) p⟩⟩
instance rpOpt {α:Type}[Rp α]:Rp (Option α) :=
 ⟨fun K H v o=>match o with|none=>v = .non|some a=>Rp.rel K H v a,
  fun {K H H' v o} s h=>by cases o with|none=>exact h|some a=>exact Rp.mono (α:=α) s h⟩
class RpA (α:Type) where
 n:Nat
 rel:FZ9->Hp->List V->α->Prop
 mono:∀ {K:FZ9}{H H':Hp}{v:List V}{a:α},Same H H'->rel K H v a->rel K H' v a
 len:∀ {K:FZ9}{H:Hp}{v:List V}{a:α},rel K H v a->v.length=n
instance raNil:RpA Unit:=⟨0,fun _ _ vs _=>vs=[],fun _ h=>h,fun h=>by rw [h];rfl⟩
instance raCons {α β:Type}[Rp α][RpA β]:RpA (α × β) :=
 ⟨RpA.n β+1,fun K H vs p=>∃ v r,vs=v::r/\Rp.rel K H v p.1/\RpA.rel K H r p.2,
  fun s ⟨v,r,e,h1,h2⟩=>⟨v,r,e,Rp.mono s h1,RpA.mono s h2⟩,fun ⟨v,r,e,h1,h2⟩=>by rw [e,qfA,RpA.len h2]⟩
structure Ext (G H G' H':Hp):Prop where
 gg:Same G G'
 gh:Same G' H'
 hh:Same H H'
 no:∀ b,G b=none->H b≠none->G' b=none
section
variable {G H G1 H1 G2 H2 G0 H0:Hp}{p:Addr}{o:HO}
theorem Ext.refl (s:Same G H):Ext G H G H:=⟨.refl _,s,.refl _,fun _ h _=>h⟩
theorem Ext.trans (x:Ext G H G1 H1)(y:Ext G1 H1 G2 H2):Ext G H G2 H2 :=
 ⟨x.gg.trans y.gg,y.gh,x.hh.trans y.hh,fun b h1 h2=>y.no b (x.no b h1 h2) fun z=>h2 (x.hh.free z)⟩
theorem Same.both (s:Same G H):Same (upd G p o) (upd H p o):=fun b u e=>by
 by_cases hb:b=p
 ·subst hb;rw [AX] at e ⊢;exact e
 ·rw [Aq hb] at e ⊢;exact s b u e
theorem Ext.new (s:Same G H)(h:H p=none):Ext G H (upd G p o) (upd H p o) :=
 ⟨Same.new (s.free h),s.both,Same.new h,fun b h1 h2=>by
  have hb:b≠p:=fun z=>h2 (by rw [z];exact h);rw [Aq hb]
  exact h1⟩
theorem Ext.own (s:Same G H)(h:H p=none):Ext G H G (upd H p o):=⟨.refl _,s.trans (Same.new h),Same.new h,fun _ h _=>h⟩
theorem Ext.put (x:Ext G0 H0 G H)(h0:H0 p=none)(hg:G p=none):Ext G0 H0 G (upd H p o):=⟨x.gg,x.gh.put hg,x.hh.put h0,x.no⟩
theorem Ext.frz (x:Ext G0 H0 G H)(h0:H0 p=none)(hg:G p=none)(hh:H p=some o):Ext G0 H0 (upd G p o) H :=
 ⟨x.gg.trans (Same.new hg),fun b u e=>by
  by_cases hb:b=p
  ·subst hb;rw [AX] at e;rw [hh];exact e
  ·rw [Aq hb] at e
   exact x.gh b u e,x.hh,fun b h1 h2=>by
  have hb:b≠p:=fun z=>h2 (by rw [z];exact h0);rw [Aq hb]
  exact x.no b h1 h2⟩
end
section
variable {K:FZ9}{σ:St}{G:Hp}
def EV (K:FZ9){α:Type}[Rp α](te:TE)(σ:St)(G:Hp)(m:Option α):Prop :=
 ∀ G1,Same G G1->∀ a,m=some a->∀ H,Same G1 H->∀ Q:VK,(∀ v G2 H2,Ext G1 H G2 H2->Rp.rel K G2 v a->Q v H2)->te σ H Q
def TV (t:TT)(σ:St)(G:Hp)(m:Option Bool):Prop :=
 ∀ G1,Same G G1->∀ a,m=some a->∀ H,Same G1 H->∀ Q:Bool->Hp->Prop,(∀ G2 H2,Ext G1 H G2 H2->Q a H2)->t σ H Q
def AV (K:FZ9){α:Type}[RpA α](t:TA)(σ:St)(G:Hp)(m:Option α):Prop :=
 ∀ G1,Same G G1->∀ a,m=some a->∀ H,Same G1 H->∀ Q:List V->Hp->Prop,(∀ vs G2 H2,Ext G1 H G2 H2->RpA.rel K G2 vs a->Q vs H2)->t σ H Q
def LV (K:FZ9){α:Type}[Rp α](t:TA)(σ:St)(G:Hp)(n:Nat)(m:Option (List α)):Prop :=
 ∀ G1,Same G G1->∀ a,m=some a->∀ H,Same G1 H->∀ Q:List V->Hp->Prop,(∀ vs G2 H2,Ext G1 H G2 H2->vs.length=n->Paired (Rp.rel K G2) vs a->Q vs H2)->t σ H Q
def OV (t:TO)(σ:St)(G:Hp)(m:Option (Option Int)):Prop :=
 ∀ G1,Same G G1->∀ a,m=some a->∀ H,Same G1 H->∀ Q:Option Int->Hp->Prop,(∀ G2 H2,Ext G1 H G2 H2->Q a H2)->t σ H Q
def FV (K:FZ9){α:Type}[Rp α](te:TE)(σ:St)(G:Hp)(m:Option (List α)):Prop :=
 ∀ G1,Same G G1->∀ a,m=some a->∀ H,Same G1 H->∀ Q:VK,(∀ p vs G2 H2,Ext G1 H G2 H2->H p=none->G2 p=none->H2 p=some (.lst vs)->vs.length<=sizeLine->Paired (Rp.rel K G2) vs a->Q (.ref p) H2)->te σ H Q
section
variable {α β γ δ:Type}[Rp α][Rp β][Rp γ][Rp δ]{ta tb tc td:TE}{ma:Option α}{mb:Option β}{mc:Option γ}
theorem EV.run {te:TE}{H:Hp}{a:α}{Q:VK}{m:Option α}(e:EV K te σ G m)(hm:m=some a)(s:Same G H)(k:∀ v G2 H2,Ext G H G2 H2->Rp.rel K G2 v a->Q v H2):te σ H Q:=e G (.refl G) a hm H s Q k
theorem TV.run {t:TT}{H:Hp}{a:Bool}{Q:Bool->Hp->Prop}{m:Option Bool}(e:TV t σ G m)(hm:m=some a)(s:Same G H)(k:∀ G2 H2,Ext G H G2 H2->Q a H2):t σ H Q:=e G (.refl G) a hm H s Q k
theorem EV.of {te:TE}{m m':Option α}(e:EV K te σ G m)(h:m=m'):EV K te σ G m':=h ▸ e
theorem FV.ev {te:TE}{m:Option (List α)}(e:FV K te σ G m):EV K te σ G m:=by
 intro G1 s1 a ha H sH Q k;refine e G1 s1 a ha H sH Q fun p vs G2 H2 x h0 hg hh hz hp=>?_;exact k _ _ _ (x.frz h0 hg hh) ⟨p,vs,rfl,.inl AX,hz,Paired.imp' (fun _ _ r=>Rp.mono (Same.new hg) r) hp⟩
theorem ev_var {i:Nat}{v:V}{a:α}(h:σ[i]? = some (some v))(r:Rp.rel K G v a):EV K (EB i) σ G (some a):=fun G1 s a' e H sH Q k=>by
 cases e;exact ⟨v,h,k v G1 H (.refl sH) (Rp.mono s r)⟩
theorem ev_c {v:V}{a:α}(h:∀ G,Rp.rel K G v a):EV K (tC v) σ G (some a):=fun G1 s a' e H sH Q k=>by
 cases e;exact k v G1 H (.refl sH) (h _)
theorem Af {i:Int}:EV K (tC (.int i)) σ G (some i):=ev_c fun _=>rfl
theorem GK {b:Bool}:EV K (tC (.bl b)) σ G (some b):=ev_c fun _=>rfl
theorem B8 {x:Str}(h:x.length<=sizeLine:=by decide +kernel):EV K (tC (.str x)) σ G (some x):=ev_c fun _=>⟨rfl,h⟩
theorem HQ {te:TE}{m:Option α}(e:EV K te σ G m):EV K te σ G (m.bind fun a=>some (some a)):=by
 clear 7;obtain ⟨a,ha,hc⟩:=qaA.mp hc;cases hc;exact e G1 s1 a ha H sH Q k
theorem BM {r:R2}{f:α->β->Option γ}
  (h:∀ {G H:Hp}{v u:V}{a:α}{b:β}{c:γ},Same G H->Rp.rel K G v a->Rp.rel K G u b->f a b=some c->∀ {Q:VK},(∀ w G2 H2,Ext G H G2 H2->Rp.rel K G2 w c->Q w H2)->r v u H Q)
  (ea:EV K ta σ G ma) (eb:EV K tb σ G mb):EV K (tOp r ta tb) σ G (ma.bind fun a=>mb.bind fun b=>f a b):=by
 clear 7;obtain ⟨a,ha,hc⟩:=qaA.mp hc;obtain ⟨b,hb,hc⟩:=qaA.mp hc;clear 8 ea a ha;refine eb G2 (s1.trans x2.gg) b hb H2 x2.gh _ fun u G3 H3 x3 r3=>?_;exact h x3.gh (Rp.mono x3.gg r2) r3 hc fun w G4 H4 x4 r4=>k w G4 H4 ((x2.trans x3).trans x4) r4
theorem ev_un {r:V->Hp->VK->Prop}{f:α->Option γ}
  (h:∀ {G H:Hp}{v:V}{a:α}{c:γ},Same G H->Rp.rel K G v a->f a=some c->∀ {Q:VK},(∀ w G2 H2,Ext G H G2 H2->Rp.rel K G2 w c->Q w H2)->r v H Q)
  (ea:EV K ta σ G ma):EV K (tUn r ta) σ G (ma.bind fun a=>f a):=by
 clear 7;obtain ⟨a,ha,hc⟩:=qaA.mp hc;clear 8 ea a ha;exact h x2.gh r2 hc fun w G4 H4 x4 r4=>k w G4 H4 (x2.trans x4) r4
instance decMul (i j:Int):Decidable (CMul i j):=by unfold CMul;infer_instance
instance decDiv (i j:Int):Decidable (Go i j):=by unfold Go;infer_instance
def IF (a b:Int):Option Int:=if CMul a b then some (a * b) else none
def IA (a b:Int):Option Int:=if Go a b then some (a / b) else none
def GO (a b:Int):Option Int:=if 0<b then some (a % b) else none
theorem B7 {p:Prop}[Decidable p]{α:Type}{a c:α}(h:(if p then some a else none)=some c):p/\a=c:=by
 by_cases hp:p
 ·rw [if_pos hp] at h;exact ⟨hp,qtA h⟩
 ·rw [if_neg hp] at h;cases h
section
variable {ia ib:Option Int}
theorem Bx (ea:EV K ta σ G ia)(eb:EV K tb σ G ib):EV K (tOp (Fu K) ta tb) σ G (ia.bind fun a=>ib.bind fun b=>some (a+b)) :=
 BM (fun s ra rb e Q k=>by cases ra;cases rb;cases e;exact k _ _ _ (.refl s) rfl) ea eb
theorem ev_sub (ea:EV K ta σ G ia)(eb:EV K tb σ G ib):EV K (tOp (rI0 fun i j=>.int (i - j)) ta tb) σ G (ia.bind fun a=>ib.bind fun b=>some (a - b)) :=
 BM (fun s ra rb e Q k=>by cases ra;cases rb;cases e;exact ⟨_,_,rfl,rfl,k _ _ _ (.refl s) rfl⟩) ea eb
theorem ev_mul (ea:EV K ta σ G ia)(eb:EV K tb σ G ib):EV K (tOp (rMul K) ta tb) σ G (ia.bind fun a=>ib.bind fun b=>IF a b) :=
 BM (fun s ra rb e Q k=>by cases ra;cases rb;obtain ⟨h,rfl⟩:=B7 e;exact ⟨h,k _ _ _ (.refl s) rfl⟩) ea eb
theorem FZ (ea:EV K ta σ G ia)(eb:EV K tb σ G ib):EV K (tOp (rI (fun _ j=>0<j) fun i j=>.int (i % j)) ta tb) σ G (ia.bind fun a=>ib.bind fun b=>GO a b) :=
 BM (fun s ra rb e Q k=>by cases ra;cases rb;obtain ⟨h,rfl⟩:=B7 e;exact ⟨_,_,rfl,rfl,h,k _ _ _ (.refl s) rfl⟩) ea eb
theorem ev_div (ea:EV K ta σ G ia)(eb:EV K tb σ G ib):EV K (tOp (rI Go fun i j=>.int (i / j)) ta tb) σ G (ia.bind fun a=>ib.bind fun b=>IA a b) :=
 BM (fun s ra rb e Q k=>by cases ra;cases rb;obtain ⟨h,rfl⟩:=B7 e;exact ⟨_,_,rfl,rfl,h,k _ _ _ (.refl s) rfl⟩) ea eb
theorem ev_neg (ea:EV K ta σ G ia):EV K (tUn (rU fun i=>.int (-i)) ta) σ G (ia.bind fun a=>some (-a)) :=
 ev_un (fun s ra e Q k=>by cases ra;cases e;exact ⟨_,rfl,k _ _ _ (.refl s) rfl⟩) ea
theorem Dj {p:Int->Int->Bool}{q:List Nat->List Nat->Bool}(ea:EV K ta σ G ia)(eb:EV K tb σ G ib):EV K (tOp (Hj p q) ta tb) σ G (ia.bind fun a=>ib.bind fun b=>some (p a b)) :=
 BM (fun s ra rb e Q k=>by cases ra;cases rb;cases e;exact k _ _ _ (.refl s) rfl) ea eb
theorem CJ (ea:EV K ta σ G ia)(eb:EV K tb σ G ib):EV K (tOp rEq ta tb) σ G (ia.bind fun a=>ib.bind fun b=>some (decide (a=b))) :=
 BM (fun s ra rb e Q k=>by cases ra;cases rb;cases e;exact ⟨rfl,k _ _ _ (.refl s) (by show V.bl _=V.bl _;congr 1;simp)⟩) ea eb
theorem ev_neI (ea:EV K ta σ G ia)(eb:EV K tb σ G ib):EV K (tOp rNe ta tb) σ G (ia.bind fun a=>ib.bind fun b=>some (!decide (a=b))) :=
 BM (fun s ra rb e Q k=>by cases ra;cases rb;cases e;exact ⟨rfl,k _ _ _ (.refl s) (by show V.bl _=V.bl _;congr 1;simp)⟩) ea eb
end
section
variable {ba bb:Option Bool}
theorem FP (ea:EV K ta σ G ba)(eb:EV K tb σ G bb):EV K (tAndV ta tb) σ G (ba.bind fun a=>cond a bb (some false)):=by
 clear 7;obtain ⟨a,ha,hc⟩:=qaA.mp hc;clear 8 ea a ha;cases r2;refine ⟨_,rfl,?_⟩
 cases a with
 | false=>cases hc;exact Bl (k _ _ _ x2 rfl)
 | true=>exact Bq (eb G2 (s1.trans x2.gg) c hc H2 x2.gh _ fun u G3 H3 x3 r3=>k _ _ _ (x2.trans x3) r3)
theorem AU (ea:EV K ta σ G ba):TV (tTest ta) σ G ba:=by
 clear 7;clear 8 ea c hc;cases r2;exact ⟨_,rfl,k _ _ x2⟩
theorem CV {t:TT}(ea:TV t σ G ba):TV (tNot t) σ G (ba.bind fun a=>some (!a)):=by
 clear 7;obtain ⟨a,ha,hc⟩:=qaA.mp hc;cases hc;exact ea G1 s1 a ha H sH _ fun G2 H2 x2=>k _ _ x2
theorem Dz {t u:TT}(ea:TV t σ G ba)(eb:TV u σ G bb):TV (tOr t u) σ G (ba.bind fun a=>cond a (some true) bb):=by
 clear 7;obtain ⟨a,ha,hc⟩:=qaA.mp hc;refine ea G1 s1 a ha H sH _ fun G2 H2 x2=>?_
 cases a with
 | true=>cases hc;exact Bq (k _ _ x2)
 | false=>exact Bl (eb G2 (s1.trans x2.gg) c hc H2 x2.gh _ fun G3 H3 x3=>k _ _ (x2.trans x3))
theorem tv_tru {f:α->Bool}(h:∀ {G:Hp}{v:V}{a:α},Rp.rel K G v a->TruV K v G (f a))(mn:∀ {G H:Hp}{v:V}{k:Bool},Same G H->TruV K v G k->TruV K v H k)(ea:EV K ta σ G ma) :
  TV (fun σ H Q=>ta σ H fun x H'=>∃ k,TruV K x H' k/\Q k H') σ G (ma.bind fun a=>some (f a)):=by
 clear 7;obtain ⟨a,ha,hc⟩:=qaA.mp hc;cases hc;clear 8 ea a ha;exact ⟨_,mn x2.gh (h r2),k _ _ x2⟩
end
end
end
section
variable {K:FZ9}{σ:St}{G:Hp}{α β γ δ:Type}[Rp α][Rp β][Rp γ][Rp δ]{ta tb tc td:TE}{ma:Option α}{mb:Option β}{mc:Option γ}{md:Option δ}
section
variable {sa sb:Option Str}{ia ib:Option Int}
def Cq (a b:Str):Option Str:=if a.length+b.length<=sizeLine then some (a++b) else none
theorem B4 (ea:EV K ta σ G sa)(eb:EV K tb σ G sb):EV K (tOp (Fu K) ta tb) σ G (sa.bind fun a=>sb.bind fun b=>Cq a b) :=
 BM (fun s ra rb e Q k=>by
  obtain ⟨rfl,z1⟩:=ra;obtain ⟨rfl,z2⟩:=rb;obtain ⟨h,rfl⟩:=B7 e
  exact ⟨h,k _ _ _ (.refl s) ⟨rfl,by rw [len_app];exact h⟩⟩) ea eb
theorem FO {p:Int->Int->Bool}{q:List Nat->List Nat->Bool}(ea:EV K ta σ G sa)(eb:EV K tb σ G sb):EV K (tOp (Hj p q) ta tb) σ G (sa.bind fun a=>sb.bind fun b=>some (q a.cps.toList b.cps.toList)) :=
 BM (fun s ra rb e Q k=>by obtain ⟨rfl,z1⟩:=ra;obtain ⟨rfl,z2⟩:=rb;cases e;exact k _ _ _ (.refl s) rfl) ea eb
theorem Dl (ea:EV K ta σ G sa)(eb:EV K tb σ G sb):EV K (tOp rEq ta tb) σ G (sa.bind fun a=>sb.bind fun b=>some (decide (a=b))) :=
 BM (fun s ra rb e Q k=>by obtain ⟨rfl,z1⟩:=ra;obtain ⟨rfl,z2⟩:=rb;cases e;exact ⟨rfl,k _ _ _ (.refl s) (by show V.bl _=V.bl _;congr 1;simp)⟩) ea eb
theorem ev_neS (ea:EV K ta σ G sa)(eb:EV K tb σ G sb):EV K (tOp rNe ta tb) σ G (sa.bind fun a=>sb.bind fun b=>some (!decide (a=b))) :=
 BM (fun s ra rb e Q k=>by obtain ⟨rfl,z1⟩:=ra;obtain ⟨rfl,z2⟩:=rb;cases e;exact ⟨rfl,k _ _ _ (.refl s) (by show V.bl _=V.bl _;congr 1;simp)⟩) ea eb
theorem ev_atS (ea:EV K ta σ G sa)(eb:EV K tb σ G ib):EV K (tOp (rAt K) ta tb) σ G (sa.bind fun a=>ib.bind fun i=>(atI a.cps.toList i).bind fun c=>some (⟨#[c]⟩:Str)) :=
 BM (fun s ra rb e Q k=>by
  obtain ⟨rfl,z1⟩:=ra;cases rb;obtain ⟨c,hc,e⟩:=qaA.mp e;cases e
  exact ⟨z1,c,hc,k _ _ _ (.refl s) ⟨rfl,by show 1<=sizeLine;decide⟩⟩) ea eb
end
theorem DE {R:V->α->Prop}{xs:List V}{as:List α}{i:Int}{a:α}(p:Paired R xs as)(h:atI as i=some a):∃ v,atI xs i=some v/\R v a:=by
 have hl:=Paired.length p;unfold atI at h ⊢;obtain ⟨j,hj,h⟩:=qaA.mp h;rw [hl,hj]
 have hlt:j<xs.length:=by
  have:=(qoA.mp h).1;omega
 exact ⟨xs[j],qpA hlt,Paired.at' p (qpA hlt) h⟩
theorem Paired.app {α β:Type}{F:α->β->Prop}:∀ {l1 l2:List α}{m1 m2:List β},Paired F l1 m1->Paired F l2 m2->Paired F (l1++l2) (m1++m2)
 | _,_,_,_,.nil,h=>h
 | _,_,_,_,.cons r t,h=>.cons r (Paired.app t h)
theorem Paired.tk {α β:Type}{F:α->β->Prop}:∀ (n:Nat) {l:List α}{m:List β},Paired F l m->Paired F (l.take n) (m.take n)
 | 0,_,_,_=>by simpa using .nil
 | n+1,_,_,.nil=>by simpa using .nil
 | n+1,_,_,.cons r t=>.cons r (Paired.tk n t)
theorem Paired.dp {α β:Type}{F:α->β->Prop}:∀ (n:Nat) {l:List α}{m:List β},Paired F l m->Paired F (l.drop n) (m.drop n)
 | 0,_,_,h=>h
 | n+1,_,_,.nil=>by simpa using .nil
 | n+1,_,_,.cons r t=>Paired.dp n t
section
variable {la lb:Option (List α)}{ia ib:Option Int}
theorem Cy (ea:EV K ta σ G la)(eb:EV K tb σ G ib):EV K (tOp (rAt K) ta tb) σ G (la.bind fun a=>ib.bind fun i=>atI a i) :=
 BM (fun s ra rb e Q k=>by
  obtain ⟨l,xs,rfl,h,z,p⟩:=ra;cases rb;obtain ⟨v,hv,r⟩:=DE p e
  exact .inl ⟨xs,v,.inl (s.rd h),hv,k _ _ _ (.refl s) r⟩) ea eb
theorem Bb {pa:Option (Tp α)}(ea:EV K ta σ G pa)(eb:EV K tb σ G ib):EV K (tOp (rAt K) ta tb) σ G (pa.bind fun a=>ib.bind fun i=>atI a.l i) :=
 BM (fun s ra rb e Q k=>by
  obtain ⟨l,xs,rfl,h,z,p⟩:=ra;cases rb;obtain ⟨v,hv,r⟩:=DE p e
  exact .inr ⟨xs,v,s.tup h,hv,k _ _ _ (.refl s) r⟩) ea eb
theorem HX {τ:Type}[Rp τ]{mt:Option τ}{i:Int}{f:τ->α}(h:∀ {G:Hp}{v:V}{p:τ},Rp.rel K G v p->∃ t xs w,v = .ref t/\SqT K G t xs/\atI xs i=some w/\Rp.rel K G w (f p))(ea:EV K ta σ G mt) :
  EV K (tOp (rAt K) ta (tC (.int i))) σ G (mt.bind fun p=>some (f p)):=by
 clear 7;obtain ⟨a,ha,hc⟩:=qaA.mp hc;cases hc;clear 8 ea a ha;obtain ⟨t,xs,w,rfl,ht,hw,r⟩:=h r2;exact .inr ⟨xs,w,x2.gh.tup ht,hw,k _ _ _ x2 r⟩
theorem Dg {mt:Option (α × β)}(ea:EV K ta σ G mt):EV K (tOp (rAt K) ta (tC (.int 0))) σ G (mt.bind fun p=>some p.1) :=
 HX (τ:=α × β) (fun ⟨t,a,b,e,h,r1,r2⟩=>⟨t,_,a,e,h,rfl,r1⟩) ea
theorem ev_snd {mt:Option (α × β)}(ea:EV K ta σ G mt):EV K (tOp (rAt K) ta (tC (.int 1))) σ G (mt.bind fun p=>some p.2) :=
 HX (τ:=α × β) (fun ⟨t,a,b,e,h,r1,r2⟩=>⟨t,_,b,e,h,rfl,r2⟩) ea
theorem fv_of {H:Hp}{Q:VK}{as:List α}{G1:Hp}(s:Same G1 H){vs:List V}(hz:vs.length<=sizeLine)(hp:Paired (Rp.rel K G1) vs as)
  (k:∀ p vs G2 H2,Ext G1 H G2 H2->H p=none->G2 p=none->H2 p=some (.lst vs)->vs.length<=sizeLine->Paired (Rp.rel K G2) vs as->Q (.ref p) H2):∀ p,H p=none->Q (.ref p) (upd H p (.lst vs)) :=
 fun p h=>k p vs G1 _ (.own s h) h (s.free h) AX hz hp
theorem FV.mono {H H' G1 G2:Hp}{as:List α}{Q:VK}(x:Ext G1 H G2 H')
  (k:∀ p vs G3 H3,Ext G1 H G3 H3->H p=none->G3 p=none->H3 p=some (.lst vs)->vs.length<=sizeLine->Paired (Rp.rel K G3) vs as->Q (.ref p) H3) :
  ∀ p vs G3 H3,Ext G2 H' G3 H3->H' p=none->G3 p=none->H3 p=some (.lst vs)->vs.length<=sizeLine->Paired (Rp.rel K G3) vs as->Q (.ref p) H3 :=
 fun p vs G3 H3 y h0=>k p vs G3 H3 (x.trans y) (x.hh.free h0)
def cutA {α:Type}(xs:List α)(lo hi:Option Int):List α:=(xs.drop (HT.sIx xs.length 0 lo)).take (HT.sIx xs.length xs.length hi - HT.sIx xs.length 0 lo)
theorem Paired.cut {α:Type}{R:V->α->Prop}{xs:List V}{as:List α}(p:Paired R xs as)(lo hi:Option Int):Paired R (Gu xs lo hi) (cutA as lo hi):=by
 unfold Gu cutA;rw [Paired.length p];exact Paired.tk _ (Paired.dp _ p)
section
variable {t1 t2:TO}{m1 m2:Option (Option Int)}
theorem ov_none:OV HG σ G (some none):=fun G1 s1 a ha H sH Q k=>by
 cases ha;exact k _ _ (.refl sH)
theorem ov_some (ea:EV K ta σ G ia):OV (tPart ta) σ G (ia.bind fun i=>some (some i)):=by
 clear 7;obtain ⟨a,ha,hc⟩:=qaA.mp hc;cases hc;clear 8 ea a ha;cases r2;exact ⟨_,rfl,k _ _ x2⟩
end
end
section
variable {t:TA}{n:Nat}{ml:Option (List α)}
theorem BL:LV K C8 σ G 0 (some ([]:List α)):=fun G1 s1 a ha H sH Q k=>by
 cases ha;exact k _ _ _ (.refl sH) rfl .nil
theorem AF (ea:EV K ta σ G ma)(er:LV K t σ G n ml):LV K (An ta t) σ G (n+1) (ma.bind fun a=>ml.bind fun r=>some (a::r)):=by
 clear 7;obtain ⟨a,ha,hc⟩:=qaA.mp hc;obtain ⟨r,hr,hc⟩:=qaA.mp hc;cases hc;clear 8 ea a ha;refine er G2 (s1.trans x2.gg) r hr H2 x2.gh _ fun vs G3 H3 x3 hl hp=>?_;exact k _ _ _ (x2.trans x3) (by rw [qfA,hl]) (.cons (Rp.mono x3.gg r2) hp)
theorem F4 (e:LV K t σ G n ml)(hn:n<=sizeLine:=by decide):FV K (tLst t) σ G ml:=by
 clear 7;refine e G1 s1 c hc H sH _ fun vs G2 H2 x2 hl hp=>?_;exact ⟨by omega,fv_of x2.gh (by omega) hp (FV.mono x2 k)⟩
theorem ev_tupL (e:LV K t σ G n ml)(hn:n<=sizeLine:=by decide):EV K (tTup t) σ G (ml.bind fun l=>some (Tp.mk l)):=by
 clear 7;obtain ⟨l,hl,hc⟩:=qaA.mp hc;cases hc;refine e G1 s1 l hl H sH _ fun vs G2 H2 x2 hl hp=>⟨by omega,fun p h=>?_⟩;exact k _ _ _ (x2.trans (.new x2.gh h)) ⟨p,vs,rfl,SqT.of AX,by omega,Paired.imp' (fun _ _ r=>Rp.mono (Same.new (x2.gh.free h)) r) hp⟩
theorem EJ (ea:EV K ta σ G ma)(eb:EV K tb σ G mb):EV K (tTup (An ta (An tb C8))) σ G (ma.bind fun a=>mb.bind fun b=>some (a,b)):=by
 clear 7;obtain ⟨a,ha,hc⟩:=qaA.mp hc;obtain ⟨b,hb,hc⟩:=qaA.mp hc;cases hc;clear 8 ea a ha;refine eb G2 (s1.trans x2.gg) b hb H2 x2.gh _ fun u G3 H3 x3 r3=>⟨by show 2<=sizeLine;decide,fun p h=>?_⟩;have s:=Same.new (o:=.tup [v,u]) (x3.gh.free h);exact k _ _ _ ((x2.trans x3).trans (.new x3.gh h)) ⟨p,v,u,rfl,SqT.of AX,Rp.mono (x3.gg.trans s) r2,Rp.mono s r3⟩
end
section
variable {t:TA}{A B:Type}[RpA A][RpA B]{mA:Option A}
theorem DK:AV K C8 σ G (some ()):=fun G1 s1 a ha H sH Q k=>by
 cases ha;exact k _ _ _ (.refl sH) rfl
theorem Fe (ea:EV K ta σ G ma)(er:AV K t σ G mA):AV K (An ta t) σ G (ma.bind fun a=>mA.bind fun r=>some (a,r)):=by
 clear 7;obtain ⟨a,ha,hc⟩:=qaA.mp hc;obtain ⟨r,hr,hc⟩:=qaA.mp hc;cases hc;clear 8 ea a ha;refine er G2 (s1.trans x2.gg) r hr H2 x2.gh _ fun vs G3 H3 x3 hp=>?_;exact k _ _ _ (x2.trans x3) ⟨v,vs,rfl,Rp.mono x3.gg r2,hp⟩
def spM (K:FZ9){A:Type}{ρ:Type}[RpA A][Rp ρ](m:A->Option ρ):Sp:=fun vs H Q _ =>
 ∃ G a r,Same G H/\RpA.rel K G vs a/\m a=some r/\∀ v G2 H2,Ext G H G2 H2->Rp.rel K G2 v r->Q v H2
theorem CL {A:Type}{ρ:Type}[RpA A][Rp ρ]{m:A->Option ρ}{vs:List V}{H:Hp}{Q:VK}{E:XK}(h:spM K m vs H Q E):vs.length=RpA.n A:=by
 obtain ⟨G,a,r,_,h,_⟩:=h;exact RpA.len h
theorem Dn {la:Option (List α)}(ea:EV K ta σ G la):EV K (tCB (Gv K) (An ta C8)) σ G (la.bind fun a=>some (a.length:Int)):=by
 clear 7;obtain ⟨a,ha,hc⟩:=qaA.mp hc;cases hc;clear 8 ea a ha;obtain ⟨l,xs,rfl,h,z,p⟩:=r2;exact ⟨xs,.inl (.inl (x2.gh.rd h)),by rw [Paired.length p];exact k _ _ _ x2 rfl⟩
theorem Ci {la:Option (Tp α)}(ea:EV K ta σ G la):EV K (tCB (Gv K) (An ta C8)) σ G (la.bind fun a=>some (a.l.length:Int)):=by
 clear 7;obtain ⟨a,ha,hc⟩:=qaA.mp hc;cases hc;clear 8 ea a ha;obtain ⟨l,xs,rfl,h,z,p⟩:=r2;exact ⟨xs,.inr (x2.gh.tup h),by rw [Paired.length p];exact k _ _ _ x2 rfl⟩
theorem ev_lenS {sa:Option Str}(ea:EV K ta σ G sa):EV K (tCB (Gv K) (An ta C8)) σ G (sa.bind fun a=>some (a.length:Int)):=by
 clear 7;obtain ⟨a,ha,hc⟩:=qaA.mp hc;cases hc;clear 8 ea a ha;obtain ⟨rfl,z⟩:=r2;exact ⟨z,k _ _ _ x2 rfl⟩
theorem ev_min {ia ib:Option Int}(ea:EV K ta σ G ia)(eb:EV K tb σ G ib):EV K (tCB (fun xs H Q=>∃ i j,xs=[.int i,.int j]/\Q (.int (if j<i then j else i)) H) (An ta (An tb C8))) σ G (ia.bind fun a=>ib.bind fun b=>some (if b<a then b else a)):=by
 clear 7;obtain ⟨a,ha,hc⟩:=qaA.mp hc;obtain ⟨b,hb,hc⟩:=qaA.mp hc;cases hc;clear 8 ea a ha;refine eb G2 (s1.trans x2.gg) b hb H2 x2.gh _ fun u G3 H3 x3 r3=>?_;cases r2;cases r3;exact ⟨_,_,rfl,k _ _ _ (x2.trans x3) rfl⟩
end
inductive TyS (K:FZ9)(H:Hp):V->String->Prop where
 | non:TyS K H .non "NoneType"
 | bl (x:Bool):TyS K H (.bl x) "bool"
 | int (i:Int):TyS K H (.int i) "int"
 | str (x:Str):TyS K H (.str x) "str"
 | lst {a:Addr}{xs:List V}(e:SqL K H a xs):TyS K H (.ref a) "list"
 | tup {a:Addr}{xs:List V}(e:SqT K H a xs):TyS K H (.ref a) "tuple"
 | dK {a:Addr}{kvs:List (Key × V)}(e:Rd H a (.dK kvs)):TyS K H (.ref a) "dict"
 | dT {a:Addr}{kvs:List (List Key × V)}(e:Rd H a (.dT kvs)):TyS K H (.ref a) "dict"
def HR (K:FZ9):List V->Hp->VK->Prop:=fun vs H Q=>∃ x t T b,vs=[x,.ty T]/\TyS K H x t/\Hq t T=some b/\Q (.bl b) H
theorem IC {X:Cx}:Dv X (.builtin "isinstance") (HR X.K):=by
 intro pins s σ H vs us Q I r h;obtain ⟨x,t,T,b,rfl,ty,e,q⟩:=h;obtain ⟨u,w',rfl,rx,r2⟩:=vals2 r;obtain rfl:w'=Value.type T:=r2;have e:=kit_of (K:=X.K) e;have fin:∀ tk,EP X pins σ Q (.bool b) { s with toks:=tk }:=fun tk=>⟨.bl b,H,I.tok tk,rfl,q⟩
 cases ty with
 | non=>cases (show u=Value.none from rx);exact PySem.W.kia_one PySem.W.kitx_none I.kIn True.intro e (fun z=>nomatch z) fin
 | bl y=>cases (show u=Value.bool y from rx);exact PySem.W.kia_one PySem.W.kitx_bool I.kIn True.intro e (fun z=>nomatch z) fin
 | int i=>obtain ⟨t,q'⟩:=(show ∃ t,u=Value.int i t from rx);cases q';exact PySem.W.kia_one PySem.W.kitx_int I.kIn True.intro e (fun z=>nomatch z) fin
 | str y=>obtain ⟨t,q'⟩:=(show ∃ t,u=Value.str y t from rx);cases q';exact PySem.W.kia_one PySem.W.kitx_str I.kIn True.intro e (fun z=>nomatch z) fin
 | @lst a xs ea =>
  cases (show u=Value.ref a from rx);obtain ⟨its,_,pl,_⟩:=I.list ea;obtain ⟨o,n,h1,h2,_⟩:=pl;exact PySem.W.kia_one PySem.W.kitx_list I.kIn ⟨o,h1,h2⟩ e (fun z=>nomatch z) fin
 | @tup a xs ea =>
  cases (show u=Value.ref a from rx);obtain ⟨its,_,pl,_⟩:=I.tuple ea;obtain ⟨o,h1,h2,_⟩:=pl;exact PySem.W.kia_one PySem.W.kitx_tuple I.kIn ⟨o,h1,h2⟩ e (fun z=>nomatch z) fin
 | @dK a kvs ea =>
  cases (show u=Value.ref a from rx);obtain ⟨_,_,vs,_,p⟩:=ea.ok I.hok;obtain ⟨o,es,ep,h1,h2,_⟩:=p;exact PySem.W.kia_one PySem.W.kitx_dict I.kIn ⟨o,h1,h2.1⟩ e (fun z=>nomatch z) fin
 | @dT a kvs ea =>
  cases (show u=Value.ref a from rx);obtain ⟨_,_,xs,_,o,es,ep,h1,h2,_⟩:=ea.ok I.hok;exact PySem.W.kia_one PySem.W.kitx_dict I.kIn ⟨o,h1,h2.1⟩ e (fun z=>nomatch z) fin
class RpT (α:Type) [Rp α] where
 tn:String
 ty:∀ {K:FZ9}{H:Hp}{v:V}{a:α},Rp.rel K H v a->TyS K H v tn
instance rtStr:RpT Str:=⟨"str",fun h=>by obtain ⟨rfl,_⟩:=h;exact .str _⟩
theorem TyS.mono {H H':Hp}{v:V}{t:String}(s:Same H H')(h:TyS K H v t):TyS K H' v t:=by
 cases h with
 | non=>exact .non
 | bl=>exact .bl _
 | int=>exact .int _
 | str=>exact .str _
 | lst e=>exact .lst (s.seq e)
 | tup e=>exact .tup (s.tup e)
 | dK e=>exact .dK (s.rd e)
 | dT e=>exact .dT (s.rd e)
theorem FE [RpT α]{T:String}{b:Bool}(h:Hq (RpT.tn α) T=some b)(ea:EV K ta σ G ma):EV K (tCB (HR K) (An ta (An (tC (.ty T)) C8))) σ G (ma.bind fun _=>some b):=by
 clear 7;obtain ⟨a,ha,hc⟩:=qaA.mp hc;cases hc;clear 8 ea a ha;exact ⟨_,_,_,_,rfl,(RpT.ty r2).mono x2.gh,h,k _ _ _ x2 rfl⟩
theorem EqTy.imp {k:Nat}{α:Type}[DecidableEq α]{R R':Hp->V->α->Prop}(E:EqTy K k R)(h:∀ H v a,R' H v a->R H v a):EqTy K k R' :=
 ⟨fun hK I a b=>E.fn hK I (h _ _ _ a) (h _ _ _ b),fun A hK I hu r1 r2 a b=>E.eq A hK I hu r1 r2 (h _ _ _ a) (h _ _ _ b),fun A hK I hu r1 r2 a b=>E.rc A hK I hu r1 r2 (h _ _ _ a) (h _ _ _ b)⟩
class RpE (α:Type) [Rp α] [DecidableEq α] where
 k:Nat
 ty:∀ K:FZ9,EqTy K k (Rp.rel (α:=α) K)
end
inductive Fl (S ρ:Type) where
 | nx (s:S)
 | bk (s:S)
 | rt (r:ρ)
def Cj {α S ρ:Type}(f:α->S->Option (Fl S ρ)):List α->S->Option (Fl S ρ)
 | [],s=>some (.nx s)
 | a::as,s=>(f a s).bind fun fl=>match fl with
  | .nx s'=>Cj f as s'
  | .bk s'=>some (.nx s')
  | .rt r=>some (.rt r)
def DG {S ρ:Type}(c:S->Option Bool)(f:S->Option (Fl S ρ)):Nat->S->Option (Fl S ρ)
 | 0,_=>none
 | n+1,s=>(c s).bind fun b=>cond b ((f s).bind fun fl=>match fl with
  | .nx s'=>DG c f n s'
  | .bk s'=>some (.nx s')
  | .rt r=>some (.rt r)) (some (.nx s))
def HS:Nat:=16777216
def rngO (lo hi:Int):Option (List Int):=if (-(2 ^ 62)<=lo/\lo<2 ^ 62/\-(2 ^ 62)<=hi/\hi<2 ^ 62)/\(hi - lo).toNat<=sizeLine then some ((List.range (hi - lo).toNat).map fun (i:Nat)=>lo+(i:Int)) else none
section
variable {K:FZ9}{σ:St}{G:Hp}{α β γ δ:Type}[Rp α][Rp β][Rp γ][Rp δ]{ta tb tc td:TE}{ma:Option α}{mb:Option β}{mc:Option γ}{md:Option δ}
def IW (K:FZ9){α:Type}[Rp α](wi:TI)(σ:St)(G:Hp)(m:Option (List α)):Prop :=
 ∀ G1,Same G G1->∀ a,m=some a->∀ H,Same G1 H->∀ R:It->Hp->Prop,(∀ J vs G2 H2,Ext G1 H G2 H2->Yields J G2 vs->vs.length<=sizeLine->Paired (Rp.rel K G2) vs a->R J H2)->wi σ H R
def FN (x:Str):List Str:=x.cps.toList.map fun c=>(⟨#[c]⟩:Str)
theorem FD (x:Str)(H:Hp):Paired (Rp.rel K H) (CU x) (FN x):=by
 unfold CU FN
 induction x.cps.toList with
 | nil=>exact .nil
 | cons c r ih=>exact .cons ⟨rfl,by show 1<=sizeLine;decide⟩ ih
theorem iw_str {sa:Option Str}(ea:EV K ta σ G sa):IW K (iAny K ta) σ G (sa.bind fun a=>some (FN a)):=by
 intro G1 s1 a ha H sH R k;obtain ⟨b,hb,ha⟩:=qaA.mp ha;cases ha;clear 8 ea b hb;obtain ⟨rfl,z⟩:=r2;exact k _ (CU b) G2 H2 x2 (Gf b G2) (by unfold CU;rw [qdA];exact z) (FD b G2)
theorem E3 (H:Hp)(f:Nat->Int):∀ l:List Nat,Paired (Rp.rel K H) (l.map fun i=>V.int (f i)) (l.map fun i=>f i)
 | []=>.nil
 | a::r=>.cons rfl (E3 H f r)
theorem FX {ia:Option Int}(ea:EV K ta σ G ia):IW K (iRng1 (An ta C8)) σ G (ia.bind fun j=>rngO 0 j):=by
 intro G1 s1 a ha H sH R k;obtain ⟨j,hj,ha⟩:=qaA.mp ha;obtain ⟨⟨hb,hz⟩,rfl⟩:=B7 ha;clear 8 ea j hj;cases r2;refine ⟨j,rfl,hb.2.2.1,hb.2.2.2,?_⟩;have e:(j - 0).toNat=j.toNat:=by omega
 rw [e] at hz k;exact k (Itr 0 j.toNat) _ G2 H2 x2 (F3 0 j.toNat G2) (by rw [qdA,List.length_range];exact hz) (E3 G2 (fun i=>(0:Int)+(i:Int)) _)
theorem Paired.getR {F:V->α->Prop}:∀ {xs:List V}{as:List α}{i:Nat}{v:V},Paired F xs as->xs[i]? = some v->∃ a,as[i]? = some a/\F v a
 | _,_,_,_,.nil,e=>by simp at e
 | _,_,0,_,.cons r _,e=>by simp at e;subst e;exact ⟨_,rfl,r⟩
 | _,_,i+1,_,.cons _ t,e=>Paired.getR (i:=i) t (by simpa using e)
end
section
variable {K:FZ9}{σ:St}{G H:Hp}{α β:Type}[Rp α][Rp β]{te:TE}{tt:TT}{t u rest:TS}{D:Ends}{i:Nat}{a:α}{m:Option α}
theorem Ax (e:EV K te σ G m)(hm:m=some a)(s:Same G H)(k:∀ v G2 H2,Ext G H G2 H2->Rp.rel K G2 v a->rest D (σ.set i (some v)) H2):CW (Ft te (Ct i)) rest D σ H:=e.run hm s k
theorem sv_drop (e:EV K te σ G m)(hm:m=some a)(s:Same G H)(k:∀ G2 H2,Ext G H G2 H2->rest D σ H2):CW (Ek te) rest D σ H:=e.run hm s fun _ G2 H2 x _=>k G2 H2 x
theorem Aj (e:EV K te σ G m)(hm:m=some a)(s:Same G H)(k:∀ v G2 H2,Ext G H G2 H2->Rp.rel K G2 v a->D.rt v H2):CW (tRet te) rest D σ H:=e.run hm s k
theorem BG {b:Bool}{m:Option Bool}(e:TV tt σ G m)(hm:m=some b)(s:Same G H)(k:∀ G2 H2,Ext G H G2 H2->if b=true then t { D with nx:=rest D } σ H2 else u { D with nx:=rest D } σ H2) :
  CW (F9 tt t u) rest D σ H:=e.run hm s k
theorem DW (Pv:St->Hp->Prop)(h:∀ nx:St->Hp->Prop,(∀ σ' H',Pv σ' H'->nx σ' H')->CW t Cm { D with nx:=nx } σ H)(key:∀ σ' H',Pv σ' H'->rest D σ' H'):CW t rest D σ H:=h (rest D) key
structure LoopOb (K:FZ9){α S ρ:Type}[Rp α](RR:ρ->V->Hp->Hp->Prop)(f:α->S->Option (Fl S ρ))(g:TG)(tb:TS)(D:Ends)(σ:St)(G2 H2:Hp)(as:List α)(s0:S)(res:Fl S ρ)(RS:S->St->Hp->Hp->Prop):Prop where
 start:RS s0 σ G2 H2
 keep:∀ s σ' G' H',RS s σ' G' H'->Same G2 G'/\Same G' H'
 step:∀ (x:V) (a:α) (s:S) (σ1:St) (G1 H1:Hp) (fl:Fl S ρ),a∈as->RS s σ1 G1 H1->Rp.rel K G1 x a->f a s=some fl->∀ D':Ends,(∀ s' σ' G' H',fl = .nx s'->RS s' σ' G' H'->D'.nx σ' H')->(∀ s' σ' G' H',fl = .nx s'->RS s' σ' G' H'->D'.ct σ' H') ->
  (∀ s' σ' G' H',fl = .bk s'->RS s' σ' G' H'->D'.bk σ' H')->(∀ r v G' H',fl = .rt r->RR r v G' H'->D'.rt v H')->g x σ1 H1 fun σ2 H2=>tb D' σ2 H2
 nxt:∀ s σ' G' H',res = .nx s->RS s σ' G' H'->D.nx σ' H'
 rtn:∀ r v G' H',res = .rt r->RR r v G' H'->D.rt v H'
theorem Ea {S ρ:Type}{RR:ρ->V->Hp->Hp->Prop}{f:α->S->Option (Fl S ρ)}{wi:TI}{g:TG}{tb:TS}{mi:Option (List α)}{as:List α}{s0:S}{res:Fl S ρ}(ei:IW K wi σ G mi)(hm:mi=some as)(hf:Cj f as s0=some res)(sg:Same G H)
  (k:∀ G2 H2,Ext G H G2 H2->∃ RS,LoopOb K RR f g tb { D with nx:=rest D } σ G2 H2 as s0 res RS):CW (tFor wi g tb) rest D σ H:=by
 refine ei G (.refl G) as hm H sg _ fun J vs G2 H2 x2 Y hz pr=>?_;obtain ⟨RS,L⟩:=k G2 H2 x2;have hla:=Paired.length pr;refine ⟨fun i m σ' H'=>m=vs.length - i/\i<=vs.length/\∃ s G',RS s σ' G' H'/\Cj f (as.drop i) s=some res,⟨vs.length,by simp,Nat.zero_le _,s0,G2,L.start,hf⟩,?_⟩;rintro i m σ' H' ⟨rfl,hi,s,G',rs,hfo⟩;obtain ⟨k1,k2⟩:=L.keep _ _ _ _ rs;by_cases hlt:i<vs.length
 ·refine .inr ⟨Y.go i _ (k1.trans k2) hlt,fun σ'' H''=>∃ s' G'',RS s' σ'' G'' H''/\Cj f (as.drop (i+1)) s'=some res,fun σ'' H'' ⟨s',G'',h⟩=>⟨vs.length - (i+1),by omega,rfl,hlt,s',G'',h⟩,fun x H3 y=>?_⟩;obtain ⟨rfl,hx⟩:=Y.yld i _ x H3 (k1.trans k2) hlt y;obtain ⟨a,hai,ra⟩:=Paired.getR pr hx
  have hd:as.drop i=a::as.drop (i+1):=by
   obtain ⟨h1,h2⟩:=qoA.mp hai;rw [List.drop_eq_getElem_cons h1,h2]
  rw [hd] at hfo;obtain ⟨fl,hfl,hfo⟩:=qaA.mp hfo;refine L.step x a s σ' G' _ fl (qnA hai) rs (Rp.mono k1 ra) hfl _ ?_ ?_ ?_ ?_
  ·intro s' σ'' G'' H'' e r;subst e;exact ⟨s',G'',r,hfo⟩
  ·intro s' σ'' G'' H'' e r;subst e;exact ⟨s',G'',r,hfo⟩
  ·intro s' σ'' G'' H'' e r;subst e;exact L.nxt s' σ'' G'' H'' (qtA hfo).symm r
  ·intro r v G'' H'' e rl;subst e;exact L.rtn r v G'' H'' (qtA hfo).symm rl
 ·have e:i=vs.length:=by omega
  subst e;have hd:as.drop vs.length=[]:=List.drop_eq_nil_of_le (by omega);rw [hd] at hfo;exact .inl ⟨Y.stop _ (k1.trans k2),L.nxt s σ' G' H' (qtA hfo).symm rs⟩
structure WhileOb (K:FZ9){S ρ:Type}(RR:ρ->V->Hp->Hp->Prop)(c:S->Option Bool)(f:S->Option (Fl S ρ))(tt:TT)(tb:TS)(D:Ends)(σ:St)(G2 H2:Hp)(s0:S)(res:Fl S ρ)(RS:S->St->Hp->Hp->Prop):Prop where
 start:RS s0 σ G2 H2
 keep:∀ s σ' G' H',RS s σ' G' H'->Same G' H'
 test:∀ s σ' G' H' b,RS s σ' G' H'->c s=some b->∀ Q:Bool->Hp->Prop,(∀ G'' H'',RS s σ' G'' H''->Q b H'')->tt σ' H' Q
 step:∀ (s:S) (σ1:St) (G1 H1:Hp) (fl:Fl S ρ),RS s σ1 G1 H1->f s=some fl->c s=some true->∀ D':Ends,(∀ s' σ' G' H',fl = .nx s'->RS s' σ' G' H'->D'.nx σ' H')->(∀ s' σ' G' H',fl = .nx s'->RS s' σ' G' H'->D'.ct σ' H') ->
  (∀ s' σ' G' H',fl = .bk s'->RS s' σ' G' H'->D'.bk σ' H')->(∀ r v G' H',fl = .rt r->RR r v G' H'->D'.rt v H')->tb D' σ1 H1
 nxt:∀ s σ' G' H',res = .nx s->RS s σ' G' H'->D.nx σ' H'
 rtn:∀ r v G' H',res = .rt r->RR r v G' H'->D.rt v H'
theorem sv_while {S ρ:Type}{RR:ρ->V->Hp->Hp->Prop}{c:S->Option Bool}{f:S->Option (Fl S ρ)}{tb:TS}{n:Nat}{s0:S}{res:Fl S ρ}(hf:DG c f n s0=some res)(RS:S->St->Hp->Hp->Prop)
  (L:WhileOb K RR c f tt tb { D with nx:=rest D } σ G H s0 res RS):CW (tWhile tt tb) rest D σ H:=by
 refine ⟨fun m σ' H'=>∃ s G',RS s σ' G' H'/\DG c f m s=some res,⟨n,s0,G,L.start,hf⟩,?_⟩;rintro m σ' H' ⟨s,G',rs,hw⟩
 cases m with
 | zero=>cases hw
 | succ m =>
  obtain ⟨b,hb,hw⟩:=qaA.mp hw;refine L.test s σ' G' H' b rs hb _ fun G'' H'' rs'=>?_
  cases b with
  | false=>exact Bl (L.nxt s σ' G'' H'' (qtA hw).symm rs')
  | true =>
   obtain ⟨fl,hfl,hw⟩:=qaA.mp hw;refine Bq ⟨fun σ2 H2=>∃ s' G2,RS s' σ2 G2 H2/\DG c f m s'=some res,fun σ2 H2 h=>⟨m,Nat.lt_succ_self m,h⟩,?_⟩;refine L.step s σ' G'' H'' fl rs' hfl hb _ ?_ ?_ ?_ ?_
   ·intro s' σ2 G2 H2 e r;subst e;exact ⟨s',G2,r,hw⟩
   ·intro s' σ2 G2 H2 e r;subst e;exact ⟨s',G2,r,hw⟩
   ·intro s' σ2 G2 H2 e r;subst e;exact L.nxt s' σ2 G2 H2 (qtA hw).symm r
   ·intro r v G2 H2 e rl;subst e;exact L.rtn r v G2 H2 (qtA hw).symm rl
end
structure Own (K:FZ9){α:Type}[Rp α](G H:Hp)(v:V)(p:Addr)(vs:List V)(as:List α):Prop where
 v:v = .ref p
 g:G p=none
 h:H p=some (.lst vs)
 z:vs.length<=sizeLine
 p:Paired (Rp.rel K G) vs as
section
variable {K:FZ9}{σ:St}{G H G1 H1 G0 H0:Hp}{α β:Type}[Rp α][Rp β]{te ti:TE}{tt:TT}{t u rest:TS}{D:Ends}{i:Nat}{a:α}{m:Option α}{as:List α}{v:V}{p q:Addr}{vs:List V}
theorem Own.ext (o:Own K G H v p vs as)(x:Ext G H G1 H1):Own K G1 H1 v p vs as :=
 ⟨o.v,x.no p o.g (by rw [o.h];exact fun z=>nomatch z),x.hh _ _ o.h,o.z,Paired.imp' (fun _ _ r=>Rp.mono x.gg r) o.p⟩
theorem Own.tell (o:Own K G H v p vs as):Rp.rel K (upd G p (.lst vs)) v as:=⟨p,vs,o.v,.inl AX,o.z,Paired.imp' (fun _ _ r=>Rp.mono (Same.new o.g) r) o.p⟩
theorem Own.same (o:Own K G H v p vs as)(s:Same G H):Same (upd G p (.lst vs)) H:=fun b x e=>by
 by_cases hb:b=p
 ·subst hb;rw [AX] at e;rw [o.h];exact e
 ·rw [Aq hb] at e;exact s b x e
theorem Gm {m:Option (List α)}{as:List α}(e:FV K te σ G m)(hm:m=some as)(s:Same G H)(k:∀ p vs G2 H2,Ext G H G2 H2->H p=none->Own K G2 H2 (.ref p) p vs as->rest D (σ.set i (some (.ref p))) H2):CW (Ft te (Ct i)) rest D σ H :=
 e G (.refl G) as hm H s _ fun p vs G2 H2 x h0 hg hh hz hp=>k p vs G2 H2 x h0 ⟨rfl,hg,hh,hz,hp⟩
def Cp {α:Type}(as:List α)(a:α):Option (List α):=if as.length<sizeLine then some (as++[a]) else none
theorem CG {as':List α}(hσ:σ[i]? = some (some v))(o:Own K G H v p vs as)(e:EV K te σ G m)(hm:m=some a)(hp:Cp as a=some as')(s:Same G H)
  (k:∀ G2 H2 w,Ext G H G2 H2->Own K G2 (upd H2 p (.lst (vs++[w]))) v p (vs++[w]) as'->rest D σ (upd H2 p (.lst (vs++[w])))):CW (Ek (tBM K "list" EE (EB i) (An te C8))) rest D σ H:=by
 obtain ⟨hl,rfl⟩:=B7 hp;have hlen:=Paired.length o.p;obtain ⟨rfl,og,oh,oz,op⟩:=o;refine ⟨_,hσ,.inl ⟨rfl,_,SqL.of oh⟩,?_⟩;refine e.run hm s fun w G2 H2 x r=>?_;refine ⟨p,vs,w,rfl,rfl,x.hh _ _ oh,by omega,?_⟩;refine k G2 H2 w x ⟨rfl,x.no p og (by rw [oh];exact fun z=>nomatch z),AX,?_,Paired.app (Paired.imp' (fun _ _ r=>Rp.mono x.gg r) op) (.cons r .nil)⟩;rw [qeA,qgA];omega
structure TupK (H H':Hp):Prop where
 rd:∀ b xs,Rd H b (.tup xs)->Rd H' b (.tup xs)
 eq:∀ b xs,H b=some (.tup xs)->H' b=some (.tup xs)
class Imm (α:Type) [Rp α]:Prop where
 im:∀ {K:FZ9}{H H':Hp}{v:V}{a:α},TupK H H'->Rp.rel K H v a->Rp.rel K H' v a
instance imInt:Imm Int:=⟨fun _ h=>h⟩
theorem SqT.im {H H':Hp}{t:Addr}{xs:List V}(f:TupK H H')(h:SqT K H t xs):SqT K H' t xs:=by
 rcases h with h|h
 ·exact .inl (f.rd _ _ h)
 ·exact .inr h
instance imPair {α β:Type}[Rp α][Rp β][Imm α][Imm β]:Imm (α × β):=⟨fun f ⟨t,a,b,e,h,r1,r2⟩=>⟨t,a,b,e,h.im f,Imm.im f r1,Imm.im f r2⟩⟩
instance imTp {α:Type}[Rp α][Imm α]:Imm (Tp α):=⟨fun f ⟨t,xs,e,h,z,p⟩=>⟨t,xs,e,h.im f,z,Paired.imp' (fun _ _ r=>Imm.im f r) p⟩⟩
def del (G:Hp)(p:Addr):Hp:=fun b=>if b=p then none else G b
theorem Dm {G:Hp}{p b:Addr}(h:b≠p):del G p b=G b:=by unfold del;rw [if_neg h]
theorem Fs {G:Hp}{p:Addr}:del G p p=none:=by unfold del;rw [if_pos rfl]
theorem Ext.del {ho:HO}{G2 H2:Hp}(hg:G p=none)(x:Ext (upd G p ho) H G2 H2):Ext G H (L2.del G2 p) H2 :=
 ⟨fun b o e=>by
  have hb:b≠p:=BQ e hg;rw [Dm hb]
  exact x.gg b o (by rw [Aq hb];exact e),fun b o e=>by
  by_cases hb:b=p
  ·subst hb;rw [Fs] at e;cases e
  ·rw [Dm hb] at e
   exact x.gh b o e,x.hh,fun b h1 h2=>by
  by_cases hb:b=p
  ·subst hb;exact Fs
  ·rw [Dm hb]
   exact x.no b (by rw [Aq hb];exact h1) h2⟩
theorem Imm.del {β:Type}[Rp β][Imm β]{G2:Hp}{w:V}{c:β}{ys:List V}(h:G2 p=some (.lst ys))(r:Rp.rel K G2 w c):Rp.rel K (L2.del G2 p) w c :=
 Imm.im ⟨fun b xs e=>by
  have hb:b≠p:=fun z=>by
   subst z;rcases e with e | ⟨o,e⟩<;>(rw [h] at e;cases e)
  rcases e with e | ⟨o,e⟩
  ·exact .inl (by rw [Dm hb];exact e)
  ·exact .inr ⟨o,by rw [Dm hb];exact e⟩,fun b xs e=>by
  have hb:b≠p:=fun z=>by
   subst z;rw [h] at e;cases e
  rw [Dm hb]
  exact e⟩ r
theorem EV.runB {β:Type}[Rp β][Imm β]{mb:Option β}{b:β}{Q:VK}(o:Own K G H v p vs as)(e:EV K te σ (upd G p (.lst vs)) mb)(hm:mb=some b)(s:Same G H)(k:∀ w G2 H2,Ext G H G2 H2->Rp.rel K G2 w b->Q w H2):te σ H Q :=
 e.run hm (o.same s) fun w G2 H2 x r=>k w (del G2 p) H2 (x.del o.g) (Imm.del (x.gg _ _ AX) r)
theorem TV.runB {mb:Option Bool}{b:Bool}{Q:Bool->Hp->Prop}(o:Own K G H v p vs as)(e:TV tt σ (upd G p (.lst vs)) mb)(hm:mb=some b)(s:Same G H)(k:∀ G2 H2,Ext G H G2 H2->Q b H2):tt σ H Q :=
 e.run hm (o.same s) fun G2 H2 x=>k (del G2 p) H2 (x.del o.g)
end
section
variable {K:FZ9}{σ:St}{G:Hp}
theorem Ad {ρ A0:Type}[Rp ρ][Rp A0]{t0:TE}{m0:Option A0}{m:A0 × Unit->Option ρ}(e0:EV K t0 σ G m0):EV K (DB (spM K m) [] E0 (An t0 C8)) σ G (m0.bind fun a0=>m (a0,())):=by
 clear 7;obtain ⟨a0,ha0,hc⟩:=qaA.mp hc;refine e0 G1 s1 a0 ha0 H sH _ fun v0 G2 H2 x0 r0=>?_;have y0:=x0;exact ⟨G2,_,c,y0.gh,⟨v0,_,rfl,r0,rfl⟩,hc,fun v G9 H9 x9 r9=>k v G9 H9 (y0.trans x9) r9⟩
theorem DA {ρ A0 A1:Type}[Rp ρ][Rp A0][Rp A1]{t0 t1:TE}{m0:Option A0}{m1:Option A1}{m:A0 × A1 × Unit->Option ρ}(e0:EV K t0 σ G m0)(e1:EV K t1 σ G m1):EV K (DB (spM K m) [] E0 (An t0 (An t1 C8))) σ G (m0.bind fun a0=>m1.bind fun a1=>m (a0,a1,())):=by
 clear 7;obtain ⟨a0,ha0,hc⟩:=qaA.mp hc;obtain ⟨a1,ha1,hc⟩:=qaA.mp hc;refine e0 G1 s1 a0 ha0 H sH _ fun v0 G2 H2 x0 r0=>?_;have y0:=x0;refine e1 G2 (s1.trans y0.gg) a1 ha1 H2 y0.gh _ fun v1 G3 H3 x1 r1=>?_;have y1:=y0.trans x1;exact ⟨G3,_,c,y1.gh,⟨v0,_,rfl,(Rp.mono x1.gg r0),⟨v1,_,rfl,r1,rfl⟩⟩,hc,fun v G9 H9 x9 r9=>k v G9 H9 (y1.trans x9) r9⟩
section
variable {ta tb:TE}{a b:Bool}{tt tu:TT}{mb:Option Bool}
theorem TV.of {m m':Option Bool}(e:TV tt σ G m)(h:m=m'):TV tt σ G m':=h ▸ e
theorem HC (ea:TV tt σ G (some a))(eb:TV tu σ G (some b)):TV (tOr tt tu) σ G (some (a || b)):=(Dz ea eb).of (by cases a<;>rfl)
theorem TruV.mono {G H:Hp}{v:V}{k:Bool}(s:Same G H)(h:TruV K v G k):TruV K v H k:=by
 cases v with
 | ref p =>
  rcases h with ⟨xs,hx,e⟩ | ⟨xs,hx,e⟩ | ⟨kvs,hx,e⟩
  ·exact .inl ⟨xs,s.seq hx,e⟩
  ·exact .inr (.inl ⟨xs,s.tup hx,e⟩)
  ·exact .inr (.inr ⟨kvs,s _ _ hx,e⟩)
 | _=>exact h
theorem EX {mb:Option Bool}(ea:EV K ta σ G mb):TV (fun σ H Q=>ta σ H fun x H'=>∃ k,TruV K x H' k/\Q k H') σ G mb:=by
 have h:=tv_tru (K:=K) (f:=fun (a:Bool)=>a) (fun {G v a}(r:Rp.rel K G v a)=>by cases r;exact rfl) (fun s=>TruV.mono s) ea;refine h.of ?_;cases mb<;>rfl
end
theorem cT {α:Type}{A B:Option α}{r:Option α}(h:cond true A B=r):A=r:=h
theorem cF {α:Type}{A B:Option α}{r:Option α}(h:cond false A B=r):B=r:=h
theorem Da {i:Nat}{x:V}{σ:St}{H:Hp}{tb:TS}{D:Ends}(h:tb D (σ.set i (some x)) H):Ct i x σ H fun σ2 H2=>tb D σ2 H2:=h
end
section
variable {K:FZ9}{σ:St}{G H:Hp}{α β γ:Type}[Rp α][Rp β][Rp γ]{ta tb te:TE}{ia ib:Option Int}{c:Int}{rest t u:TS}{D:Ends}{i j:Nat}{tt:TT}
theorem DT (ea:EV K ta σ G ia)(hc:-(2 ^ 64)<c/\c<2 ^ 64:=by decide):EV K (tOp (rMul K) ta (tC (.int c))) σ G (ia.bind fun a=>some (a * c)):=by
 have h:=ev_mul ea (Af (K:=K) (σ:=σ) (G:=G) (i:=c))
 have e:(ia.bind fun a=>(some c).bind fun b=>IF a b)=ia.bind fun a=>some (a * c):=by
  congr 1;funext a
  show IF a c=_;unfold IF;rw [if_pos (.inr hc)]
 exact h.of e
theorem C2 (ea:EV K ta σ G ia)(hc:0<c:=by decide):EV K (tOp (rI (fun _ j=>0<j) fun i j=>.int (i % j)) ta (tC (.int c))) σ G (ia.bind fun a=>some (a % c)):=by
 have h:=FZ ea (Af (K:=K) (σ:=σ) (G:=G) (i:=c))
 have e:(ia.bind fun a=>(some c).bind fun b=>GO a b)=ia.bind fun a=>some (a % c):=by
  congr 1;funext a
  show GO a c=_;unfold GO;rw [if_pos hc]
 exact h.of e
theorem EI (ea:EV K ta σ G ia)(hc:0<c/\c<1073741824:=by decide):EV K (tOp (rI Go fun i j=>.int (i / j)) ta (tC (.int c))) σ G (ia.bind fun a=>some (a / c)):=by
 have h:=ev_div ea (Af (K:=K) (σ:=σ) (G:=G) (i:=c))
 have e:(ia.bind fun a=>(some c).bind fun b=>IA a b)=ia.bind fun a=>some (a / c):=by
  congr 1;funext a
  show IA a c=_;unfold IA;rw [if_pos (show Go a c from hc)]
 exact h.of e
structure Scr where
 l:List Int
instance rpScr:Rp Scr:=⟨fun K H v a=>∃ l,v = .ref l/\SqL K H l (a.l.map V.int),fun s ⟨l,e,h⟩=>⟨l,e,s.seq h⟩⟩
theorem FW {ma:Option Scr}(ea:EV K ta σ G ma):EV K (tCB (Gv K) (An ta C8)) σ G (ma.bind fun a=>some (a.l.length:Int)):=by
 clear 7;obtain ⟨a,ha,hc⟩:=qaA.mp hc;cases hc;clear 8 ea a ha;obtain ⟨l,rfl,h⟩:=r2;exact ⟨_,.inl (x2.gh.seq h),by rw [qdA];exact k _ _ _ x2 rfl⟩
theorem HP {H:Hp}:∀ ns:List Int,Paired (Rp.rel K H) (ns.map V.int) ns
 | []=>.nil
 | _::r=>.cons rfl (HP r)
theorem ev_atX {ma:Option Scr}(ea:EV K ta σ G ma)(eb:EV K tb σ G ib):EV K (tOp (rAt K) ta tb) σ G (ma.bind fun a=>ib.bind fun i=>atI a.l i) :=
 BM (fun s ra rb e Q k=>by
  obtain ⟨l,rfl,h⟩:=ra;cases rb;obtain ⟨v,hv,r⟩:=DE (HP (K:=K) _) e
  exact .inl ⟨_,v,s.seq h,hv,k _ _ _ (.refl s) r⟩) ea eb
theorem decOI {G:Hp}{v u:V}{a b:Option Int}(ra:Rp.rel K G v a)(rb:Rp.rel K G u b):scal v u=true/\decide (v=u)=decide (a=b):=by
 cases a with
 | none =>
  cases (show v=V.non from ra)
  cases b with
  | none=>cases (show u=V.non from rb);exact ⟨rfl,rfl⟩
  | some j=>cases (show u=V.int j from rb);exact ⟨rfl,by simp⟩
 | some i =>
  cases (show v=V.int i from ra)
  cases b with
  | none=>cases (show u=V.non from rb);exact ⟨rfl,by simp⟩
  | some j=>cases (show u=V.int j from rb);exact ⟨rfl,by simp⟩
theorem HJ {oa ob:Option (Option Int)}(ea:EV K ta σ G oa)(eb:EV K tb σ G ob):EV K (tOp rEq ta tb) σ G (oa.bind fun a=>ob.bind fun b=>some (decide (a=b))) :=
 BM (fun s ra rb e Q k=>by cases e;obtain ⟨h1,h2⟩:=decOI ra rb;exact ⟨h1,k _ _ _ (.refl s) (by show V.bl _=V.bl _;rw [h2])⟩) ea eb
theorem Hg {a:α}{m:Option α}[Imm α]{v:V}{p:Addr}{vs:List V}{as:List β}(o:Own K G H v p vs as)(e:EV K te σ (upd G p (.lst vs)) m)(hm:m=some a)(s:Same G H)(k:∀ v G2 H2,Ext G H G2 H2->Rp.rel K G2 v a->rest D (σ.set i (some v)) H2) :
  CW (Ft te (Ct i)) rest D σ H:=EV.runB o e hm s k
theorem sv_ifB {b:Bool}{m:Option Bool}{v:V}{p:Addr}{vs:List V}{as:List β}(o:Own K G H v p vs as)(e:TV tt σ (upd G p (.lst vs)) m)(hm:m=some b)(s:Same G H)(k:∀ G2 H2,Ext G H G2 H2->if b=true then t { D with nx:=rest D } σ H2 else u { D with nx:=rest D } σ H2) :
  CW (F9 tt t u) rest D σ H:=TV.runB o e hm s k
end
section
variable {K:FZ9}{σ:St}{G H G1 H1 G0 H0:Hp}{α β γ:Type}[Rp α][Rp β][Rp γ]{ta tb te ti:TE}{tt:TT}{t u rest:TS}{D:Ends}{i j:Nat}{v:V}{p q r:Addr}{vs ws:List V}{a:List α × List β}
def two (G:Hp)(p q:Addr)(vs ws:List V):Hp:=upd (upd G p (.lst vs)) q (.lst ws)
end
section
variable {X:Cx}{K:FZ9}
theorem op_plusK (h:X.K=K):OpR X (binaryOp .Add) (Fu K):=h ▸ op_plus
theorem D9 (h:X.K=K):OpR X (binaryOp .Mult) (rMul K):=h ▸ op_mulU
theorem ix_anyK (h:X.K=K):IxR X (rAt K):=h ▸ ix_any
theorem Hz (h:X.K=K):Dv X (.builtin "len") (Gv K):=h ▸ ID
theorem By (h:X.K=K):Dv X (.builtin "isinstance") (HR K):=h ▸ IC
theorem pi_anyK {tg l:Expr}{tl:TE}(h:X.K=K)(hl:PE X l tl):PI X tg l (iAny K tl):=h ▸ pi_any hl
theorem Hi {a:Expr}{ta:TE}(h:X.K=K)(ha:PE X a ta)(he:∀ whole,isTrue a X.env whole=(do let v <- whole;standAt a.pos;holding [v] (truthy v))) :
  PT X a (fun σ H Q=>ta σ H fun x H'=>∃ k,TruV K x H' k/\Q k H'):=h ▸ pt_truth ha he
section
variable {o e:Expr}{es:List Expr}{to:TE}{t:TA}{name:Str}{apos cpos:Pos}{T id:String}{r:V->List V->Hp->VK->Prop}
theorem pe_bmK (h:X.K=K)(pa:PlainAttrs T)(slot:Slot T name id)(hty:typeOf (.builtin id)=pure (.type "method_descriptor"))(hm:MtR X id r)(ho:PE X o to)(ha:PA X (e::es) t)
  (hbase:attributeBase o name X.env (eval o X.env)=eval o X.env:=by rfl)
  (hfew:((backTo cpos (starEach (e::es) X.env)).all (fun x=>!x.1) && (backToKw cpos (keywordEach [] X.env)).all (fun x=>x.1.isSome)
   && decide ((e::es).length+([]:List Keyword).length+(if ([]:List Keyword).isEmpty then 0 else 1)<30))=true:=by rfl)
  (hline:(apos.endLine == cpos.line)=true:=by rfl) (hs:starEach (e::es) X.env=(false,eval e X.env)::starEach es X.env:=by rfl) (hplain:(backTo cpos (starEach es X.env)).any (·.1)=false:=by rfl) :
  PE X (.Call (.Attribute o name apos) (e::es) [] cpos) (tBM K T r to t):=h ▸ pe_bm pa slot hty hm ho ha hbase hfew hline hs hplain
end
end
theorem Er {f:St->Hp->Prop}{rt:VK}{bk ct:St->Hp->Prop}{σ:St}{H:Hp}(h:f σ H):({ nx:=f,rt:=rt,bk:=bk,ct:=ct }:Ends).nx σ H:=h
section
variable {K:FZ9}{σ:St}{G H:Hp}{α β γ:Type}[Rp α][Rp β][Rp γ]{ta tb te:TE}{rest t u:TS}{D:Ends}{i j:Nat}
def extO {α:Type}(as bs:List α):Option (List α):=if as.length+bs.length<=sizeLine then some (as++bs) else none
end
inductive D where
 | non
 | bl (b:Bool)
 | int (i:Int)
 | str (x:Str)
 | lst (l:List D)
 | tup (l:List D)
 | dic
mutual
inductive RelD (K:FZ9)(H:Hp):V->D->Prop where
 | non:RelD K H .non .non
 | bl (b:Bool):RelD K H (.bl b) (.bl b)
 | int (i:Int):RelD K H (.int i) (.int i)
 | str (x:Str) (z:x.length<=sizeLine):RelD K H (.str x) (.str x)
 | lst {a:Addr}{xs:List V}{ds:List D}(h:Rd H a (.lst xs)) (z:xs.length<=sizeLine) (r:RelDs K H xs ds):RelD K H (.ref a) (.lst ds)
 | tup {a:Addr}{xs:List V}{ds:List D}(h:SqT K H a xs) (z:xs.length<=sizeLine) (r:RelDs K H xs ds):RelD K H (.ref a) (.tup ds)
 | dK {a:Addr}{kvs:List (Key × V)}(h:Rd H a (.dK kvs)):RelD K H (.ref a) .dic
inductive RelDs (K:FZ9)(H:Hp):List V->List D->Prop where
 | nil:RelDs K H [] []
 | cons {x:V}{d:D}{xs:List V}{ds:List D}(h:RelD K H x d) (t:RelDs K H xs ds):RelDs K H (x::xs) (d::ds)
end
mutual
theorem RelD.mono {K:FZ9}{H H':Hp}(s:Same H H'):∀ {v:V}{d:D},RelD K H v d->RelD K H' v d
 | _,_,.non=>.non
 | _,_,.bl b=>.bl b
 | _,_,.int i=>.int i
 | _,_,.str x z=>.str x z
 | _,_,.lst h z r=>.lst (s.rd h) z (RelDs.mono s r)
 | _,_,.tup h z r=>.tup (s.tup h) z (RelDs.mono s r)
 | _,_,.dK h=>.dK (s.rd h)
theorem RelDs.mono {K:FZ9}{H H':Hp}(s:Same H H'):∀ {v:List V}{d:List D},RelDs K H v d->RelDs K H' v d
 | _,_,.nil=>.nil
 | _,_,.cons h t=>.cons (RelD.mono s h) (RelDs.mono s t)
end
instance rpD:Rp D:=⟨RelD,fun s h=>RelD.mono s h⟩
class ToD (α:Type) [Rp α] where
 to:α->D
 rel:∀ {K:FZ9}{H:Hp}{v:V}{a:α},Rp.rel K H v a->RelD K H v (to a)
instance tdD:ToD D:=⟨id,fun h=>h⟩
def dk:D->String
 | .non => "NoneType"
 | .bl _ => "bool"
 | .int _ => "int"
 | .str _ => "str"
 | .lst _ => "list"
 | .tup _ => "tuple"
 | .dic => "dict"
def isK (T:String)(d:D):Bool:=dk d == T || (T == "int" && dk d == "bool")
section
variable {K:FZ9}{σ:St}{G:Hp}{α β:Type}[Rp α][Rp β]{ta tb te:TE}{md:Option D}
theorem Gy [ToD α]{m:Option α}(e:EV K te σ G m):EV K te σ G (m.bind fun a=>some (ToD.to a)):=by
 clear 7;obtain ⟨a,ha,hc⟩:=qaA.mp hc;cases hc;exact e G1 s1 a ha H sH Q fun v G2 H2 x r=>k v G2 H2 x (ToD.rel r)
theorem RelD.ty {H:Hp}{v:V}{d:D}(r:RelD K H v d):TyS K H v (dk d):=by
 cases r with
 | non=>exact .non
 | bl=>exact .bl _
 | int=>exact .int _
 | str=>exact .str _
 | lst h=>exact .lst (.inl h)
 | tup h=>exact .tup h
 | dK h=>exact .dK h
theorem kit_all:∀ n∈["NoneType","bool","int","str","list","tuple","dict"],∀ T∈["str","list","tuple","bool","int","dict"],Hq n T=some (n == T || (T == "int" && n == "bool")):=by decide +kernel
theorem isK_ok {T:String}(hT:T∈["str","list","tuple","bool","int","dict"])(d:D):Hq (dk d) T=some (isK T d):=by
 unfold isK;exact kit_all (dk d) (by cases d<;>simp [dk]) T hT
theorem ER {T:String}(hT:T∈["str","list","tuple","bool","int","dict"])(ea:EV K ta σ G md):EV K (tCB (HR K) (An ta (An (tC (.ty T)) C8))) σ G (md.bind fun d=>some (isK T d)):=by
 clear 7;obtain ⟨a,ha,hc⟩:=qaA.mp hc;cases hc;clear 8 ea a ha;exact ⟨_,_,_,_,rfl,(RelD.ty r2).mono x2.gh,isK_ok hT a,k _ _ _ x2 rfl⟩
end
def OK {α:Type}(m:Option α)(P:α->Prop):Prop:=∃ a,m=some a/\P a
section
variable {α β S ρ:Type}{m:Option α}{P Q:α->Prop}{R:β->Prop}
theorem OK.mono (h:OK m P)(k:∀ a,P a->Q a):OK m Q:=let ⟨a,e,p⟩:=h;⟨a,e,k a p⟩
theorem AN {a:α}(h:P a):OK (some a) P:=⟨a,rfl,h⟩
theorem Ab {f:α->Option β}(h:OK m fun a=>OK (f a) R):OK (m.bind f) R:=by
 obtain ⟨a,rfl,h⟩:=h;exact h
theorem ok_bC {f:α->Option β}(a:α)(e:m=some a)(h:OK (f a) R):OK (m.bind f) R:=Ab ⟨a,e,h⟩
theorem Dy {f:α->Option β}(h:OK m P)(k:∀ a,P a->OK (f a) R):OK (m.bind f) R:=Ab (h.mono k)
theorem E1 {a:α}{f:α->Option β}(h:OK (f a) R):OK ((some a).bind f) R:=h
theorem CN {b:Bool}{x y:Option α}(h1:b=true->OK x P)(h2:b=false->OK y P):OK (cond b x y) P:=by
 cases b with
 | true=>exact h1 rfl
 | false=>exact h2 rfl
theorem OK.eq {a:α}(h:OK m fun b=>b=a):m=some a:=by obtain ⟨b,e,rfl⟩:=h;exact e
theorem OK.of {a:α}(e:m=some a)(h:P a):OK m P:=⟨a,e,h⟩
theorem AO {α β:Type}(a:α)(f:α->Option β):(some a).bind f=f a:=by rw [Option.bind_some]
theorem AW {α:Type}(m:Option α):(m.bind fun x=>some x)=m:=by cases m<;>rfl
theorem HA {a b:Int}{P:Int->Prop}(hb:0<b)(h:P (a % b)):OK (GO a b) P:=⟨_,if_pos hb,h⟩
theorem ok_mul {a b:Int}{P:Int->Prop}(hb:CMul a b)(h:P (a * b)):OK (IF a b) P:=⟨_,if_pos hb,h⟩
theorem ok_div {a b:Int}{P:Int->Prop}(hb:0<b/\b<1073741824)(h:P (a / b)):OK (IA a b) P:=⟨_,if_pos hb,h⟩
theorem HU {a:List α}{b:α}{P:List α->Prop}(hb:a.length<sizeLine)(h:P (a++[b])):OK (Cp a b) P:=⟨_,if_pos hb,h⟩
theorem Gb {lo hi:Int}{n:Nat}{P:List Int->Prop}(hn:hi - lo=n)(h0:-1000000000<=lo/\lo<=1000000000)(h1:n<=sizeLine)(h:P ((List.range n).map fun (i:Nat)=>lo+(i:Int))):OK (rngO lo hi) P:=by
 have hs:sizeLine=16777216:=qxA;have e:(hi - lo).toNat=n:=by omega
 refine ⟨_,if_pos ⟨⟨by omega,by omega,by omega,by omega⟩,by omega⟩,?_⟩;rw [e];exact h
theorem HM {a:List α}{i:Int}(h0:0<=i)(h1:i<a.length)(h:∀ x,a[i.toNat]? = some x->P x):OK (atI a i) P:=by
 obtain ⟨k,rfl⟩:=qzA h0;have hk:k<a.length:=by omega
 refine ⟨a[k],CO (by simp [hk]),h _ ?_⟩;rw [Int.toNat_natCast];simp [hk]
theorem ok_last {a:List α}(h:a ≠ [])(k:P (a.getLast h)):OK (atI a (-1)) P:=by
 refine ⟨_,?_,k⟩;have:=atI_last a.dropLast (a.getLast h)
 rwa [List.dropLast_concat_getLast] at this
theorem ok_for {f:α->S->Option (Fl S ρ)}{as:List α}{s0:S}(I:Nat->S->Prop)(J:S->Prop)(R:ρ->Prop){P:Fl S ρ->Prop}(h0:I 0 s0)
  (hs:∀ (i:Nat) a s,as[i]? = some a->I i s->OK (f a s) fun fl=>match fl with | .nx s'=>I (i+1) s' | .bk s'=>J s' | .rt r=>R r)
  (hn:∀ s,I as.length s->P (.nx s)) (hj:∀ s,J s->P (.nx s)) (hr:∀ r,R r->P (.rt r)):OK (Cj f as s0) P:=by
 have key:∀ (n i:Nat) (s:S),n=as.length - i->i<=as.length->I i s->OK (Cj f (as.drop i) s) P:=by
  intro n
  induction n with
  | zero =>
   intro i s hn0 hi hI;have e:i=as.length:=by omega
   subst e;rw [List.drop_length];exact AN (hn s hI)
  | succ n ih =>
   intro i s hn0 hi hI;have hlt:i<as.length:=by omega
   rw [List.drop_eq_getElem_cons hlt];obtain ⟨fl,e,h⟩:=hs i as[i] s (by simp [hlt]) hI;show OK ((f as[i] s).bind _) P;rw [e]
   cases fl with
   | nx s'=>exact ih (i+1) s' (by omega) hlt h
   | bk s'=>exact AN (hj s' h)
   | rt r=>exact AN (hr r h)
 exact key as.length 0 s0 (by omega) (Nat.zero_le _) h0
theorem FT {f:α->S->Option (Fl S ρ)}{as:List α}{s0:S}(I:Nat->S->Prop){P:Fl S ρ->Prop}(h0:I 0 s0)
  (hs:∀ (i:Nat) a s,as[i]? = some a->I i s->OK (f a s) fun fl=>∃ s',fl = .nx s'/\I (i+1) s') (hn:∀ s,I as.length s->P (.nx s)):OK (Cj f as s0) P :=
 ok_for I (fun _=>False) (fun _=>False) h0 (fun i a s ha hI=>(hs i a s ha hI).mono fun fl ⟨s',e,h⟩=>by subst e;exact h) hn (fun _ h=>h.elim) fun _ h=>h.elim
theorem ok_while {c:S->Option Bool}{f:S->Option (Fl S ρ)}{s0:S}(I:S->Prop)(J:S->Prop)(R:ρ->Prop)(μ:S->Nat){P:Fl S ρ->Prop}(h0:I s0)(hμ:μ s0<1000000)
  (hs:∀ s,I s->OK (c s) fun b=>if b=true then OK (f s) fun fl=>match fl with | .nx s'=>I s'/\μ s'<μ s | .bk s'=>J s' | .rt r=>R r else P (.nx s))
  (hj:∀ s,J s->P (.nx s)) (hr:∀ r,R r->P (.rt r)):OK (DG c f HS s0) P:=by
 have key:∀ (n:Nat) (s:S),μ s<n->I s->OK (DG c f n s) P:=by
  intro n
  induction n with
  | zero=>intro s h;exact absurd h (Nat.not_lt_zero _)
  | succ n ih =>
   intro s hlt hI;obtain ⟨b,e,h⟩:=hs s hI;show OK ((c s).bind _) P;rw [e]
   cases b with
   | false =>
    rw [if_neg qcB] at h;exact AN h
   | true =>
    rw [if_pos rfl] at h;obtain ⟨fl,e2,h⟩:=h;show OK ((f s).bind _) P;rw [e2]
    cases fl with
    | nx s'=>exact ih s' (by have:=h.2;omega) h.1
    | bk s'=>exact AN (hj s' h)
    | rt r=>exact AN (hr r h)
 exact key HS s0 (by unfold HS;omega) h0
end
end L2
namespace Lasso
variable {α β:Type}
end Lasso
namespace Lasso
variable {α:Type}[DecidableEq α]
end Lasso
namespace L2
open PySem PySem.Spec PyProof.Rows
def Hk {α:Type}:List α->Option (α × List α)
 | []=>none
 | [a]=>some (a,[])
 | a::b::r=>(Hk (b::r)).bind fun p=>some (p.1,a::p.2)
theorem Paired.last {α β:Type}{R:α->β->Prop}:∀ {vs:List α}{as:List β}{a:β}{as':List β},Paired R vs as->Hk as=some (a,as')->∃ w,vs[vs.length - 1]? = some w/\R w a/\Paired R vs.dropLast as'
 | _,_,_,_,.nil,hp=>by cases hp
 | _,_,_,_,.cons h .nil,hp=>by
  cases hp;exact ⟨_,rfl,h,.nil⟩
 | _,_,_,_,.cons h (.cons h2 t),hp=>by
  obtain ⟨q,hq,e⟩:=qaA.mp hp;cases e;obtain ⟨w,hw,r,pr⟩:=Paired.last (.cons h2 t) hq;exact ⟨w,by simpa using hw,r,.cons h pr⟩
section
variable {X:Cx}{K:FZ9}{o:Expr}{to:TE}{name:Str}{apos cpos:Pos}{T id:String}{r:V->List V->Hp->VK->Prop}
theorem pe_bm0K (h:X.K=K)(pa:PlainAttrs T)(slot:Slot T name id)(hty:typeOf (.builtin id)=pure (.type "method_descriptor"))(hm:MtR X id r)(ho:PE X o to)
  (hbase:attributeBase o name X.env (eval o X.env)=eval o X.env:=by rfl) (hline:(apos.endLine == cpos.line)=true:=by rfl):PE X (.Call (.Attribute o name apos) [] [] cpos) (tBM0 K T r to):=h ▸ pe_bm0 pa slot hty hm ho hbase hline
end
section
variable {K:FZ9}{σ:St}{G H G1 H1 G0 H0:Hp}{α β:Type}[Rp α][Rp β]{te ti:TE}{tt:TT}{t u rest:TS}{D:Ends}{i j:Nat}{a:α}{m:Option α}{as:List α}{v:V}{p q:Addr}{vs:List V}
def era (H:Hp)(C:List Addr):Hp:=fun a=>if a∈C then none else H a
theorem FL {C:List Addr}{b:Addr}(h:b∈C):era H C b=none:=if_pos h
theorem FG {C:List Addr}{b:Addr}(h:b ∉ C):era H C b=H b:=if_neg h
theorem era_same {C:List Addr}:Same (era H C) H:=fun b o e=>by
 by_cases h:b∈C
 ·rw [FL h] at e;cases e
 ·rw [FG h] at e;exact e
theorem Ext.begin {C:List Addr}(s:Same G H):Ext G (era H C) G H:=⟨.refl _,s,era_same,fun _ h _=>h⟩
theorem Ext.past {C:List Addr}(x:Ext G0 H0 G H)(h0:∀ b∈C,H0 b=none)(y:Ext G (era H C) G1 H1):Ext G0 H0 G1 H1:=by
 refine ⟨x.gg.trans y.gg,y.gh,fun b o e=>?_,fun b g h=>?_⟩
 ·have hb:b ∉ C:=fun hc=>by
   rw [h0 b hc] at e;cases e
  exact y.hh b o (by rw [FG hb];exact x.hh b o e)
 ·have hb:b ∉ C:=fun hc=>h (h0 b hc);refine y.no b (x.no b g h) ?_;rw [FG hb]
  cases e:H0 b with
  | none=>exact absurd e h
  | some o =>
   rw [x.hh b o e];exact fun z=>nomatch z
def spW1 (K:FZ9){A:Type}[RpA A]{α:Type}[Rp α](m:List α->A->Option (List α)):Sp:=fun vs H Q _ =>
 ∃ G p xs us as a r,vs = .ref p::us/\Same G H/\Own K G H (.ref p) p xs as/\RpA.rel K G us a/\m as a=some r /\
  ∀ G2 H2 xs',Ext G (era H [p]) G2 H2->Own K G2 H2 (.ref p) p xs' r->Q .non H2
theorem Fh {A:Type}[RpA A]{m:List α->A->Option (List α)}{vs:List V}{Q:VK}{E:XK}(h:spW1 K m vs H Q E):vs.length=RpA.n A+1:=by
 obtain ⟨G,p,xs,us,as,a,r,rfl,_,_,h,_⟩:=h;rw [qfA,RpA.len h]
theorem Dq {A:Type}[RpA A]{mA:Option A}{ta:TA}{c:A}{m:List α->A->Option (List α)}{r:List α}(hσ:σ[i]? = some (some v))(o:Own K G H v p vs as)(ea:AV K ta σ G mA)(ha:mA=some c)(hm:m as c=some r)(s:Same G H)
  (k:∀ G1 H1 G2 H2 vs',Ext G H G1 H1->Ext G1 (era H1 [p]) G2 H2->Own K G2 H2 v p vs' r->rest D σ H2):CW (Ek (DB (spW1 K m) [] E0 (An (EB i) ta))) rest D σ H:=by
 have ov:=o.v;subst ov;refine ⟨_,hσ,?_⟩;refine ea G (.refl G) c ha H s _ fun us G1 H1 x h=>?_;exact ⟨G1,p,vs,us,as,c,r,qqA _,x.gh,o.ext x,h,hm,fun G2 H2 xs' y o'=>k G1 H1 G2 H2 xs' x y o'⟩
end
inductive Nt where
 | txt (x:Str)
 | tup (l:List Nt)
 | int (n:Int)
mutual
def Nt.dec:(a b:Nt)->Decidable (a=b)
 | .txt x,.txt y=>if h:x=y then .isTrue (by rw [h]) else .isFalse fun e=>h (by cases e;rfl)
 | .txt _,.tup _=>.isFalse fun e=>by cases e
 | .tup _,.txt _=>.isFalse fun e=>by cases e
 | .int m,.int n=>if h:m=n then .isTrue (by rw [h]) else .isFalse fun e=>h (by cases e;rfl)
 | .int _,.txt _=>.isFalse fun e=>by cases e
 | .int _,.tup _=>.isFalse fun e=>by cases e
 | .txt _,.int _=>.isFalse fun e=>by cases e
 | .tup _,.int _=>.isFalse fun e=>by cases e
 | .tup l,.tup m=>match Nt.decs l m with
  | .isTrue h=>.isTrue (by rw [h])
  | .isFalse h=>.isFalse fun e=>h (by cases e;rfl)
def Nt.decs:(l m:List Nt)->Decidable (l=m)
 | [],[]=>.isTrue rfl
 | [],_::_=>.isFalse fun e=>by cases e
 | _::_,[]=>.isFalse fun e=>by cases e
 | a::l,b::m=>match Nt.dec a b with
  | .isFalse h=>.isFalse fun e=>h (by cases e;rfl)
  | .isTrue h=>match Nt.decs l m with
   | .isTrue h2=>.isTrue (by rw [h,h2])
   | .isFalse h2=>.isFalse fun e=>h2 (by cases e;rfl)
end
instance ntDec:DecidableEq Nt:=Nt.dec
mutual
def Nt.dep:Nt->Nat
 | .txt _=>0
 | .int _=>0
 | .tup l=>Nt.deps l+1
def Nt.deps:List Nt->Nat
 | []=>0
 | a::l=>max (Nt.dep a) (Nt.deps l)
end
mutual
inductive RelN (K:FZ9)(H:Hp):V->Nt->Prop where
 | txt (x:Str) (z:x.length<=sizeLine):RelN K H (.str x) (.txt x)
 | int (n:Int):RelN K H (.int n) (.int n)
 | tup {a:Addr}{xs:List V}{ds:List Nt}(h:SqT K H a xs) (z:xs.length<=sizeLine) (r:RelNs K H xs ds) (l:ds[0]? = some (.txt "lamp")->H a=some (.tup xs)):RelN K H (.ref a) (.tup ds)
inductive RelNs (K:FZ9)(H:Hp):List V->List Nt->Prop where
 | nil:RelNs K H [] []
 | cons {x:V}{d:Nt}{xs:List V}{ds:List Nt}(h:RelN K H x d) (t:RelNs K H xs ds):RelNs K H (x::xs) (d::ds)
end
mutual
theorem RelN.mono {K:FZ9}{H H':Hp}(s:Same H H'):∀ {v:V}{d:Nt},RelN K H v d->RelN K H' v d
 | _,_,.txt x z=>.txt x z
 | _,_,.int n=>.int n
 | _,_,.tup h z r l=>.tup (s.tup h) z (RelNs.mono s r) fun e=>s _ _ (l e)
theorem RelNs.mono {K:FZ9}{H H':Hp}(s:Same H H'):∀ {v:List V}{d:List Nt},RelNs K H v d->RelNs K H' v d
 | _,_,.nil=>.nil
 | _,_,.cons h t=>.cons (RelN.mono s h) (RelNs.mono s t)
end
instance rpN:Rp Nt:=⟨RelN,fun s h=>RelN.mono s h⟩
theorem EY {K:FZ9}{H:Hp}:∀ {xs:List V}{ds:List Nt},Paired (Rp.rel K H) xs ds->RelNs K H xs ds
 | _,_,.nil=>.nil
 | _,_,.cons h t=>.cons h (EY t)
theorem Fg {K:FZ9}{H:Hp}:∀ {xs:List V}{ds:List Nt},RelNs K H xs ds->Paired (Rp.rel K H) xs ds
 | _,_,.nil=>.nil
 | _,_,.cons h t=>.cons h (Fg t)
theorem SqT.keep {K:FZ9}{H H':Hp}{a:Addr}{xs:List V}(s:TupK H H')(h:SqT K H a xs):SqT K H' a xs:=by
 rcases h with h|h
 ·exact .inl (s.rd _ _ h)
 ·exact .inr h
mutual
theorem RelN.keep {K:FZ9}{H H':Hp}(s:TupK H H'):∀ {v:V}{d:Nt},RelN K H v d->RelN K H' v d
 | _,_,.txt x z=>.txt x z
 | _,_,.int n=>.int n
 | _,_,.tup h z r l=>.tup (SqT.keep s h) z (RelNs.keep s r) fun e=>s.eq _ _ (l e)
theorem RelNs.keep {K:FZ9}{H H':Hp}(s:TupK H H'):∀ {v:List V}{d:List Nt},RelNs K H v d->RelNs K H' v d
 | _,_,.nil=>.nil
 | _,_,.cons h t=>.cons (RelN.keep s h) (RelNs.keep s t)
end
instance imN:Imm Nt:=⟨fun s h=>RelN.keep s h⟩
def isTxt:Hp->V->Nt->Prop:=fun _ v a=>(∃ x,v = .str x/\a = .txt x)\/∃ n,v = .int n/\a = .int n
def isU (K:FZ9)(R:Hp->V->Nt->Prop):Hp->V->Nt->Prop:=fun H v a=>isTxt H v a\/∃ t xs l,v = .ref t/\SqT K H t xs/\a = .tup l/\Paired (R H) xs l
theorem HY (x y:Str):decide (Nt.txt x=Nt.txt y)=(x == y):=by
 rw [dec_beq];exact decide_eq_decide.mpr ⟨fun e=>by cases e;rfl,fun e=>by rw [e]⟩
theorem Hc (m n:Int):decide (Nt.int m=Nt.int n)=(m == n):=by
 rw [show (m == n)=decide (m=n) from rfl];exact decide_eq_decide.mpr ⟨fun e=>by cases e;rfl,fun e=>by rw [e]⟩
theorem eqTxt {K:FZ9}:EqTy K 0 isTxt where
 fn:=fun _ _ h h'=>by
  rcases h with ⟨x,h1,e1⟩ | ⟨x,h1,e1⟩<;>rcases h' with ⟨y,h2,e2⟩ | ⟨y,h2,e2⟩<;>(subst h1;first | (cases h2;rw [e1,e2];done)|cases h2)
 eq:=fun A _ _ _ r1 r2 h h'=>by
  rcases h with ⟨x,h1,e1⟩ | ⟨x,h1,e1⟩<;>rcases h' with ⟨y,h2,e2⟩ | ⟨y,h2,e2⟩<;>subst h1<;>subst h2<;>subst e1<;>subst e2<;>obtain ⟨t,rfl⟩:=r1<;>obtain ⟨t',rfl⟩:=r2
  ·rw [HY];exact SeqAt.EqAt.str_str _ _ _ _
  ·rw [decide_eq_false (fun e=>by cases e)];exact SeqAt.EqAt.str_int _ _ _ _
  ·rw [decide_eq_false (fun e=>by cases e)];exact SeqAt.EqAt.int_str _ _ _ _
  ·rw [Hc];exact SeqAt.EqAt.int_int _ _ _ _
 rc:=fun A _ _ _ r1 r2 h h'=>by
  rcases h with ⟨x,h1,e1⟩ | ⟨x,h1,e1⟩<;>rcases h' with ⟨y,h2,e2⟩ | ⟨y,h2,e2⟩<;>subst h1<;>subst h2<;>subst e1<;>subst e2<;>obtain ⟨t,rfl⟩:=r1<;>obtain ⟨t',rfl⟩:=r2
  ·rw [HY];exact ⟨SeqAt.RcAt.str_str _ _ _ _,SeqAt.RcNeAt.str_str _ _ _ _⟩
  ·rw [decide_eq_false (fun e=>by cases e)];exact ⟨SeqAt.RcAt.str_int _ _ _ _,SeqAt.RcNeAt.str_int _ _ _ _⟩
  ·rw [decide_eq_false (fun e=>by cases e)];exact ⟨SeqAt.RcAt.int_str _ _ _ _,SeqAt.RcNeAt.int_str _ _ _ _⟩
  ·rw [Hc];exact ⟨SeqAt.RcAt.int_int _ _ _ _,SeqAt.RcNeAt.int_int _ _ _ _⟩
theorem tups_dec {as bs:List Nt}{n m:Nat}(hn:n=as.length)(hm:m=bs.length):((List.range (min n m)).all (fun j=>decide (as[j]? = bs[j]?)) && n == m)=decide (Nt.tup as=Nt.tup bs):=by
 subst hn;subst hm;by_cases hl:as.length=bs.length
 ·rw [<- hl,Nat.min_self,beq_self_eq_true,Bool.and_true,all_dec as bs hl];exact decide_eq_decide.mpr ⟨fun e=>by rw [e],fun e=>by cases e;rfl⟩
 ·have h:(as.length == bs.length)=false:=by simpa using hl
  have ne:Nt.tup as≠Nt.tup bs:=fun e=>by
   cases e;exact hl rfl
  rw [h,Bool.and_false,decide_eq_false ne]
theorem eqNu {K:FZ9}{k:Nat}{R:Hp->V->Nt->Prop}(E:EqTy K k R):EqTy K (k+1) (isU K R):=by
 have fn:∀ {X:Cx}{pins:List (Addr × Obj)}{σ:St}{H:Hp}{s:Shared}{x:V}{a b:Nt},X.K=K->Inv X pins σ H s->isU K R H x a->isU K R H x b->a=b:=by
  intro X pins σ H s x a b hK I ha hb;rcases ha with ha | ⟨t,xs,l,rfl,h1,rfl,p1⟩
  ·rcases hb with hb | ⟨t,xs,l,e,_⟩
   ·exact eqTxt.fn (K:=K) hK I ha hb
   ·subst e;rcases ha with ⟨z,e,_⟩ | ⟨z,e,_⟩<;>cases e
  ·rcases hb with hb | ⟨t',ys,l',e,h2,rfl,p2⟩
   ·rcases hb with ⟨z,e,_⟩ | ⟨z,e,_⟩<;>cases e
   ·cases e;subst hK;have:=I.tuple_inj h1 h2;subst this;rw [Ev (F:=R H) (fun _ _ _ p q=>E.fn rfl I p q) p1 p2]
 have rc:∀ {X:Cx}{pins:List (Addr × Obj)}{σ:St}{H:Hp}{s:Shared}{x y:V}{u v:Value}{a b:Nt}(A:Around),X.K=K->Inv X pins σ H s->A.units+(k+1)<cLine->RelV x u->RelV y v->isU K R H x a->isU K R H y b ->
   SeqAt.RcAt A s u v (decide (a=b))/\SeqAt.RcNeAt A s u v (!decide (a=b)):=by
  intro X pins σ H s x y u v a b A hK I hu r1 r2 ha hb;rcases ha with ha | ⟨t,xs,l,rfl,h1,rfl,p1⟩
  ·rcases hb with hb | ⟨t',ys,l',rfl,h2,rfl,p2⟩
   ·exact eqTxt.rc (K:=K) A hK I (by omega) r1 r2 ha hb
   ·subst hK;obtain ⟨vs,ry,ply,_⟩:=I.tuple h2;rcases ha with ⟨z,rfl,rfl⟩ | ⟨z,rfl,rfl⟩<;>obtain ⟨tk,rfl⟩:=r1<;>cases r2<;>rw [decide_eq_false (fun e=>by cases e)]
    ·exact ⟨SeqAt.RcAt.str_tuple _ _ ply (by omega),SeqAt.RcNeAt.str_tuple _ _ ply (by omega)⟩
    ·exact ⟨SeqAt.RcAt.int_tuple _ _ ply (by omega),SeqAt.RcNeAt.int_tuple _ _ ply (by omega)⟩
  ·rcases hb with hb | ⟨t',ys,l',rfl,h2,rfl,p2⟩
   ·subst hK;obtain ⟨us,rx,plx,_⟩:=I.tuple h1;rcases hb with ⟨z,rfl,rfl⟩ | ⟨z,rfl,rfl⟩<;>obtain ⟨tk,rfl⟩:=r2<;>cases r1<;>rw [decide_eq_false (fun e=>by cases e)]
    ·exact ⟨SeqAt.RcAt.tuple_str _ _ plx (by omega),SeqAt.RcNeAt.tuple_str _ _ plx (by omega)⟩
    ·exact ⟨SeqAt.RcAt.tuple_int _ _ plx (by omega),SeqAt.RcNeAt.tuple_int _ _ plx (by omega)⟩
   ·cases r1;cases r2;subst hK;obtain ⟨us,rx,plx,_⟩:=I.tuple h1;obtain ⟨vs,ry,ply,_⟩:=I.tuple h2;have lx:=rx.length;have ly:=ry.length;have lpx:=Paired.length p1;have lpy:=Paired.length p2;have it:=GZ E rfl I hu rx ry p1 p2;rw [<- tups_dec (as:=l) (bs:=l') (n:=us.toArray.size) (m:=vs.toArray.size) (by simp;omega) (by simp;omega)];exact ⟨SeqAt.RcAt.tuples plx ply (by omega) it,SeqAt.RcNeAt.tuples plx ply (by omega) it⟩
 refine ⟨fn,?_,rc⟩;intro X pins σ H s x y u v a b A hK I hu r1 r2 ha hb;have h:=(rc A hK I hu r1 r2 ha hb).1;rcases id ha with ha' | ⟨t,xs,l,rfl,h1,rfl,p1⟩
 ·rcases id hb with hb' | ⟨t',ys,l',rfl,h2,rfl,p2⟩
  ·exact eqTxt.eq (K:=K) A hK I (by omega) r1 r2 ha' hb'
  ·subst hK;obtain ⟨vs,ry,ply,_⟩:=I.tuple h2;rcases ha' with ⟨z,rfl,rfl⟩ | ⟨z,rfl,rfl⟩<;>obtain ⟨tk,rfl⟩:=r1<;>cases r2<;>rw [decide_eq_false (fun e=>by cases e)]
   ·exact SeqAt.EqAt.str_tuple _ _ ply (by omega)
   ·exact SeqAt.EqAt.int_tuple _ _ ply (by omega)
 ·rcases id hb with hb' | ⟨t',ys,l',rfl,h2,rfl,p2⟩
  ·subst hK;obtain ⟨us,rx,plx,_⟩:=I.tuple h1;rcases hb' with ⟨z,rfl,rfl⟩ | ⟨z,rfl,rfl⟩<;>obtain ⟨tk,rfl⟩:=r2<;>cases r1<;>rw [decide_eq_false (fun e=>by cases e)]
   ·exact SeqAt.EqAt.tuple_str _ _ plx (by omega)
   ·exact SeqAt.EqAt.tuple_int _ _ plx (by omega)
  ·cases r1;cases r2;by_cases e:t=t'
   ·subst e;have:=fn hK I ha hb;rw [decide_eq_true this];exact SeqAt.EqAt.same _
   ·exact SeqAt.EqAt.of_refs e h
def isN (K:FZ9)(d:Nat):Hp->V->Nt->Prop:=fun H v a=>RelN K H v a/\a.dep<=d
theorem isNs {K:FZ9}{H:Hp}{d:Nat}:∀ {xs:List V}{l:List Nt},RelNs K H xs l->Nt.deps l<=d->Paired (isN K d H) xs l
 | _,_,.nil,_=>.nil
 | _,_,.cons h t,hd=>by
  unfold Nt.deps at hd;exact .cons ⟨h,by omega⟩ (isNs t (by omega))
theorem eqN {K:FZ9}:∀ d:Nat,EqTy K d (isN K d)
 | 0=>eqTxt.imp fun H v a ⟨h,hd⟩=>by
  cases h with
  | txt x z=>exact .inl ⟨x,rfl,rfl⟩
  | int n=>exact .inr ⟨n,rfl,rfl⟩
  | tup h z r l =>
   unfold Nt.dep at hd;omega
 | d+1=>(eqNu (eqN d)).imp fun H v a ⟨h,hd⟩=>by
  cases h with
  | txt x z=>exact .inl (.inl ⟨x,rfl,rfl⟩)
  | int n=>exact .inl (.inr ⟨n,rfl,rfl⟩)
  | tup h z r l =>
   unfold Nt.dep at hd;exact .inr ⟨_,_,_,rfl,h,rfl,isNs r (by omega)⟩
def rEqN (K:FZ9):R2:=fun x y H Q=>∃ a b:Nt,isN K 180 H x a/\isN K 180 H y b/\Q (.bl (decide (a=b))) H
theorem op_eqN {X:Cx}{K:FZ9}{j:Nat}(hK:X.K=K)(hr:Room j X.A):OpR X (compareOp .Eq) (rEqN K):=by
 intro pins s σ H x y v u Q I rx ry h;obtain ⟨a,b,h1,h2,q⟩:=h;exact ((eqN 180).rc X.A hK I (by have:=hr.un;omega) rx ry h1 h2).1 _ _ _ _ ⟨.bl _,H,I,rfl,q⟩
def eqNO (a b:Nt):Option Bool:=if a.dep<=180/\b.dep<=180 then some (decide (a=b)) else none
section
variable {K:FZ9}{σ:St}{G:Hp}{ta tb te:TE}{m1 m2 md:Option Nt}
theorem ev_eqN (ea:EV K ta σ G m1)(eb:EV K tb σ G m2):EV K (tOp (rEqN K) ta tb) σ G (m1.bind fun a=>m2.bind fun b=>eqNO a b) :=
 BM (fun s ra rb e Q k=>by
  obtain ⟨⟨h1,h2⟩,rfl⟩:=B7 e
  exact ⟨_,_,⟨RelN.mono s ra,h1⟩,⟨RelN.mono s rb,h2⟩,k _ _ _ (.refl s) rfl⟩) ea eb
theorem B5 {m:Option Str}(e:EV K te σ G m):EV K te σ G (m.bind fun x=>some (Nt.txt x)):=by
 clear 7;obtain ⟨x,hx,hc⟩:=qaA.mp hc;cases hc;exact e G1 s1 x hx H sH Q fun v G2 H2 x2 ⟨e,z⟩=>k v G2 H2 x2 (by subst e;exact .txt _ z)
def Bc:Nt->Option Str
 | .txt x=>some x
 | _=>none
def Al:Nt->Option (Tp Nt)
 | .tup l=>some ⟨l⟩
 | _=>none
theorem Bn (e:EV K te σ G md):EV K te σ G (md.bind fun d=>Bc d):=by
 clear 7;obtain ⟨d,hd,hc⟩:=qaA.mp hc;refine e G1 s1 d hd H sH Q fun v G2 H2 x r=>?_
 cases r with
 | txt y z =>
  cases hc;exact k _ _ _ x ⟨rfl,z⟩
 | int n=>cases hc
 | tup h z r l=>cases hc
theorem AQ (e:EV K te σ G md):EV K te σ G (md.bind fun d=>Al d):=by
 clear 7;obtain ⟨d,hd,hc⟩:=qaA.mp hc;refine e G1 s1 d hd H sH Q fun v G2 H2 x r=>?_
 cases r with
 | txt y z=>cases hc
 | int n=>cases hc
 | tup h z r l =>
  cases hc;exact k _ _ _ x ⟨_,_,rfl,h,z,Fg r⟩
end
section
variable {X:Cx}{K:FZ9}
theorem sl_tupK (h:X.K=K):SlR X (rSlT K):=h ▸ sl_tup
end
section
variable {K:FZ9}{σ:St}{G:Hp}{α:Type}[Rp α]{ta tb tc te:TE}{t1 t2:TO}{ia ib ic:Option Int}{m1 m2:Option (Option Int)}
def HV {α:Type}(l:List α)(lo hi:Option Int):Option (Tp α):=if ¬ (HT.sIx l.length 0 lo=0/\HT.sIx l.length l.length hi=l.length) then some ⟨cutA l lo hi⟩ else none
theorem I8 {ma:Option (Tp α)}(ea:EV K ta σ G ma)(e1:OV t1 σ G m1)(e2:OV t2 σ G m2):EV K (tSl (rSlT K) ta t1 t2) σ G (ma.bind fun a=>m1.bind fun lo=>m2.bind fun hi=>HV a.l lo hi):=by
 clear 7;obtain ⟨a,ha,hc⟩:=qaA.mp hc;obtain ⟨lo,hlo,hc⟩:=qaA.mp hc;obtain ⟨hi,hhi,hc⟩:=qaA.mp hc;obtain ⟨hw,rfl⟩:=B7 hc;clear 8 ea a ha;refine e1 G2 (s1.trans x2.gg) lo hlo H2 x2.gh _ fun G3 H3 x3=>?_;refine e2 G3 (s1.trans (x2.trans x3).gg) hi hhi H3 x3.gh _ fun G4 H4 x4=>?_;obtain ⟨l,xs,rfl,h,z,p⟩:=Rp.mono (x3.trans x4).gg r2;have hl:=Paired.length p;refine ⟨l,xs,rfl,x4.gh.tup h,by rw [hl];exact hw,fun q hq=>?_⟩;have hg:G4 q=none:=x4.gh.free hq;refine k _ (upd G4 q (.tup (Gu xs lo hi))) _ (((x2.trans x3).trans x4).trans ⟨Same.new hg,fun b o e=>?_,Same.new hq,fun b h1 h2=>?_⟩) ⟨q,_,rfl,.inl (.inl AX),qsA (Dt _ _ _) z,Paired.imp' (fun _ _ r=>Rp.mono (Same.new hg) r) (Paired.cut p lo hi)⟩
 ·by_cases hb:b=q
  ·subst hb;rw [AX] at e ⊢;exact e
  ·rw [Aq hb] at e ⊢;exact x4.gh b o e
 ·have hb:b≠q:=fun e=>h2 (by rw [e];exact hq);rw [Aq hb];exact h1
class Flat (α:Type) [Rp α] [DecidableEq α]:Prop where
 fl:∀ {K:FZ9}{H:Hp}{v:V}{a:α},Rp.rel K H v a->flatV v=true
 eq:∀ {K:FZ9}{H H':Hp}{v u:V}{a b:α},Rp.rel K H v a->Rp.rel K H' u b->eqV v u=decide (a=b)
end
mutual
def Nt.toD:Nt->D
 | .txt x=>.str x
 | .int n=>.int n
 | .tup l=>.tup (Nt.toDs l)
def Nt.toDs:List Nt->List D
 | []=>[]
 | a::l=>Nt.toD a::Nt.toDs l
end
mutual
theorem RelN.toD {K:FZ9}{H:Hp}:∀ {v:V}{a:Nt},RelN K H v a->RelD K H v a.toD
 | _,_,.txt x z=>by unfold Nt.toD;exact .str x z
 | _,_,.int n=>by unfold Nt.toD;exact .int n
 | _,_,.tup h z r _=>by unfold Nt.toD;exact .tup h z (RelNs.toD r)
theorem RelNs.toD {K:FZ9}{H:Hp}:∀ {xs:List V}{l:List Nt},RelNs K H xs l->RelDs K H xs (Nt.toDs l)
 | _,_,.nil=>by unfold Nt.toDs;exact .nil
 | _,_,.cons h t=>by unfold Nt.toDs;exact .cons (RelN.toD h) (RelNs.toD t)
end
instance tdN:ToD Nt:=⟨Nt.toD,fun h=>RelN.toD h⟩
theorem EK {X:Cx}{x:Str}{a:Addr}{pos:Pos}(hg:Gl X x)(h:X.mg x=some (.ref a))(hd:(x == ("__debug__" : Str))=false:=by decide):PE X (.Name x pos) (tC (.ref a)) :=
 Hb (u:=.ref a) hg h rfl hd
section
variable {K:FZ9}{σ:St}{G:Hp}{ta:TE}
theorem B6 {t:TA}{n:Nat}{ml:Option (List Nt)}(e:LV K t σ G n ml)(z:n<=sizeLine:=by decide):EV K (tTup t) σ G (ml.bind fun l=>some (Nt.tup l)) :=
 fun G1 s1 c hc H sH Q k=>by
  obtain ⟨l,hl,hc⟩:=qaA.mp hc;cases hc;refine e G1 s1 l hl H sH _ fun vs G2 H2 x2 hl hp=>⟨by omega,fun p h=>?_⟩;exact k _ _ _ (x2.trans (.new x2.gh h)) (.tup (SqT.of AX) (by omega) (EY (Paired.imp' (fun _ _ r=>Rp.mono (Same.new (x2.gh.free h)) r) hp)) fun _=>AX)
end
class NoN (α:Type) [Rp α]:Prop where
 no_non:∀ {K:FZ9}{H:Hp}{x:V}{a:α},Rp.rel K H x a->x ≠ .non
 ne:∀ {K:FZ9}{X:Cx}{pins:List (Addr × Obj)}{σ:St}{H:Hp}{s:Shared}{x:V}{u:Value}{a:α}(A:Around),X.K=K->Inv X pins σ H s->A.units<cLine->RelV x u->Rp.rel K H x a ->
  (SeqAt.EqAt A s .none u false/\SeqAt.RcAt A s .none u false/\SeqAt.RcNeAt A s .none u true)/\SeqAt.EqAt A s u .none false/\SeqAt.RcAt A s u .none false/\SeqAt.RcNeAt A s u .none true
class Fix (α:Type) [Rp α]:Prop where
 fx:∀ {K:FZ9}{G G':Hp}{v:V}{a:α},Rp.rel K G v a->Rp.rel K G' v a
end L2
namespace L3
open PySem
end L3
namespace L2
open PySem PySem.Spec PyProof.Rows
inductive SI where
 | s (x:Str)
 | i (n:Int)
 deriving DecidableEq
structure Mp (α:Type) where
 l:List (Int × α)
def Fq (K:FZ9):V->List V->Hp->VK->Prop:=fun x vs H Q=>∃ l b xs zs,x = .ref l/\vs=[.ref b]/\H l=some (.lst xs)/\SqT K H b zs/\xs.length+zs.length<=sizeLine/\Q .non (upd H l (.lst (xs++zs)))
theorem Gj {X:Cx}{K:FZ9}(hK:X.K=K):MtM X "list.extend" (Fq K):=by
 subst hK;intro pins s σ H x vs v us Q I rx rv h;obtain ⟨l,b,xs,zs,rfl,rfl,hH,hB,hz,q⟩:=h;cases rx;obtain ⟨u,rfl,ru⟩:=rv.one;cases ru;obtain ⟨z,its,n,r,hl,e⟩:=I.lstM hH;obtain ⟨its2,r2,⟨o2,g2,c2,n2,d2⟩,_⟩:=I.tuple hB;have h1:=r.length;have h2:=r2.length;have hsz:its.toArray.size+its2.toArray.size<=sizeLine:=by rw [qdB,qdB];omega
 refine wpAny_call_entry F.slot_list_extend ⟨_,e,rfl⟩ F.entry_list_extend ?_ (F.args_list_extend_2 _ _);unfold Builtin.«list.extend»;refine qbA (qcA ?_);dsimp only;unfold Builtin.List.listExtendWith;refine qbA (wpAny_typeOf (T := "tuple") ⟨o2,g2,c2⟩ ?_);have ht:(Value.type "tuple" == Value.type "tuple")=true:=by rfl
 rw [if_pos (by rw [ht];simp)];refine qbA (listItems_at g2 d2 (qbA (listItems_at e rfl ?_)));rw [if_neg (by rw [GF hsz,Bool.and_false];exact qcB)];refine qbA (listUpdate_at e rfl ?_ (by omega) (by rw [Array.size_append];omega));refine qcA ⟨_,rfl,.non,_,I.lset (its':=its++its2) (t':=s.toks) hH e (by simp) (r.append r2) ?_,rfl,q⟩;rw [qeA];omega
section
variable {K:FZ9}{σ:St}{G H:Hp}{α:Type}[Rp α]{te:TE}{rest:TS}{D:Ends}{i:Nat}{m:Option (Tp α)}{b:Tp α}{as as':List α}{v:V}{p:Addr}{vs:List V}
theorem Fz [Imm (Tp α)](hσ:σ[i]? = some (some v))(o:Own K G H v p vs as)(e:EV K te σ (upd G p (.lst vs)) m)(hm:m=some b)(hp:extO as b.l=some as')(s:Same G H)
  (k:∀ G2 H2 ws,Ext G H G2 H2->Own K G2 (upd H2 p (.lst (vs++ws))) v p (vs++ws) as'->rest D σ (upd H2 p (.lst (vs++ws)))):CW (Ek (tBM K "list" (Fq K) (EB i) (An te C8))) rest D σ H:=by
 obtain ⟨hl,rfl⟩:=B7 hp;have hlen:=Paired.length o.p;have ov:=o.v;subst ov;refine ⟨_,hσ,.inl ⟨rfl,_,SqL.of o.h⟩,?_⟩;refine EV.runB o e hm s fun w G2 H2 x r=>?_;have o2:=o.ext x;obtain ⟨q,ws,rfl,hq,hz,hpr⟩:=r;have hlw:=Paired.length hpr;refine ⟨p,q,vs,ws,rfl,rfl,o2.h,x.gh.tup hq,by omega,?_⟩;refine k G2 H2 ws x ⟨rfl,o2.g,AX,?_,Paired.app o2.p hpr⟩;rw [qeA];omega
end
structure MpS (α:Type) where
 l:List (Str × α)
def C3:List (Str × Int)->Str->Option Int
 | [],_=>none
 | (y,i)::r,x=>cond (decide (y=x)) (some i) (C3 r x)
def EntC:List DictEntry->List (Str × Int)->Prop
 | [],[]=>True
 | e::es,q::l=>(∃ t u,e.key = .str q.1 t/\e.val = .int q.2 u)/\EntC es l
 | _,_=>False
structure CDict (w:World)(K:FZ9)(a:Addr)(l:List (Str × Int)):Prop where
 lo:(a == sysModules)=false
 ex:∃ es n,K.lookup a=some ⟨.type "dict",none,.dict es n,#[]⟩/\PySem.W.KeysLit w.params es.toList/\EntC es.toList l
theorem GN:∀ {es:List DictEntry}{l:List (Str × Int)}(x:Str),EntC es l ->
  match C3 l x with
  | some i=>∃ u,(es.find? fun e=>Value.isStrOf x e.key).map (·.val)=some (.int i u)
  | none=>(es.find? fun e=>Value.isStrOf x e.key).map (·.val)=none
 | [],[],x,_=>rfl
 | e::es,(y,i)::l,x,⟨⟨t,u,h1,h2⟩,r⟩=>by
  have ih:=GN x r
  have hk:Value.isStrOf x e.key=decide (y=x):=by
   rw [h1];show Value.isStrOf x (.str y t)=_;by_cases q:y=x
   ·subst q;simp [Value.isStrOf]
   ·rw [decide_eq_false q];simp [Value.isStrOf,q]
  unfold C3;rw [List.find?_cons,hk];by_cases q:y=x
  ·rw [decide_eq_true q];exact ⟨u,by rw [<- h2];rfl⟩
  ·rw [decide_eq_false q];exact ih
section
variable {X:Cx}{i o:Expr}{ty:TE}{pos:Pos}{a:Addr}{w:World}{K:FZ9}{l:List (Str × Int)}
theorem CDict.map {prog:Program}{h:Heap}(C:CDict w K a l)(X:K.In h):∃ f,h.MapOf (strKind prog w) a f/\∀ x,match C3 l x with
  | some i=>∃ u,f x=some (.int i u)
  | none=>f x=none:=by
 obtain ⟨es,n,hl,hk,he⟩:=C.ex;refine ⟨_,PySem.W.mapOf_K X hl hk,fun x=>?_⟩;have:=GN x he;obtain ⟨es⟩:=es
 show match C3 l x with
  | some i=>∃ u,findBy Value.isStrOf _ x=some (.int i u)
  | none=>findBy Value.isStrOf _ x=none
 unfold findBy;rw [List.find?_toArray];exact this
def tInC (l:List (Str × Int))(ty:TE):TE:=fun σ H Q=>ty σ H fun y H1=>∃ z,y = .str z/\Q (.bl (C3 l z).isSome) H1
def tGetC (l:List (Str × Int))(ty:TE):TE:=fun σ H Q=>ty σ H fun y H1=>∃ z v,y = .str z/\C3 l z=some v/\Q (.int v) H1
theorem pc_inC (hw:X.w=w)(hK:X.K=K)(C:CDict w K a l)(hi:PE X i ty)(ho:PE X o (tC (.ref a))):PC X .In i o (tInC l ty):=by
 subst hw hK;intro pins s σ H Q I h;refine thn (hi pins s σ H _ I h) fun iv s1 ⟨y,H1,I1,ry,z,ey,q1⟩=>thn (ho pins s1 σ H1 (fun v H'=>v = .ref a/\H'=H1) I1 ⟨rfl,rfl⟩) fun u s2 ⟨x,H2,I2,rx,e1,e2⟩=>?_;subst ey e1 e2;obtain ⟨t,rfl⟩:=ry;obtain rfl:u=Value.ref a:=rx;obtain ⟨f,hf,hx⟩:=C.map (prog:=X.prog) (fun b o e=>I2.kIn b o e);refine wpAny_in_of (strKind_is X.prog X.w z t) C.lo hf ⟨.bl (f z).isSome,H2,I2.tok _,rfl,?_⟩;have hz:=hx z
 cases e:C3 l z with
 | some i =>
  rw [e] at hz q1;obtain ⟨u,hz⟩:=hz;rw [hz];exact q1
 | none =>
  rw [e] at hz q1;rw [show f z=none from hz];exact q1
theorem pe_inC (hw:X.w=w)(hK:X.K=K)(C:CDict w K a l)(hi:PE X i ty)(ho:PE X o (tC (.ref a)))(hm:behindInMarks .In o=false):PE X (.Compare i [.In] [o] pos) (tInC l ty):=pe_cmp (pc_inC hw hK C hi ho) hm
theorem pe_getC (hw:X.w=w)(hK:X.K=K)(C:CDict w K a l)(ho:PE X o (tC (.ref a)))(hi:PE X i ty)(hs:NoSl i):PE X (.Subscript o i pos) (tGetC l ty):=by
 subst hw hK;intro pins s σ H Q I h;refine subD_of PySem.F.slot_dict_getitem.lookup hs (thn (ho pins s σ H (fun v H'=>v = .ref a/\H'=H) I ⟨rfl,rfl⟩) fun u s1 ⟨x,H1,I1,rx,e1,e2⟩=>?_);subst e1 e2;refine thn (hi pins s1 σ H1 _ I1 h) fun iv s2 ⟨y,H2,I2,ry,z,v,ey,g,q2⟩=>?_;subst ey;obtain ⟨t,rfl⟩:=ry;obtain rfl:u=Value.ref a:=rx;obtain ⟨f,hf,hx⟩:=C.map (prog:=X.prog) (fun b o e=>I2.kIn b o e);have hz:=hx z;rw [g] at hz;obtain ⟨u,hz⟩:=hz;exact ⟨hf.typeIs,wpAny_getItem_of (strKind_is X.prog X.w z t) hf hz ⟨.int v,H2,I2.tok _,⟨u,rfl⟩,q2⟩⟩
end
section
variable {K:FZ9}{σ:St}{G:Hp}{ty:TE}{l:List (Str × Int)}
theorem ev_inC {mx:Option Str}(e:EV K ty σ G mx):EV K (tInC l ty) σ G (mx.bind fun x=>some (C3 l x).isSome):=by
 clear 7;obtain ⟨x,hx,hc⟩:=qaA.mp hc;cases hc;clear 8 e x hx;exact ⟨x,r2.1,k _ G2 H2 x2 rfl⟩
theorem ev_getC {mx:Option Str}(e:EV K ty σ G mx):EV K (tGetC l ty) σ G (mx.bind fun x=>C3 l x):=by
 clear 7;obtain ⟨x,hx,hc⟩:=qaA.mp hc;clear 8 e x hx;exact ⟨x,c,r2.1,hc,k _ G2 H2 x2 rfl⟩
end
end L2
namespace HT
open PySem PySem.Spec PyProof.Rows
end HT
namespace L2
open PySem PySem.Spec PyProof.Rows
structure Rk where
 l:List SI
def Itv (K:FZ9)(a:Addr)(n:Nat):It :=
 ⟨fun i H=>∃ xs x,SqL K H a xs/\xs.length=n/\i<n/\xs[n - 1 - i]? = some x,fun i H x H'=>H'=H/\∀ xs,SqL K H a xs->xs[n - 1 - i]? = some x,fun i H=>i=n/\∃ xs,SqL K H a xs/\xs.length=n⟩
theorem turn_rev {P:Program}{w:World}{K:FZ9}{tg:Expr}(a it:Addr)(n:Nat):Turn P w K tg (Itv K a n) [it] it (fun i h=>h.IsRevIter it a ((n:Int) - 1 - (i:Int))) where
 mem:=by simp
 obj:=fun i h st b hb=>by
  have e:b=it:=by simpa using hb
  subst e;obtain ⟨o,e,c,d⟩:=st;exact ⟨o,e,fun v z=>by rw [d] at z;cases z⟩
 keep:=fun i h h' st k=>st.at fun o e=>k it (by simp) o e
 item:=by
  intro X hP hw hK hc i pins s σ H E I hf st hg;subst hP hw hK;obtain ⟨xs,x,hq,hn,hi,hx⟩:=hg;obtain ⟨its,rv,p,hz⟩:=I.list hq;obtain ⟨u,hu,ru⟩:=rv.get hx;obtain ⟨f0,f1,f2,f3,f4,f5⟩:=hf it (by simp);have e:(n:Int) - 1 - (i:Int)=((n - 1 - i:Nat):Int):=by omega
  rw [e] at st;refine wpAny_pyNext_rev_item st p.isList (x:=u) (by simpa using hu) fun h' st' sb=>?_;have I1:Inv X pins σ H { s with heap:=h' }:=I.turned (t':=s.toks) (fun b o hb e=>(sb.2 b hb).trans e) f0 f1 f3 f4 f5;have e2:((n - 1 - i:Nat):Int) - 1=(n:Int) - 1 - ((i+1:Nat):Int):=by omega
  rw [e2] at st';obtain ⟨o,e,c,d⟩:=id st';exact ⟨u,rfl,Ey (s:={ s with heap:=h' }) e c d (by decide) ⟨x,H,I1,ru,⟨rfl,fun ys hy=>by rw [I.list_inj hy hq];exact hx⟩,st',fun b hb=>(hf b hb).1⟩⟩
 done:=by
  intro X hP hw hK hc i pins s σ H E I hf st hg;subst hP hw hK;obtain ⟨rfl,xs,hq,hn⟩:=hg;obtain ⟨f0,f1,f2,f3,f4,f5⟩:=hf it (by simp);have e:(i:Int) - 1 - (i:Int) = -1:=by omega
  rw [e] at st;exact wpAny_pyNext_rev_end (I.ok.hd hc) st fun h' eb=>⟨rfl,I.turned (t':=s.toks) (fun b o hb e=>eb b o hb e) f0 f1 f3 f4 f5⟩
 self:=fun _ _ _ _ _ st h=>wpAny_pyIter_revIter st h
def iRev (K:FZ9)(ta:TA):TI:=fun σ H R=>ta σ H fun vs H1=>∃ a xs,vs=[.ref a]/\SqL K H1 a xs/\R (Itv K a xs.length) H1
theorem Eo:bootBuiltins "reversed" = some (.type "reversed"):=by decide +kernel
section
variable {K:FZ9}{σ:St}{G:Hp}{α:Type}[Rp α]{ta:TE}
theorem Paired.rev {β:Type}{F:V->β->Prop}:∀ {xs:List V}{as:List β},Paired F xs as->Paired F xs.reverse as.reverse
 | _,_,.nil=>.nil
 | _,_,.cons r t=>by
  rw [List.reverse_cons,List.reverse_cons];exact Paired.app (Paired.rev t) (.cons r .nil)
theorem iw_rev {la:Option (List α)}(ea:EV K ta σ G la):IW K (iRev K (An ta C8)) σ G (la.bind fun a=>some a.reverse):=by
 intro G1 s1 a ha H sH R k;obtain ⟨b,hb,ha⟩:=qaA.mp ha;cases ha;clear 8 ea b hb;obtain ⟨l,xs,rfl,h,z,p⟩:=r2;refine ⟨l,xs,rfl,.inl (x2.gh.rd h),k _ xs.reverse G2 H2 x2 ⟨fun i H' s hi=>?_,fun H' s=>?_,fun i H' x H'' s hi hy=>?_⟩ (by rw [List.length_reverse];exact z) (Paired.rev p)⟩
 ·rw [List.length_reverse] at hi;exact ⟨xs,xs[xs.length - 1 - i]'(by omega),.inl (s.rd h),rfl,hi,qpA (by omega)⟩
 ·rw [List.length_reverse];exact ⟨rfl,xs,.inl (s.rd h),rfl⟩
 ·rw [List.length_reverse] at hi;refine ⟨hy.1,?_⟩;rw [List.getElem?_reverse (by omega)];exact hy.2 xs (.inl (s.rd h))
end
section
variable {κ:PyProof.Rows.KeyKind}
def ky (κ:PyProof.Rows.KeyKind)(p:Keyed):κ.α:=(κ.keyOf p.1).getD κ.dflt
variable {prog:Program}{w:World}{A:Around}{E:Value->Shared->Prop}{s:Shared}
end
section
variable {κ:PyProof.Rows.KeyKind}
def kl (κ:PyProof.Rows.KeyKind)(x y:Keyed):Prop:=κ.kle (ky κ x) (ky κ y)
end
def sg (st:SortSt)(g:Nat):SortSt:=SortSt.mk' (kindOf st) (arrOf st) (pendingOf st) g (failedOf st)
end L2
set_option maxHeartbeats 2000000
namespace L2
open PySem PySem.Spec PyProof.Rows
end L2
set_option maxHeartbeats 2000000
namespace L2
open PySem PySem.Spec PyProof.Rows
end L2
set_option maxHeartbeats 2000000
namespace L2
open PySem PySem.Spec PyProof.Rows
end L2
set_option maxHeartbeats 2000000
namespace L2
open PySem PySem.Spec PyProof.Rows
end L2
set_option maxHeartbeats 2000000
namespace L2
open PySem PySem.Spec PyProof.Rows
end L2
set_option maxHeartbeats 2000000
namespace L2
open PySem PySem.Spec PyProof.Rows
end L2
set_option maxHeartbeats 2000000
namespace L2
open PySem PySem.Spec PyProof.Rows
end L2
set_option maxHeartbeats 2000000
namespace L2
open PySem PySem.Spec PyProof.Rows
section
variable {κ:PyProof.Rows.KeyKind}{prog:Program}{w:World}{A:Around}{E:Value->Shared->Prop}{s:Shared}
abbrev mk (X:Array Keyed)(p:Array (Nat × Nat × Nat))(g:Nat):SortSt:=SortSt.mk' oneType' X p g none
end
end L2
set_option maxHeartbeats 2000000
namespace L2
open PySem PySem.Spec PyProof.Rows
end L2
set_option maxHeartbeats 2000000
namespace L2
open PySem PySem.Spec PyProof.Rows
structure MpR (α:Type) where
 l:List (Rk × α)
def spYF (K:FZ9){A:Type}[RpA A]{α β:Type}[Rp α][Rp β](m:List α->A->Option (List α × β)):Sp:=fun vs H Q _ =>
 ∃ G p xs us as a r,vs = .ref p::us/\Same G H/\Own K G H (.ref p) p xs as/\RpA.rel K G us a/\m as a=some r /\
  ∀ w G2 H2 xs',Ext G (era H [p]) G2 H2->Own K G2 H2 (.ref p) p xs' r.1->Rp.rel K G2 w r.2->Q w H2
section
variable {K:FZ9}{σ:St}{G H:Hp}{α β γ δ:Type}[Rp α][Rp β][Rp γ][Rp δ]{rest:TS}{D:Ends}{i j:Nat}{v:V}{p:Addr}{vs:List V}{as:List α}{t1 t2:TE}{ta:TA}
theorem spYF_len {A:Type}[RpA A]{m:List α->A->Option (List α × β)}{vs:List V}{Q:VK}{E:XK}(h:spYF K m vs H Q E):vs.length=RpA.n A+1:=by
 obtain ⟨G,p,xs,us,as,a,r,rfl,_,_,h,_⟩:=h;rw [qfA,RpA.len h]
theorem ES {A:Type}[RpA A]{mA:Option A}{c:A}{m:List α->A->Option (List α × β)}{r:List α × β}(hσ:σ[i]? = some (some v))(o:Own K G H v p vs as)(ea:AV K ta σ G mA)(ha:mA=some c)(hm:m as c=some r)(s:Same G H)
  (k:∀ w G1 H1 G2 H2 vs',Ext G H G1 H1->Ext G1 (era H1 [p]) G2 H2->Own K G2 H2 v p vs' r.1->Rp.rel K G2 w r.2->rest D (σ.set j (some w)) H2):CW (Ft (DB (spYF K m) [] E0 (An (EB i) ta)) (Ct j)) rest D σ H:=by
 have ov:=o.v;subst ov;refine ⟨_,hσ,?_⟩;refine ea G (.refl G) c ha H s _ fun us G1 H1 x h=>?_;exact ⟨G1,p,vs,us,as,c,r,qqA _,x.gh,o.ext x,h,hm,fun w G2 H2 xs' y o' rw_=>k w G1 H1 G2 H2 xs' x y o' rw_⟩
end
class RpC (γ:Type) [Rp γ] where
 P:FZ9->Hp->HO->γ->Prop
 mono:∀ {K:FZ9}{G G':Hp}{ho:HO}{a:γ},Same G G'->P K G ho a->P K G' ho a
 rel:∀ {K:FZ9}{G:Hp}{ho:HO}{a:γ}{q:Addr},P K G ho a->G q=some ho->Rp.rel K G (.ref q) a
structure MpRF (α:Type) where
 l:List (Rk × α)
structure DIn (K:FZ9)(mg:Str->Option Value)(x:Str)(st:Stmt):Prop where
 ex:∃ f fd,mg x=some (.ref f)/\Fun K x x st f fd
def BnO (x:Str)(st:Stmt)(ps:List Str):Prop:=∀ (kV doc pm:Value) (an:Option Addr) (cdv ct:Value) (us:List Value),us.length=ps.length->bindArgs (qfB x x (CM st) (BO st) (AC st) .none kV doc pm an cdv ct) ⟨us,[]⟩=pure (ps.zip us)
abbrev Nn (K:FZ9)(x:Str):Prop:=PySem.W.nsIn K mainGlobals x=some none
theorem scm {N ps:List Str}{sc:Scope}(a:sc.kind = .function:=by rfl)(b:sc.isCoroutine=false:=by rfl)(c:sc.isGenerator=false:=by rfl)(d:N.Nodup:=by decide +kernel)(e:N.take ps.length=ps:=by rfl)(f:∀ x∈ps,sc.names.lookup x=some .local \/ sc.names.lookup x=some .cell:=by decide +kernel)(g:∀ y∈sc.names,y.2 ≠ .free:=by decide +kernel):FnScope N ps sc:=⟨a,b,c,d,e,f,g⟩
theorem din {K:FZ9}{h:Heap}{mg:Str->Option Value}{x:Str}{st:Stmt}{f:Addr}{oc:Value}{od an:Option Addr}{osl:Array (Option Value)}{kV doc pm cdv ct:Value}(X:K.In h)(G:h.Ns mainGlobals mg)(a:PySem.W.nsIn K mainGlobals x=some (some (.ref f)))
  (l:K.lookup f=some ⟨oc,od,.func (qfB x x (CM st) (BO st) (AC st) .none kV doc pm an cdv ct),osl⟩) (c:PySem.W.codeIn K cdv x=true) (k:qeB K (.ref f)=true):DIn K mg x st:=⟨f,_,PySem.W.mg_of X G a,fun_mk l c k⟩
section
variable {P:Program}{w:World}{K:FZ9}{mg:Str->Option Value}{base:Heap}{x:Str}{st:Stmt}{N ps:List Str}{k:Nat}{sp:Sp}{ρ:Type}[Rp ρ]
theorem DIn.ok (Z:DIn K mg x st)(S:FnScope N ps (AC st))(b:BnO x st ps)(len:∀ vs H Q E,sp vs H Q E->vs.length=ps.length)
  (hbody:∀ (f:Addr) (cdv:Value) (A:Around) (outer:List Env) (s:Shared) (H:Hp) (vs:List V) (Q:VK) (E:XK),Room k (A.deeper (envOfC x (AC st) s.heap.objs.size f cdv))->sp vs H Q E ->
   ∃ t,PSs (DS CX0 P w K mg base N x (AC st) f cdv A outer s H E).nox (BO st) t/\t { nx:=fun _ H'=>Q .non H',rt:=Q } (start N vs) H):DefOk P w K mg base x (k+1) ps sp:=by
 obtain ⟨f,fd,a,F⟩:=Z.ex;exact Eh F a (F.binds b) (F.ok S len fun cdv A outer s H vs Q E hr h=>hbody f cdv A outer s H vs Q E hr h)
theorem bn1 {p0:Str}(h:∀ (kV doc pm:Value) (an:Option Addr) (cdv ct:Value) (a0:Value),bindArgs (qfB x x (CM st) (BO st) (AC st) .none kV doc pm an cdv ct) ⟨[a0],[]⟩=pure (List.zip [p0] [a0]):=by intros;rfl):BnO x st [p0]:=fun kV doc pm an cdv ct us hl=>match us,hl with | [a0],_=>h kV doc pm an cdv ct a0
theorem DIn.okM1 {α0:Type}[Rp α0]{p0:Str}{m:α0->Option ρ}(Z:DIn K mg x st)(S:FnScope N [p0] (AC st))
  (hbody:∀ (f:Addr) (cdv:Value) (A:Around) (outer:List Env) (s:Shared) (H:Hp) (Q:VK) (E:XK),Room k (A.deeper (envOfC x (AC st) s.heap.objs.size f cdv))->∀ G a0 res v0,Ext G H G H->Rp.rel K G v0 a0->m a0=some res->(∀ v G2 H2,Ext G H G2 H2->Rp.rel K G2 v res->Q v H2) ->
   ∃ t,PSs (DS CX0 P w K mg base N x (AC st) f cdv A outer s H E).nox (BO st) t/\t { nx:=fun _ H'=>Q .non H',rt:=Q } (start N [v0]) H)
  (b:BnO x st [p0]:=by exact bn1):DefOk P w K mg base x (k+1) [p0] (spM K fun x:α0 × Unit=>m x.1) :=
 Z.ok S b (fun vs H Q E h=>(CL h).trans rfl) fun f cdv A outer s H vs Q E hr h=>by
  obtain ⟨G,⟨a0,⟨⟩⟩,res,sg,⟨v0,_,rfl,r0,rfl⟩,hm,q⟩:=h;exact hbody f cdv A outer s H Q E hr G a0 res v0 (Ext.refl sg) r0 hm q
theorem bn2 {p0 p1:Str}(h:∀ (kV doc pm:Value) (an:Option Addr) (cdv ct:Value) (a0 a1:Value),bindArgs (qfB x x (CM st) (BO st) (AC st) .none kV doc pm an cdv ct) ⟨[a0,a1],[]⟩=pure (List.zip [p0,p1] [a0,a1]):=by intros;rfl):BnO x st [p0,p1]:=fun kV doc pm an cdv ct us hl=>match us,hl with | [a0,a1],_=>h kV doc pm an cdv ct a0 a1
theorem DIn.okM2 {α0 α1:Type}[Rp α0][Rp α1]{p0 p1:Str}{m:α0->α1->Option ρ}(Z:DIn K mg x st)(S:FnScope N [p0,p1] (AC st))
  (hbody:∀ (f:Addr) (cdv:Value) (A:Around) (outer:List Env) (s:Shared) (H:Hp) (Q:VK) (E:XK),Room k (A.deeper (envOfC x (AC st) s.heap.objs.size f cdv))->∀ G a0 a1 res v0 v1,Ext G H G H->Rp.rel K G v0 a0->Rp.rel K G v1 a1->m a0 a1=some res->(∀ v G2 H2,Ext G H G2 H2->Rp.rel K G2 v res->Q v H2) ->
   ∃ t,PSs (DS CX0 P w K mg base N x (AC st) f cdv A outer s H E).nox (BO st) t/\t { nx:=fun _ H'=>Q .non H',rt:=Q } (start N [v0,v1]) H)
  (b:BnO x st [p0,p1]:=by exact bn2):DefOk P w K mg base x (k+1) [p0,p1] (spM K fun x:α0 × α1 × Unit=>m x.1 x.2.1) :=
 Z.ok S b (fun vs H Q E h=>(CL h).trans rfl) fun f cdv A outer s H vs Q E hr h=>by
  obtain ⟨G,⟨a0,a1,⟨⟩⟩,res,sg,⟨v0,_,rfl,r0,⟨v1,_,rfl,r1,rfl⟩⟩,hm,q⟩:=h;exact hbody f cdv A outer s H Q E hr G a0 a1 res v0 v1 (Ext.refl sg) r0 r1 hm q
end
section
variable {X:Cx}{K:FZ9}{N ps:List Str}{sc:Scope}{i:Nat}{x:Str}{e a b:Expr}{te ta tb:TE}{pos pos':Pos}{σ:St}{G:Hp}{α:Type}[Rp α]{v:V}{c:α}
theorem AR (S:FnScope N ps sc)(he:PE X e te)(hN:X.N=N:=by rfl)(hi:X.N[i]? = some x:=by rfl)(hx:Loc X.env.scope x:=by first|exact Or.inl rfl|exact Or.inr rfl)(hs:swapsWith e (some (.Name x pos')) pos.line X.env=pure false:=by rfl)(hf:X.fn x=true\/X.env.scope.names.lookup x=some .local := by first|exact .inl rfl|exact .inr rfl|assumption) :
  PS X (.Assign [.Name x pos'] e pos) (Ft te (Ct i)):=ps_set (hN ▸ S.nd) hi hx he hs hf
theorem D1 (S:FnScope N ps sc)(hN:X.N=N:=by rfl)(hi:X.N[i]? = some x:=by rfl)(hx:Loc X.env.scope x:=by first|exact Or.inl rfl|exact Or.inr rfl)(hf:X.fn x=true\/X.env.scope.names.lookup x=some .local := by first|exact .inl rfl|exact .inr rfl|assumption):PG X (.Name x pos) (Ct i):=pg_name (hN ▸ S.nd) hi hx hf
theorem AM (K:FZ9)(ha:PE X a ta)(hb:PE X b tb)(hs:HI b:=by exact fun _ _=>rfl)(h:X.K=K:=by rfl):PE X (.Subscript a b pos) (tOp (rAt K) ta tb):=pe_ix (ix_anyK h) ha hb hs
theorem AI (K:FZ9)(ha:PE X a ta)(hb:PE X b tb)(h:X.K=K:=by rfl):PE X (.BinOp a .Add b pos) (tOp (Fu K) ta tb):=BA (op_plusK h) ha hb
theorem B1 (K:FZ9)(hm:X.mg "len" = none)(ha:PE X e te)(hg:Gl X "len" := by rfl)(h:X.K=K:=by rfl)(he:starEach [e] X.env=(false,eval e X.env)::starEach [] X.env:=by rfl):PE X (.Call (.Name "len" pos') [e] [] pos) (tCB (Gv K) (An te C8)):=C4 (Hz h) hg hm bt_len (A3 ha A8 he) (by decide) (by decide) he rfl
theorem Bj (K:FZ9)(ha:PE X a ta)(he:∀ whole,isTrue a X.env whole=(do let v <- whole;standAt a.pos;holding [v] (truthy v)):=by exact fun _=>rfl)(h:X.K=K:=by rfl):PT X a (fun σ H Q=>ta σ H fun x H'=>∃ k,TruV K x H' k/\Q k H'):=Hi h ha he
theorem Bh (K:FZ9)(ha:PE X a ta)(hb:PE X e te)(h:X.K=K:=by rfl)(hbase:attributeBase a "append" X.env (eval a X.env)=eval a X.env:=by rfl)
  (hfew:((backTo pos (starEach [e] X.env)).all (fun x=>!x.1) && (backToKw pos (keywordEach [] X.env)).all (fun x=>x.1.isSome) && decide ([e].length+([]:List Keyword).length+(if ([]:List Keyword).isEmpty then 0 else 1)<30))=true:=by rfl)
  (hline:(pos'.endLine == pos.line)=true:=by rfl) (hs:starEach [e] X.env=(false,eval e X.env)::starEach [] X.env:=by rfl) (hplain:(backTo pos (starEach [] X.env)).any (·.1)=false:=by rfl) :
  PE X (.Call (.Attribute a "append" pos') [e] [] pos) (tBM K "list" EE ta (An te C8)):=pe_bmK h PySem.F.plainAttrs_list PySem.F.slot_list_append PySem.F.type_list_append Hw ha (A3 hb A8 hs) hbase hfew hline hs hplain
theorem nd_of (S:FnScope N ps sc):N.Nodup:=S.nd
theorem A9 (r:Rp.rel K G v c)(h:σ[i]? = some (some v):=by rfl):EV K (EB i) σ G (some c):=ev_var h r
end
open Builtin Builtin.Str
section
variable {prog:Program}{w:World}{A:Around}{E:Value->Shared->Prop}{s:Shared}{x y:Str}{t u:Tok}{Q:Value->Shared->Prop}
theorem Hs (hy:(y.length == 0)=false)
  (hq:∀ (l:List (Str × Tok)) (tk:Nat),l.map (·.1)=Txt.split x y->Q (.ref s.heap.objs.size) { s with toks:=tk,heap:=s.heap.push { cls:=.type "list",data:=.seq (strValues l).toArray } })
  (hsz:x.length<=sizeLine) (hsz2:(partsBetween x (occurrences x y 0 x.length (x.length+1)) y.length).length<=sizeLine) :
  wpAny (model prog w) A (call (.builtin "str.split") [.str x t,.str y u]) Q E s:=by
 cases h1:(decide (x.length<y.length) || decide (strKind x<strKind y))
 ·cases hf:(occurrences x y 0 x.length (x.length+1)).isEmpty
  ·refine call_meets PySem.F.slot_str_split (typeIs_str _ _ _) PySem.F.entry_str_split (PySem.F.args_str_split_2 _ _) (meets_str_split_sep x y t u h1 hy hf hsz hsz2) ?_;show wants Q E _ { s with toks:=_,heap:=s.heap.push { cls:=.type "list",data:=.seq (strsFrom s.toks (partsBetween x (occurrences x y 0 x.length (x.length+1)) y.length)).toArray } };rw [strsFrom_eq];exact hq (numbered s.toks _) _ ((numbered_texts _ _).trans ((if_neg (ne_true_of_eq_false h1)).trans (if_neg (ne_true_of_eq_false hf))).symm)
  ·exact call_meets PySem.F.slot_str_split (typeIs_str _ _ _) PySem.F.entry_str_split (PySem.F.args_str_split_2 _ _) (meets_str_split_not_found x y t u h1 hy hf)
    (hq [(x,t)] s.toks ((if_neg (ne_true_of_eq_false h1)).trans (if_pos hf)).symm)
 ·exact call_meets PySem.F.slot_str_split (typeIs_str _ _ _) PySem.F.entry_str_split (PySem.F.args_str_split_2 _ _) (meets_str_split_cannot_occur x y t u h1)
   (hq [(x,t)] s.toks (if_pos h1).symm)
end
def Gc (x y:Str):Option (List Str) :=
 if y.length≠0/\x.length<=sizeLine/\(partsBetween x (occurrences x y 0 x.length (x.length+1)) y.length).length<=sizeLine/\(Txt.split x y).length<=sizeLine/\((Txt.split x y).all fun z=>decide (z.length<=sizeLine))=true then some (Txt.split x y) else none
def rSplit:V->List V->Hp->VK->Prop:=fun v vs H Q=>∃ x y zs,v = .str x/\vs=[.str y]/\Gc x y=some zs/\∀ p,H p=none->Q (.ref p) (upd H p (.lst (zs.map V.str)))
theorem Eu:∀ {l:List (Str × Tok)},Vals ((l.map (·.1)).map V.str) (strValues l)
 | []=>.nil
 | p::l=>.cons ⟨p.2,rfl⟩ Eu
theorem mt_split {X:Cx}:MtR X "str.split" rSplit:=by
 intro pins s σ H v vs v' us Q I rx rv h;obtain ⟨x,y,zs,rfl,rfl,hz,q⟩:=h;obtain ⟨t,rfl⟩:=rx;obtain ⟨u,rfl,ru⟩:=Ha rv;obtain ⟨t2,rfl⟩:=ru;obtain ⟨⟨h1,h2,h3,h4,h5⟩,rfl⟩:=B7 hz;refine Hs (by simpa using h1) (fun l tk e=>?_) h2 h3;refine ⟨.ref s.heap.objs.size,_,I.laid (a:=s.heap.objs.size) (t':=tk) (o:=.lst ((Txt.split x y).map V.str)) (fun b ob q=>qvA _ q) (qrA _) ?_,rfl,q _ (I.hok.fresh (qrA _))⟩;refine ⟨by rw [qdA];exact h4,strValues l,0,?_,qwA _ rfl⟩;rw [<- e];exact Eu
section
variable {K:FZ9}{σ:St}{G:Hp}{ta tb:TE}
theorem fv_split {ma mb:Option Str}(ea:EV K ta σ G ma)(eb:EV K tb σ G mb):FV K (tBM K "str" rSplit ta (An tb C8)) σ G (ma.bind fun a=>mb.bind fun b=>Gc a b):=by
 clear 7;obtain ⟨a,ha,hc⟩:=qaA.mp hc;obtain ⟨b,hb,hc⟩:=qaA.mp hc;obtain ⟨⟨h1,h2,h3,h4,h5⟩,e⟩:=B7 (show Gc a b=some c from hc);clear 8 ea a ha;obtain ⟨rfl,z2⟩:=r2;refine ⟨rfl,eb G2 (s1.trans x2.gg) b hb H2 x2.gh _ fun u G3 H3 x3 r3=>?_⟩;obtain ⟨rfl,z3⟩:=r3;refine ⟨a,b,c,rfl,rfl,hc,?_⟩;refine fv_of (x2.trans x3).gh ?_ ?_ (FV.mono (x2.trans x3) k)
 ·rw [qdA,<- e];exact h4
 ·have:∀ l:List Str,(∀ z∈l,z.length<=sizeLine)->Paired (Rp.rel K G3) (l.map V.str) l:=by
   intro l
   induction l with
   | nil=>intro _;exact .nil
   | cons z l ih=>intro h;exact .cons ⟨rfl,h z qkA⟩ (ih fun w hw=>h w (qmA _ hw))
  refine this c fun z hz=>?_;rw [<- e] at hz;exact of_decide_eq_true (List.all_eq_true.mp h5 z hz)
end
end L2
namespace PySem
open Sem (wp)
end PySem
namespace L2
open PySem PySem.Spec PyProof.Rows
end L2
namespace L2
open PySem PySem.Spec PyProof.Rows PySem.W
theorem thnT {α:Type}{t:Sem α}{Q Q':α->Shared->Prop}{M:Model}{A:Around}{E:Value->Shared->Prop}{s:Shared}(hn:0<s.toks)(h:wpAny M A t Q E s)(hQ:∀ a s,0<s.toks->Q a s->Q' a s):wpAny M A t Q' E s :=
 wpAny_mono (wpAny_toks_of (n:=1) hn h) (fun a s x=>hQ a s x.1 x.2) fun _ _ x=>x.2
def PEp (X:Cx)(e:Expr)(t:TE):Prop :=
 ∀ (pins:List (Addr × Obj)) (s:Shared) (σ:St) (H:Hp) (Q:VK),Inv X pins σ H s->0<s.toks->t σ H Q->wpAny (model X.prog X.w) X.A (eval e X.env) (EP X pins σ Q) X.xe s
def PTp (X:Cx)(e:Expr)(t:TT):Prop :=
 ∀ (pins:List (Addr × Obj)) (s:Shared) (σ:St) (H:Hp) (Q:Bool->Hp->Prop),Inv X pins σ H s->0<s.toks->t σ H Q->wpAny (model X.prog X.w) X.A (isTrue e X.env (eval e X.env)) (TP X pins σ Q) X.xe s
def PWp (X:Cx)(e:Expr)(t:TT):Prop :=
 ∀ (whole:Sem Value) (pins:List (Addr × Obj)) (s:Shared) (σ:St) (H:Hp) (Q:Bool->Hp->Prop),Inv X pins σ H s->0<s.toks->t σ H Q->wpAny (model X.prog X.w) X.A (isTrue e X.env whole) (TP X pins σ Q) X.xe s
def PSp (X:Cx)(st:Stmt)(t:TS):Prop :=
 ∀ (pins:List (Addr × Obj)) (s:Shared) (σ:St) (H:Hp) (D:Ends),Inv X pins σ H s->0<s.toks->t D σ H->wpAny (model X.prog X.w) X.A (exec st X.env) (SP X pins D) X.xe s
def PSsp (X:Cx)(st:List Stmt)(t:TS):Prop :=
 ∀ (pins:List (Addr × Obj)) (s:Shared) (σ:St) (H:Hp) (D:Ends),Inv X pins σ H s->0<s.toks->t D σ H->wpAny (model X.prog X.w) X.A (execs st X.env) (SP X pins D) X.xe s
def PIt (X:Cx)(tg iter:Expr)(wi:TI):Prop :=
 ∀ (pins:List (Addr × Obj)) (s:Shared) (σ:St) (H:Hp) (R:It->Hp->Prop),Inv X pins σ H s->0<s.toks->wi σ H R ->
  wpAny (model X.prog X.w) X.A (eval iter X.env) (fun v s1=>wpAny (model X.prog X.w) X.A (pyIter v) (PIE X pins σ tg R) X.xe s1) X.xe s
section
variable {X:Cx}{e a b:Expr}{rest:List Expr}{te ta:TE}{tA tB':TT}{st:Stmt}{sts:List Stmt}{t u:TS}{pos:Pos}
theorem PE.p (h:PE X e te):PEp X e te:=fun pins s σ H Q I _ q=>h pins s σ H Q I q
theorem PS.p (h:PS X st t):PSp X st t:=fun pins s σ H D I _ q=>h pins s σ H D I q
theorem PSs.p (h:PSs X sts t):PSsp X sts t:=fun pins s σ H D I _ q=>h pins s σ H D I q
theorem PWp.pt (h:PWp X e tA):PTp X e tA:=h _
theorem BV (h1:PSp X st t)(h2:PSsp X sts u):PSsp X (st::sts) (CW t u):=by
 intro pins s σ H D I hn h;refine wpAny_execs_cons (thnT hn (h1 pins s σ H { D with nx:=u D } I hn h) fun f s1 hn q=>?_)
 cases f with
 | next =>
  obtain ⟨σ',H',I',q⟩:=q;exact h2 pins s1 σ' H' D I' hn q
 | ret v=>exact q
 | brk=>exact q
 | cont=>exact q
theorem psP_if {c:Expr}{a b:List Stmt}{tc:TT}(hc:PTp X c tc)(ha:PSs X a t)(hb:PSs X b u):PSp X (.If c a b pos) (F9 tc t u):=by
 intro pins s σ H D I hn h;refine wpAny_If (thn (hc pins s σ H _ I hn h) fun d s1 ⟨H1,I1,q1⟩=>?_)
 cases d with
 | true=>exact ha pins s1 σ H1 D I1 q1
 | false=>exact hb pins s1 σ H1 D I1 q1
theorem pwP_or1 (ha:PTp X a tA):PWp X (.BoolOp .Or [a] pos) tA:=by
 intro wh pins s σ H Q I hn h;refine isTrue_or (thn (ha pins s σ H Q I hn h) fun c s1 e=>?_)
 cases c with
 | false=>exact isTrue_or_nil e
 | true=>exact e
theorem pwP_or (ha:PTp X a tA)(hb:PWp X (.BoolOp .Or (b::rest) pos) tB'):PWp X (.BoolOp .Or (a::b::rest) pos) (tOr tA tB'):=by
 intro wh pins s σ H Q I hn h;refine isTrue_or (thnT hn (ha pins s σ H _ I hn h) fun c s1 hn ⟨H1,I1,q1⟩=>?_)
 cases c with
 | true=>exact ⟨H1,I1,q1⟩
 | false=>exact hb wh pins s1 σ H1 Q I1 hn q1
theorem F5 (ha:PTp X a tA):PTp X (.UnaryOp .Not a pos) (tNot tA):=by
 intro pins s σ H Q I hn h;exact isTrue_not (ha pins s σ H (fun c H1=>Q (!c) H1) I hn h)
theorem DP (K:FZ9)(ha:PEp X a ta)(he:∀ whole,isTrue a X.env whole=(do let v <- whole;standAt a.pos;holding [v] (truthy v)):=by exact fun _=>rfl)(h:X.K=K:=by rfl):PTp X a (fun σ H Q=>ta σ H fun x H'=>∃ k,TruV K x H' k/\Q k H'):=by
 subst h;intro pins s σ H Q I hn h;exact isTrue_plain (thn (ha pins s σ H _ I hn h) fun v s1 ⟨x,H1,I1,r1,q1⟩=>tru_ok pins s1 σ H1 x v Q I1 r1 q1) (he _)
theorem psP_set {i:Nat}{x:Str}{pos':Pos}(hN:X.N.Nodup)(hi:X.N[i]? = some x)(hx:Loc X.env.scope x)(he:PEp X e te)(hs:swapsWith e (some (.Name x pos')) pos.line X.env=pure false:=by rfl)(hf:X.fn x=true\/X.env.scope.names.lookup x=some .local := by first|exact .inl rfl|exact .inr rfl|assumption) :
  PSp X (.Assign [.Name x pos'] e pos) (Ft te (Ct i)):=by
 intro pins s σ H D I hn h;refine wpAny_Assign_Name (thn (he pins s σ H _ I hn h) fun v s1 ⟨y,H1,I1,r1,q1⟩=>?_) hs;exact DZ I1 hN hi hx r1 (fun s2 I2=>⟨_,H1,I2,q1⟩) hf
end
structure FnOkP (P:Program)(w:World)(K:FZ9)(mg:Str->Option Value)(base:Heap)(k:Nat)(f:Addr)(fd:FuncData)(ps:List Str)(sp:Sp):Prop where
 len:∀ vs H Q E,sp vs H Q E->vs.length=ps.length
 run:∀ (A:Around) (outer:List Env) (s:Shared) (H:Hp) (args:Args) (us:List Value) (vs:List V) (Q:VK) (E:XK),Room k A->Env0 P w K mg base A outer s H->0<s.toks->BindsTo s fd args (ps.zip us)->Vals vs us->sp vs H Q E ->
  codeAny (model P w) A (.call (.ref f) args) (CR CX0 outer P w H s Q E) s
structure DefP (P:Program)(w:World)(K:FZ9)(mg:Str->Option Value)(base:Heap)(x:Str)(k:Nat)(ps:List Str)(sp:Sp):Prop where
 ex:∃ f fd,FnOkP P w K mg base k f fd ps sp/\mg x=some (.ref f)/\qeB K (.ref f)=true/\Binds K fd ps []
theorem ED {X:Cx}{x:Str}{k j:Nat}{ps:List Str}{sp:Sp}{e:Expr}{es:List Expr}{t:TA}{p pos:Pos}(F:DefP X.prog X.w X.K X.mg X.base x k ps sp)(hr:Room j X.A)(hj:k<=j)(hg:Gl X x)(ha:PA X (e::es) t)(hdb:(x == ("__debug__" : Str))=false:=by decide)
  (he:starEach (e::es) X.env=(false,eval e X.env)::starEach es X.env:=by rfl) (hpl:(backTo pos (starEach es X.env)).any (·.1)=false:=by rfl) :
  PEp X (.Call (.Name x p) (e::es) [] pos) (DB sp [] E0 t):=by
 obtain ⟨f,fd,G,m,kp,b⟩:=F.ex;intro pins s σ H Q I hn h;refine wpAny_Call_Name_kw (EF I hg m ?_ hdb);refine PySem.W.callWith_K (h₀:=X.base) I.ok.mod.kin kp (thnT hn (ha pos pins s σ H _ I h) fun us s1 hn ⟨vs,H1,I1,r,q⟩=>⟨I1.kIn,?_⟩) he hpl;have r2:Vals (vs++[]) (us++[]):=r.append .nil;have hl:(us++[]).length=ps.length:=by rw [<- r2.length];exact G.len _ _ _ _ q
 refine wpAny_call (codeAny_mono (G.run X.A X.stack s1 H1 ⟨us,[]⟩ (us++[]) (vs++[]) Q E0 (hr.mono hj) I1.env0 hn (b s1 us I1.kIn hl) r2 q) fun r s' hq=>?_)
 cases r with
 | error e=>exact (pass0 pins σ H1 s1 e s' I1 hq)
 | ok fl =>
  cases fl with
  | ret u=>exact I1.after hq
  | next=>exact False.elim hq
  | brk=>exact False.elim hq
  | cont=>exact False.elim hq
theorem fnP_of {P:Program}{w:World}{K:FZ9}{mg:Str->Option Value}{base:Heap}{k:Nat}{f:Addr}{name qual:Str}{params:Arguments}{body:List Stmt}{scope:Scope}{dV kV doc pm cdv ct oc:Value}{an od:Option Addr}
  {osl:Array (Option Value)}{N ps:List Str}{sp:Sp}(lk:K.lookup f=some ⟨oc,od,.func (qfB name qual params body scope dV kV doc pm an cdv ct),osl⟩) (hcd:PySem.W.codeIn K cdv qual=true) (S:FnScope N ps scope)
  (len:∀ vs H Q E,sp vs H Q E->vs.length=ps.length)
  (hbody:∀ (A:Around) (outer:List Env) (s:Shared) (H:Hp) (vs:List V) (Q:VK) (E:XK),Room k (A.deeper (envOfC qual scope s.heap.objs.size f cdv))->sp vs H Q E ->
   ∃ t,PSsp (DS CX0 P w K mg base N qual scope f cdv A outer s H E) body t/\t { nx:=fun _ H'=>Q .non H',rt:=Q } (start N vs) H) :
  FnOkP P w K mg base (k+1) f (qfB name qual params body scope dV kV doc pm an cdv ct) ps sp:=by
 refine ⟨len,fun A outer s H args us vs Q E hr e0 hn hb r hsp=>?_⟩;have hl:=len _ _ _ _ hsp;have KX:K.In s.heap:=e0.mod.kin.keeps fun b o e=>(e0.bs b o e).1;have lim:s.heap.NoLimit:=e0.mod.nolimit.keeps fun b o e=>(e0.bs b o e).1
 have hkind:∀ y∈ps.zip us,scope.names.lookup y.1=some .local \/ (scope.names.lookup y.1=some .cell/\((cellsFrom (s.heap.objs.size+1) scope.names []).lookup y.1).isSome=true):=fun ⟨n,v⟩ hy=>by
  rcases S.par n (List.of_mem_zip hy).1 with q|q
  ·exact .inl q
  ·exact .inr ⟨q,PySem.W.cellsFrom_some _ _ _ (.inl q)⟩
 refine codeAny_call_function hr.depth (KX _ _ lk) rfl S.co S.gen rfl (PySem.W.codeRec_of KX hcd) (hb _ _ _ _ ?_);refine wpAny_with_toks (n:=1) hn (wpAny_newFunctionEnv_cells S.kind hkind fun env he s1 x hn=>?_);subst he;refine ⟨lim.keeps x.toInCall.keep,codeAny_func ?_⟩;obtain ⟨t,ht,hq⟩:=hbody A outer s H vs Q E (hr.deeper _) hsp;have I:Inv (DS CX0 P w K mg base N qual scope f cdv A outer s H E) [] (start N vs) H s1:=F1 S hr.hd e0 hl r x;refine wpAny_mono (ht [] s1 (start N vs) H _ I hn hq) (fun fl s' hs=>?_) fun e s' hs=>hs
 have fin:∀ {σ':St}{H':Hp}{v:V}{u:Value},Inv (DS CX0 P w K mg base N qual scope f cdv A outer s H E) [] σ' H' s'->RelV v u->Q v H'->CE outer P w H s Q u s' :=
  fun {σ' H' v u} J rv q=>⟨v,H',J.os,J.bare,J.base,J.hok,rv,q⟩
 cases fl with
 | ret u =>
  obtain ⟨v,σ',H',J,rv,q⟩:=hs;exact fin J rv q
 | next =>
  obtain ⟨σ',H',J,q⟩:=hs;exact fin (v:=V.non) (u:=Value.none) J rfl q
 | brk =>
  obtain ⟨_,_,_,q⟩:=hs;exact False.elim q
 | cont =>
  obtain ⟨_,_,_,q⟩:=hs;exact False.elim q
theorem PSsp.nox {X:Cx}{st:List Stmt}{t:TS}(h:PSsp X.nox st t):PSsp X st t:=fun pins s σ H D I hn hw =>
 wpAny_mono (h pins s σ H D (I.wish _) hn hw) (fun _ _ q=>q.unwish) fun _ _ z=>False.elim z
section
variable {P:Program}{w:World}{K:FZ9}{mg:Str->Option Value}{base:Heap}{x:Str}{st:Stmt}{N ps:List Str}{k:Nat}{sp:Sp}
theorem DIn.okP (Z:DIn K mg x st)(S:FnScope N ps (AC st))(b:BnO x st ps)(len:∀ vs H Q E,sp vs H Q E->vs.length=ps.length)
  (hbody:∀ (f:Addr) (cdv:Value) (A:Around) (outer:List Env) (s:Shared) (H:Hp) (vs:List V) (Q:VK) (E:XK),Room k (A.deeper (envOfC x (AC st) s.heap.objs.size f cdv))->sp vs H Q E ->
   ∃ t,PSsp (DS CX0 P w K mg base N x (AC st) f cdv A outer s H E).nox (BO st) t/\t { nx:=fun _ H'=>Q .non H',rt:=Q } (start N vs) H):DefP P w K mg base x (k+1) ps sp:=by
 obtain ⟨f,fd,a,F⟩:=Z.ex;have hb:=F.binds b;obtain ⟨oc,od,kV,doc,pm,an,cdv,ct,osl,rfl,lk,hcd⟩:=F.ex;refine ⟨f,_,fnP_of lk hcd S len fun A outer s H vs Q E hr hsp=>?_,a,F.kp,hb⟩;obtain ⟨t,h,q⟩:=hbody f cdv A outer s H vs Q E hr hsp;exact ⟨t,h.nox,q⟩
end
def tRepl (y z:Str)(to:TE):TE:=fun σ H Q=>to σ H fun v H1=>∃ x:Str,v = .str x/\x.length+(x.length+1) * z.length<=16777216/\Q (.str (Txt.replace x y z)) H1
theorem E4 {X:Cx}{o:Expr}{to:TE}{y z:Str}{k1 k2:Nat}{p1 p2 apos cpos:Pos}(ho:PEp X o to)(hyz:(y == z)=false:=by decide)
  (hbase:attributeBase o "replace" X.env (eval o X.env)=eval o X.env:=by rfl)
  (hfew:((backTo cpos (starEach [.Constant (.str y) k1 p1,.Constant (.str z) k2 p2] X.env)).all (fun x=>!x.1) && (backToKw cpos (keywordEach [] X.env)).all (fun x=>x.1.isSome)
   && decide (([.Constant (.str y) k1 p1,.Constant (.str z) k2 p2]:List Expr).length+([]:List Keyword).length+(if ([]:List Keyword).isEmpty then 0 else 1)<30))=true:=by rfl)
  (hline:(apos.endLine == cpos.line)=true:=by rfl) (hs:starEach [.Constant (.str y) k1 p1,.Constant (.str z) k2 p2] X.env=[(false,eval (.Constant (.str y) k1 p1) X.env),(false,eval (.Constant (.str z) k2 p2) X.env)]:=by rfl) :
  PEp X (.Call (.Attribute o "replace" apos) [.Constant (.str y) k1 p1,.Constant (.str z) k2 p2] [] cpos) (tRepl y z to):=by
 intro pins s σ H Q I hn h;refine wpAny_Call_method_late hbase hfew hline rfl (thnT hn (ho pins s σ H _ I hn h) fun v s1 hn ⟨x,H1,I1,r1,x',e,hb,q1⟩=>?_);subst e;obtain ⟨t,rfl⟩:=r1;refine ⟨"str","str.replace",PySem.F.plainAttrs_str,PySem.F.slot_str_replace,PySem.F.type_str_replace,rfl,(fun a z=>nomatch z),?_⟩;rw [hs];refine Calls.callWith_builtin rfl (Calls.evalArgs_plain ?_);show wpAny _ _ (spliced [(false,eval (.Constant (.str y) k1 p1) X.env),(false,eval (.Constant (.str z) k2 p2) X.env)]) _ _ s1;refine Calls.spliced_cons (Calls.Constant_str (Calls.spliced_cons (Calls.Constant_str (Calls.spliced_nil ?_))));exact SC.replace (by show s1.toks≠0;omega) (by show s1.toks+1≠0;omega) (by show s1.toks≠s1.toks+1;omega) hyz hb fun t' k=>⟨.str (Txt.replace x' y z),H1,I1.tok _,⟨_,rfl⟩,q1⟩
section
variable {X:Cx}{o e:Expr}{es:List Expr}{to te:TE}{t:TA}{name:Str}{apos cpos pos:Pos}{T id:String}{r:V->List V->Hp->VK->Prop}
theorem peP_bmK {K:FZ9}(h:X.K=K)(pa:PlainAttrs T)(slot:Slot T name id)(hty:typeOf (.builtin id)=pure (.type "method_descriptor"))(hm:MtR X id r)(ho:PEp X o to)(ha:PA X (e::es) t)
  (hbase:attributeBase o name X.env (eval o X.env)=eval o X.env:=by rfl)
  (hfew:((backTo cpos (starEach (e::es) X.env)).all (fun x=>!x.1) && (backToKw cpos (keywordEach [] X.env)).all (fun x=>x.1.isSome)
   && decide ((e::es).length+([]:List Keyword).length+(if ([]:List Keyword).isEmpty then 0 else 1)<30))=true:=by rfl)
  (hline:(apos.endLine == cpos.line)=true:=by rfl) (hs:starEach (e::es) X.env=(false,eval e X.env)::starEach es X.env:=by rfl) (hplain:(backTo cpos (starEach es X.env)).any (·.1)=false:=by rfl) :
  PEp X (.Call (.Attribute o name apos) (e::es) [] cpos) (tBM K T r to t):=by
 subst h;intro pins s σ H Q I hn h;refine wpAny_Call_method_late hbase hfew hline rfl (thn (ho pins s σ H _ I hn h) fun v s1 ⟨x,H1,I1,r1,ty,q1⟩=>?_);obtain ⟨h1,h2⟩:=Gq I1 r1 ty;refine ⟨T,id,pa,slot,hty,h1,h2,?_⟩;have hA:=ha cpos pins s1 σ H1 _ I1 q1;rw [hs] at hA ⊢;refine Calls.callWith_builtin (by show (false || (backTo cpos (starEach es X.env)).any (·.1))=false;rw [hplain]<;>rfl) (Calls.evalArgs_plain ?_);exact thn hA fun us s2 ⟨vs,H2,I2,r2,q2⟩=>hm pins s2 σ H2 x vs v us Q I2 r1 r2 q2
theorem piP_rev {K:FZ9}{tg a:Expr}{ta:TE}{p:Pos}(hK:X.K=K)(hg:Gl X "reversed")(hm:X.mg "reversed" = none)(ha:PEp X a ta)(hs:starEach [a] X.env=[(false,eval a X.env)]:=by rfl) :
  PIt X tg (.Call (.Name "reversed" p) [a] [] pos) (iRev K (An ta C8)):=by
 subst hK;intro pins s σ H R I hn h
 have hA:wpAny (model X.prog X.w) X.A (spliced (backTo pos (starEach [a] X.env))) (AP X pins σ fun vs H1=>∃ a xs,vs=[.ref a]/\SqL X.K H1 a xs/\R (Itv X.K a xs.length) H1) X.xe s:=by
  rw [hs];exact Calls.spliced_cons (thn (ha pins s σ H _ I hn h) fun u s1 ⟨x,H1,I1,r1,q1⟩=>Calls.spliced_nil ⟨[x],H1,I1,.cons r1 .nil,q1⟩)
 refine Call_ (FU I hg hm Eo (PyProof.Rows.callWith_type1 (thn hA fun us s1 ⟨vs,H1,I1,r1,q1⟩=>?_) (by rw [hs];rfl) (by rfl)));obtain ⟨l,xs,e,hq,q⟩:=q1;subst e;obtain ⟨u1,rfl,r1q⟩:=Ha r1;obtain rfl:u1=Value.ref l:=r1q;obtain ⟨its,rv,pl,_⟩:=I1.list hq;have hl:=rv.length;refine call_reversed_list pl.isList ?_
 have st:(s1.heap.push (revObj l ((its.toArray.size:Int) - 1))).IsRevIter s1.heap.objs.size l ((xs.length:Int) - 1 - ((0:Nat):Int)):=⟨_,qwA _ rfl,rfl,by
  rw [qdB,<- hl];have e:((xs.length:Int) - 1 - ((0:Nat):Int))=(xs.length:Int) - 1:=by omega
  rw [e]
  rfl⟩
 refine wpAny_pyIter_revIter (s:={ s1 with heap:=s1.heap.push (revObj l ((its.toArray.size:Int) - 1)) }) st ?_;have I2:Inv X pins σ H1 { s1 with heap:=s1.heap.push (revObj l ((its.toArray.size:Int) - 1)) }:=I1.kept (t':=s1.toks) fun b o e=>qvA _ e;refine ⟨s1.heap.objs.size,[s1.heap.objs.size],_,_,H1,rfl,I2,turn_rev l s1.heap.objs.size xs.length,st,fun b hb=>?_,q⟩;rw [qjA.mp hb];exact I1.fpOk (qrA _) (I1.hok.fresh (qrA _))
end
section
variable {X:Cx}{tg:Expr}
theorem psP_for {iter:Expr}{body:List Stmt}{wi:TI}{g:TG}{tb:TS}{pos:Pos}(hp:PassesOwn (model X.prog X.w) X.A X.env X.xe)(hc:X.calm=true)(hi:PIt X tg iter wi)(hg:PG X tg g)(hb:PSs X body tb)
  (hs:∀ x,foldedSetIterable iter X.env x=pure x:=by intro _;rfl):PSp X (.For tg iter body [] pos) (tFor wi g tb):=by
 intro pins s σ H D I hn h;refine wpAny_For (thn (hi pins s σ H _ I hn h) fun v s1 h1=>thn h1 fun itv s2 h2=>?_) hs;obtain ⟨it,fp,tn,J,H2,e,I2,T,st2,f2,W,⟨m0,w0⟩,turn⟩:=h2;subst e;have stat:∀ {H':Hp},(∀ b∈fp,H' b=none)->∀ b∈fp,Fi X pins H' b:=fun hn b hb=>⟨hn b hb,(f2 b hb).2⟩;refine codeAny_forLoop_any (fun n s'=>∃ i σ' H',Inv X pins σ' H' s'/\tn i s'.heap/\(∀ b∈fp,H' b=none)/\W i n σ' H') ?_ m0 ⟨0,σ,H2,I2,st2,fun b hb=>(f2 b hb).1,w0⟩;rintro n s3 ⟨i,σ3,H3,I3,st3,fr3,w3⟩;rcases turn i n σ3 H3 w3 with ⟨stop,qn⟩ | ⟨go,N,hN,step⟩
 ·refine wpAny_passesOwn hp (thn (T.done X rfl rfl rfl hc i pins s3 σ3 H3 X.xe I3 (stat fr3) st3 stop) fun r s4 ⟨hr,I4⟩=>?_);subst hr;exact wpAny_execs_nil ⟨σ3,H3,I4,qn⟩
 ·refine wpAny_passesOwn hp (thn (T.item X rfl rfl rfl hc i pins s3 σ3 H3 X.xe I3 (stat fr3) st3 go) fun r s4 ⟨u,hr,h4⟩=>?_);subst hr;refine wpAny_passesOwn hp (thn h4 fun _ s5 ⟨x,H5,I5,r5,y5,st5,fr5⟩=>?_);have I5':=I5.pinned (stat fr5) (T.obj _ _ st5);refine wpAny_passesOwn hp (thn (hg _ s5 σ3 H5 x u _ I5' r5 (step x H5 y5)) fun _ s6 ⟨σ6,H6,I6,q6⟩=>?_);refine wpAny_passesOwn hp (thn (hb _ s6 σ6 H6 _ I6 q6) fun f s7 q7=>?_)
  have again:∀ {σ7:St}{H7:Hp},Inv X (pins++Ee fp s5.heap) σ7 H7 s7->N σ7 H7->∃ m,m<n/\∃ i σ' H',Inv X pins σ' H' s7/\tn i s7.heap/\(∀ b∈fp,H' b=none)/\W i m σ' H':=fun {σ7 H7} I7 n7=>by
   obtain ⟨m',hm,w7⟩:=hN σ7 H7 n7;refine ⟨m',hm,i+1,σ7,H7,I7.unpinned,T.keep _ _ _ st5 fun b hb o e=>(I7.pin (b,o) (qkB _ (qkB _ (Ck hb e)))).1,fun b hb=>?_,w7⟩;obtain ⟨o,e,d⟩:=T.obj _ _ st5 b hb;exact (I7.pin (b,o) (qkB _ (qkB _ (Ck hb e)))).2.1
  cases f with
  | next=>obtain ⟨σ7,H7,I7,n7⟩:=q7;exact again I7 n7
  | cont=>obtain ⟨σ7,H7,I7,n7⟩:=q7;exact again I7 n7
  | brk=>obtain ⟨σ7,H7,I7,q7⟩:=q7;exact ⟨σ7,H7,I7.unpinned,q7⟩
  | ret v=>obtain ⟨x7,σ7,H7,I7,r7,q7⟩:=q7;exact ⟨x7,σ7,H7,I7.unpinned,r7,q7⟩
end
def PEq (X:Cx)(e:Expr)(t:TE):Prop :=
 ∀ (pins:List (Addr × Obj)) (s:Shared) (σ:St) (H:Hp) (Q:VK),Inv X pins σ H s->t σ H Q->wpAny (model X.prog X.w) X.A (eval e X.env) (fun v s'=>0<s'.toks/\EP X pins σ Q v s') X.xe s
def PSq (X:Cx)(st:Stmt)(t:TS):Prop :=
 ∀ (pins:List (Addr × Obj)) (s:Shared) (σ:St) (H:Hp) (D:Ends),Inv X pins σ H s->t D σ H->wpAny (model X.prog X.w) X.A (exec st X.env) (fun f s'=>0<s'.toks/\SP X pins D f s') X.xe s
section
variable {X:Cx}{e:Expr}{es:List Expr}{te:TE}{st:Stmt}{sts:List Stmt}{t u:TS}{ta:TA}{pos p:Pos}
theorem Ht (h1:PSq X st t)(h2:PSsp X sts u):PSs X (st::sts) (CW t u):=by
 intro pins s σ H D I h;refine wpAny_execs_cons (thn (h1 pins s σ H { D with nx:=u D } I h) fun f s1 ⟨hn,q⟩=>?_)
 cases f with
 | next =>
  obtain ⟨σ',H',I',q⟩:=q;exact h2 pins s1 σ' H' D I' hn q
 | ret v=>exact q
 | brk=>exact q
 | cont=>exact q
theorem psQ_set {i:Nat}{x:Str}{pos':Pos}(hN:X.N.Nodup)(hi:X.N[i]? = some x)(hx:Loc X.env.scope x)(he:PEq X e te)(hs:swapsWith e (some (.Name x pos')) pos.line X.env=pure false:=by rfl)(hf:X.fn x=true\/X.env.scope.names.lookup x=some .local := by first|exact .inl rfl|exact .inr rfl|assumption) :
  PSq X (.Assign [.Name x pos'] e pos) (Ft te (Ct i)):=by
 intro pins s σ H D I h;refine wpAny_Assign_Name (thn (he pins s σ H _ I h) fun v s1 ⟨hn,y,H1,I1,r1,q1⟩=>?_) hs;exact wpAny_with_toks (n:=1) hn (DZ I1 hN hi hx r1 (fun s2 I2 hn=>⟨hn,_,H1,I2,q1⟩) hf)
theorem peQ_def {x:Str}{k j:Nat}{ps:List Str}{sp:Sp}{i:Int}{c:Nat}{pc:Pos}(F:DefOk X.prog X.w X.K X.mg X.base x k ps sp)(hr:Room j X.A)(hj:k<=j)(hg:Gl X x)(ha:PE X e te)(hdb:(x == ("__debug__" : Str))=false:=by decide)
  (he:starEach [e,.Constant (.int i) c pc] X.env=(false,eval e X.env)::starEach [.Constant (.int i) c pc] X.env:=by rfl) (hpl:(backTo pos (starEach [.Constant (.int i) c pc] X.env)).any (·.1)=false:=by rfl) :
  PEq X (.Call (.Name x p) [e,.Constant (.int i) c pc] [] pos) (DB sp [] E0 (An te (An (tC (.int i)) C8))):=by
 obtain ⟨f,fd,G,m,kp,b⟩:=F.ex;intro pins s σ H Q I h;refine wpAny_Call_Name_kw (EF I hg m ?_ hdb);refine PySem.W.callWith_K (h₀:=X.base) I.ok.mod.kin kp ?_ he hpl;rw [he];show wpAny _ _ (spliced [(false,eval e X.env),(false,eval (.Constant (.int i) c pc) X.env)]) _ _ s;refine Calls.spliced_cons (thn (ha pins s σ H _ I h) fun u s1 ⟨y,H1,I1,r1,q1⟩=>?_);refine Calls.spliced_cons (wpAny_Constant_int (Calls.spliced_nil ?_));have I2:Inv X pins σ H1 { s1 with toks:=s1.toks+1 }:=I1.tok _;refine ⟨I2.kIn,?_⟩;refine wpAny_with_toks (n:=1) (by show 1<=s1.toks+1;omega) (wpAny_mono (run_fn (vs:=[y,.int i]) G (hr.mono hj) b .nil pass0 I2 (.cons r1 (.cons ⟨_,rfl⟩ .nil)) q1) (fun v s2 z hn=>⟨hn,z⟩) fun _ _ z _=>z)
end
def tDgC (l:List (Str × Int))(ty:TE):TE:=fun σ H Q=>ty σ H fun y H1=>∃ z,y = .str z/\Q (match C3 l z with|some i=>.int i|none=>.non) H1
theorem pe_dgC {X:Cx}{i o:Expr}{ty:TE}{apos cpos:Pos}{a:Addr}{w:World}{K:FZ9}{l:List (Str × Int)}(hw:X.w=w)(hK:X.K=K)(C:CDict w K a l)(ho:PE X o (tC (.ref a)))(hi:PE X i ty)
  (hbase:attributeBase o "get" X.env (eval o X.env)=eval o X.env:=by rfl)
  (hfew:((backTo cpos (starEach [i] X.env)).all (fun x=>!x.1) && (backToKw cpos (keywordEach [] X.env)).all (fun x=>x.1.isSome)
   && decide (([i]:List Expr).length+([]:List Keyword).length+(if ([]:List Keyword).isEmpty then 0 else 1)<30))=true:=by rfl)
  (hline:(apos.endLine == cpos.line)=true:=by rfl) (hs:starEach [i] X.env=[(false,eval i X.env)]:=by rfl):PE X (.Call (.Attribute o "get" apos) [i] [] cpos) (tDgC l ty):=by
 subst hw hK;intro pins s σ H Q I h;refine wpAny_Call_method_late hbase hfew hline rfl (thn (ho pins s σ H (fun v H'=>v = .ref a/\H'=H) I ⟨rfl,rfl⟩) fun u s1 ⟨x,H1,I1,rx,e1,e2⟩=>?_);subst e1 e2;obtain rfl:u=Value.ref a:=rx;obtain ⟨f,hf,hx⟩:=C.map (prog:=X.prog) (fun b o e=>I1.kIn b o e);obtain ⟨es,n,hl,_,_⟩:=C.ex;refine ⟨"dict","dict.get",PySem.F.plainAttrs_dict,PySem.F.slot_dict_get,PySem.F.type_dict_get,hf.typeIs,(fun b z=>by cases z;exact ⟨_,I1.kIn _ _ hl,rfl⟩),?_⟩;rw [hs];refine Calls.callWith_builtin rfl (Calls.evalArgs_plain ?_);show wpAny _ _ (spliced [(false,eval i X.env)]) _ _ s1;refine Calls.spliced_cons (thn (hi pins s1 σ H1 _ I1 h) fun iv s2 ⟨y,H2,I2,ry,z,ey,q2⟩=>Calls.spliced_nil ?_);subst ey;obtain ⟨t,rfl⟩:=ry;obtain ⟨f,hf,hx⟩:=C.map (prog:=X.prog) (fun b o e=>I2.kIn b o e);refine call_meetsIn PySem.F.slot_dict_get hf.typeIs PySem.F.entry_dict_get (PySem.F.args_dict_get_2 _ _) (meets_dict_get (strKind X.prog X.w) a (strKind_is X.prog X.w z t) C.lo) ⟨f,hf,?_⟩;have hz:=hx z
 cases e:C3 l z with
 | some i =>
  rw [e] at hz q2;obtain ⟨u,hz⟩:=hz;rw [hz];exact ⟨.int i,H2,I2.tok _,⟨u,rfl⟩,q2⟩
 | none =>
  rw [e] at hz q2;rw [show f z=none from hz];exact ⟨.non,H2,I2.tok _,rfl,q2⟩
section
variable {K:FZ9}{σ:St}{G H:Hp}{α β γ δ:Type}[Rp α][Rp β][Rp γ][Rp δ]{rest:TS}{D:Ends}{i j:Nat}{v:V}{p:Addr}{vs:List V}{as as':List α}{a:α}{ty to:TE}{ta:TA}
theorem ev_dgC {l:List (Str × Int)}{mx:Option Str}(e:EV K ty σ G mx):EV K (tDgC l ty) σ G (mx.bind fun x=>some (C3 l x)):=by
 clear 7;obtain ⟨x,hx,hc⟩:=qaA.mp hc;cases hc;clear 8 e x hx;refine ⟨x,r2.1,k _ G2 H2 x2 ?_⟩
 cases C3 l x with
 | some i=>rfl
 | none=>rfl
def GR (y z x:Str):Option Str:=if x.length+(x.length+1) * z.length<=16777216/\(Txt.replace x y z).length<=sizeLine then some (Txt.replace x y z) else none
theorem Hd {y z:Str}{mx:Option Str}(e:EV K to σ G mx):EV K (tRepl y z to) σ G (mx.bind fun x=>GR y z x):=by
 clear 7;obtain ⟨x,hx,hc⟩:=qaA.mp hc;obtain ⟨⟨h1,h2⟩,rfl⟩:=B7 hc;clear 8 e x hx;exact ⟨x,r2.1,h1,k _ G2 H2 x2 ⟨rfl,h2⟩⟩
theorem Hm (hσ:σ[i]? = some (some v))(o:Own K G H v p vs as)(hp:Hk as=some (a,as'))
  (k:∀ w,Rp.rel K G w a->Own K G (upd H p (.lst vs.dropLast)) v p vs.dropLast as'->D.rt w (upd H p (.lst vs.dropLast))):CW (tRet (tBM0 K "list" rPop (EB i))) rest D σ H:=by
 obtain ⟨rfl,og,oh,oz,op⟩:=o;obtain ⟨w,hw,r,pr⟩:=Paired.last op hp;refine ⟨_,hσ,.inl ⟨rfl,_,SqL.of oh⟩,p,vs,w,rfl,rfl,oh,hw,?_⟩;exact k w r ⟨rfl,og,AX,by rw [List.length_dropLast];omega,pr⟩
theorem I0 {A:Type}[RpA A]{mA:Option A}{c:A}{m:List α->A->Option (List α × β)}{r:List α × β}(hσ:σ[i]? = some (some v))(o:Own K G H v p vs as)(ea:AV K ta σ G mA)(ha:mA=some c)(hm:m as c=some r)(s:Same G H)
  (k:∀ G1 H1 G2 H2 vs',Ext G H G1 H1->Ext G1 (era H1 [p]) G2 H2->Own K G2 H2 v p vs' r.1->rest D σ H2):CW (Ek (DB (spYF K m) [] E0 (An (EB i) ta))) rest D σ H:=by
 have ov:=o.v;subst ov;refine ⟨_,hσ,?_⟩;refine ea G (.refl G) c ha H s _ fun us G1 H1 x h=>?_;exact ⟨G1,p,vs,us,as,c,r,qqA _,x.gh,o.ext x,h,hm,fun w G2 H2 xs' y o' rw_=>k G1 H1 G2 H2 xs' x y o'⟩
end
section
variable {K:FZ9}{σ:St}{G H:Hp}{rest:TS}{D:Ends}{i:Nat}{v:V}{p:Addr}{vs:List V}{as:List Nt}{te:TE}
theorem sv_appT {ma:Option Nt}{a:Nt}{m:List Nt->Unit->Option (List Nt × Nt)}{r:List Nt × Nt}{as':List Nt}(hσ:σ[i]? = some (some v))(o:Own K G H v p vs as)(ea:EV K te σ G ma)(ha:ma=some a)(hm:m as ()=some r)(hp:Cp r.1 (Nt.tup [a,r.2])=some as')(s:Same G H)
  (k:∀ G1 H1 G2 H2 vs' w,Ext G H G1 H1->Ext G1 (era H1 [p]) G2 H2->Own K G2 (upd H2 p (.lst (vs'++[w]))) v p (vs'++[w]) as'->rest D σ (upd H2 p (.lst (vs'++[w])))) :
  CW (Ek (tBM K "list" EE (EB i) (An (tTup (An te (An (DB (spYF K m) [] E0 (An (EB i) C8)) C8))) C8))) rest D σ H:=by
 obtain ⟨hl,rfl⟩:=B7 hp;have ov:=o.v;subst ov;refine ⟨_,hσ,.inl ⟨rfl,_,SqL.of o.h⟩,?_⟩;refine ea G (.refl G) a ha H s _ fun w G1 H1 x1 r1=>?_;refine ⟨_,hσ,G1,p,vs,[],as,(),r,rfl,x1.gh,o.ext x1,rfl,hm,fun w2 G2 H2 xs' y o2 r2=>⟨by show 2<=sizeLine;decide,fun q hq=>?_⟩⟩;have x3:Ext G2 H2 (upd G2 q (.tup [w,w2])) (upd H2 q (.tup [w,w2])):=.new y.gh hq;have o3:=o2.ext x3;have hlen:=Paired.length o3.p;refine ⟨p,_,.ref q,rfl,rfl,o3.h,by omega,?_⟩;have rN:Rp.rel K (upd G2 q (.tup [w,w2])) (.ref q) (Nt.tup [a,r.2]):=.tup (SqT.of AX) (by show 2<=sizeLine;decide) (EY (.cons (Rp.mono (y.trans x3).gg r1) (.cons (Rp.mono x3.gg r2) .nil))) fun _=>AX;refine k G1 H1 _ _ xs' (.ref q) x1 (y.trans x3) ⟨rfl,o3.g,AX,?_,Paired.app o3.p (.cons rN .nil)⟩;rw [qeA,qgA];omega
end
section
variable {P:Program}{w:World}{K:FZ9}{mg:Str->Option Value}{base:Heap}{x:Str}{st:Stmt}{N:List Str}{k:Nat}{ρ:Type}[Rp ρ]
theorem DIn.okMP1 {α0:Type}[Rp α0]{p0:Str}{m:α0->Option ρ}(Z:DIn K mg x st)(S:FnScope N [p0] (AC st))
  (hbody:∀ (f:Addr) (cdv:Value) (A:Around) (outer:List Env) (s:Shared) (H:Hp) (Q:VK) (E:XK),Room k (A.deeper (envOfC x (AC st) s.heap.objs.size f cdv))->∀ G a0 res v0,Ext G H G H->Rp.rel K G v0 a0->m a0=some res->(∀ v G2 H2,Ext G H G2 H2->Rp.rel K G2 v res->Q v H2) ->
   ∃ t,PSsp (DS CX0 P w K mg base N x (AC st) f cdv A outer s H E).nox (BO st) t/\t { nx:=fun _ H'=>Q .non H',rt:=Q } (start N [v0]) H)
  (b:BnO x st [p0]:=by exact bn1):DefP P w K mg base x (k+1) [p0] (spM K fun x:α0 × Unit=>m x.1) :=
 Z.okP S b (fun vs H Q E h=>(CL h).trans rfl) fun f cdv A outer s H vs Q E hr h=>by
  obtain ⟨G,⟨a0,⟨⟩⟩,res,sg,⟨v0,_,rfl,r0,rfl⟩,hm,q⟩:=h;exact hbody f cdv A outer s H Q E hr G a0 res v0 (Ext.refl sg) r0 hm q
end
end L2
namespace My
open PySem PySem.Spec PyProof.Rows L2
abbrev BN:List (Str × Int):=[("yes",0),("no",0),("not",1),("next",1),("atlast",1),("always",1),("again",1),("settles",1),("and",2),("or",2),("then",2),("until",2),("frees",2)]
def BB (script_:Scr)(k_:Int):Option Int :=
 (some (decide (k_<(script_.l.length:Int)))).bind fun b1=>cond b1
  (((some script_).bind fun t6=>(some k_).bind fun t7=>atI t6.l t7))
  ((some ((k_ * (7919:Int))+(5:Int))).bind fun Dd =>
  (some (decide ((0:Int)<(script_.l.length:Int)))).bind fun b19=>(cond b19
   ((((((some script_).bind fun t32=>((some (k_ * (7:Int))).bind fun t30=>(some (script_.l.length:Int)).bind fun t31=>GO t30 t31).bind fun t33=>atI t32.l t33).bind fun t34=>(some (t34 * (48271:Int)))).bind fun t35=>(some (t35+(k_ * (7919:Int))))).bind fun t36=>(some (t36 % (2147483647:Int)))).bind fun Dd =>
   some Dd)
   (some Dd)).bind fun s24 =>
  (((some s24).bind fun t46=>(some s24).bind fun t47=>IF t46 t47).bind fun t48=>(some (t48 % (2147483629:Int)))))
abbrev C6 (x:Scr × Int × Unit):Option Int:=BB x.1 x.2.1
def BS (pool_:(List (Nt × Int)))(Au:Int):Option (List (Nt × Int)) :=
 (some [("not" : Str),("next" : Str),("atlast" : Str),("always" : Str),("again" : Str),("settles" : Str),("and" : Str),("or" : Str),("then" : Str),("until" : Str),("frees" : Str)]).bind fun FR =>
 (some (Au % (11:Int))).bind fun at_ =>
 ((some pool_).bind fun t21=>(((some (Au / (11:Int))).bind fun t18=>(some (if (pool_.length:Int)<(3:Int) then (pool_.length:Int) else (3:Int))).bind fun t19=>GO t18 t19).bind fun t20=>(some ((-(1:Int)) - t20))).bind fun t22=>atI t21 t22).bind fun left_ =>
 ((some pool_).bind fun t35=>((some (((Au / (33:Int)) * (48271:Int)) % (2147483647:Int))).bind fun t33=>(some (pool_.length:Int)).bind fun t34=>GO t33 t34).bind fun t36=>atI t35 t36).bind fun right_ =>
 (some ((1:Int)+left_.2)).bind fun EW =>
 (((((some FR).bind fun t49=>(some at_).bind fun t50=>atI t49 t50).bind fun t51=>(some (Nt.txt t51))).bind fun t52=>(some [t52,left_.1])).bind fun t53=>(some (Nt.tup t53))).bind fun new_ =>
 (some (decide ((5:Int)<at_))).bind fun b60=>(cond b60
  ((some (EW+right_.2)).bind fun EW =>
  (((((some FR).bind fun t79=>(some at_).bind fun t80=>atI t79 t80).bind fun t81=>(some (Nt.txt t81))).bind fun t82=>(some [t82,left_.1,right_.1])).bind fun t83=>(some (Nt.tup t83))).bind fun new_ =>
  (some (decide (((Au / (363:Int)) % (2:Int))=(1:Int)))).bind fun b90=>cond b90
   ((((((some FR).bind fun t95=>(some at_).bind fun t96=>atI t95 t96).bind fun t97=>(some (Nt.txt t97))).bind fun t98=>(some [t98,right_.1,left_.1])).bind fun t99=>(some (Nt.tup t99))).bind fun new_ =>
   some (EW,new_))
   (some (EW,new_)))
  (some (EW,new_))).bind fun s65 =>
 (some (decide (s65.1<(25:Int)))).bind fun b109=>(cond b109
  ((some (s65.2,s65.1)).bind fun a118=>(Cp pool_ a118).bind fun z126 =>
  some z126)
  (some pool_)).bind fun s114 =>
 some s114
abbrev Ch (pool_:(List (Nt × Int)))(x:Int × Unit):Option (List (Nt × Int)):=BS pool_ x.1
def Av (script_:Scr)(at_:Int):Option Nt :=
 ((some script_).bind fun t1=>(some at_).bind fun t2=>BB t1 t2).bind fun Au =>
 (some ("abcdefghijklmnopqrstuvwxyz" : Str)).bind fun row_ =>
 (some [((Nt.tup [(Nt.txt ("no" : Str))]),(1:Int)),((Nt.tup [(Nt.txt ("yes" : Str))]),(1:Int))]).bind fun pool_ =>
 ((some (4:Int)).bind fun t23=>rngO 0 t23).bind fun as24=>(Cj (S:=((List (Nt × Int)))) (ρ:=Nt) (fun (k_:Int) s31 =>
   (((((((some row_).bind fun t47=>(((some script_).bind fun t44=>(some ((at_+(1:Int))+k_)).bind fun t45=>BB t44 t45).bind fun t46=>(some (t46 % (26:Int)))).bind fun t48=>(atI t47.cps.toList t48).bind fun z=>some (⟨#[z]⟩:Str)).bind fun t49=>(some (Nt.txt t49))).bind fun t50=>(some [t50])).bind fun t51=>(some ((Nt.txt ("lamp" : Str))::t51))).bind fun t52=>(some (Nt.tup t52))).bind fun t53=>(some (t53,(1:Int)))).bind fun a54=>(Cp s31 a54).bind fun z62 =>
   some (Fl.nx z62)) as24 pool_).bind fun fl26=>match fl26 with
  | .nx s31 =>
   (some (decide ((Au % (9:Int))=(8:Int)))).bind fun b67=>(cond b67
    (((some (23:Int)).bind fun t78=>rngO 0 t78).bind fun as79=>(Cj (S:=((List (Nt × Int)))) (ρ:=Nt) (fun (k_:Int) s86 =>
      (((((some script_).bind fun t99=>(some ((at_+(5:Int))+(k_ % (12:Int)))).bind fun t100=>BB t99 t100).bind fun t101=>(some (k_+(1:Int))).bind fun t102=>IA t101 t102).bind fun t103=>(some (t103 % (6:Int)))).bind fun t104=>(some ()).bind fun t105=>some (t104,t105)).bind fun ca106=>(BS s86 ca106.1).bind fun rz108 =>
      some (Fl.nx rz108)) as79 s31).bind fun fl81=>match fl81 with
     | .nx s86 =>
      some s86
     | .rt r=>none
     | .bk _=>none)
    (((some ((Au / (9:Int)) % (13:Int))).bind fun t122=>rngO 0 t122).bind fun as123=>(Cj (S:=((List (Nt × Int)))) (ρ:=Nt) (fun (k_:Int) s130 =>
      (((some script_).bind fun t143=>(some ((at_+(5:Int))+k_)).bind fun t144=>BB t143 t144).bind fun t145=>(some ()).bind fun t146=>some (t145,t146)).bind fun ca147=>(BS s130 ca147.1).bind fun rz149 =>
      some (Fl.nx rz149)) as123 s31).bind fun fl125=>match fl125 with
     | .nx s130 =>
      some s130
     | .rt r=>none
     | .bk _=>none)).bind fun s72 =>
   (((some s72).bind fun t170=>(some (-(1:Int))).bind fun t171=>atI t170 t171).bind fun t172=>(some t172.1))
  | .rt r=>some r
  | .bk _=>none
abbrev CA (x:Scr × Int × Unit):Option Nt:=Av x.1 x.2.1
def AG (Ei:Nt->Option Str)(Ah:Nt):Option Str :=
 ((((some Ah).bind fun t1=>Al t1).bind fun t2=>(some (0:Int)).bind fun t3=>atI t2.l t3).bind fun t4=>Bc t4).bind fun Aw =>
 (some (decide (Aw=("lamp" : Str)))).bind fun b11=>cond b11
  (((((some Ah).bind fun t16=>Al t16).bind fun t17=>(some (1:Int)).bind fun t18=>atI t17.l t18).bind fun t19=>Bc t19))
  (((((some Ah).bind fun t25=>Al t25).bind fun t26=>(some (t26.l.length:Int))).bind fun t27=>(some (decide (t27=(1:Int))))).bind fun b28=>cond b28
   ((some Aw))
   (((((some Ah).bind fun t38=>Al t38).bind fun t39=>(some (t39.l.length:Int))).bind fun t40=>(some (decide (t40=(2:Int))))).bind fun b41=>cond b41
    ((((some Aw).bind fun t46=>(some (" " : Str)).bind fun t47=>Cq t46 t47).bind fun t52=>((((some Ah).bind fun t48=>Al t48).bind fun t49=>(some (1:Int)).bind fun t50=>atI t49.l t50).bind fun t51=>Ei t51).bind fun t53=>Cq t52 t53))
    ((((((((some ("(" : Str)).bind fun t63=>((((some Ah).bind fun t59=>Al t59).bind fun t60=>(some (1:Int)).bind fun t61=>atI t60.l t61).bind fun t62=>Ei t62).bind fun t64=>Cq t63 t64).bind fun t65=>(some (" " : Str)).bind fun t66=>Cq t65 t66).bind fun t67=>(some Aw).bind fun t68=>Cq t67 t68).bind fun t69=>(some (" " : Str)).bind fun t70=>Cq t69 t70).bind fun t75=>((((some Ah).bind fun t71=>Al t71).bind fun t72=>(some (2:Int)).bind fun t73=>atI t72.l t73).bind fun t74=>Ei t74).bind fun t76=>Cq t75 t76).bind fun t77=>(some ((")" : Str))).bind fun t78=>Cq t77 t78))))
def A7:Nat->Nt->Option Str
 | 0=>fun _=>none
 | n+1=>fun Ah=>AG (A7 n) Ah
abbrev AJ (Bd:Nat)(x:Nt × Unit):Option Str:=A7 Bd x.1
def Be (Ei:Nt->Option Str)(AD:Nt):Option Str :=
 ((((some AD).bind fun t1=>Al t1).bind fun t2=>(some (0:Int)).bind fun t3=>atI t2.l t3).bind fun t4=>Bc t4).bind fun Aw =>
 (some (decide (Aw=("lamp" : Str)))).bind fun b11=>cond b11
  (((((some AD).bind fun t16=>Al t16).bind fun t17=>(some (1:Int)).bind fun t18=>atI t17.l t18).bind fun t19=>Bc t19))
  (((((some AD).bind fun t25=>Al t25).bind fun t26=>(some (t26.l.length:Int))).bind fun t27=>(some (decide (t27=(1:Int))))).bind fun b28=>cond b28
   ((some Aw))
   (((((some AD).bind fun t38=>Al t38).bind fun t39=>(some (t39.l.length:Int))).bind fun t40=>(some (decide (t40=(2:Int))))).bind fun b41=>cond b41
    ((((some Aw).bind fun t46=>(some (" " : Str)).bind fun t47=>Cq t46 t47).bind fun t52=>((((some AD).bind fun t48=>Al t48).bind fun t49=>(some (1:Int)).bind fun t50=>atI t49.l t50).bind fun t51=>Ei t51).bind fun t53=>Cq t52 t53))
    ((((((((some ("(" : Str)).bind fun t63=>((((some AD).bind fun t59=>Al t59).bind fun t60=>(some (1:Int)).bind fun t61=>atI t60.l t61).bind fun t62=>Ei t62).bind fun t64=>Cq t63 t64).bind fun t65=>(some (" " : Str)).bind fun t66=>Cq t65 t66).bind fun t67=>(some Aw).bind fun t68=>Cq t67 t68).bind fun t69=>(some (" " : Str)).bind fun t70=>Cq t69 t70).bind fun t75=>((((some AD).bind fun t71=>Al t71).bind fun t72=>(some (2:Int)).bind fun t73=>atI t72.l t73).bind fun t74=>Ei t74).bind fun t76=>Cq t75 t76).bind fun t77=>(some ((")" : Str))).bind fun t78=>Cq t77 t78))))
def B2:Nat->Nt->Option Str
 | 0=>fun _=>none
 | n+1=>fun AD=>Be (B2 n) AD
abbrev Ae (Bd:Nat)(x:Nt × Unit):Option Str:=B2 Bd x.1
def Ao (thing_:Str):Option Unit :=
 (some (!true)).bind fun b1=>cond b1
  (none)
  (some ())
abbrev Bs (x:Str × Unit):Option Unit:=Ao x.1
def Aa (pile_:List Nt):Option (List Nt × Nt):=(Hk pile_).bind fun p=>some (p.2,p.1)
abbrev BX (pile_:List Nt)(x:Unit):Option (List Nt × Nt):=Aa pile_
def As (Aw:Str):Option (Option Int) :=
 (some Aw).bind fun t1=>some (C3 BN t1)
abbrev CY (x:Str × Unit):Option (Option Int):=As x.1
def CS (thing_:Str):Option Bool :=
 (some (!true)).bind fun b1=>cond b1
  ((some false))
  ((some ("" : Str)).bind fun GI =>
  (some (FN thing_)).bind fun as17=>(Cj (S:=(Str)) (ρ:=Bool) (fun (lamp_:Str) s24 =>
    (some ((decide (lamp_.cps.toList<("a" : Str).cps.toList)) || ((decide (("z" : Str).cps.toList<lamp_.cps.toList)) || (!decide (s24.cps.toList<lamp_.cps.toList))))).bind fun b39=>cond b39
     ((some false).bind fun rr49=>some (Fl.rt rr49))
     ((some lamp_).bind fun GI =>
     some (Fl.nx GI))) as17 GI).bind fun fl19=>match fl19 with
   | .nx s24 =>
    (some true)
   | .rt r=>some r
   | .bk _=>none)
abbrev DX (x:Str × Unit):Option Bool:=CS x.1
def BJ (thing_:Str):Option Bool :=
 (((some thing_).bind fun t1=>CS t1).bind fun t2=>cond t2 (some (decide ((thing_.length:Int)=(1:Int)))) (some false))
abbrev DN (x:Str × Unit):Option Bool:=BJ x.1
def AS (pile_:(List Nt))(Aw:Str):Option (List Nt) :=
 (some (decide (Aw=("(" : Str)))).bind fun b1=>(cond b1
  ((Aa pile_).bind fun pr18 =>
  (Aa pr18.1).bind fun pr23 =>
  (Aa pr23.1).bind fun pr28 =>
  (Aa pr28.1).bind fun pr33 =>
  (some (Nt.tup [pr23.2,pr18.2,pr28.2])).bind fun a38=>(Cp pr33.1 a38).bind fun z46 =>
  some z46)
  ((((some Aw).bind fun t47=>As t47).bind fun t48=>(some (decide (t48=(some (1:Int)))))).bind fun b49=>cond b49
   ((Aa pile_).bind fun pr54=>(Cp pr54.1 (Nt.tup [(Nt.txt Aw),pr54.2])).bind fun z58 =>
   some z58)
   ((((some Aw).bind fun t65=>As t65).bind fun t66=>(some (decide (t66=(some (0:Int)))))).bind fun b67=>cond b67
    ((some (Nt.tup [(Nt.txt Aw)])).bind fun a72=>(Cp pile_ a72).bind fun z80 =>
    some z80)
    (((some Aw).bind fun t81=>BJ t81).bind fun b82=>cond b82
     ((some (Nt.tup [(Nt.txt ("lamp" : Str)),(Nt.txt Aw)])).bind fun a87=>(Cp pile_ a87).bind fun z95 =>
     some z95)
     ((some (Nt.txt Aw)).bind fun a96=>(Cp pile_ a96).bind fun z104 =>
     some z104))))).bind fun s6 =>
 some s6
abbrev E8 (pile_:(List Nt))(x:Str × Unit):Option (List Nt):=AS pile_ x.1
def BC (Ah:Nt):Option (Tp Nt) :=
 (((((some Ah).bind fun t4=>Al t4).bind fun t5=>(some (0:Int)).bind fun t6=>atI t5.l t6).bind fun t7=>Bc t7).bind fun t8=>(some (decide (t8=("lamp" : Str))))).bind fun b9=>cond b9
  ((some (Tp.mk ([]:List Nt))))
  ((((some Ah).bind fun t19=>Al t19).bind fun t20=>(some (some (1:Int))).bind fun t21=>(some none).bind fun t22=>HV t20.l t21 t22))
abbrev E7 (x:Nt × Unit):Option (Tp Nt):=BC x.1
def Bt (thing_:Nt):Option Bool :=
 ((some (!(isK "tuple" (ToD.to thing_)))).bind fun t14=>cond t14 (some true) (((((some thing_).bind fun t1=>Al t1).bind fun t2=>(some (t2.l.length:Int))).bind fun t3=>(some (decide (t3=(0:Int))))).bind fun t13=>cond t13 (some true) ((((((some thing_).bind fun t7=>Al t7).bind fun t8=>(some (0:Int)).bind fun t9=>atI t8.l t9).bind fun t10=>(some (ToD.to t10))).bind fun t11=>(some (isK "str" t11))).bind fun t12=>(some (!t12))))).bind fun b15=>cond b15
  ((some false))
  ((((((some thing_).bind fun t28=>Al t28).bind fun t29=>(some (0:Int)).bind fun t30=>atI t29.l t30).bind fun t31=>Bc t31).bind fun t32=>(some (decide (t32=("lamp" : Str))))).bind fun b33=>cond b33
   ((((((some thing_).bind fun t38=>Al t38).bind fun t39=>(some (t39.l.length:Int))).bind fun t40=>(some (decide (t40=(2:Int))))).bind fun t46=>cond t46 (((((some thing_).bind fun t41=>Al t41).bind fun t42=>(some (1:Int)).bind fun t43=>atI t42.l t43).bind fun t44=>Bc t44).bind fun t45=>BJ t45) (some false)))
   (((((((some thing_).bind fun t52=>Al t52).bind fun t53=>(some (0:Int)).bind fun t54=>atI t53.l t54).bind fun t55=>Bc t55).bind fun t56=>(some ((C3 BN t56).isSome))).bind fun t73=>cond t73 ((((some thing_).bind fun t57=>Al t57).bind fun t58=>(some (t58.l.length:Int))).bind fun t71=>((((((some thing_).bind fun t65=>Al t65).bind fun t66=>(some (0:Int)).bind fun t67=>atI t66.l t67).bind fun t68=>Bc t68).bind fun t69=>C3 BN t69).bind fun t70=>(some ((1:Int)+t70))).bind fun t72=>(some (decide (t71=t72)))) (some false))))
abbrev E6 (x:Nt × Unit):Option Bool:=Bt x.1
def BH (thing_:Nt):Option Bool :=
 (some [thing_]).bind fun Em =>
 (some (0:Int)).bind fun Eb =>
 (DG (S:=((List Nt) × Int)) (ρ:=Bool) (fun s17=>(some (decide (s17.2<(s17.1.length:Int))))) (fun s17 =>
   ((some (decide ((24:Int)<(s17.1.length:Int)))).bind fun t42=>cond t42 (some true) ((((some s17.1).bind fun t38=>(some s17.2).bind fun t39=>atI t38 t39).bind fun t40=>Bt t40).bind fun t41=>(some (!t41)))).bind fun b43=>cond b43
    ((some false).bind fun rr53=>some (Fl.rt rr53))
    ((((some s17.1).bind fun t58=>(some s17.2).bind fun t59=>atI t58 t59).bind fun t60=>BC t60).bind fun a61=>(extO s17.1 a61.l).bind fun z69 =>
    (some (s17.2+(1:Int))).bind fun Eb =>
    some (Fl.nx (z69,Eb)))) HS (Em,Eb)).bind fun fl15=>match fl15 with
  | .nx s17 =>
   (some true)
  | .rt r=>some r
  | .bk _=>none
abbrev Cz (x:Nt × Unit):Option Bool:=BH x.1
def Ay (text_:Str):Option Nt :=
 ((some text_).bind fun t1=>Ao t1).bind fun a2 =>
 (some ([]:List Nt)).bind fun pile_ =>
 (((((some text_).bind fun x=>GR "(" "( " x).bind fun x=>GR ")" " )" x).bind fun t15=>(some (" " : Str)).bind fun t16=>Gc t15 t16).bind fun t17=>(some t17.reverse)).bind fun as18=>(Cj (S:=((List Nt))) (ρ:=Nt) (fun (Aw:Str) s25 =>
   ((some Aw).bind fun t38=>(some ()).bind fun t39=>some (t38,t39)).bind fun ca40=>(AS s25 ca40.1).bind fun rz42 =>
   some (Fl.nx rz42)) as18 pile_).bind fun fl20=>match fl20 with
  | .nx s25 =>
   ((some (!decide ((s25.length:Int)=(1:Int)))).bind fun t76=>cond t76 (some true) (((((some s25).bind fun t67=>(some (0:Int)).bind fun t68=>atI t67 t68).bind fun t69=>BH t69).bind fun t70=>(some (!t70))).bind fun t75=>cond t75 (some true) ((((some s25).bind fun t71=>(some (0:Int)).bind fun t72=>atI t71 t72).bind fun t73=>A7 26 t73).bind fun t74=>(some (!decide (t74=text_)))))).bind fun b77=>cond b77
    (none)
    (((some s25).bind fun t82=>(some (0:Int)).bind fun t83=>atI t82 t83))
  | .rt r=>some r
  | .bk _=>none
abbrev Cc (x:Str × Unit):Option Nt:=Ay x.1
def Ai (AD:Nt):Option Bool :=
 ((some AD).bind fun t1=>B2 26 t1).bind fun due_ =>
 ((some AD).bind fun t8=>A7 26 t8).bind fun Em =>
 (some ((!true) || (!decide (Em=due_)))).bind fun b15=>cond b15
  ((some false))
  (((some due_).bind fun t25=>Ay t25).bind fun told_ =>
  ((some (isK "tuple" (ToD.to told_))).bind fun t34=>cond t34 ((some told_).bind fun t32=>(some AD).bind fun t33=>eqNO t32 t33) (some false)))
abbrev BW (x:Nt × Unit):Option Bool:=Ai x.1
def G5 (script_:Scr):Option Bool :=
 ((some script_).bind fun t1=>(some (0:Int)).bind fun t2=>Av t1 t2).bind fun one_ =>
 ((some script_).bind fun t9=>(some (24:Int)).bind fun t10=>Av t9 t10).bind fun other_ =>
 ((((some one_).bind fun t17=>Ai t17).bind fun t18=>(some (!t18))).bind fun t24=>cond t24 (some true) ((((some other_).bind fun t19=>Ai t19).bind fun t20=>(some (!t20))).bind fun t23=>cond t23 (some true) (((some one_).bind fun t21=>Ai t21).bind fun t22=>(some (!t22))))).bind fun b25=>cond b25
  ((some false))
  ((((some (Nt.tup [(Nt.txt ("frees" : Str)),(Nt.tup [(Nt.txt ("next" : Str)),(Nt.tup [(Nt.txt ("no" : Str))])]),(Nt.tup [(Nt.txt ("yes" : Str))])])).bind fun t35=>A7 26 t35).bind fun t36=>(some (decide (t36=("(next no frees yes)" : Str))))))
abbrev mm_law (x:Scr × Unit):Option Bool:=G5 x.1
def top (i:Nat):Stmt:=PySem.Challenge.pw_lassoscribe_k85_sentences_written.main.body.getD i (.Pass ⟨0,0,0,0⟩)
abbrev Cu:Stmt:=top 4
abbrev Ce:Stmt:=top 8
abbrev DH:Stmt:=top 9
abbrev Dh:Stmt:=top 10
abbrev DM:Stmt:=top 11
abbrev CZ:Stmt:=top 12
abbrev Bf:Stmt:=top 14
abbrev BR:Stmt:=top 15
abbrev D3:Stmt:=top 16
abbrev DF:Stmt:=top 17
abbrev C7:Stmt:=top 18
abbrev DO:Stmt:=top 20
abbrev D2:Stmt:=top 21
abbrev CH:Stmt:=top 22
abbrev C1:Stmt:=top 23
abbrev CB:Stmt:=top 24
abbrev s_law:Stmt:=top 25
structure Txt (w:World)(K:FZ9)(mg:Str->Option Value):Prop where
 ValueError_:mg "ValueError" = none
 isinstance_:mg "isinstance" = none
 len_:mg "len" = none
 min_:mg "min" = none
 range_:mg "range" = none
 reversed_:mg "reversed" = none
 str_:mg "str" = none
 tuple_:mg "tuple" = none
 MOST_WORDS:∃ t,mg "MOST_WORDS" = some (.int 24 t)
 PARTS:∃ a,mg "PARTS" = some (.ref a)/\CDict w K a BN
theorem CC:FnScope ["thing","last","lamp"] ["thing"] (AC Cu):=scm
theorem En:FnScope ["word"] ["word"] (AC Ce):=scm
theorem GL:FnScope ["sentence"] ["sentence"] (AC DH):=scm
theorem HB:FnScope ["thing"] ["thing"] (AC Dh):=scm
theorem GC:FnScope ["thing"] ["thing"] (AC DM):=scm
theorem Br:FnScope ["thing","found","place"] ["thing"] (AC CZ):=scm
theorem Bz:FnScope ["sentence","word"] ["sentence"] (AC Bf):=scm
theorem Cr:FnScope ["thing"] ["thing"] (AC BR):=scm
theorem F8:FnScope ["pile"] ["pile"] (AC D3):=scm
theorem CQ:FnScope ["pile","word","left","middle","right"] ["pile","word"] (AC DF):=scm
theorem Bu:FnScope ["text","pile","word"] ["text"] (AC C7):=scm
theorem D6:FnScope ["_law_script","_law_k","_law_number"] ["_law_script","_law_k"] (AC DO):=scm
theorem Am:FnScope ["_law_pool","_law_cell_here","_law_heads","_law_at","_law_left","_law_right","_law_size","_law_new"] ["_law_pool","_law_cell_here"] (AC D2):=scm
theorem Ar:FnScope ["_law_script","_law_at","_law_cell_here","_law_row","_law_pool","_law_k"] ["_law_script","_law_at"] (AC CH):=scm
theorem CI:FnScope ["_law_sentence_here","_law_word"] ["_law_sentence_here"] (AC C1):=scm
theorem BY:FnScope ["_law_sentence_here","_law_due","_law_found","_law_told"] ["_law_sentence_here"] (AC CB):=scm
theorem Gh:FnScope ["_law_script","_law_one","_law_other"] ["_law_script"] (AC s_law):=scm
def FB (K:FZ9):Sp:=fun vs H Q _=>∃ (a:Addr) (ns:List Int),vs=[.ref a]/\SqL K H a (ns.map V.int)/\ns.length<=63/\∀ H',Q (.bl true) H'
section
variable (P:Program)(w:World)(K:FZ9)(mg:Str->Option Value)(base:Heap)
abbrev Ec:Prop:=DefOk P w K mg base "_law_cell" 1 ["_law_script","_law_k"] (spM K C6)
abbrev Dw:Prop:=DefOk P w K mg base "_law_grown" 1 ["_law_pool","_law_cell_here"] (spW1 K Ch)
abbrev D5:Prop:=DefOk P w K mg base "_law_sentence" 2 ["_law_script","_law_at"] (spM K CA)
abbrev Bg:Prop:=DefOk P w K mg base "show_sentence" 27 ["sentence"] (spM K (AJ 26))
abbrev DC:Prop:=DefOk P w K mg base "_law_written" 27 ["_law_sentence_here"] (spM K (Ae 26))
abbrev C5:Prop:=DefOk P w K mg base "refuse_other_kinds" 1 ["thing"] (spM K Bs)
abbrev Dx:Prop:=DefOk P w K mg base "taken_off" 1 ["pile"] (spYF K BX)
abbrev DR:Prop:=DefOk P w K mg base "many_parts" 1 ["word"] (spM K CY)
abbrev E5:Prop:=DefOk P w K mg base "is_moment" 1 ["thing"] (spM K DX)
abbrev Di:Prop:=DefOk P w K mg base "is_lamp" 2 ["thing"] (spM K DN)
abbrev EO:Prop:=DefOk P w K mg base "lay_word" 3 ["pile","word"] (spW1 K E8)
abbrev EN:Prop:=DefOk P w K mg base "parts_of" 1 ["sentence"] (spM K E7)
abbrev Eg:Prop:=DefOk P w K mg base "has_form" 3 ["thing"] (spM K E6)
abbrev DD:Prop:=DefOk P w K mg base "is_sentence" 4 ["thing"] (spM K Cz)
abbrev Cn:Prop:=DefP P w K mg base "read_sentence" 28 ["text"] (spM K Cc)
abbrev Co:Prop:=DefP P w K mg base "_law_both_ways" 29 ["_law_sentence_here"] (spM K BW)
end
section
variable {P:Program}{w:World}{K:FZ9}{mg:Str->Option Value}{base:Heap}
local macro_rules | `(tactic| ac_rfl) => `(tactic| first | assumption | exact Ne.symm (by assumption))
local macro_rules
 | `(tactic| clear $n:num $rs*) => do
  let hm := Lean.mkIdent `hm
  let xt := Lean.mkIdent `xt
  let q := Lean.mkIdent `q
  let rf := Lean.mkIdent `rfl
  let w : Array Lean.Ident := rs.map fun r => ⟨r.raw⟩
  match n.getNat with
  | 2 =>
   let mut ts := #[]
   for k in [0:w.size/2] do
    let a := w[2*k]!
    let b := w[2*k+1]!
    ts := ts.push (← `(tactic| refine bE $hm fun $a $b $hm => ?_))
   `(tactic| ($[$ts:tactic];*))
  | 3 => `(tactic| (replace $hm := cT $hm; refine Bq ?_))
  | 4 => `(tactic| (replace $hm := cF $hm; refine Bl ?_))
  | 5 => `(tactic| (rintro r' v' G' H' $rf:ident rl; cases $hm:ident; exact $q v' G' H' rl.1 rl.2))
  | 6 => let k := w[0]!; `(tactic| (rintro r' v' G' H' $rf:ident rl; cases $hm:ident; exact $k _ v' G' H' rfl rl))
  | 9 =>
   let x := w[0]!
   let ts ← (w.extract 1 w.size).mapM fun (i : Lean.Ident) => `(tactic| have $i := Rp.mono $x $i)
   `(tactic| ($[$ts:tactic];*))
  | z =>
   if z > 1 then Lean.Macro.throwUnsupported
   let x := w[0]!
   let mut m := 1
   let mut ts := #[]
   let mut hs := #[]
   for i in w.extract 1 w.size do
    if let some k := i.raw.isNatLit? then m := k
    else if m == 4 then hs := hs.push (← `(tactic| have $i := ($xt).hh.free $i))
    else ts := ts.push (← match m with
     | 1 => `(tactic| have $i := Rp.mono ($x).gg $i)
     | 2 => `(tactic| have $i := ($i).ext $x)
     | _ => `(tactic| have $i := ($i).trans ($x).gg))
   if z == 1 then hs := hs.push (← `(tactic| have $xt := ($xt).trans $x))
   let zs := hs ++ ts
   `(tactic| ($[$zs:tactic];*))
theorem GQ (F:DIn K mg "_law_cell" DO)(T:Txt w K mg):Ec P w K mg base:=by
 refine F.okM2 (m:=BB) D6 fun _ _ _ _ _ H0 _ _ hr G0 script_ k_ res BI v_k_ xt AA ET hm q=>?_;unfold BB at hm
 refine ⟨_,(A2 (B9 (AT F6 (pv 1) (B1 K T.len_ (pv 0)) (AY _)) (A2 (Ag (AM K (pv 0) (pv 1)))
   A5) A5)
   (A2 (AR (i:=2) D6 (AI K (BA (D9 (K:=K) rfl) (pv 1) A6) A6))
   (A2 (B9 (AT Fb (B1 K T.len_ (pv 0)) A6 (AY _)) (A2 (AR (i:=2) D6 (BA Bw (AI K (BA (D9 (K:=K) rfl) (AM K (pv 0) (BA Bw (BA (D9 (K:=K) rfl) (pv 1) A6) (B1 K T.len_ (pv 0)))) A6) (BA (D9 (K:=K) rfl) (pv 1) A6)) A6))
   A5) A5)
   (A2 (Ag (BA Bw (BA (D9 (K:=K) rfl) (pv 2) (pv 2)) A6))
   A5)))),?_⟩
 clear 2 b1 h2;refine BG (AU (K:=K) (Dj (A9 ET) (FW (A9 AA)))) h2 xt.gh fun G3 H4 x5=>?_;clear 1 x5 AA ET
 cases b1 with
 | true =>
  clear 3;exact Aj (K:=K) (ev_atX (A9 AA) (A9 ET)) hm xt.gh fun v8 G9 H10 x11 r12=>q v8 G9 H10 (xt.trans x11) r12
 | false =>
  clear 4;clear 2 Dd h18;refine Ax (K:=K) (Bx (DT (A9 ET)) Af) h18 xt.gh fun v13 G14 H15 x16 r17=>?_;clear 1 x16 AA ET;clear 2 b19 h20 s24 h25
  try (with_reducible refine nxt_ ?_;dsimp only)
  refine DW (t:=F9 _ _ _) (fun S45 H44=>∃ (G43:Hp) (v27:V),Ext G0 H0 G43 H44/\Same G14 G43/\S45=[some BI,some v_k_,some v27]/\Rp.rel K G43 v27 (s24:Int)) (fun nx kn29=>?_) ?_
  ·refine BG (AU (K:=K) (Dj (FW (A9 AA)) Af)) h20 xt.gh fun G21 H22 x23=>?_;clear 1 x23 AA ET r17;have mk26:Same G14 G21:=x23.gg;have hm:=h25
   cases b19 with
   | true =>
    clear 3;clear 2 Dd h42;refine Ax (K:=K) (C2 (Bx (DT (ev_atX (A9 AA) (FZ (DT (A9 ET)) (FW (A9 AA))))) (DT (A9 ET)))) h42 xt.gh fun v37 G38 H39 x40 r41=>?_;clear 1 x40 3 mk26;cases hm;exact kn29 _ _ ⟨G38,v37,xt,mk26,rfl,r41⟩
   | false =>
    clear 4;cases hm;exact kn29 _ _ ⟨G21,v13,xt,mk26,rfl,r17⟩
  ·rintro _ H44 ⟨G43,v27,xt,mk26,rfl,r28⟩;exact Aj (K:=K) (C2 (ev_mul (A9 r28) (A9 r28))) hm xt.gh fun v49 G50 H51 x52 r53=>q v49 G50 H51 (xt.trans x52) r53
seal eval in
theorem FH (F:DIn K mg "_law_grown" D2)(T:Txt w K mg):Dw P w K mg base:=by
 refine F.ok Am bn2 (fun vs H Q E h=>(Fh h).trans rfl) (fun _ cdv A outer s H9 vs Q E hr h=>?_);obtain ⟨G0,Bp,EU,_,pool_,⟨Au,⟨⟩⟩,res,rfl,sg0,o_pool_,⟨Cf,_,rfl,AB,rfl⟩,hm,q⟩:=h;have xt:Ext G0 (era H9 [Bp]) G0 H9:=Ext.begin sg0;have Fk:era H9 [Bp] Bp=none:=FL (by simp);generalize era H9 [Bp]=H0 at xt q Fk;replace AB:Rp.rel K G0 Cf Au:=AB;replace hm:BS pool_ Au=some res:=hm;unfold BS at hm
 refine ⟨_,(A2 (AR (i:=2) Am (Fa (A3 AL (A3 AL (A3 AL (A3 AL (A3 AL (A3 AL (A3 AL (A3 AL (A3 AL (A3 AL (A3 AL A8)))))))))))))
   (A2 (AR (i:=3) Am (BA Bw (pv 1) A6))
   (A2 (AR (i:=4) Am (AM K (pv 0) (BA op_sub (pe_un un_neg A6) (BA Bw (BA Dc (pv 1) A6) (C4 (Hu rfl) (by rfl) T.min_ bt_min (A3 A6 (A3 (B1 K T.len_ (pv 0)) A8)))))))
   (A2 (AR (i:=5) Am (AM K (pv 0) (BA Bw (BA Bw (BA (D9 (K:=K) rfl) (BA Dc (pv 1) A6) A6) A6) (B1 K T.len_ (pv 0)))))
   (A2 (AR (i:=6) Am (AI K A6 (AM K (pv 4) A6)))
   (A2 (AR (i:=7) Am (BD (A3 (AM K (pv 2) (pv 3)) (A3 (AM K (pv 4) A6) A8))))
   (A2 (B9 (AT Fb (pv 3) A6 (AY _)) (A2 (AR (i:=6) Am (AI K (pv 6) (AM K (pv 5) A6)))
   (A2 (AR (i:=7) Am (BD (A3 (AM K (pv 2) (pv 3)) (A3 (AM K (pv 4) A6) (A3 (AM K (pv 5) A6) A8)))))
   (A2 (B9 (AT Bm (BA Bw (BA Dc (pv 1) A6) A6) A6 (AY _)) (A2 (AR (i:=7) Am (BD (A3 (AM K (pv 2) (pv 3)) (A3 (AM K (pv 5) A6) (A3 (AM K (pv 4) A6) A8)))))
   A5) A5)
   A5))) A5)
   (A2 (B9 (AT F6 (pv 6) A6 (AY _)) (A2 (Ba (Bh K (pv 0) (BD (A3 (pv 7) (A3 (pv 6) A8)))))
   A5) A5)
   A5)))))))),?_⟩
 clear 2 FR h6;refine Ax (K:=K) (FV.ev (F4 (AF B8 (AF B8 (AF B8 (AF B8 (AF B8 (AF B8 (AF B8 (AF B8 (AF B8 (AF B8 (AF B8 (BL (α:=Str))))))))))))))) h6 xt.gh fun v1 G2 H3 x4 r5=>?_;clear 1 x4 AB 2 o_pool_;clear 2 at_ h12;refine Ax (K:=K) (C2 (A9 AB)) h12 xt.gh fun v7 G8 H9 x10 r11=>?_;clear 1 x10 AB r5 2 o_pool_;clear 2 left_ h28;refine Hg (K:=K) o_pool_ (Cy (A9 o_pool_.tell) (ev_sub (ev_neg Af) (FZ (EI (A9 (Rp.mono (Same.new o_pool_.g) AB))) (ev_min Af (Dn (A9 o_pool_.tell)))))) h28 xt.gh fun v23 G24 H25 x26 r27=>?_;clear 1 x26 AB r5 r11 2 o_pool_;clear 2 right_ h42;refine Hg (K:=K) o_pool_ (Cy (A9 o_pool_.tell) (FZ (C2 (DT (EI (A9 (Rp.mono (Same.new o_pool_.g) AB))))) (Dn (A9 o_pool_.tell)))) h42 xt.gh fun v37 G38 H39 x40 r41=>?_;clear 1 x40 AB r5 r11 r27 2 o_pool_;clear 2 EW h48;refine Ax (K:=K) (Bx Af (ev_snd (A9 r27))) h48 xt.gh fun v43 G44 H45 x46 r47=>?_;clear 1 x46 AB r5 r11 r27 r41 2 o_pool_;clear 2 new_ h59;refine Ax (K:=K) (B6 (AF (B5 (Cy (A9 r5) (A9 r11))) (AF (Dg (A9 r27)) (BL (α:=Nt))))) h59 xt.gh fun v54 G55 H56 x57 r58=>?_;clear 1 x57 AB r5 r11 r27 r41 r47 2 o_pool_;clear 2 b60 h61 s65 h66
 try (with_reducible refine nxt_ ?_;dsimp only)
 refine DW (t:=F9 _ _ _) (fun S108 H107=>∃ (G106:Hp) (v68:V) (v70:V),Ext G0 H0 G106 H107/\Same G55 G106/\S108=[some (V.ref Bp),some Cf,some v1,some v7,some v23,some v37,some v68,some v70]/\Rp.rel K G106 v68 (s65.1:Int)/\Rp.rel K G106 v70 (s65.2:Nt)/\Own K G106 H107 (V.ref Bp) Bp EU pool_) (fun nx kn72=>?_) ?_
 ·refine BG (AU (K:=K) (Dj (A9 r11) Af)) h61 xt.gh fun G62 H63 x64=>?_;clear 1 x64 AB r5 r11 r27 r41 r47 r58 2 o_pool_;have mk67:Same G55 G62:=x64.gg;have hm:=h66
  cases b60 with
  | true =>
   clear 3;clear 2 EW h78;refine Ax (K:=K) (Bx (A9 r47) (ev_snd (A9 r41))) h78 xt.gh fun v73 G74 H75 x76 r77=>?_;clear 1 x76 AB r5 r11 r27 r41 2 o_pool_ 3 mk67;clear 2 new_ h89;refine Ax (K:=K) (B6 (AF (B5 (Cy (A9 r5) (A9 r11))) (AF (Dg (A9 r27)) (AF (Dg (A9 r41)) (BL (α:=Nt)))))) h89 xt.gh fun v84 G85 H86 x87 r88=>?_;clear 1 x87 AB r5 r11 r27 r41 r77 2 o_pool_ 3 mk67;clear 2 b90 h91;refine BG (AU (K:=K) (CJ (C2 (EI (A9 AB))) Af)) h91 xt.gh fun G92 H93 x94=>?_;clear 1 x94 r5 r11 r27 r41 r77 r88 2 o_pool_ 3 mk67
   cases b90 with
   | true =>
    clear 3;clear 2 new_ h105;refine Ax (K:=K) (B6 (AF (B5 (Cy (A9 r5) (A9 r11))) (AF (Dg (A9 r41)) (AF (Dg (A9 r27)) (BL (α:=Nt)))))) h105 xt.gh fun v100 G101 H102 x103 r104=>?_;clear 1 x103 r77 2 o_pool_ 3 mk67;cases hm;exact kn72 _ _ ⟨G101,v73,v100,xt,mk67,rfl,r77,r104,o_pool_⟩
   | false =>
    clear 4;cases hm;exact kn72 _ _ ⟨G92,v73,v84,xt,mk67,rfl,r77,r88,o_pool_⟩
  | false =>
   clear 4;cases hm;exact kn72 _ _ ⟨G62,v43,v54,xt,mk67,rfl,r47,r58,o_pool_⟩
 ·rintro _ H107 ⟨G106,v68,v70,xt,mk67,rfl,r69,r71,o_pool_⟩;clear 9 mk67 AB r5 r11 r27 r41;clear 2 b109 h110 s114 h115
  try (with_reducible refine nxt_ ?_;dsimp only)
  refine DW (t:=F9 _ _ _) (fun S129 H128=>∃ (G127:Hp) ,Ext G0 H0 G127 H128/\Same G106 G127/\S129=[some (V.ref Bp),some Cf,some v1,some v7,some v23,some v37,some v68,some v70]/\(∃ vs,Own K G127 H128 (V.ref Bp) Bp vs s114)) (fun nx kn117=>?_) ?_
  ·refine BG (AU (K:=K) (Dj (A9 r69) Af)) h110 xt.gh fun G111 H112 x113=>?_;clear 1 x113 r69 r71 2 o_pool_;have mk116:Same G106 G111:=x113.gg;have hm:=h115
   cases b109 with
   | true =>
    clear 3;clear 2 a118 h119 z126 h120;refine CG (K:=K) rfl o_pool_ (EJ (A9 r71) (A9 r69)) h119 h120 xt.gh fun G121 H122 w123 x124 o125=>?_;have xt:Ext G0 H0 G121 (upd H122 Bp (.lst (EU++[w123]))):=(xt.trans x124).put Fk o125.g;clear 0 x124 3 mk116;cases hm;exact kn117 _ _ ⟨G121,xt,mk116,rfl,⟨_,o125⟩⟩
   | false =>
    clear 4;cases hm;exact kn117 _ _ ⟨G111,xt,mk116,rfl,⟨_,o_pool_⟩⟩
  ·rintro _ H128 ⟨G127,xt,mk116,rfl,⟨EU,o_pool_⟩⟩;cases hm;exact q _ _ _ xt o_pool_
theorem EC (F:DIn K mg "_law_sentence" CH)(T:Txt w K mg)(Bv:Ec P w K mg base)(CP:Dw P w K mg base):D5 P w K mg base:=by
 refine F.okM2 (m:=Av) Ar fun _ _ _ _ _ H0 _ _ hr G0 script_ at_ res BI He xt AA Bk hm q=>?_;unfold Av at hm
 refine ⟨_,(A2 (AR (i:=2) Ar (AZ Bv hr (by decide) rfl (A3 (pv 0) (A3 (pv 1) A8))))
   (A2 (AR (i:=3) Ar AL)
   (A2 (AR (i:=4) Ar (Fa (A3 (BD (A3 (BD (A3 AL A8)) (A3 A6 A8))) (A3 (BD (A3 (BD (A3 AL A8)) (A3 A6 A8))) A8))))
   (A2 (FK PassesOwn.never rfl (Df rfl T.range_ (A3 A6 A8)) (D1 (i:=5) Ar) (A2 (Ba (Bh K (pv 4) (BD (A3 (BD (A3 AL (A3 (AM K (pv 3) (BA Bw (AZ Bv hr (by decide) rfl (A3 (pv 0) (A3 (AI K (AI K (pv 1) A6) (pv 5)) A8))) A6)) A8))) (A3 A6 A8)))))
   A5))
   (A2 (B9 (AT Bm (BA Bw (pv 2) A6) A6 (AY _)) (A2 (FK PassesOwn.never rfl (Df rfl T.range_ (A3 A6 A8)) (D1 (i:=5) Ar) (A2 (Ba (AZ CP hr (by decide) rfl (A3 (pv 4) (A3 (BA Bw (BA Dc (AZ Bv hr (by decide) rfl (A3 (pv 0) (A3 (AI K (AI K (pv 1) A6) (BA Bw (pv 5) A6)) A8))) (AI K (pv 5) A6)) A6) A8))))
   A5))
   A5) (A2 (FK PassesOwn.never rfl (Df rfl T.range_ (A3 (BA Bw (BA Dc (pv 2) A6) A6) A8)) (D1 (i:=5) Ar) (A2 (Ba (AZ CP hr (by decide) rfl (A3 (pv 4) (A3 (AZ Bv hr (by decide) rfl (A3 (pv 0) (A3 (AI K (AI K (pv 1) A6) (pv 5)) A8))) A8))))
   A5))
   A5))
   (A2 (Ag (AM K (AM K (pv 4) (pe_un un_neg A6)) A6))
   A5)))))),?_⟩
 clear 2 Au h8;refine Ax (K:=K) (DA (m:=C6) (A9 AA) (A9 Bk)) h8 xt.gh fun v3 G4 H5 x6 r7=>?_;clear 1 x6 AA Bk;clear 2 row_ h14;refine Ax (K:=K) B8 h14 xt.gh fun v9 G10 H11 x12 r13=>?_;clear 1 x12 AA Bk r7;clear 2 pool_ h22;refine Gm (K:=K) (F4 (AF (EJ (B6 (AF (B5 B8) (BL (α:=Nt)))) Af) (AF (EJ (B6 (AF (B5 B8) (BL (α:=Nt)))) Af) (BL (α:=(Nt × Int)))))) h22 xt.gh fun p15 vs16 G17 H18 x19 hz20 o21=>?_;clear 1 x19 AA Bk r7 r13 4 hz20;clear 2 as24 h25 fl26 h27;refine Ea (K:=K) (RR:=fun r v G' H'=>Ext G0 H0 G' H'/\Rp.rel K G' v r) (FX Af) h25 h27 xt.gh fun G28 H29 x30=>⟨fun s31 S' G' H'=>∃ (v32:Option V),Ext G0 H0 G' H'/\Same G28 G'/\S'=[some BI,some He,some v3,some v9,some (V.ref p15),v32]/\(∃ vs,Own K G' H' (V.ref p15) p15 vs s31),?_,?_,?_,?_,?_⟩
 ·clear 1 x30 2 o21;exact ⟨_,xt,(Same.refl _),rfl,⟨_,o21⟩⟩
 ·rintro _ S' G' H' ⟨v32,xt,mk33,rfl,⟨vs16,o21⟩⟩;exact ⟨mk33,xt.gh⟩
 ·rintro xv34 a35 s31 _ G38 H39 fl36 - ⟨v32,xt,mk33,rfl,⟨vs16,o21⟩⟩ rx37 hm D' kN40 kC41 kB42 kR43;have AA:=Rp.mono (x30.gg.trans mk33) AA;have Bk:=Rp.mono (x30.gg.trans mk33) Bk;have r13:=Rp.mono (x30.gg.trans mk33) r13;refine Da ?_;clear 2 a54 h55 z62 h56;refine CG (K:=K) rfl o21 (EJ (B6 (AF (B5 B8) (AF (B5 (ev_atS (A9 r13) (C2 (DA (m:=C6) (A9 AA) (Bx (Bx (A9 Bk) Af) (A9 rx37)))))) (BL (α:=Nt))))) Af) h55 h56 xt.gh fun G57 H58 w59 x60 o61=>?_;have xt:Ext G0 H0 G57 (upd H58 p15 (.lst (vs16++[w59]))):=(xt.trans x60).put hz20 o61.g;clear 0 x60 3 mk33;cases hm;exact kN40 _ _ _ _ rfl ⟨_,xt,mk33,rfl,⟨_,o61⟩⟩
 ·rintro s31 _ G65 H66 rfl ⟨v63,xt,mk64,rfl,⟨vs16,o21⟩⟩;refine Er ?_;have AA:=Rp.mono (x30.gg.trans mk64) AA;have Bk:=Rp.mono (x30.gg.trans mk64) Bk;have r7:=Rp.mono (x30.gg.trans mk64) r7;have r13:=Rp.mono (x30.gg.trans mk64) r13;clear 2 b67 h68 s72 h73
  try (with_reducible refine nxt_ ?_;dsimp only)
  refine DW (t:=F9 _ _ _) (fun S165 H164=>∃ (G163:Hp) (v75:Option V),Ext G0 H0 G163 H164/\Same G65 G163/\S165=[some BI,some He,some v3,some v9,some (V.ref p15),v75]/\(∃ vs,Own K G163 H164 (V.ref p15) p15 vs s72)) (fun nx kn77=>?_) ?_
  ·refine BG (AU (K:=K) (CJ (C2 (A9 r7)) Af)) h68 xt.gh fun G69 H70 x71=>?_;clear 1 x71 AA Bk r7 r13 2 o21;have mk74:Same G65 G69:=x71.gg;have hm:=h73
   cases b67 with
   | true =>
    clear 3;clear 2 as79 h80 fl81 h82;refine Ea (K:=K) (RR:=fun _ _ _ _=>False) (FX Af) h80 h82 xt.gh fun G83 H84 x85=>⟨fun s86 S' G' H'=>∃ (v87:Option V),Ext G0 H0 G' H'/\Same G83 G'/\S'=[some BI,some He,some v3,some v9,some (V.ref p15),v87]/\(∃ vs,Own K G' H' (V.ref p15) p15 vs s86),?_,?_,?_,?_,?_⟩
    ·clear 1 x85 2 o21;exact ⟨_,xt,(Same.refl _),rfl,⟨_,o21⟩⟩
    ·rintro _ S' G' H' ⟨v87,xt,mk88,rfl,⟨vs16,o21⟩⟩;exact ⟨mk88,xt.gh⟩
    ·rintro xv89 a90 s86 _ G93 H94 fl91 - ⟨v87,xt,mk88,rfl,⟨vs16,o21⟩⟩ rx92 hm D' kN95 kC96 kB97 kR98;have mk74:=(mk74.trans x85.gg).trans mk88;have AA:=Rp.mono (x85.gg.trans mk88) AA;have Bk:=Rp.mono (x85.gg.trans mk88) Bk;have r7:=Rp.mono (x85.gg.trans mk88) r7;have r13:=Rp.mono (x85.gg.trans mk88) r13;refine Da ?_;clear 2 ca106 h107 rz108 h109;refine Dq (K:=K) (m:=Ch) rfl o21 (Fe (C2 (ev_div (DA (m:=C6) (A9 AA) (Bx (Bx (A9 Bk) Af) (C2 (A9 rx92)))) (Bx (A9 rx92) Af))) DK) h107 h109 xt.gh fun G110 H111 G112 H113 vs116 x114 y115 o117=>?_;have xt:=(xt.trans x114).past (C:=[p15]) (fun b hb=>by simp only [qiA,qiB,or_false] at hb;(first | (rcases hb with e|e<;>(rw [e];assumption)) | (rw [hb];assumption))) y115;have mk88:=mk88.trans (x114.gg.trans y115.gg);cases hm;exact kN95 _ _ _ _ rfl ⟨_,xt,mk88,rfl,⟨_,o117⟩⟩
    ·rintro s86 _ G120 H121 rfl ⟨v118,xt,mk119,rfl,⟨vs16,o21⟩⟩;refine Er ?_;have mk74:=(mk74.trans x85.gg).trans mk119;cases hm;exact kn77 _ _ ⟨G120,_,xt,mk74,rfl,⟨_,o21⟩⟩
    ·rintro r' v' G' H' rfl rl;exact rl.elim
   | false =>
    clear 4;clear 2 as123 h124 fl125 h126;refine Ea (K:=K) (RR:=fun _ _ _ _=>False) (FX (C2 (EI (A9 r7)))) h124 h126 xt.gh fun G127 H128 x129=>⟨fun s130 S' G' H'=>∃ (v131:Option V),Ext G0 H0 G' H'/\Same G127 G'/\S'=[some BI,some He,some v3,some v9,some (V.ref p15),v131]/\(∃ vs,Own K G' H' (V.ref p15) p15 vs s130),?_,?_,?_,?_,?_⟩
    ·clear 1 x129 2 o21;exact ⟨_,xt,(Same.refl _),rfl,⟨_,o21⟩⟩
    ·rintro _ S' G' H' ⟨v131,xt,mk132,rfl,⟨vs16,o21⟩⟩;exact ⟨mk132,xt.gh⟩
    ·rintro xv133 a134 s130 _ G137 H138 fl135 - ⟨v131,xt,mk132,rfl,⟨vs16,o21⟩⟩ rx136 hm D' kN139 kC140 kB141 kR142;have mk74:=(mk74.trans x129.gg).trans mk132;have AA:=Rp.mono (x129.gg.trans mk132) AA;have Bk:=Rp.mono (x129.gg.trans mk132) Bk;have r7:=Rp.mono (x129.gg.trans mk132) r7;have r13:=Rp.mono (x129.gg.trans mk132) r13;refine Da ?_;clear 2 ca147 h148 rz149 h150;refine Dq (K:=K) (m:=Ch) rfl o21 (Fe (DA (m:=C6) (A9 AA) (Bx (Bx (A9 Bk) Af) (A9 rx136))) DK) h148 h150 xt.gh fun G151 H152 G153 H154 vs157 x155 y156 o158=>?_;have xt:=(xt.trans x155).past (C:=[p15]) (fun b hb=>by simp only [qiA,qiB,or_false] at hb;(first | (rcases hb with e|e<;>(rw [e];assumption)) | (rw [hb];assumption))) y156;have mk132:=mk132.trans (x155.gg.trans y156.gg);cases hm;exact kN139 _ _ _ _ rfl ⟨_,xt,mk132,rfl,⟨_,o158⟩⟩
    ·rintro s130 _ G161 H162 rfl ⟨v159,xt,mk160,rfl,⟨vs16,o21⟩⟩;refine Er ?_;have mk74:=(mk74.trans x129.gg).trans mk160;cases hm;exact kn77 _ _ ⟨G161,_,xt,mk74,rfl,⟨_,o21⟩⟩
    ·rintro r' v' G' H' rfl rl;exact rl.elim
  ·rintro _ H164 ⟨G163,v75,xt,mk74,rfl,⟨vs16,o21⟩⟩;have sf:=Same.new (o:=.lst vs16) o21.g;have xt:=xt.frz hz20 o21.g o21.h;have r169:=o21.tell;exact Aj (K:=K) (Dg (Cy (A9 r169) (ev_neg Af))) hm xt.gh fun v173 G174 H175 x176 r177=>q v173 G174 H175 (xt.trans x176) r177
 ·clear 5
theorem DY {f:Addr}{fd:FuncData}(F:Fun K "show_sentence" "show_sentence" Bf f fd):FnOk P w K mg base CX0 1 f fd ["sentence"] (spM K (AJ 0)):=by
 refine F.ok Bz (fun vs H Q E h=>(CL h).trans rfl) (fun cdv A outer s H0 vs Q E hr h=>?_);obtain ⟨_,_,_,_,_,hm,_⟩:=h;exact nomatch (hm:none=some _)
theorem Dr {f:Addr}{fd:FuncData}(F:Fun K "show_sentence" "show_sentence" Bf f fd)(T:Txt w K mg)(Bd:Nat)(AH:DefOk P w K mg base "show_sentence" (1+Bd) ["sentence"] (spM K (AJ Bd))):FnOk P w K mg base CX0 (1+Bd+1) f fd ["sentence"] (spM K (AJ (Bd+1))):=by
 refine F.ok Bz (fun vs H Q E h=>(CL h).trans rfl) (fun cdv A outer s H0 vs Q E hr h=>?_);obtain ⟨G0,⟨Ah,⟨⟩⟩,res,sg0,⟨Cv,_,rfl,AE,rfl⟩,hm,q⟩:=h;replace AE:Rp.rel K G0 Cv Ah:=AE;replace hm:AG (A7 Bd) Ah=some res:=hm;unfold AG at hm;have xt:Ext G0 H0 G0 H0:=Ext.refl sg0
 refine ⟨_,(A2 (AR (i:=1) Bz (AM K (pv 0) A6))
   (A2 (B9 (AT Bm (pv 1) AL (AY _)) (A2 (Ag (AM K (pv 0) A6))
   A5) A5)
   (A2 (B9 (AT Bm (B1 K T.len_ (pv 0)) A6 (AY _)) (A2 (Ag (pv 1))
   A5) A5)
   (A2 (B9 (AT Bm (B1 K T.len_ (pv 0)) A6 (AY _)) (A2 (Ag (AI K (AI K (pv 1) AL) (AZ AH hr (by omega) rfl (A3 (AM K (pv 0) A6) A8))))
   A5) A5)
   (A2 (Ag (AI K (AI K (AI K (AI K (AI K (AI K AL (AZ AH hr (by omega) rfl (A3 (AM K (pv 0) A6) A8))) AL) (pv 1)) AL) (AZ AH hr (by omega) rfl (A3 (AM K (pv 0) A6) A8))) AL))
   A5))))),?_⟩
 clear 2 Aw h10;refine Ax (K:=K) (Bn (Bb (AQ (A9 AE)) Af)) h10 xt.gh fun v5 G6 H7 x8 r9=>?_;clear 1 x8 AE;clear 2 b11 h12;refine BG (AU (K:=K) (Dl (A9 r9) B8)) h12 xt.gh fun G13 H14 x15=>?_;clear 1 x15 AE r9
 cases b11 with
 | true =>
  clear 3;exact Aj (K:=K) (Bn (Bb (AQ (A9 AE)) Af)) hm xt.gh fun v20 G21 H22 x23 r24=>q v20 G21 H22 (xt.trans x23) r24
 | false =>
  clear 4;clear 2 b28 h29;refine BG (AU (K:=K) (CJ (Ci (AQ (A9 AE))) Af)) h29 xt.gh fun G30 H31 x32=>?_;clear 1 x32 AE r9
  cases b28 with
  | true =>
   clear 3;exact Aj (K:=K) (A9 r9) hm xt.gh fun v33 G34 H35 x36 r37=>q v33 G34 H35 (xt.trans x36) r37
  | false =>
   clear 4;clear 2 b41 h42;refine BG (AU (K:=K) (CJ (Ci (AQ (A9 AE))) Af)) h42 xt.gh fun G43 H44 x45=>?_;clear 1 x45 AE r9
   cases b41 with
   | true =>
    clear 3;exact Aj (K:=K) (B4 (B4 (A9 r9) B8) (Ad (m:=AJ Bd) (Bb (AQ (A9 AE)) Af))) hm xt.gh fun v54 G55 H56 x57 r58=>q v54 G55 H56 (xt.trans x57) r58
   | false =>
    clear 4;exact Aj (K:=K) (B4 (B4 (B4 (B4 (B4 (B4 B8 (Ad (m:=AJ Bd) (Bb (AQ (A9 AE)) Af))) B8) (A9 r9)) B8) (Ad (m:=AJ Bd) (Bb (AQ (A9 AE)) Af))) B8) hm xt.gh fun v79 G80 H81 x82 r83=>q v79 G80 H81 (xt.trans x82) r83
theorem EA {f:Addr}{fd:FuncData}(F:Fun K "_law_written" "_law_written" C1 f fd):FnOk P w K mg base CX0 1 f fd ["_law_sentence_here"] (spM K (Ae 0)):=by
 refine F.ok CI (fun vs H Q E h=>(CL h).trans rfl) (fun cdv A outer s H0 vs Q E hr h=>?_);obtain ⟨_,_,_,_,_,hm,_⟩:=h;exact nomatch (hm:none=some _)
theorem EQ {f:Addr}{fd:FuncData}(F:Fun K "_law_written" "_law_written" C1 f fd)(T:Txt w K mg)(Bd:Nat)(B3:DefOk P w K mg base "_law_written" (1+Bd) ["_law_sentence_here"] (spM K (Ae Bd))):FnOk P w K mg base CX0 (1+Bd+1) f fd ["_law_sentence_here"] (spM K (Ae (Bd+1))):=by
 refine F.ok CI (fun vs H Q E h=>(CL h).trans rfl) (fun cdv A outer s H0 vs Q E hr h=>?_);obtain ⟨G0,⟨AD,⟨⟩⟩,res,sg0,⟨C0,_,rfl,A4,rfl⟩,hm,q⟩:=h;replace A4:Rp.rel K G0 C0 AD:=A4;replace hm:Be (B2 Bd) AD=some res:=hm;unfold Be at hm;have xt:Ext G0 H0 G0 H0:=Ext.refl sg0
 refine ⟨_,(A2 (AR (i:=1) CI (AM K (pv 0) A6))
   (A2 (B9 (AT Bm (pv 1) AL (AY _)) (A2 (Ag (AM K (pv 0) A6))
   A5) A5)
   (A2 (B9 (AT Bm (B1 K T.len_ (pv 0)) A6 (AY _)) (A2 (Ag (pv 1))
   A5) A5)
   (A2 (B9 (AT Bm (B1 K T.len_ (pv 0)) A6 (AY _)) (A2 (Ag (AI K (AI K (pv 1) AL) (AZ B3 hr (by omega) rfl (A3 (AM K (pv 0) A6) A8))))
   A5) A5)
   (A2 (Ag (AI K (AI K (AI K (AI K (AI K (AI K AL (AZ B3 hr (by omega) rfl (A3 (AM K (pv 0) A6) A8))) AL) (pv 1)) AL) (AZ B3 hr (by omega) rfl (A3 (AM K (pv 0) A6) A8))) AL))
   A5))))),?_⟩
 clear 2 Aw h10;refine Ax (K:=K) (Bn (Bb (AQ (A9 A4)) Af)) h10 xt.gh fun v5 G6 H7 x8 r9=>?_;clear 1 x8 A4;clear 2 b11 h12;refine BG (AU (K:=K) (Dl (A9 r9) B8)) h12 xt.gh fun G13 H14 x15=>?_;clear 1 x15 A4 r9
 cases b11 with
 | true =>
  clear 3;exact Aj (K:=K) (Bn (Bb (AQ (A9 A4)) Af)) hm xt.gh fun v20 G21 H22 x23 r24=>q v20 G21 H22 (xt.trans x23) r24
 | false =>
  clear 4;clear 2 b28 h29;refine BG (AU (K:=K) (CJ (Ci (AQ (A9 A4))) Af)) h29 xt.gh fun G30 H31 x32=>?_;clear 1 x32 A4 r9
  cases b28 with
  | true =>
   clear 3;exact Aj (K:=K) (A9 r9) hm xt.gh fun v33 G34 H35 x36 r37=>q v33 G34 H35 (xt.trans x36) r37
  | false =>
   clear 4;clear 2 b41 h42;refine BG (AU (K:=K) (CJ (Ci (AQ (A9 A4))) Af)) h42 xt.gh fun G43 H44 x45=>?_;clear 1 x45 A4 r9
   cases b41 with
   | true =>
    clear 3;exact Aj (K:=K) (B4 (B4 (A9 r9) B8) (Ad (m:=Ae Bd) (Bb (AQ (A9 A4)) Af))) hm xt.gh fun v54 G55 H56 x57 r58=>q v54 G55 H56 (xt.trans x57) r58
   | false =>
    clear 4;exact Aj (K:=K) (B4 (B4 (B4 (B4 (B4 (B4 B8 (Ad (m:=Ae Bd) (Bb (AQ (A9 A4)) Af))) B8) (A9 r9)) B8) (Ad (m:=Ae Bd) (Bb (AQ (A9 A4)) Af))) B8) hm xt.gh fun v79 G80 H81 x82 r83=>q v79 G80 H81 (xt.trans x82) r83
theorem Cs (F:DIn K mg "refuse_other_kinds" BR)(T:Txt w K mg):C5 P w K mg base:=by
 refine F.okM1 (m:=Ao) Cr fun _ _ _ _ _ H0 _ _ hr G0 thing_ res BF xt AK hm q=>?_;unfold Ao at hm
 refine ⟨_,(A2 (B9 (DL (Bj K (C4 (By (K:=K) rfl) (by rfl) T.isinstance_ BK (A3 (pv 0) (A3 (D8 (v:=.ty "str") rfl T.str_ FS rfl) A8))))) (A2 El
   A5) A5)
   A5),?_⟩
 clear 2 b1 h2;refine BG (CV (EX (K:=K) (FE (b:=true) (by decide +kernel) (A9 AK)))) h2 xt.gh fun G3 H4 x5=>?_;clear 1 x5
 cases b1 with
 | true =>
  clear 3;exact nomatch hm
 | false =>
  clear 4;exact q _ _ _ xt (by cases hm;exact rfl)
theorem FM (F:DIn K mg "taken_off" D3)(T:Txt w K mg):Dx P w K mg base:=by
 refine F.ok F8 bn1 (fun vs H Q E h=>(spYF_len h).trans rfl) (fun _ cdv A outer s H9 vs Q E hr h=>?_);obtain ⟨G0,Ak,Cw,_,pile_,⟨⟩,res,rfl,sg0,o_pile_,rfl,hm,q⟩:=h;have xt:Ext G0 (era H9 [Ak]) G0 H9:=Ext.begin sg0;have B0:era H9 [Ak] Ak=none:=FL (by simp);generalize era H9 [Ak]=H0 at xt q B0;replace hm:Aa pile_=some res:=hm;unfold Aa at hm;clear 2 pr hp;cases hm
 have hb:(some (decide ((pile_.length:Int)=(0:Int))))=some false:=by
  cases pile_ with
  | nil=>cases hp
  | cons a l=>exact congrArg some (decide_eq_false (by rw [qfA];omega))
 refine ⟨_,(A2 (B9 (AT Bm (B1 K T.len_ (pv 0)) A6 (AY _)) (A2 El A5) A5)
   (A2 (Ag (pe_bm0K (K:=K) rfl PySem.F.plainAttrs_list PySem.F.slot_list_pop PySem.F.type_list_pop mt_pop (pv 0)))
   A5)),?_⟩
 refine sv_ifB o_pile_ (AU (K:=K) (CJ (Dn (A9 o_pile_.tell)) Af)) hb xt.gh fun G3 H4 x5=>?_;clear 1 x5 2 o_pile_;refine Bl ?_;exact Hm (K:=K) rfl o_pile_ hp fun w r o=>q w _ _ _ (xt.put B0 o.g) o r
theorem Ep (F:DIn K mg "many_parts" Ce)(T:Txt w K mg):DR P w K mg base:=by
 refine F.okM1 (m:=As) En fun _ _ _ _ _ H0 _ _ hr G0 Aw res FQ xt Ap hm q=>?_;unfold As at hm;obtain ⟨a_PARTS,e_PARTS,q_PARTS⟩:=T.PARTS
 refine ⟨_,(A2 (Ag (pe_dgC rfl rfl q_PARTS (EK rfl e_PARTS) (pv 0)))
   A5),?_⟩
 exact Aj (K:=K) (ev_dgC (A9 Ap)) hm xt.gh fun v3 G4 H5 x6 r7=>q v3 G4 H5 (xt.trans x6) r7
theorem FF (F:DIn K mg "is_moment" Cu)(T:Txt w K mg):E5 P w K mg base:=by
 refine F.okM1 (m:=CS) CC fun _ _ _ _ _ H0 _ _ hr G0 thing_ res BF xt AK hm q=>?_;unfold CS at hm
 refine ⟨_,(A2 (B9 (DL (Bj K (C4 (By (K:=K) rfl) (by rfl) T.isinstance_ BK (A3 (pv 0) (A3 (D8 (v:=.ty "str") rfl T.str_ FS rfl) A8))))) (A2 (Ag E2)
   A5) A5)
   (A2 (AR (i:=1) CC AL)
   (A2 (FK PassesOwn.never rfl (pi_anyK (K:=K) rfl (pv 0)) (D1 (i:=2) CC) (A2 (B9 (PW.pt (Ds (AT F6 (pv 2) AL (AY _)) (Ds (AT Fb (pv 2) AL (AY _)) (EZ (AT op_leU (pv 2) (pv 1) (AY _)))))) (A2 (Ag E2)
   A5) A5)
   (A2 (AR (i:=1) CC (pv 2))
   A5)))
   (A2 (Ag E2)
   A5)))),?_⟩
 clear 2 b1 h2;refine BG (CV (EX (K:=K) (FE (b:=true) (by decide +kernel) (A9 AK)))) h2 xt.gh fun G3 H4 x5=>?_;clear 1 x5 AK
 cases b1 with
 | true =>
  clear 3;exact Aj (K:=K) (rest:=Cm) (σ:=[some BF,none,none]) GK hm xt.gh fun v6 G7 H8 x9 r10=>q v6 G7 H8 (xt.trans x9) r10
 | false =>
  clear 4;clear 2 GI h16;refine Ax (K:=K) B8 h16 xt.gh fun v11 G12 H13 x14 r15=>?_;clear 1 x14 AK;clear 2 as17 h18 fl19 h20;refine Ea (K:=K) (RR:=fun r v G' H'=>Ext G0 H0 G' H'/\Rp.rel K G' v r) (iw_str (A9 AK)) h18 h20 xt.gh fun G21 H22 x23=>⟨fun s24 S' G' H'=>∃ (v25:V) (v26:Option V),Ext G0 H0 G' H'/\Same G21 G'/\S'=[some BF,some v25,v26]/\Rp.rel K G' v25 (s24:Str),?_,?_,?_,?_,?_⟩
  ·clear 1 x23 r15;exact ⟨v11,_,xt,(Same.refl _),rfl,r15⟩
  ·rintro _ S' G' H' ⟨v25,v26,xt,mk27,rfl,r28⟩;exact ⟨mk27,xt.gh⟩
  ·rintro xv29 a30 s24 _ G33 H34 fl31 - ⟨v25,v26,xt,mk27,rfl,r28⟩ rx32 hm D' kN35 kC36 kB37 kR38;refine Da ?_;clear 2 b39 h40;refine BG (HC (AU (K:=K) (FO (A9 rx32) B8)) (HC (AU (K:=K) (FO (A9 rx32) B8)) (AU (K:=K) (FO (A9 rx32) (A9 r28))))) h40 xt.gh fun G41 H42 x43=>?_;clear 1 x43 rx32 3 mk27
   cases b39 with
   | true =>
    clear 3;clear 2 rr49 h50;cases hm;exact Aj (K:=K) (rest:=Cm) (σ:=[some BF,some v25,some xv29]) GK h50 xt.gh fun v44 G45 H46 x47 r48=>kR38 _ v44 G45 H46 rfl ⟨xt.trans x47,r48⟩
   | false =>
    clear 4;clear 2 GI h56;refine Ax (K:=K) (A9 rx32) h56 xt.gh fun v51 G52 H53 x54 r55=>?_;clear 1 x54 3 mk27;cases hm;exact kN35 _ _ _ _ rfl ⟨v51,_,xt,mk27,rfl,r55⟩
  ·rintro s24 _ G61 H62 rfl ⟨v57,v58,xt,mk59,rfl,r60⟩;refine Er ?_;exact Aj (K:=K) (rest:=Cm) (σ:=[some BF,some v57,v58]) GK hm xt.gh fun v63 G64 H65 x66 r67=>q v63 G64 H65 (xt.trans x66) r67
  ·clear 5
theorem GU (F:DIn K mg "is_lamp" Dh)(T:Txt w K mg)(D0:E5 P w K mg base):Di P w K mg base:=by
 refine F.okM1 (m:=BJ) HB fun _ _ _ _ _ H0 _ _ hr G0 thing_ res BF xt AK hm q=>?_;unfold BJ at hm
 refine ⟨_,(A2 (Ag (Ff (AZ D0 hr (by decide) rfl (A3 (pv 0) A8)) (FA (DV Bm (B1 K T.len_ (pv 0)) A6 (AY _)))))
   A5),?_⟩
 exact Aj (K:=K) (FP (Ad (m:=DX) (A9 AK)) (CJ (ev_lenS (A9 AK)) Af)) hm xt.gh fun v3 G4 H5 x6 r7=>q v3 G4 H5 (xt.trans x6) r7
theorem Fw (F:DIn K mg "lay_word" DF)(T:Txt w K mg)(BP:Dx P w K mg base)(CD:DR P w K mg base)(CF:Di P w K mg base):EO P w K mg base:=by
 refine F.ok CQ bn2 (fun vs H Q E h=>(Fh h).trans rfl) (fun _ cdv A outer s H9 vs Q E hr h=>?_);obtain ⟨G0,Ak,Cw,_,pile_,⟨Aw,⟨⟩⟩,res,rfl,sg0,o_pile_,⟨FQ,_,rfl,Ap,rfl⟩,hm,q⟩:=h;have xt:Ext G0 (era H9 [Ak]) G0 H9:=Ext.begin sg0;have B0:era H9 [Ak] Ak=none:=FL (by simp);generalize era H9 [Ak]=H0 at xt q B0;replace Ap:Rp.rel K G0 FQ Aw:=Ap;replace hm:AS pile_ Aw=some res:=hm;unfold AS at hm
 refine ⟨_,(A2 (B9 (AT Bm (pv 1) AL (AY _)) (A2 (AR (i:=2) CQ (AZ BP hr (by decide) rfl (A3 (pv 0) A8)))
   (A2 (AR (i:=3) CQ (AZ BP hr (by decide) rfl (A3 (pv 0) A8)))
   (A2 (AR (i:=4) CQ (AZ BP hr (by decide) rfl (A3 (pv 0) A8)))
   (A2 (Ba (AZ BP hr (by decide) rfl (A3 (pv 0) A8)))
   (A2 (Ba (Bh K (pv 0) (BD (A3 (pv 3) (A3 (pv 2) (A3 (pv 4) A8))))))
   A5))))) (A2 (B9 (AT Bm (AZ CD hr (by decide) rfl (A3 (pv 1) A8)) A6 (AY _)) (A2 (Ba (Bh K (pv 0) (BD (A3 (pv 1) (A3 (AZ BP hr (by decide) rfl (A3 (pv 0) A8)) A8)))))
   A5) (A2 (B9 (AT Bm (AZ CD hr (by decide) rfl (A3 (pv 1) A8)) A6 (AY _)) (A2 (Ba (Bh K (pv 0) (BD (A3 (pv 1) A8))))
   A5) (A2 (B9 (Bj K (AZ CF hr (by decide) rfl (A3 (pv 1) A8))) (A2 (Ba (Bh K (pv 0) (BD (A3 AL (A3 (pv 1) A8)))))
   A5) (A2 (Ba (Bh K (pv 0) (pv 1)))
   A5))
   A5))
   A5))
   A5))
   A5),?_⟩
 clear 2 b1 h2 s6 h7
 try (with_reducible refine nxt_ ?_;dsimp only)
 refine DW (t:=F9 _ _ _) (fun S107 H106=>∃ (G105:Hp) (v9:Option V) (v11:Option V) (v13:Option V),Ext G0 H0 G105 H106/\Same G0 G105/\S107=[some (V.ref Ak),some FQ,v9,v11,v13]/\(∃ vs,Own K G105 H106 (V.ref Ak) Ak vs s6)) (fun nx kn17=>?_) ?_
 ·refine BG (AU (K:=K) (Dl (A9 Ap) B8)) h2 xt.gh fun G3 H4 x5=>?_;clear 1 x5 Ap 2 o_pile_;have mk8:Same G0 G3:=x5.gg;have hm:=h7
  cases b1 with
  | true =>
   clear 3;clear 2 pr18 h18;refine ES (K:=K) (m:=BX) rfl o_pile_ DK rfl h18 xt.gh fun w18 G18 H18 G18_ H18_ vs18 x18 y18 o_pile_ r18=>?_;have xt:=(xt.trans x18).past (C:=[Ak]) (fun b hb=>by rw [qjA.mp hb];exact B0) y18;have mk8:=mk8.trans (x18.gg.trans y18.gg);clear 2 pr23 h23;refine ES (K:=K) (m:=BX) rfl o_pile_ DK rfl h23 xt.gh fun w23 G23 H23 G23_ H23_ vs23 x23 y23 o_pile_ r23=>?_;have xt:=(xt.trans x23).past (C:=[Ak]) (fun b hb=>by rw [qjA.mp hb];exact B0) y23;have mk8:=mk8.trans (x23.gg.trans y23.gg);have r18:=Rp.mono (x23.gg.trans y23.gg) r18;clear 2 pr28 h28;refine ES (K:=K) (m:=BX) rfl o_pile_ DK rfl h28 xt.gh fun w28 G28 H28 G28_ H28_ vs28 x28 y28 o_pile_ r28=>?_;have xt:=(xt.trans x28).past (C:=[Ak]) (fun b hb=>by rw [qjA.mp hb];exact B0) y28;have mk8:=mk8.trans (x28.gg.trans y28.gg);have r18:=Rp.mono (x28.gg.trans y28.gg) r18;have r23:=Rp.mono (x28.gg.trans y28.gg) r23;clear 2 pr33 h33;refine I0 (K:=K) (m:=BX) rfl o_pile_ DK rfl h33 xt.gh fun G33 H33 G33_ H33_ vs33 x33 y33 o_pile_=>?_;have xt:=(xt.trans x33).past (C:=[Ak]) (fun b hb=>by rw [qjA.mp hb];exact B0) y33;have mk8:=mk8.trans (x33.gg.trans y33.gg);have r18:=Rp.mono (x33.gg.trans y33.gg) r18;have r23:=Rp.mono (x33.gg.trans y33.gg) r23;have r28:=Rp.mono (x33.gg.trans y33.gg) r28;clear 2 a38 h39 z46 h40;refine CG (K:=K) rfl o_pile_ (B6 (AF (A9 r23) (AF (A9 r18) (AF (A9 r28) (BL (α:=Nt)))))) h39 h40 xt.gh fun G41 H42 w43 x44 o45=>?_;have xt:Ext G0 H0 G41 (upd H42 Ak (.lst (vs33++[w43]))):=(xt.trans x44).put B0 o45.g;clear 0 x44 3 mk8;cases hm;exact kn17 _ _ ⟨G41,_,_,_,xt,mk8,rfl,⟨_,o45⟩⟩
  | false =>
   clear 4;clear 2 b49 h50;refine BG (AU (K:=K) (HJ (Ad (m:=CY) (A9 Ap)) (HQ Af))) h50 xt.gh fun G51 H52 x53=>?_;clear 1 x53 Ap 2 o_pile_ 3 mk8
   cases b49 with
   | true =>
    clear 3;clear 2 pr54 h55 z58 h59;refine sv_appT (K:=K) (m:=BX) (r:=pr54) rfl o_pile_ (B5 (A9 Ap)) rfl h55 h59 xt.gh fun G1 H1 G60 H61 vs61 w62 x62 y63 o64=>?_;have xt:Ext G0 H0 G60 (upd H61 Ak (.lst (vs61++[w62]))):=((xt.trans x62).past (C:=[Ak]) (fun b hb=>by rw [qjA.mp hb];exact B0) y63).put B0 o64.g;have mk8:=mk8.trans (x62.gg.trans y63.gg);cases hm;exact kn17 _ _ ⟨G60,_,_,_,xt,mk8,rfl,⟨_,o64⟩⟩
   | false =>
    clear 4;clear 2 b67 h68;refine BG (AU (K:=K) (HJ (Ad (m:=CY) (A9 Ap)) (HQ Af))) h68 xt.gh fun G69 H70 x71=>?_;clear 1 x71 Ap 2 o_pile_ 3 mk8
    cases b67 with
    | true =>
     clear 3;clear 2 a38 h39 z46 h40;refine CG (K:=K) rfl o_pile_ (B6 (AF (B5 (A9 Ap)) (BL (α:=Nt)))) h39 h40 xt.gh fun G41 H42 w43 x44 o45=>?_;have xt:Ext G0 H0 G41 (upd H42 Ak (.lst (Cw++[w43]))):=(xt.trans x44).put B0 o45.g;clear 0 x44 3 mk8;cases hm;exact kn17 _ _ ⟨G41,_,_,_,xt,mk8,rfl,⟨_,o45⟩⟩
    | false =>
     clear 4;clear 2 b82 h83;refine BG (EX (K:=K) (Ad (m:=DN) (A9 Ap))) h83 xt.gh fun G84 H85 x86=>?_;clear 1 x86 Ap 2 o_pile_ 3 mk8
     cases b82 with
     | true =>
      clear 3;clear 2 a38 h39 z46 h40;refine CG (K:=K) rfl o_pile_ (B6 (AF (B5 B8) (AF (B5 (A9 Ap)) (BL (α:=Nt))))) h39 h40 xt.gh fun G41 H42 w43 x44 o45=>?_;have xt:Ext G0 H0 G41 (upd H42 Ak (.lst (Cw++[w43]))):=(xt.trans x44).put B0 o45.g;clear 0 x44 3 mk8;cases hm;exact kn17 _ _ ⟨G41,_,_,_,xt,mk8,rfl,⟨_,o45⟩⟩
     | false =>
      clear 4;clear 2 a38 h39 z46 h40;refine CG (K:=K) rfl o_pile_ (B5 (A9 Ap)) h39 h40 xt.gh fun G41 H42 w43 x44 o45=>?_;have xt:Ext G0 H0 G41 (upd H42 Ak (.lst (Cw++[w43]))):=(xt.trans x44).put B0 o45.g;clear 0 x44 3 mk8;cases hm;exact kn17 _ _ ⟨G41,_,_,_,xt,mk8,rfl,⟨_,o45⟩⟩
 ·rintro _ H106 ⟨G105,v9,v11,v13,xt,mk8,rfl,⟨Cw,o_pile_⟩⟩;cases hm;exact q _ _ _ xt o_pile_
theorem Fp (F:DIn K mg "parts_of" DH)(T:Txt w K mg):EN P w K mg base:=by
 refine F.okM1 (m:=BC) GL fun _ _ _ _ _ H0 _ _ hr G0 Ah res Cv xt AE hm q=>?_;unfold BC at hm
 refine ⟨_,(A2 (B9 (AT Bm (AM K (pv 0) A6) AL (AY _)) (A2 (Ag (BD A8))
   A5) A5)
   (A2 (Ag (pe_slice (sl_tupK (K:=K) rfl) (pv 0) (po_some A6) po_none))
   A5)),?_⟩
 clear 2 b9 h10;refine BG (AU (K:=K) (Dl (Bn (Bb (AQ (A9 AE)) Af)) B8)) h10 xt.gh fun G11 H12 x13=>?_;clear 1 x13 AE
 cases b9 with
 | true =>
  clear 3;exact Aj (K:=K) (rest:=Cm) (σ:=[some Cv]) (ev_tupL (BL (α:=Nt))) hm xt.gh fun v14 G15 H16 x17 r18=>q v14 G15 H16 (xt.trans x17) r18
 | false =>
  clear 4;exact Aj (K:=K) (I8 (AQ (A9 AE)) (ov_some (K:=K) Af) ov_none) hm xt.gh fun v23 G24 H25 x26 r27=>q v23 G24 H25 (xt.trans x26) r27
theorem Fv (F:DIn K mg "has_form" DM)(T:Txt w K mg)(CF:Di P w K mg base):Eg P w K mg base:=by
 refine F.okM1 (m:=Bt) GC fun _ _ _ _ _ H0 _ _ hr G0 thing_ res BF xt AK hm q=>?_;unfold Bt at hm;obtain ⟨a_PARTS,e_PARTS,q_PARTS⟩:=T.PARTS
 refine ⟨_,(A2 (B9 (PW.pt (Ds (DL (Bj K (C4 (By (K:=K) rfl) (by rfl) T.isinstance_ BK (A3 (pv 0) (A3 (D8 (v:=.ty "tuple") rfl T.tuple_ GS rfl) A8))))) (Ds (AT Bm (B1 K T.len_ (pv 0)) A6 (AY _)) (EZ (DL (Bj K (C4 (By (K:=K) rfl) (by rfl) T.isinstance_ BK (A3 (AM K (pv 0) A6) (A3 (D8 (v:=.ty "str") rfl T.str_ FS rfl) A8))))))))) (A2 (Ag E2)
   A5) A5)
   (A2 (B9 (AT Bm (AM K (pv 0) A6) AL (AY _)) (A2 (Ag (Ff (DV Bm (B1 K T.len_ (pv 0)) A6 (AY _)) (FA (AZ CF hr (by decide) rfl (A3 (AM K (pv 0) A6) A8)))))
   A5) A5)
   (A2 (Ag (Ff (pe_inC rfl rfl q_PARTS (AM K (pv 0) A6) (EK rfl e_PARTS) rfl) (FA (DV Bm (B1 K T.len_ (pv 0)) (AI K A6 (pe_getC rfl rfl q_PARTS (EK rfl e_PARTS) (AM K (pv 0) A6) (fun _ _=>rfl))) (AY _)))))
   A5))),?_⟩
 clear 2 b15 h16;refine BG (Dz (CV (EX (K:=K) (ER (by decide) (Gy (A9 AK))))) (Dz (AU (K:=K) (CJ (Ci (AQ (A9 AK))) Af)) (CV (EX (K:=K) (ER (by decide) (Gy (Bb (AQ (A9 AK)) Af))))))) h16 xt.gh fun G17 H18 x19=>?_;clear 1 x19 AK
 cases b15 with
 | true =>
  clear 3;exact Aj (K:=K) (rest:=Cm) (σ:=[some BF]) GK hm xt.gh fun v20 G21 H22 x23 r24=>q v20 G21 H22 (xt.trans x23) r24
 | false =>
  clear 4;clear 2 b33 h34;refine BG (AU (K:=K) (Dl (Bn (Bb (AQ (A9 AK)) Af)) B8)) h34 xt.gh fun G35 H36 x37=>?_;clear 1 x37 AK
  cases b33 with
  | true =>
   clear 3;exact Aj (K:=K) (FP (CJ (Ci (AQ (A9 AK))) Af) (Ad (m:=DN) (Bn (Bb (AQ (A9 AK)) Af)))) hm xt.gh fun v47 G48 H49 x50 r51=>q v47 G48 H49 (xt.trans x50) r51
  | false =>
   clear 4;exact Aj (K:=K) (FP (ev_inC (Bn (Bb (AQ (A9 AK)) Af))) (CJ (Ci (AQ (A9 AK))) (Bx Af (ev_getC (Bn (Bb (AQ (A9 AK)) Af)))))) hm xt.gh fun v74 G75 H76 x77 r78=>q v74 G75 H76 (xt.trans x77) r78
theorem EM (F:DIn K mg "is_sentence" CZ)(T:Txt w K mg)(DJ:EN P w K mg base)(DI:Eg P w K mg base):DD P w K mg base:=by
 refine F.okM1 (m:=BH) Br fun _ _ _ _ _ H0 _ _ hr G0 thing_ res BF xt AK hm q=>?_;unfold BH at hm
 refine ⟨_,(A2 (AR (i:=1) Br (Fa (A3 (pv 0) A8)))
   (A2 (AR (i:=2) Br A6)
   (A2 (ps_while PassesOwn.never (AT F6 (pv 2) (B1 K T.len_ (pv 1)) (AY _)) (A2 (B9 (PW.pt (Ds (AT Fb (B1 K T.len_ (pv 1)) (pe_globI rfl T.MOST_WORDS) (AY _)) (EZ (DL (Bj K (AZ DI hr (by decide) rfl (A3 (AM K (pv 1) (pv 2)) A8))))))) (A2 (Ag E2)
   A5) A5)
   (A2 (Ba (pe_bmK (K:=K) rfl PySem.F.plainAttrs_list PySem.F.slot_list_extend PySem.F.type_list_extend (Gj (K:=K) rfl) (pv 1) (A3 (AZ DJ hr (by decide) rfl (A3 (AM K (pv 1) (pv 2)) A8)) A8)))
   (A2 (AR (i:=2) Br (AI K (pv 2) A6))
   A5))))
   (A2 (Ag E2)
   A5)))),?_⟩
 clear 2 Em h8;refine Gm (K:=K) (F4 (AF (A9 AK) (BL (α:=Nt)))) h8 xt.gh fun p1 vs2 G3 H4 x5 hz6 o7=>?_;clear 1 x5 4 hz6;clear 2 Eb h14;refine Ax (K:=K) Af h14 xt.gh fun v9 G10 H11 x12 r13=>?_;clear 1 x12 2 o7;clear 2 fl15 h16;refine sv_while (K:=K) (G:=G10) (RR:=fun r v G' H'=>Ext G0 H0 G' H'/\Rp.rel K G' v r) h16 (fun s17 S' G' H'=>∃ (v18:V),Ext G0 H0 G' H'/\Same G10 G'/\S'=[some BF,some (V.ref p1),some v18]/\(∃ vs,Own K G' H' (V.ref p1) p1 vs s17.1)/\Rp.rel K G' v18 (s17.2:Int)) ⟨?_,?_,?_,?_,?_,?_⟩
 ·exact ⟨v9,xt,(Same.refl _),rfl,⟨_,o7⟩,r13⟩
 ·rintro _ S' G' H' ⟨v18,xt,mk19,rfl,⟨vs2,o7⟩,r20⟩;exact xt.gh
 ·rintro s17 _ G21 H22 b' ⟨v18,xt,mk19,rfl,⟨vs2,o7⟩,r20⟩ hc Q' k';refine TV.runB o7 (AU (K:=K) (Dj (A9 (Rp.mono (Same.new o7.g) r20)) (Dn (A9 o7.tell)))) hc xt.gh fun G23 H24 x25=>?_;clear 1 x25 r20 2 o7 3 mk19;exact k' _ _ ⟨v18,xt,mk19,rfl,⟨_,o7⟩,r20⟩
 ·rintro s17 _ G27 H28 fl26 ⟨v18,xt,mk19,rfl,⟨vs2,o7⟩,r20⟩ hm - D' kN29 kC30 kB31 kR32;clear 2 b43 h44;refine sv_ifB o7 (Dz (AU (K:=K) (Dj (Dn (A9 o7.tell)) Af)) (CV (EX (K:=K) (Ad (m:=E6) (Cy (A9 o7.tell) (A9 (Rp.mono (Same.new o7.g) r20))))))) h44 xt.gh fun G45 H46 x47=>?_;clear 1 x47 r20 2 o7 3 mk19
  cases b43 with
  | true =>
   clear 3;clear 2 rr53 h54;cases hm;exact Aj (K:=K) (rest:=Cm) (σ:=[some BF,some (V.ref p1),some v18]) GK h54 xt.gh fun v48 G49 H50 x51 r52=>kR32 _ v48 G49 H50 rfl ⟨xt.trans x51,r52⟩
  | false =>
   clear 4;clear 2 a61 h62 z69 h63;refine Fz (K:=K) rfl o7 (Ad (m:=E7) (Cy (A9 o7.tell) (A9 (Rp.mono (Same.new o7.g) r20)))) h62 h63 xt.gh fun G64 H65 w66 x67 o68=>?_;have xt:Ext G0 H0 G64 (upd H65 p1 (.lst (vs2++w66))):=(xt.trans x67).put hz6 o68.g;clear 0 x67 r20 3 mk19;clear 2 Eb h75;refine Ax (K:=K) (Bx (A9 r20) Af) h75 xt.gh fun v70 G71 H72 x73 r74=>?_;clear 1 x73 2 o68 3 mk19;cases hm;exact kN29 _ _ _ _ rfl ⟨v70,xt,mk19,rfl,⟨_,o68⟩,r74⟩
 ·rintro s17 _ G79 H80 rfl ⟨v76,xt,mk77,rfl,⟨vs2,o7⟩,r78⟩;refine Er ?_;exact Aj (K:=K) (rest:=Cm) (σ:=[some BF,some (V.ref p1),some v76]) GK hm xt.gh fun v81 G82 H83 x84 r85=>q v81 G82 H83 (xt.trans x84) r85
 ·clear 5
theorem De (F:DIn K mg "read_sentence" C7)(T:Txt w K mg)(BU:C5 P w K mg base)(DQ:EO P w K mg base)(Ca:DD P w K mg base)(AH:Bg P w K mg base):Cn P w K mg base:=by
 refine F.okMP1 (m:=Ay) Bu fun _ _ _ _ _ H0 _ _ hr G0 text_ res v_text_ xt BZ hm q=>?_;unfold Ay at hm
 refine ⟨_,(BV (PS.p (Ba (AZ BU hr (by decide) rfl (A3 (pv 0) A8))))
   (BV (PS.p (AR (i:=1) Bu (Fa A8)))
   (BV (psP_for PassesOwn.never rfl (piP_rev (K:=K) rfl (by rfl) T.reversed_ (peP_bmK (K:=K) rfl PySem.F.plainAttrs_str PySem.F.slot_str_split PySem.F.type_str_split mt_split (E4 (E4 (PE.p (pv 0)))) (A3 AL A8))) (D1 (i:=2) Bu) (A2 (Ba (AZ DQ hr (by decide) rfl (A3 (pv 1) (A3 (pv 2) A8))))
   A5))
   (PSs.p (A2 (B9 (PW.pt (Ds (AT op_ne (B1 K T.len_ (pv 1)) A6 (AY _)) (Ds (DL (Bj K (AZ Ca hr (by decide) rfl (A3 (AM K (pv 1) A6) A8)))) (EZ (AT op_ne (AZ AH hr (by decide) rfl (A3 (AM K (pv 1) A6) A8)) (pv 0) (AY _)))))) (A2 El
   A5) A5)
   (A2 (Ag (AM K (pv 1) A6))
   A5)))))),?_⟩
 clear 2 a2 h3;refine sv_drop (K:=K) (Ad (m:=Bs) (A9 BZ)) h3 xt.gh fun G4 H5 x6=>?_;clear 1 x6 BZ;clear 2 pile_ h14;refine Gm (K:=K) (F4 (BL (α:=Nt))) h14 xt.gh fun p7 vs8 G9 H10 x11 hz12 o13=>?_;clear 1 x11 BZ 4 hz12;clear 2 as18 h19 fl20 h21;refine Ea (K:=K) (RR:=fun r v G' H'=>Ext G0 H0 G' H'/\Rp.rel K G' v r) (iw_rev (FV.ev (fv_split (Hd (Hd (A9 BZ))) B8))) h19 h21 xt.gh fun G22 H23 x24=>⟨fun s25 S' G' H'=>∃ (v26:Option V),Ext G0 H0 G' H'/\Same G22 G'/\S'=[some v_text_,some (V.ref p7),v26]/\(∃ vs,Own K G' H' (V.ref p7) p7 vs s25),?_,?_,?_,?_,?_⟩
 ·clear 1 x24 2 o13;exact ⟨_,xt,(Same.refl _),rfl,⟨_,o13⟩⟩
 ·rintro _ S' G' H' ⟨v26,xt,mk27,rfl,⟨vs8,o13⟩⟩;exact ⟨mk27,xt.gh⟩
 ·rintro xv28 a29 s25 _ G32 H33 fl30 - ⟨v26,xt,mk27,rfl,⟨vs8,o13⟩⟩ rx31 hm D' kN34 kC35 kB36 kR37;have BZ:=Rp.mono (x24.gg.trans mk27) BZ;refine Da ?_;clear 2 ca40 h41 rz42 h43;refine Dq (K:=K) (m:=E8) rfl o13 (Fe (A9 rx31) DK) h41 h43 xt.gh fun G44 H45 G46 H47 vs50 x48 y49 o51=>?_;have xt:=(xt.trans x48).past (C:=[p7]) (fun b hb=>by simp only [qiA,qiB,or_false] at hb;(first | (rcases hb with e|e<;>(rw [e];assumption)) | (rw [hb];assumption))) y49;have mk27:=mk27.trans (x48.gg.trans y49.gg);cases hm;exact kN34 _ _ _ _ rfl ⟨_,xt,mk27,rfl,⟨_,o51⟩⟩
 ·rintro s25 _ G54 H55 rfl ⟨v52,xt,mk53,rfl,⟨vs8,o13⟩⟩;refine Er ?_;have BZ:=Rp.mono (x24.gg.trans mk53) BZ;have sf:=Same.new (o:=.lst vs8) o13.g;have xt:=xt.frz hz12 o13.g o13.h;have r66:=o13.tell;clear 9 sf BZ;clear 2 b77 h78;refine BG (Dz (AU (K:=K) (ev_neI (Dn (A9 r66)) Af)) (Dz (CV (EX (K:=K) (Ad (m:=Cz) (Cy (A9 r66) Af)))) (AU (K:=K) (ev_neS (Ad (m:=AJ 26) (Cy (A9 r66) Af)) (A9 BZ))))) h78 xt.gh fun G79 H80 x81=>?_;clear 1 x81 r66
  cases b77 with
  | true =>
   clear 3;exact nomatch hm
  | false =>
   clear 4;exact Aj (K:=K) (Cy (A9 r66) Af) hm xt.gh fun v84 G85 H86 x87 r88=>q v84 G85 H86 (xt.trans x87) r88
 ·clear 5
theorem Do (F:DIn K mg "_law_both_ways" CB)(T:Txt w K mg)(B3:DC P w K mg base)(AH:Bg P w K mg base)(C9:Cn P w K mg base):Co P w K mg base:=by
 refine F.okMP1 (m:=Ai) BY fun _ _ _ _ _ H0 _ _ hr G0 AD res C0 xt A4 hm q=>?_;unfold Ai at hm
 refine ⟨_,(BV (PS.p (AR (i:=1) BY (AZ B3 hr (by decide) rfl (A3 (pv 0) A8))))
   (BV (PS.p (AR (i:=2) BY (AZ AH hr (by decide) rfl (A3 (pv 0) A8))))
   (BV (PS.p (B9 (PW.pt (Ds (DL (Bj K (C4 (By (K:=K) rfl) (by rfl) T.isinstance_ BK (A3 (pv 2) (A3 (D8 (v:=.ty "str") rfl T.str_ FS rfl) A8))))) (EZ (AT op_ne (pv 2) (pv 1) (AY _))))) (A2 (Ag E2)
   A5) A5))
   (BV (psP_set (i:=3) (nd_of BY) rfl (Or.inl rfl) (ED C9 hr (by decide) rfl (A3 (pv 1) A8)))
   (PSs.p (A2 (Ag (Ff (C4 (By (K:=K) rfl) (by rfl) T.isinstance_ BK (A3 (pv 3) (A3 (D8 (v:=.ty "tuple") rfl T.tuple_ GS rfl) A8))) (FA (DV (op_eqN (K:=K) rfl hr) (pv 3) (pv 0) (AY _)))))
   A5)))))),?_⟩
 clear 2 due_ h7;refine Ax (K:=K) (Ad (m:=Ae 26) (A9 A4)) h7 xt.gh fun v2 G3 H4 x5 r6=>?_;clear 1 x5 A4;clear 2 Em h14;refine Ax (K:=K) (Ad (m:=AJ 26) (A9 A4)) h14 xt.gh fun v9 G10 H11 x12 r13=>?_;clear 1 x12 A4 r6;clear 2 b15 h16;refine BG (HC (CV (EX (K:=K) (FE (b:=true) (by decide +kernel) (A9 r13)))) (AU (K:=K) (ev_neS (A9 r13) (A9 r6)))) h16 xt.gh fun G17 H18 x19=>?_;clear 1 x19 A4 r6
 cases b15 with
 | true =>
  clear 3;exact Aj (K:=K) (rest:=Cm) (σ:=[some C0,some v2,some v9,none]) GK hm xt.gh fun v20 G21 H22 x23 r24=>q v20 G21 H22 (xt.trans x23) r24
 | false =>
  clear 4;clear 2 told_ h31;refine Ax (K:=K) (Ad (m:=Cc) (A9 r6)) h31 xt.gh fun v26 G27 H28 x29 r30=>?_;clear 1 x29 A4;exact Aj (K:=K) (FP (ER (by decide) (Gy (A9 r30))) (ev_eqN (A9 r30) (A9 A4))) hm xt.gh fun v35 G36 H37 x38 r39=>q v35 G36 H37 (xt.trans x38) r39
theorem ok_law {f:Addr}{fd:FuncData}(F:Fun K "law" "law" s_law f fd)(T:Txt w K mg)(Bo:D5 P w K mg base)(AH:Bg P w K mg base)(BE:Co P w K mg base):FnOk P w K mg base CX0 30 f fd ["_law_script"] (spM K mm_law):=by
 refine F.ok Gh (fun vs H Q E h=>(CL h).trans rfl) (fun cdv A outer s H0 vs Q E hr h=>?_);obtain ⟨G0,⟨script_,⟨⟩⟩,res,sg0,⟨BI,_,rfl,AA,rfl⟩,hm,q⟩:=h;replace AA:Rp.rel K G0 BI script_:=AA;replace hm:G5 script_=some res:=hm;unfold G5 at hm;have xt:Ext G0 H0 G0 H0:=Ext.refl sg0
 refine ⟨_,(Ht (psQ_set (i:=1) (nd_of Gh) rfl (Or.inl rfl) (peQ_def Bo hr (by decide) rfl (pv 0)))
   (BV (PS.p (AR (i:=2) Gh (AZ Bo hr (by decide) rfl (A3 (pv 0) (A3 A6 A8)))))
   (BV (psP_if (PWp.pt (pwP_or (F5 (DP K (ED BE hr (by decide) rfl (A3 (pv 1) A8)))) (pwP_or (F5 (DP K (ED BE hr (by decide) rfl (A3 (pv 2) A8)))) (pwP_or1 (F5 (DP K (ED BE hr (by decide) rfl (A3 (pv 1) A8)))))))) (A2 (Ag E2)
   A5) A5)
   (PSs.p (A2 (Ag (DV Bm (AZ AH hr (by decide) rfl (A3 (BD (A3 AL (A3 (BD (A3 AL (A3 (BD (A3 AL A8)) A8))) (A3 (BD (A3 AL A8)) A8)))) A8)) AL (AY _)))
   A5))))),?_⟩
 clear 2 one_ h8;refine Ax (K:=K) (DA (m:=CA) (A9 AA) Af) h8 xt.gh fun v3 G4 H5 x6 r7=>?_;clear 1 x6 AA;clear 2 other_ h16;refine Ax (K:=K) (DA (m:=CA) (A9 AA) Af) h16 xt.gh fun v11 G12 H13 x14 r15=>?_;clear 1 x14 r7;clear 2 b25 h26;refine BG (Dz (CV (EX (K:=K) (Ad (m:=BW) (A9 r7)))) (Dz (CV (EX (K:=K) (Ad (m:=BW) (A9 r15)))) (CV (EX (K:=K) (Ad (m:=BW) (A9 r7)))))) h26 xt.gh fun G27 H28 x29=>?_;clear 1 x29
 cases b25 with
 | true =>
  clear 3;exact Aj (K:=K) (rest:=Cm) (σ:=[some BI,some v3,some v11]) GK hm xt.gh fun v30 G31 H32 x33 r34=>q v30 G31 H32 (xt.trans x33) r34
 | false =>
  clear 4;exact Aj (K:=K) (rest:=Cm) (σ:=[some BI,some v3,some v11]) (Dl (Ad (m:=AJ 26) (B6 (AF (B5 B8) (AF (B6 (AF (B5 B8) (AF (B6 (AF (B5 B8) (BL (α:=Nt)))) (BL (α:=Nt))))) (AF (B6 (AF (B5 B8) (BL (α:=Nt)))) (BL (α:=Nt))))))) B8) hm xt.gh fun v37 G38 H39 x40 r41=>q v37 G38 H39 (xt.trans x40) r41
end
def Gi:List Nat:=List.range' 97 26
def one (c:Nat):Str:=⟨#[c]⟩
theorem one_len (c:Nat):(one c).length=1:=rfl
theorem abc_cps:("abcdefghijklmnopqrstuvwxyz" : Str).cps.toList=Gi:=by decide +kernel
theorem GX {n i:Nat}{a:Int}(h:((List.range n).map fun (i:Nat)=>(0:Int)+(i:Int))[i]? = some a):i<n/\a=(i:Int):=by
 have hi:i<n:=by simpa using (qoA.mp h).1
 refine ⟨hi,?_⟩;simp [hi] at h;omega
theorem FJ (n:Nat):((List.range n).map fun (i:Nat)=>(0:Int)+(i:Int)).length=n:=by rw [qdA,List.length_range]
theorem EG (s:Scr)(k:Int)(h0:0<=k)(h1:k<=100){P:Int->Prop}(hp:∀ n,P n):OK (BB s k) P:=by
 unfold BB;simp only [qyA,AO,AW];refine CN (fun h=>HM h0 (of_decide_eq_true h) fun x _=>hp x) fun _=>?_;refine Dy (P:=fun z:Int=>-(2 ^ 64)<z/\z<2 ^ 64) (CN (fun h=>?_) fun _=>AN (by omega)) fun z hz=>Ab (ok_mul (.inl hz) (AN (hp _)));have h:=of_decide_eq_true h;refine Ab (HA h (Ab (HM (qaB _ (by omega)) (qbB _ h) fun x _=>AN ?_)));have a0:=qaB (x * 48271+k * 7919) (b:=2147483647) (by decide);have a1:=qbB (x * 48271+k * 7919) (b:=2147483647) (by decide);omega
open Builtin Builtin.Str in
theorem EL (x y:Str)(c0:Nat)(r:List Nat)(hy:y.cps.toList=c0::r):∀ (ps:List Str) (a:Nat) (cuts:List Nat) (f:Nat),ps ≠ []->(∀ p∈ps,c0 ∉ p.cps.toList)->x.cps.toList.drop a=(Str.join y ps).cps.toList ->
  StrLaws.ChainG x y x.length a cuts f->(∀ k,f<=k->¬ StrLaws.At x y x.length k)->StrLaws.partsFrom x y.length a cuts=ps
 | [],_,_,_,h,_,_,_,_=>absurd rfl h
 | [p],a,cuts,f,_,hf,hd,hG,hn=>by
  have hL:x.cps.toList.length=x.length:=qgB;have hd:x.cps.toList.drop a=p.cps.toList:=hd
  have no:∀ k,a<=k->¬ StrLaws.At x y x.length k:=fun k hk hA=>by
   have e:=eq_of_beq ((StrLaws.subAt_eq x y k).symm.trans hA.2);rw [hy] at e;have hyl:y.length=(c0::r).length:=by rw [<- hy];exact qgB.symm
   have e2:x.cps.toList.drop k=p.cps.toList.drop (k - a):=by rw [<- hd,List.drop_drop];congr 1;omega
   have hm:c0∈p.cps.toList:=by
    have:c0∈(x.cps.toList.drop k).take y.length:=by rw [e];exact qkA
    rw [e2] at this;exact List.mem_of_mem_drop (List.mem_of_mem_take this)
   exact hf p qkA hm
  cases cuts with
  | cons c cs=>exact absurd hG.2.1 (no c hG.1)
  | nil =>
   show [strSub x a x.length]=[p]
   congr 1
   apply Str.ext';apply Array.toList_inj.mp;rw [StrLaws.strSub_toList,hd];refine List.take_of_length_le ?_;rw [<- hd,List.length_drop,hL];omega
 | p::q::ps,a,cuts,f,_,hf,hd,hG,hn=>by
  have hL:x.cps.toList.length=x.length:=qgB;have hyl:y.length=(c0::r).length:=by rw [<- hy];exact qgB.symm
  have hyp:1<=y.length:=by rw [hyl,qfA];omega
  have hpl:p.cps.toList.length=p.length:=qgB
  have hd:x.cps.toList.drop a=p.cps.toList++((c0::r)++(Str.join y (q::ps)).cps.toList):=by
   rw [hd];show (p++y++Str.join y (q::ps)).cps.toList=_;simp only [Str.cps_append,Array.toList_append,hy,List.append_assoc]
  have hlen:x.length - a=p.length+(y.length+(Str.join y (q::ps)).cps.toList.length):=by
   have:=congrArg List.length hd;rw [List.length_drop,hL,qeA,qeA,hpl,<- hyl] at this;exact this
  have hc:StrLaws.At x y x.length (a+p.length):=by
   refine ⟨by omega,?_⟩;rw [StrLaws.subAt_eq,<- List.drop_drop,hd,<- hpl,List.drop_left,hyl,List.take_left,<- hy];exact beq_self_eq_true _
  have no:∀ k,a<=k->k<a+p.length->¬ StrLaws.At x y x.length k:=fun k hk hk2 hA=>by
   have e:=eq_of_beq ((StrLaws.subAt_eq x y k).symm.trans hA.2)
   have e2:x.cps.toList.drop k=p.cps.toList.drop (k - a)++((c0::r)++(Str.join y (q::ps)).cps.toList):=by
    rw [<- List.drop_append_of_le_length (by rw [hpl];omega),<- hd,List.drop_drop]
    congr 1
    omega
   rw [hy,e2,hyl] at e
   cases hz:p.cps.toList.drop (k - a) with
   | nil =>
    have:=congrArg List.length hz;rw [List.length_drop,hpl,List.length_nil] at this;omega
   | cons z zs =>
    rw [hz,List.cons_append,qfA,List.take_succ_cons] at e;have e3:=(List.cons.inj e).1;subst e3;exact hf p qkA (List.mem_of_mem_drop (hz ▸ qkA))
  cases cuts with
  | nil =>
   have e:f=a:=hG;exact absurd hc (hn _ (by omega))
  | cons c cs =>
   obtain ⟨h1,h2,h3,h4⟩:=hG
   have ec:c=a+p.length:=by
    by_cases h:c<a+p.length
    ·exact absurd h2 (no c h1 h)
    ·by_cases h':a+p.length<c
     ·exact absurd hc (h3 _ (by omega) h')
     ·omega
   subst ec;show strSub x a (a+p.length)::StrLaws.partsFrom x y.length (a+p.length+y.length) cs=_;rw [EL x y c0 r hy (q::ps) _ cs f (fun z=>nomatch z) (fun z hz=>hf z (qmA _ hz)) ?_ h4 hn]
   ·congr 1
    apply Str.ext';apply Array.toList_inj.mp;rw [StrLaws.strSub_toList,hd,Nat.add_sub_cancel_left,<- hpl,List.take_left]
   ·rw [<- List.drop_drop,<- List.drop_drop,hd,<- hpl,List.drop_left,hyl,List.drop_left]
open Builtin Builtin.Str in
theorem GW (y:Str)(c0:Nat)(r:List Nat)(hy:y.cps.toList=c0::r)(ps:List Str)(h0:ps ≠ [])(hf:∀ p∈ps,c0 ∉ p.cps.toList):Txt.split (Str.join y ps) y=ps:=by
 generalize hx:Str.join y ps=x;have hyl:y.length=(c0::r).length:=by rw [<- hy];exact qgB.symm
 obtain ⟨f,hG,hn⟩:=StrLaws.occ_tight x y (by rw [hyl,qfA];omega);have key:=EL x y c0 r hy ps 0 _ f h0 hf (by rw [hx];rfl) hG hn
 have one:∀ {z:Bool},occurrences x y 0 x.length (x.length+1)=[]->[x]=ps:=fun e=>by
  rw [e] at key;rw [<- key];show [x]=[strSub x 0 x.length];rw [StrLaws.sub_whole]
 unfold Txt.split
 cases ho:occurrences x y 0 x.length (x.length+1) with
 | nil =>
  have o:=one (z:=true) ho;split
  ·exact o
  ·rw [if_pos (show ([]:List Nat).isEmpty=true from rfl)];exact o
 | cons c cs =>
  rw [ho] at hG;have hA:=hG.2.1
  have k1:¬ (decide (x.length<y.length) || decide (strKind x<strKind y))=true:=by
   rw [Bool.or_eq_true,decide_eq_true_eq,decide_eq_true_eq];rintro (h|h)
   ·have:=hA.1;omega
   ·have:=PySem.W.kind_le x y hA.2;omega
  rw [if_neg k1,if_neg (by simp),StrLaws.partsBetween_eq,<- ho];exact key
theorem Hx {y:Str}{c0:Nat}{r:List Nat}(hy:y.cps.toList=c0::r){ps:List Str}(h0:ps ≠ [])(hf:∀ p∈ps,c0 ∉ p.cps.toList)(hl:(Str.join y ps).length<=100000):Gc (Str.join y ps) y=some ps:=by
 have hs:sizeLine=16777216:=qxA;have hyl:y.length=(c0::r).length:=by rw [<- hy];exact qgB.symm
 have e:=GW y c0 r hy ps h0 hf;have l1:=split_le (Str.join y ps) y;unfold Gc;rw [e] at l1 ⊢;refine if_pos ⟨?_,by omega,?_,by omega,?_⟩
 ·rw [hyl,qfA];omega
 ·rw [len_partsBetween];have:=StrLaws.occ_length_le_len (Str.join y ps) y 0 (Str.join y ps).length ((Str.join y ps).length+1);omega
 ·refine List.all_eq_true.mpr fun z hz=>decide_eq_true ?_;have:=part_short (x:=Str.join y ps) (y:=y) (by rw [e];exact hz);omega
theorem HL (y a b:Str)(r:List Str):Str.join y (a::b::r)=a++y++Str.join y (b::r):=rfl
theorem Cg:(" " : Str).length=1:=by decide +kernel
theorem GY:(" " : Str).cps.toList=32::[]:=by decide +kernel
inductive Fm where
 | yes
 | lamp (c:Str)
 | neg (a:Fm)
 | next (a:Fm)
 | and (a b:Fm)
 | unt (a b:Fm)
def Fm.den:Fm->Fm
 | .neg a=>a
 | a=>.neg a
def Fm.dep:Fm->Nat
 | .yes=>1
 | .lamp _=>1
 | .neg a=>a.dep+1
 | .next a=>a.dep+1
 | .and a b=>max a.dep b.dep+1
 | .unt a b=>max a.dep b.dep+1
def pl1 (w:Str)(f:Fm):Fm :=
 if w = "not" then f.den else if w = "next" then .next f else if w = "atlast" then .unt .yes f else if w = "always" then .neg (.unt .yes f.den)
 else if w = "again" then .neg (.unt .yes (.neg (.unt .yes f))) else .unt .yes (.neg (.unt .yes f.den))
def pl2 (w:Str)(f g:Fm):Fm :=
 if w = "or" then .neg (.and f.den g.den) else if w = "then" then .neg (.and f g.den) else if w = "frees" then .neg (.unt f.den g.den)
 else if w = "and" then .and f g else .unt f g
def W1:List Str:=["not","next","atlast","always","again","settles"]
def W2:List Str:=["and","until","or","then","frees"]
def HH (c:Nat):Nt:=.tup [.txt "lamp",.txt (one c)]
inductive Sent:Nt->Nat->Fm->Prop where
 | yes:Sent (.tup [.txt "yes"]) 1 .yes
 | no:Sent (.tup [.txt "no"]) 1 (.neg .yes)
 | lamp {c:Nat}:c∈Gi->Sent (HH c) 1 (.lamp (one c))
 | one {w:Str}{a:Nt}{n:Nat}{f:Fm}:w∈W1->Sent a n f->Sent (.tup [.txt w,a]) (n+1) (pl1 w f)
 | two {w:Str}{a b:Nt}{n m:Nat}{f g:Fm}:w∈W2->Sent a n f->Sent b m g->Sent (.tup [.txt w,a,b]) (n+m+1) (pl2 w f g)
theorem Sent.pos {a:Nt}{n:Nat}{f:Fm}(h:Sent a n f):1<=n:=by cases h<;>omega
theorem Sent.ndep {a:Nt}{n:Nat}{f:Fm}(h:Sent a n f):a.dep<=n:=by
 induction h with
 | yes=>decide
 | no=>decide
 | lamp _=>simp only [HH,Nt.dep,Nt.deps];omega
 | one _ _ ih=>simp only [Nt.dep,Nt.deps] at ih ⊢;omega
 | two _ _ _ ih1 ih2=>simp only [Nt.dep,Nt.deps] at ih1 ih2 ⊢;omega
theorem at0 (w:Str)(l:List Nt):atI (Nt.txt w::l) (0:Int)=some (Nt.txt w):=CO (j:=0) rfl
theorem at_n0 (x:Nt)(l:List Nt):atI (x::l) (0:Int)=some x:=CO (j:=0) rfl
theorem at1 (x y:Nt)(l:List Nt):atI (x::y::l) (1:Int)=some y:=CO (j:=1) rfl
theorem at2 (x y z:Nt)(l:List Nt):atI (x::y::z::l) (2:Int)=some z:=CO (j:=2) rfl
theorem I9 (a:Nt)(l:List Nt):HV (a::l) (some 1) none=some ⟨l⟩:=by
 have h1:HT.sIx (a::l).length 0 (some (1:Int))=1:=by
  unfold HT.sIx;simp
  try omega
 have h2:HT.sIx (a::l).length (a::l).length none=(a::l).length:=rfl;unfold HV;rw [if_pos (by rw [h1];exact fun z=>absurd z.1 (by decide))];unfold cutA;rw [h1,h2];simp
theorem Gz (x:Nt):BC (.tup [.txt "lamp",x])=some ⟨[]⟩:=by
 unfold BC;simp only [qyA,AO,AW,Al,at_n0,Bc]
 rfl
theorem CT {w:Str}{l:List Nt}(hw:w ≠ "lamp"):BC (.tup (.txt w::l))=some ⟨l⟩:=by
 unfold BC;simp only [qyA,AO,AW,Al,at_n0,Bc,decide_eq_false hw,cond_false,I9]
structure Wd (w:Str):Prop where
 no:w ≠ "no"
 yes:w ≠ "yes"
 lamp:w ≠ "lamp"
theorem HD {w:Str}(hw:w∈W1):Wd w:=by
 simp only [W1,qiA,qiB,or_false] at hw;rcases hw with rfl|rfl|rfl|rfl|rfl|rfl<;>exact ⟨by decide +kernel,by decide +kernel,by decide +kernel⟩
theorem Ga {w:Str}(hw:w∈W2):Wd w:=by
 simp only [W2,qiA,qiB,or_false] at hw;rcases hw with rfl|rfl|rfl|rfl|rfl<;>exact ⟨by decide +kernel,by decide +kernel,by decide +kernel⟩
mutual
def Db:Nt->Nat
 | .txt _=>0
 | .int _=>0
 | .tup l=>1+CK l
def CK:List Nt->Nat
 | []=>0
 | a::l=>Db a+CK l
end
theorem Sent.cnt {a:Nt}{n:Nat}{f:Fm}(h:Sent a n f):Db a=n:=by
 induction h with
 | yes=>simp [Db,CK]
 | no=>simp [Db,CK]
 | lamp _=>simp [HH,Db,CK]
 | one _ _ ih=>simp only [Db,CK,ih];omega
 | two _ _ _ ih1 ih2=>simp only [Db,CK,ih1,ih2];omega
theorem GD:∀ a b:List Nt,CK (a++b)=CK a+CK b
 | [],b=>by simp [CK]
 | x::a,b=>by
  show Db x+CK (a++b)=Db x+CK a+CK b;rw [GD a b];omega
def AllS (l:List Nt):Prop:=∀ x∈l,∃ n f,Sent x n f
theorem AllS.app {a b:List Nt}(h:AllS a)(g:AllS b):AllS (a++b):=fun x hx=>(qhA.mp hx).elim (h x) (g x)
theorem AllS.one {x:Nt}{n:Nat}{f:Fm}(h:Sent x n f):AllS [x]:=fun y hy=>by rw [qjA.mp hy];exact ⟨n,f,h⟩
theorem Sent.parts {x:Nt}{n:Nat}{f:Fm}(h:Sent x n f):∃ r,BC x=some ⟨r⟩/\AllS r/\CK r+1=n/\r.length<=2:=by
 have hc:=h.cnt;have c0:∀ (w:Str) (r:List Nt),Db (.tup (.txt w::r))=1+CK r:=fun w r=>by simp only [Db,CK];omega
 cases h with
 | yes=>exact ⟨_,CT (by decide +kernel),(fun y hy=>(by cases hy)),by rw [c0] at hc;omega,by decide⟩
 | no=>exact ⟨_,CT (by decide +kernel),(fun y hy=>(by cases hy)),by rw [c0] at hc;omega,by decide⟩
 | lamp h=>exact ⟨[],Gz _,(fun y hy=>(by cases hy)),rfl,by decide⟩
 | one hw hi=>exact ⟨_,CT (HD hw).lamp,.one hi,by rw [c0] at hc;omega,by simp⟩
 | two hw ha hb=>exact ⟨_,CT (Ga hw).lamp,AllS.app (.one ha) (.one hb),by rw [c0] at hc;omega,by simp⟩
theorem HZ:∀ {l:List Nt},AllS l->l.length<=CK l
 | [],_=>qrA _
 | x::l,h=>by
  obtain ⟨n,ls,hx⟩:=h x qkA;have e:=hx.cnt;have p:=hx.pos;have ih:=HZ (l:=l) fun y hy=>h y (qmA _ hy);show l.length+1<=Db x+CK l;omega
theorem kt (l:List Nt):isK "tuple" (ToD.to (Nt.tup l))=true:=id rfl
theorem ks (w:Str):isK "str" (ToD.to (Nt.txt w))=true:=id rfl
theorem ln0 (x:Nt)(r:List Nt):decide (((x::r).length:Int)=0)=false:=decide_eq_false (by rw [qfA];omega)
theorem Fy:∀ c∈Gi,BJ (one c)=some true:=by decide +kernel
theorem v_yl:decide (("yes" : Str) = "lamp")=false:=by decide +kernel
theorem v_nol:decide (("no" : Str) = "lamp")=false:=by decide +kernel
theorem g_yes:C3 BN "yes" = some 0:=by decide +kernel
theorem g_no:C3 BN "no" = some 0:=by decide +kernel
theorem g_one:∀ w∈W1,C3 BN w=some 1:=by decide +kernel
theorem g_two:∀ w∈W2,C3 BN w=some 2:=by decide +kernel
theorem form1 {x:Nt}{n:Nat}{f:Fm}(h:Sent x n f):Bt x=some true:=by
 refine OK.eq ?_;unfold Bt
 cases h with
 | yes =>
  simp only [qyA,AO,AW,Al,at0,Bc,kt,ks,ln0,Bool.not_true,cond_false,v_yl,g_yes,Option.isSome_some,cond_true];exact AN rfl
 | no =>
  simp only [qyA,AO,AW,Al,at0,Bc,kt,ks,ln0,Bool.not_true,cond_false,v_nol,g_no,Option.isSome_some,cond_true];exact AN rfl
 | @lamp c hc =>
  unfold HH;simp only [qyA,AO,AW,Al,at0,at1,Bc,kt,ks,ln0,Bool.not_true,cond_false,Fy c hc];exact CN (fun _=>CN (fun _=>AN rfl) fun h=>absurd rfl (of_decide_eq_false h)) fun h=>absurd trivial (of_decide_eq_false h)
 | @one w a n f hw hi =>
  simp only [qyA,AO,AW,Al,at0,Bc,kt,ks,ln0,Bool.not_true,cond_false,decide_eq_false (HD hw).lamp,g_one w hw,Option.isSome_some,cond_true];exact AN rfl
 | @two w a b n m f g hw ha hb =>
  simp only [qyA,AO,AW,Al,at0,Bc,kt,ks,ln0,Bool.not_true,cond_false,decide_eq_false (Ga hw).lamp,g_two w hw,Option.isSome_some,cond_true];exact AN rfl
theorem sent_ok {x:Nt}{n:Nat}{f:Fm}(h:Sent x n f)(hn:n<=24):BH x=some true:=by
 have hs:sizeLine=16777216:=qxA;refine OK.eq ?_;unfold BH;simp only [qyA,AO,AW];refine Ab (ok_while (fun s:List Nt × Int=>∃ done todo,s.1=done++todo/\s.2=((done.length:Nat):Int)/\AllS todo/\done.length+CK todo=n) (fun _=>False) (fun r=>r=true) (fun s=>n - s.2.toNat) ⟨[],[x],rfl,rfl,AllS.one h,?_⟩ (by dsimp only;omega) (fun s ⟨done,todo,e1,e2,e3,e4⟩=>?_) (fun _ h=>h.elim) fun r hr=>AN hr)
 ·show 0+(Db x+0)=n;rw [h.cnt];omega
 ·refine AN ?_;have e7:s.1.length=done.length+todo.length:=by rw [e1,qeA]
  have e8:=HZ e3
  cases todo with
  | nil =>
   rw [decide_eq_false (by rw [e2,e7];simp),if_neg qcB];exact AN rfl
  | cons y todo =>
   have e9:CK (y::todo)=Db y+CK todo:=rfl;rw [qfA] at e7 e8;rw [decide_eq_true (by rw [e2,e7];omega),if_pos rfl]
   have ex:atI s.1 s.2=some y:=by
    rw [e2];refine CO ?_;rw [e1,List.getElem?_append_right (qrA _),Nat.sub_self]
    rfl
   obtain ⟨k,ms,py⟩:=e3 y qkA;have ey:=py.cnt;have htodo:AllS todo:=fun z hz=>e3 z (qmA _ hz);simp only [ex,AO,form1 py];rw [decide_eq_false (by omega),cond_false,Bool.not_true];simp only [AO,cond_false];obtain ⟨r,hr1,hr2,hr3,hr4⟩:=py.parts;rw [hr1];simp only [AO];refine ok_bC _ (if_pos (by omega)) (AN ⟨⟨done++[y],todo++r,?_,?_,htodo.app hr2,?_⟩,?_⟩)
   ·dsimp only;rw [e1];simp
   ·dsimp only;rw [e2,qeA]
    rfl
   ·rw [qeA,GD,qgA];omega
   ·dsimp only;rw [e2];have:=py.pos;omega
theorem GA (x z:Str)(c:Nat):(Txt.replace x ⟨#[c]⟩ z).cps.toList=x.cps.toList.flatMap fun d=>if d=c then z.cps.toList else [d]:=by
 have key:∀ ps:List Str,(∀ p∈ps,c ∉ p.cps.toList)->(Str.join z ps).cps.toList=(Str.join ⟨#[c]⟩ ps).cps.toList.flatMap fun d=>if d=c then z.cps.toList else [d]:=by
  have free:∀ l:List Nat,c ∉ l->(l.flatMap fun d=>if d=c then z.cps.toList else [d])=l:=fun l h=>by
   induction l with
   | nil=>rfl
   | cons a l ih =>
    rw [List.flatMap_cons,if_neg (fun (e:a=c)=>h (e ▸ qkA)),ih fun e=>h (qmA _ e)]
    rfl
  intro ps
  induction ps with
  | nil=>intro _;rfl
  | cons p ps ih =>
   intro h
   cases ps with
   | nil=>exact (free _ (h p qkA)).symm
   | cons q ps =>
    rw [HL,HL];simp only [Str.cps_append,Array.toList_append,List.flatMap_append];rw [ih fun r hr=>h r (qmA _ hr),free _ (h p qkA)]
    congr 2
    show z.cps.toList=List.flatMap _ [c];rw [List.flatMap_cons,if_pos rfl,List.flatMap_nil,qqA]
 rw [StrLaws.replace_one,key _ (StrLaws.split_free x c),StrLaws.join_split]
def R (l:List Nat):List Nat:=(l.flatMap fun d=>if d=40 then [40,32] else [d]).flatMap fun d=>if d=41 then [32,41] else [d]
theorem HK (a b:List Nat):R (a++b)=R a++R b:=by
 unfold R;rw [List.flatMap_append,List.flatMap_append]
theorem Fd:∀ {l:List Nat},40 ∉ l->41 ∉ l->R l=l
 | [],_,_=>rfl
 | a::l,h,g=>by
  rw [show a::l=[a]++l from rfl,HK,Fd (fun e=>h (qmA _ e)) fun e=>g (qmA _ e)]
  congr 1
  unfold R;rw [List.flatMap_cons,if_neg (fun (e:a=40)=>h (e ▸ qkA)),List.flatMap_nil,qqA,List.flatMap_cons,if_neg (fun (e:a=41)=>g (e ▸ qkA)),List.flatMap_nil,qqA]
theorem R_len:∀ l:List Nat,(R l).length<=2 * l.length
 | []=>qrA _
 | a::l=>by
  rw [show a::l=[a]++l from rfl,HK,qeA,qeA];have:=R_len l
  have h1:(R [a]).length<=2:=by
   unfold R;by_cases h:a=40
   ·subst h;decide
   ·by_cases g:a=41
    ·subst g;decide
    ·rw [List.flatMap_cons,if_neg h,List.flatMap_nil,qqA,List.flatMap_cons,if_neg g,List.flatMap_nil,qqA];exact Nat.le_succ 1
  have h2:[a].length=1:=rfl;omega
theorem Cd (y:Str):∀ {a b:List Str},a ≠ []->b ≠ []->Str.join y (a++b)=Str.join y a++y++Str.join y b
 | [],_,h,_=>absurd rfl h
 | [p],[],_,h=>absurd rfl h
 | [p],q::b,_,_=>rfl
 | p::q::a,b,_,h=>by
  show Str.join y (p::q::(a++b))=_;rw [HL,HL];have:=Cd y (a:=q::a) (b:=b) (fun z=>nomatch z) h;rw [show q::(a++b)=(q::a)++b from rfl,this];apply Str.ext';simp only [Str.cps_append,Array.append_assoc]
def Wk (w:Str):Prop:=32 ∉ w.cps.toList/\w.length<=8
def Wf (w:Str):Prop:=Wk w/\40 ∉ w.cps.toList/\41 ∉ w.cps.toList
instance (w:Str):Decidable (Wf w):=inferInstanceAs (Decidable ((_/\_)/\_/\_))
theorem wf1:∀ w∈W1,Wf w:=by decide +kernel
theorem wf2:∀ w∈W2,Wf w:=by decide +kernel
theorem wf_abc:∀ c∈Gi,Wf (one c):=by decide +kernel
theorem wf_yes:Wf "yes" := by decide +kernel
theorem wf_no:Wf "no" := by decide +kernel
theorem mp_abc:∀ c∈Gi,C3 BN (one c)=none:=by decide +kernel
theorem lamp2:∀ w∈W2,BJ w=some false:=by decide +kernel
theorem lampC:BJ ")" = some false:=by decide +kernel
theorem mpC:C3 BN ")" = none:=by decide +kernel
theorem HE:∀ w∈W1++W2,w ≠ "(" := by decide +kernel
theorem GG:∀ c∈Gi,one c ≠ "(" := by decide +kernel
theorem GJ:∀ (l:List Nt) (a:Nt),Hk (l++[a])=some (a,l)
 | [],a=>rfl
 | [b],a=>rfl
 | b::c::l,a=>by
  show (Hk ((c::l)++[a])).bind _=_;rw [GJ (c::l) a]
  rfl
theorem Cb (l:List Nt)(a:Nt):Aa (l++[a])=some (l,a):=by
 unfold Aa;rw [GJ]
 rfl
theorem DU (l:List Nt)(a:Nt)(h:l.length<=1000000):Cp l a=some (l++[a]):=by
 have hs:sizeLine=16777216:=qxA;exact if_pos (by omega)
theorem lay_open (s:List Nt)(c b w a:Nt)(h:s.length<=1000000):AS (s++[c]++[b]++[w]++[a]) "(" = some (s++[.tup [w,a,b]]):=by
 unfold AS;rw [AO,decide_eq_true rfl,cond_true,Cb,AO];show ((Aa (s++[c]++[b]++[w])).bind _).bind _=_;rw [Cb,AO];show ((Aa (s++[c]++[b])).bind _).bind _=_;rw [Cb,AO];show ((Aa (s++[c])).bind _).bind _=_;rw [Cb,AO,AO];show ((Cp s (Nt.tup [w,a,b])).bind _).bind _=_;rw [DU s _ h]
 rfl
theorem lay_one (s:List Nt)(a:Nt){w:Str}(hw:w∈W1)(h:s.length<=1000000):AS (s++[a]) w=some (s++[.tup [.txt w,a]]):=by
 unfold AS As;rw [AO,decide_eq_false (HE w (List.mem_append_left _ hw)),cond_false];simp only [AO,g_one w hw,decide_true,cond_true,Cb,DU s _ h]
theorem GM (s:List Nt){w:Str}(hg:C3 BN w=some 0)(hw:w ≠ "(")(h:s.length<=1000000):AS s w=some (s++[.tup [.txt w]]):=by
 unfold AS As;rw [AO,decide_eq_false hw,cond_false];simp only [AO,hg,decide_true,cond_true,DU s _ h]
 rfl
theorem lay_lamp (s:List Nt){w:Str}(hg:C3 BN w=none)(hw:w ≠ "(")(hl:BJ w=some true)(h:s.length<=1000000):AS s w=some (s++[.tup [.txt "lamp",.txt w]]):=by
 unfold AS As;rw [AO,decide_eq_false hw,cond_false];simp only [AO,hg,hl,DU s _ h]
 rfl
theorem Ew (s:List Nt){w:Str}{o:Option Int}(hg:C3 BN w=o)(h0:o≠some 0)(h1:o≠some 1)(hw:w ≠ "(")(hl:BJ w=some false)(h:s.length<=1000000):AS s w=some (s++[.txt w]):=by
 unfold AS As;rw [AO,decide_eq_false hw,cond_false];simp only [AO,hg,hl,decide_eq_false h0,decide_eq_false h1,DU s _ h,cond_false]
def lf (Aw:Str)(s25:List Nt):Option (Fl (List Nt) Nt):=((some Aw).bind fun t38=>(some ()).bind fun t39=>some (t38,t39)).bind fun ca40=>(AS s25 ca40.1).bind fun rz42 =>
   some (Fl.nx rz42)
theorem lf_eq {w:Str}{s s':List Nt}(h:AS s w=some s'):lf w s=some (.nx s'):=by
 unfold lf;simp only [AO,h]
theorem lf_nb (a:Str)(s t:List Nt):lf a s≠some (.bk t):=fun e=>by
 unfold lf at e;simp only [AO] at e;obtain ⟨z,_,e⟩:=qaA.mp e;cases e
theorem EH {α S ρ:Type}{f:α->S->Option (Fl S ρ)}(nb:∀ a s t,f a s≠some (.bk t)):∀ {as bs:List α}{s s':S},Cj f as s=some (.nx s')->Cj f (as++bs) s=Cj f bs s'
 | [],bs,s,s',h=>by
  have:Fl.nx s=(Fl.nx s':Fl S ρ):=qtA h;cases this
  rfl
 | a::as,bs,s,s',h=>by
  obtain ⟨fl,hf,h⟩:=qaA.mp h;show (f a s).bind _=_;rw [hf,AO]
  cases fl with
  | nx t=>exact EH nb (as:=as) (bs:=bs) (s:=t) (s':=s') h
  | bk t=>exact absurd hf (nb _ _ _)
  | rt r=>cases h
theorem Bi {w:Str}{s s':List Nt}{bs:List Str}(h:AS s w=some s'):Cj lf (w::bs) s=Cj lf bs s':=by
 show (lf w s).bind _=_;rw [lf_eq h]
 rfl
structure Tx (x:Nt)(n:Nat)(t:Str)(ks:List Str):Prop where
 sh:∀ k,n<=k->A7 k x=some t
 rp:R t.cps.toList=(Str.join " " ks).cps.toList
 ne:ks ≠ []
 wk:∀ w∈ks,Wk w
 kl:ks.length<=4 * n
 tl:t.length<=12 * n
 rd:∀ s:List Nt,s.length+4 * n<=1000000->Cj lf ks.reverse s=some (.nx (s++[x]))
theorem sp_R:R (" " : Str).cps.toList=[32]:=by decide +kernel
theorem op_R:R ("(" : Str).cps.toList=[40,32]:=by decide +kernel
theorem cl_R:R (")" : Str).cps.toList=[32,41]:=by decide +kernel
theorem op_c:("(" : Str).cps.toList=[40]:=by decide +kernel
theorem cl_c:(")" : Str).cps.toList=[41]:=by decide +kernel
theorem Gr:("(" : Str).length=1:=by decide +kernel
theorem cl_l:(")" : Str).length=1:=by decide +kernel
theorem wk_op:Wk "(" := by unfold Wk;decide +kernel
theorem wk_cl:Wk ")" := by unfold Wk;decide +kernel
theorem D7 {w:Str}(hw:w ≠ "lamp")(k:Nat)(hk:1<=k):A7 k (.tup [.txt w])=some w:=by
 obtain ⟨m,rfl⟩:∃ m,k=m+1:=⟨k - 1,by omega⟩;show AG (A7 m) _=_;unfold AG;simp only [qyA,AO,AW,Al,at0,Bc,decide_eq_false hw,cond_false]
 rfl
theorem Hl (w:Str)(k:Nat)(hk:1<=k):A7 k (.tup [.txt "lamp",.txt w])=some w:=by
 obtain ⟨m,rfl⟩:∃ m,k=m+1:=⟨k - 1,by omega⟩;show AG (A7 m) _=_;unfold AG;simp only [qyA,AO,AW,Al,at0,at1,Bc,decide_true,cond_true]
theorem D4 {a b:Str}(h:a.length+b.length<=100000):Cq a b=some (a++b):=by
 have hs:sizeLine=16777216:=qxA;exact if_pos (by omega)
theorem GH {w:Str}{a:Nt}{t:Str}(hw:w ≠ "lamp")(k:Nat)(h:A7 k a=some t)(hl:w.length<=8)(ht:t.length<=1000):A7 (k+1) (.tup [.txt w,a])=some (w ++ " " ++ t):=by
 show AG (A7 k) _=_;unfold AG;simp only [qyA,AO,AW,Al,at0,at1,Bc,decide_eq_false hw,cond_false];have e1:decide ((([Nt.txt w,a]:List Nt).length:Int)=1)=false:=rfl;have e2:decide ((([Nt.txt w,a]:List Nt).length:Int)=2)=true:=rfl;rw [e1,e2];simp only [cond_false,cond_true,D4 (a:=w) (b := " ") (by rw [Cg];omega),AO,h];exact D4 (by rw [Str.length_append,Cg];omega)
theorem Fn {w:Str}{a b:Nt}{t u:Str}(hw:w ≠ "lamp")(k:Nat)(h:A7 k a=some t)(h':A7 k b=some u)(hl:w.length<=8)(ht:t.length<=1000)(hu:u.length<=1000) :
  A7 (k+1) (.tup [.txt w,a,b])=some ("(" ++ t ++ " " ++ w ++ " " ++ u ++ ")"):=by
 show AG (A7 k) _=_;unfold AG;simp only [qyA,AO,AW,Al,at0,at1,at2,Bc,decide_eq_false hw,cond_false];have e1:decide ((([Nt.txt w,a,b]:List Nt).length:Int)=1)=false:=rfl;have e2:decide ((([Nt.txt w,a,b]:List Nt).length:Int)=2)=false:=rfl;rw [e1,e2];simp only [cond_false,h,h',AO,D4 (a := "(") (b:=t) (by rw [Gr];omega)];rw [D4 (by simp only [Str.length_append,Cg,Gr];omega),AO,D4 (by simp only [Str.length_append,Cg,Gr];omega),AO,D4 (by simp only [Str.length_append,Cg,Gr];omega),AO,D4 (by simp only [Str.length_append,Cg,Gr];omega),AO];exact D4 (by simp only [Str.length_append,Cg,Gr,cl_l];omega)
theorem text_of {x:Nt}{n:Nat}{f:Fm}(h:Sent x n f)(hn:n<=24):∃ t ks,Tx x n t ks:=by
 induction h with
 | yes=>exact ⟨"yes",["yes"],fun k hk=>D7 (by decide +kernel) k hk,by decide +kernel,(fun z=>nomatch z),fun w hw=>by rw [qjA.mp hw];exact wf_yes.1,by decide,by decide +kernel,fun s hs=>Bi (GM s g_yes (by decide +kernel) (by omega))⟩
 | no=>exact ⟨"no",["no"],fun k hk=>D7 (by decide +kernel) k hk,by decide +kernel,(fun z=>nomatch z),fun w hw=>by rw [qjA.mp hw];exact wf_no.1,by decide,by decide +kernel,fun s hs=>Bi (GM s g_no (by decide +kernel) (by omega))⟩
 | @lamp c hc =>
  have wc:=wf_abc c hc;exact ⟨one c,[one c],fun k hk=>Hl _ k hk,Fd wc.2.1 wc.2.2,(fun z=>nomatch z),fun w hw=>by rw [qjA.mp hw];exact wc.1,(show 1<=4 * 1 by decide),by rw [one_len];decide,fun s hs=>Bi (lay_lamp s (mp_abc c hc) (GG c hc) (Fy c hc) (by omega))⟩
 | @one w a n f hw hi ih =>
  obtain ⟨t,ks,T⟩:=ih (by omega);have ww:=wf1 w hw;have tl:=T.tl;refine ⟨w ++ " " ++ t,w::ks,fun k hk=>?_,?_,(fun z=>nomatch z),fun v hv=>?_,?_,?_,fun s hs=>?_⟩
  ·obtain ⟨m,rfl⟩:∃ m,k=m+1:=⟨k - 1,by omega⟩;exact GH (HD hw).lamp m (T.sh m (by omega)) ww.1.2 (by omega)
  ·simp only [Str.cps_append,Array.toList_append,HK,Fd ww.2.1 ww.2.2,T.rp,sp_R];rw [show w::ks=[w]++ks from rfl,Cd " " (List.cons_ne_nil _ _) T.ne];simp only [Str.cps_append,Array.toList_append,GY]
   rfl
  ·rcases qiA.mp hv with rfl|hv
   ·exact ww.1
   ·exact T.wk v hv
  ·have:=T.kl;rw [qfA];omega
  ·have:=ww.1.2;rw [Str.length_append,Str.length_append,Cg];omega
  ·rw [List.reverse_cons,EH lf_nb (T.rd s (by omega)),Bi (lay_one s a hw (by omega))]
   rfl
 | @two w a b n m f g hw ha hb ih1 ih2 =>
  obtain ⟨t,ks,T⟩:=ih1 (by omega);obtain ⟨u,js,U⟩:=ih2 (by omega);have ww:=wf2 w hw;have tl:=T.tl;have ul:=U.tl;have tk:=T.kl;have uk:=U.kl;have pn:=ha.pos;have pm:=hb.pos;refine ⟨"(" ++ t ++ " " ++ w ++ " " ++ u ++ ")",[("(" : Str)]++(ks++([w]++(js++[(")" : Str)]))),fun k hk=>?_,?_,(List.cons_ne_nil _ _),fun v hv=>?_,?_,?_,fun s hs=>?_⟩
  ·obtain ⟨l,rfl⟩:∃ l,k=l+1:=⟨k - 1,by omega⟩;exact Fn (Ga hw).lamp l (T.sh l (by omega)) (U.sh l (by omega)) ww.1.2 (by omega) (by omega)
  ·simp only [Str.cps_append,Array.toList_append,HK,Fd ww.2.1 ww.2.2,T.rp,U.rp,sp_R,op_R,cl_R];rw [Cd " " (List.cons_ne_nil _ _) (List.append_ne_nil_of_left_ne_nil T.ne _),Cd " " (b:=[w]++(js++[(")" : Str)])) T.ne (List.cons_ne_nil _ _),Cd " " (List.cons_ne_nil _ _) (List.append_ne_nil_of_left_ne_nil U.ne _),Cd " " U.ne (List.cons_ne_nil _ _)];show _=(("(" : Str) ++ " " ++ (Str.join " " ks ++ " " ++ (w ++ " " ++ (Str.join " " js ++ " " ++ ")")))).cps.toList;simp only [Str.cps_append,Array.toList_append,GY,op_c,cl_c,List.append_assoc]
   rfl
  ·simp only [qhA,qjA] at hv;rcases hv with rfl|hv|rfl|hv|rfl
   ·exact wk_op
   ·exact T.wk v hv
   ·exact ww.1
   ·exact U.wk v hv
   ·exact wk_cl
  ·simp only [qeA,qgA];omega
  ·have:=ww.1.2;simp only [Str.length_append,Cg,Gr,cl_l];omega
  ·have er:([("(" : Str)]++(ks++([w]++(js++[(")" : Str)])))).reverse=(")" : Str)::(js.reverse++(w::(ks.reverse++[("(" : Str)]))):=by simp
   rw [er,Bi (Ew s mpC (fun z=>nomatch z) (fun z=>nomatch z) (by decide +kernel) lampC (by omega)),EH lf_nb (U.rd _ (by rw [qeA,qgA];omega)),
    Bi (Ew _ (g_two w hw) (by decide) (by decide) (HE w (qkB _ hw)) (lamp2 w hw) (by simp only [qeA,qgA];omega)),EH lf_nb (T.rd _ (by simp only [qeA,qgA];omega)),
    Bi (lay_open s (.txt ")") b (.txt w) a (by omega))]
   rfl
theorem str_of {a b:Str}(h:a.cps.toList=b.cps.toList):a=b:=by
 apply Str.ext';exact Array.toList_inj.mp h
theorem read_eq {x:Nt}{n:Nat}{f:Fm}{t:Str}{ks:List Str}(h:Sent x n f)(hn:n<=24)(T:Tx x n t ks):Ay t=some x:=by
 have hs:sizeLine=16777216:=qxA;have tl:=T.tl;have kl:=T.kl
 have e1:(Txt.replace t "(" "( ").cps.toList=t.cps.toList.flatMap fun d=>if d=40 then [40,32] else [d]:=by
  have:=GA t "( " 40;rw [show ("( " : Str).cps.toList=[40,32] from by decide +kernel] at this;exact this
 have e2:(Txt.replace (Txt.replace t "(" "( ") ")" " )").cps.toList=R t.cps.toList:=by
  have:=GA (Txt.replace t "(" "( ") " )" 41;rw [show (" )" : Str).cps.toList=[32,41] from by decide +kernel,e1] at this;exact this
 have e3:Txt.replace (Txt.replace t "(" "( ") ")" " )" = Str.join " " ks:=str_of (e2.trans T.rp);have tll:t.cps.toList.length=t.length:=qgB
 have l1:(Txt.replace t "(" "( ").length<=2 * t.length:=by
  have:∀ l:List Nat,(l.flatMap fun d=>if d=40 then [40,32] else [d]).length<=2 * l.length:=fun l=>by
   induction l with
   | nil=>exact qrA _
   | cons a l ih =>
    rw [List.flatMap_cons,qeA,qfA];split
    ·show 2+_<=_;omega
    ·show 1+_<=_;omega
  have:=this t.cps.toList;rw [<- e1,tll] at this;exact this
 have l2:(Str.join " " ks).length<=2 * t.length:=by
  have:=R_len t.cps.toList;rw [T.rp,tll] at this;exact this
 have z2:("( " : Str).length=2:=by decide +kernel
 have z3:(" )" : Str).length=2:=by decide +kernel
 have r1:GR "(" "( " t=some (Txt.replace t "(" "( "):=if_pos ⟨by rw [z2];omega,by omega⟩
 have r2:GR ")" " )" (Txt.replace t "(" "( ")=some (Str.join " " ks):=by
  rw [<- e3];exact if_pos ⟨by rw [z3];omega,by rw [e3];omega⟩
 have sp:Gc (Str.join " " ks) " " = some ks:=Hx GY T.ne (fun p hp=>(T.wk p hp).1) (by omega);have fr:=T.rd [] (by rw [List.length_nil];omega);refine OK.eq ?_;unfold Ay Ao;simp only [qyA,AO,AW,Bool.not_true,cond_false,r1,r2,sp];refine Ab (OK.of (show Cj lf ks.reverse []=_ from fr) ?_);show OK (Option.bind _ _) _;have a0:atI ([]++[x]:List Nt) (0:Int)=some x:=CO (j:=0) rfl;simp only [a0,AO,sent_ok h hn,Bool.not_true,cond_false,T.sh 26 (by omega),decide_true];rw [show (!decide ((([]++[x]:List Nt).length:Int)=1))=false from rfl];exact AN rfl
def Fo:List Str:=["not","next","atlast","always","again","settles","and","or","then","until","frees"]
theorem heads1:∀ k:Nat,k<6->∃ w,Fo[k]? = some w/\w∈W1:=by
 intro k hk;rcases k with _|_|_|_|_|_|k
 ·exact ⟨_,rfl,by decide +kernel⟩
 ·exact ⟨_,rfl,by decide +kernel⟩
 ·exact ⟨_,rfl,by decide +kernel⟩
 ·exact ⟨_,rfl,by decide +kernel⟩
 ·exact ⟨_,rfl,by decide +kernel⟩
 ·exact ⟨_,rfl,by decide +kernel⟩
 ·omega
theorem heads2:∀ k:Nat,6<=k->k<11->∃ w,Fo[k]? = some w/\w∈W2:=by
 intro k h6 hk;rcases k with _|_|_|_|_|_|_|_|_|_|_|k
 ·omega
 ·omega
 ·omega
 ·omega
 ·omega
 ·omega
 ·exact ⟨_,rfl,by decide +kernel⟩
 ·exact ⟨_,rfl,by decide +kernel⟩
 ·exact ⟨_,rfl,by decide +kernel⟩
 ·exact ⟨_,rfl,by decide +kernel⟩
 ·exact ⟨_,rfl,by decide +kernel⟩
 ·omega
def Gs (p:Nt × Int):Prop:=∃ (n:Nat) (f:Fm),Sent p.1 n f/\p.2=(n:Int)/\n<=24
structure Pl (l:List (Nt × Int))(m:Nat):Prop where
 lo:1<=l.length
 hi:l.length<=m
 gs:∀ p∈l,Gs p
theorem at_neg {α:Type}{l:List α}{k:Nat}{P:α->Prop}(hk:k<l.length)(hp:∀ x∈l,P x):OK (atI l (-(1:Int) - (k:Int))) P:=by
 have e:ixN l.length (-(1:Int) - (k:Int))=some (l.length - 1 - k):=by
  unfold ixN;rw [if_neg (by omega),if_pos (by omega)]
  congr 1
  omega
 obtain ⟨x,hx⟩:∃ x,l[l.length - 1 - k]? = some x:=⟨_,qpA (by omega)⟩;refine ⟨x,?_,hp x (qnA hx)⟩;unfold atI;rw [e,AO,hx]
theorem GE {l:List (Nt × Int)}{m:Nat}(g:Pl l m)(c:Int)(hm:m<=1000):OK (BS l c) fun l'=>Pl l' (m+1):=by
 have hs:sizeLine=16777216:=qxA;have lo:=g.lo;have hi:=g.hi;unfold BS;simp only [qyA,AO,AW];have k0:=qaB c (b:=11) (by decide);have k1:=qbB c (b:=11) (by decide);obtain ⟨k,hk⟩:=qzA k0;rw [hk] at k1 ⊢;have q0:(0:Int)<(if (l.length:Int)<3 then (l.length:Int) else 3):=by split<;>omega
 have q1:(if (l.length:Int)<3 then (l.length:Int) else 3)<=(l.length:Int):=by split<;>omega
 refine Ab (HA q0 ?_);have a0:=qaB (c / 11) (b:=(if (l.length:Int)<3 then (l.length:Int) else 3)) (by omega);have a1:=qbB (c / 11) q0;obtain ⟨j,hj⟩:=qzA a0;rw [hj] at a1 ⊢;refine Dy (at_neg (P:=Gs) (by omega) g.gs) fun left ⟨n1,f1,s1,e1,b1⟩=>?_;refine Ab (HA (by omega) ?_);have d0:=qaB (((c / 33) * 48271) % 2147483647) (b:=(l.length:Int)) (by omega);have d1:=qbB (((c / 33) * 48271) % 2147483647) (b:=(l.length:Int)) (by omega);refine Ab (HM d0 d1 fun right hr=>?_);obtain ⟨n2,f2,s2,e2,b2⟩:=g.gs right (qnA hr);obtain ⟨w,hw⟩:∃ w,Fo[k]? = some w:=⟨_,qpA (show k<11 by omega)⟩;have ew:atI Fo (k:Int)=some w:=CO hw;unfold Fo at ew;simp only [ew,AO];refine Dy (P:=fun z:Int × Nt=>∃ (n:Nat) (f:Fm),Sent z.2 n f/\z.1=(n:Int)) (CN (fun h5=>?_) fun h5=>?_) fun z ⟨n,f,sn,en⟩=>?_
 ·have h5:=of_decide_eq_true h5;obtain ⟨w',hw',h2⟩:=heads2 k (by omega) (by omega);obtain rfl:w=w':=qtA (hw.symm.trans hw');refine CN (fun _=>AN ⟨_,_,.two h2 s2 s1,?_⟩) fun _=>AN ⟨_,_,.two h2 s1 s2,?_⟩
  ·show 1+left.2+right.2=((n2+n1+1:Nat):Int);omega
  ·show 1+left.2+right.2=((n1+n2+1:Nat):Int);omega
 ·have h5:=of_decide_eq_false h5;obtain ⟨w',hw',h2⟩:=heads1 k (by omega);obtain rfl:w=w':=qtA (hw.symm.trans hw');refine AN ⟨_,_,.one h2 s1,?_⟩;show 1+left.2=((n1+1:Nat):Int);omega
 ·refine CN (fun h=>HU (by omega) ⟨by rw [qeA];omega,by rw [qeA,qgA];omega,fun p hp=>?_⟩) fun _=>AN ⟨lo,by omega,g.gs⟩;have h:=of_decide_eq_true h;rcases qhA.mp hp with hp|hp
  ·exact g.gs p hp
  ·rw [qjA.mp hp];exact ⟨n,f,sn,en,by omega⟩
theorem Du (s:Scr)(a:Int)(h0:0<=a)(h1:a<=50):OK (Av s a) fun x=>∃ (n:Nat) (f:Fm),Sent x n f/\n<=24:=by
 have hs:sizeLine=16777216:=qxA;unfold Av;refine Ab (E1 (E1 (EG s a (by omega) (by omega) fun c=>?_)));refine E1 (E1 (Ab (E1 (Gb (n:=4) (by omega) (by omega) (by omega) ?_))));refine Ab (FT (fun i (l:List (Nt × Int))=>Pl l (2+i)) ⟨by decide,by decide,fun p hp=>?_⟩ (fun i k l hk g=>?_) fun l g=>?_)
 ·simp only [qiA,qiB,or_false] at hp;rcases hp with rfl|rfl
  ·exact ⟨1,_,.no,rfl,by decide⟩
  ·exact ⟨1,_,.yes,rfl,by decide⟩
 ·obtain ⟨hi,rfl⟩:=GX hk;have lo:=g.lo;have hil:=g.hi;simp only [qyA,AO,AW];refine Ab (EG s _ (by omega) (by omega) fun c2=>?_);rw [abc_cps];have a0:=qaB c2 (b:=26) (by decide);have a1:=qbB c2 (b:=26) (by decide);refine Ab (HM a0 (by unfold Gi;rw [List.length_range'];exact a1) fun z hz=>?_);refine Ab (HU (by omega) (AN ⟨_,rfl,?_,?_,fun p hp=>?_⟩))
  ·rw [qeA];omega
  ·rw [qeA,qgA];omega
  ·rcases qhA.mp hp with hp|hp
   ·exact g.gs p hp
   ·rw [qjA.mp hp];exact ⟨1,_,.lamp (qnA hz),rfl,by decide⟩
 ·rw [FJ] at g;refine E1 ?_;refine Dy (P:=fun l:List (Nt × Int)=>Pl l 100) (CN (fun _=>?_) fun _=>?_) fun l2 g2=>?_
  ·refine Ab (E1 (Gb (n:=23) (by omega) (by omega) (by omega) ?_));refine Ab (FT (fun i (l:List (Nt × Int))=>Pl l (6+i)) g (fun i k l hk g=>?_) fun l g=>AN ⟨g.lo,?_,g.gs⟩)
   ·obtain ⟨hi,rfl⟩:=GX hk;simp only [qyA,AO,AW];have m0:=qaB (i:Int) (b:=12) (by decide);have m1:=qbB (i:Int) (b:=12) (by decide);refine Ab (EG s _ (by omega) (by omega) fun c2=>Ab (ok_div ⟨by omega,by omega⟩ ?_));exact Dy (GE g _ (by omega)) fun l' g'=>AN ⟨_,rfl,g'⟩
   ·have:=g.hi;rw [FJ] at this;omega
  ·refine Ab (E1 ?_);have b0:=qaB (c / 9) (b:=13) (by decide);have b1:=qbB (c / 9) (b:=13) (by decide);obtain ⟨q,hq⟩:=qzA b0;rw [hq] at b1 ⊢;refine Gb (n:=q) (by omega) (by omega) (by omega) ?_;refine Ab (FT (fun i (l:List (Nt × Int))=>Pl l (6+i)) g (fun i k l hk g=>?_) fun l g=>AN ⟨g.lo,?_,g.gs⟩)
   ·obtain ⟨hi,rfl⟩:=GX hk;simp only [qyA,AO,AW];refine Ab (EG s _ (by omega) (by omega) fun c2=>?_);exact Dy (GE g _ (by omega)) fun l' g'=>AN ⟨_,rfl,g'⟩
   ·have:=g.hi;rw [FJ] at this;omega
  ·simp only [qyA,AO,AW];have lo:=g2.lo;refine Ab (ok_last (fun e=>by rw [e] at lo;exact absurd lo (by decide)) (AN ?_));obtain ⟨n,f,h1,_,h2⟩:=g2.gs _ (List.getLast_mem (fun e=>by rw [e] at lo;exact absurd lo (by decide)));exact ⟨n,f,h1,h2⟩
theorem Ej:∀ (n:Nat) (x:Nt),B2 n x=A7 n x
 | 0,_=>rfl
 | n+1,x=>by
  show Be (B2 n) x=AG (A7 n) x;rw [show B2 n=A7 n from funext (Ej n)]
  rfl
theorem HF {x:Nt}{n:Nat}{f:Fm}(h:Sent x n f)(hn:n<=24):Ai x=some true:=by
 obtain ⟨t,ks,T⟩:=text_of h hn;have hd:=h.ndep;have ek:isK "tuple" (ToD.to x)=true:=by cases h<;>exact kt _
 have es:eqNO x x=some true:=by
  unfold eqNO;rw [if_pos ⟨by omega,by omega⟩,decide_eq_true rfl]
 unfold Ai;simp only [AO,Ej,T.sh 26 (by omega),decide_true,Bool.not_true,Bool.or_self,cond_false,read_eq h hn T,ek,cond_true,es]
theorem IB:A7 26 (Nt.tup [(Nt.txt ("frees" : Str)),(Nt.tup [(Nt.txt ("next" : Str)),(Nt.tup [(Nt.txt ("no" : Str))])]),(Nt.tup [(Nt.txt ("yes" : Str))])])=some "(next no frees yes)" := by
 rw [Fn (k:=25) (t := "next no") (u := "yes") (by decide +kernel) (GH (k:=24) (t := "no") (by decide +kernel) (D7 (by decide +kernel) 24 (by decide)) (by decide +kernel) (by decide +kernel)) (D7 (by decide +kernel) 25 (by decide)) (by decide +kernel) (by decide +kernel) (by decide +kernel)]
 decide +kernel
theorem law_true (ns:List Int)(hl:ns.length<=63):G5 ⟨ns⟩=some true:=by
 refine OK.eq ?_;unfold G5;refine Dy (Du _ 0 (by decide) (by decide)) fun x ⟨n,f,h,hn⟩=>?_;refine Dy (Du _ 24 (by decide) (by decide)) fun y ⟨m,g,h',hm⟩=>?_;simp only [AO,HF h hn,HF h' hm,Bool.not_true,cond_false,IB];exact AN (decide_eq_true rfl)
theorem law_imp {K:FZ9}{vs:List V}{H:Hp}{Q:VK}{E:XK}(h:FB K vs H Q E):spM K mm_law vs H Q E:=by
 obtain ⟨a,ns,rfl,hS,hl,q⟩:=h;exact ⟨H,(⟨ns⟩,()),true,Same.refl H,⟨.ref a,[],rfl,⟨a,rfl,hS⟩,rfl⟩,law_true ns hl,fun v G2 H2 x r=>by cases r;exact q H2⟩
set_option maxHeartbeats 1000000 in
theorem all_mk {l:PySem.W.OpenLaw}{w:World}{K:FZ9}{h:Heap}{mg:Str->Option Value}{fa:Addr}(X:K.In h)(G:h.Ns mainGlobals mg)(hfa:mg "law" = some (.ref fa))
  (Z:DIn K mg "is_moment" Cu/\DIn K mg "many_parts" Ce/\DIn K mg "parts_of" DH/\DIn K mg "is_lamp" Dh/\DIn K mg "has_form" DM/\DIn K mg "is_sentence" CZ/\DIn K mg "show_sentence" Bf/\DIn K mg "refuse_other_kinds" BR/\DIn K mg "taken_off" D3/\DIn K mg "lay_word" DF/\DIn K mg "read_sentence" C7/\DIn K mg "_law_cell" DO/\DIn K mg "_law_grown" D2/\DIn K mg "_law_sentence" CH/\DIn K mg "_law_written" C1/\DIn K mg "_law_both_ways" CB/\DIn K mg "law" s_law)
  {tk0:Tok}
  {ga1:Addr}{ges1:Array DictEntry}{gn1:Nat}
  (gv0:PySem.W.nsIn K mainGlobals "MOST_WORDS" = some (some (.int 24 tk0)))
  (gv1:PySem.W.nsIn K mainGlobals "PARTS" = some (some (.ref ga1))) (gl1:K.lookup ga1=some ⟨.type "dict",none,.dict ges1 gn1,#[]⟩) (gk1:PySem.W.KeysLit w.params ges1.toList) (ge1:EntC ges1.toList BN) (go1:(ga1 == sysModules)=false)
  (zs:Nn K "ValueError" /\ Nn K "isinstance" /\ Nn K "len" /\ Nn K "min" /\ Nn K "range" /\ Nn K "reversed" /\ Nn K "str" /\ Nn K "tuple") :
  ∃ fd:FuncData,(∀ (s:Shared) (v:Value),BindsTo s fd ⟨[v],[]⟩ [("_law_script",v)])/\∀ base:Heap,K.In base->base.Ns mainGlobals mg->FnOk l.prog w K mg base CX0 30 fa fd ["_law_script"] (FB K):=by
 obtain ⟨z0,z1,z2,z3,z4,z5,z6,z7,z8,z9,z10,z11,z12,z13,z14,z15,z16⟩:=Z;obtain ⟨y0,y1,y2,y3,y4,y5,y6,y7⟩:=zs;obtain ⟨f,fd,a,F⟩:=z16.ex;cases hfa.symm.trans a;have T:Txt w K mg:=⟨PySem.W.mg_none_of X G y0,PySem.W.mg_none_of X G y1,PySem.W.mg_none_of X G y2,PySem.W.mg_none_of X G y3,PySem.W.mg_none_of X G y4,PySem.W.mg_none_of X G y5,PySem.W.mg_none_of X G y6,PySem.W.mg_none_of X G y7,⟨_,PySem.W.mg_of X G gv0⟩,⟨_,PySem.W.mg_of X G gv1,go1,_,_,gl1,gk1,ge1⟩⟩;refine ⟨fd,?_,fun base KB GB=>?_⟩
 ·obtain ⟨_,_,_,_,_,_,_,_,_,rfl,_⟩:=F.ex;exact fun s v=>.of_eq rfl
 have Bv:=@GQ l.prog w K mg base z11 T;have CP:=@FH l.prog w K mg base z12 T;have Bo:=@EC l.prog w K mg base z13 T Bv CP
 have AH:Bg l.prog w K mg base:=by
  obtain ⟨f,fd,a,F⟩:=z6.ex
  have D:∀ n:Nat,DefOk l.prog w K mg base "show_sentence" (1+n) ["sentence"] (spM K (AJ n)):=fun n=>by
   induction n with
   | zero=>exact Eh F a (F.binds bn1) (DY F)
   | succ n ih=>exact Eh F a (F.binds bn1) (Dr F T n ih)
  exact D 26
 have B3:DC l.prog w K mg base:=by
  obtain ⟨f,fd,a,F⟩:=z14.ex
  have D:∀ n:Nat,DefOk l.prog w K mg base "_law_written" (1+n) ["_law_sentence_here"] (spM K (Ae n)):=fun n=>by
   induction n with
   | zero=>exact Eh F a (F.binds bn1) (EA F)
   | succ n ih=>exact Eh F a (F.binds bn1) (EQ F T n ih)
  exact D 26
 have BU:=@Cs l.prog w K mg base z7 T;have BP:=@FM l.prog w K mg base z8 T;have CD:=@Ep l.prog w K mg base z1 T;have D0:=@FF l.prog w K mg base z0 T;have CF:=@GU l.prog w K mg base z3 T D0;have DQ:=@Fw l.prog w K mg base z9 T BP CD CF;have DJ:=@Fp l.prog w K mg base z2 T;have DI:=@Fv l.prog w K mg base z4 T CF;have Ca:=@EM l.prog w K mg base z5 T DJ DI;have C9:=@De l.prog w K mg base z10 T BU DQ Ca AH;have BE:=@Do l.prog w K mg base z15 T B3 AH C9;exact (ok_law F T Bo AH BE).imp fun _ _ _ _ h=>law_imp h
theorem walk {l:PySem.W.OpenLaw}{q:Program}{loose:List Str}{XP:(Str->Option Value)->Heap->Prop}{YP:World->Heap->Prop}{d:DefRec}{K:Params->FZ9}(hn:l.most=some 63)(hdf:d.params.defaults=[])
  (hY:∀ (w:World) (h:Heap),YP w h->(K w.params).In h)
  (F:∀ (w:World) (mg:Str->Option Value) (fa:Addr) (h:Heap),(K w.params).In h->h.Ns mainGlobals mg->mg d.name=some (.ref fa) ->
   ∃ fd:FuncData,(∀ (s:Shared) (u:Value),BindsTo s fd ⟨[u],[]⟩ [("_law_script",u)])/\∀ base:Heap,(K w.params).In base->base.Ns mainGlobals mg->FnOk l.prog w (K w.params) mg base CX0 30 fa fd ["_law_script"] (FB (K w.params))) :
  PySem.W.WalkO q loose XP YP l.row.toRowW d [] (fun f vs=>PySem.call f vs) :=
 L2.walk_of (n:=63) (k:=30) (x := "_law_script") (CX:=fun _=>CX0) (sp:=fun w=>FB (K w.params)) hn (by decide) hdf ⟨rfl,by decide,by decide⟩ hY F (fun _ _ a ns hl _ hS=>⟨a,ns,rfl,hS,hl,fun _=>rfl⟩) fun _ _ _ _ _ z=>z
end My
open PySem PySem.W PyProof.Rows
theorem PySem.W.Fast.tw15808617266882104278:True:=trivial
theorem PySem.W.Fast.tw7917052643127240290:True:=trivial
theorem PySem.W.Fast.tw13253942465583247755:True:=trivial
theorem PySem.W.Fast.tw16272764040177714534:True:=trivial
theorem PySem.W.Fast.tw1397859908558231622:True:=trivial
theorem PySem.W.Fast.tw8332209316486888035:True:=trivial
theorem PySem.W.Fast.tw9393411635894956235:True:=trivial
theorem PySem.W.Fast.tw6536669052614900573:True:=trivial
set_option maxRecDepth 100000 in
set_option maxHeartbeats 0 in
theorem PySem.Challenge.cw_lassoscribe_k85_sentences_written_holds : PySem.Challenge.rw_lassoscribe_k85_sentences_written.Holds := by
 w_on; o_law; k_head; (case hw => w_witness2)
 k_fill
 refine My.walk (l := PySem.Challenge.rw_lassoscribe_k85_sentences_written) rfl rfl (fun w h Y => PySem.W.kIn_of Y) ?F
 case F =>
  intro w mg fa h KX G hmg;refine' My.all_mk KX G hmg ?zz ?gv0 ?gv1 ?gl1 ?gk1 ?ge1 ?go1 ?zy
  (case zz =>
   refine ⟨?_, ?_, ?_, ?_, ?_, ?_, ?_, ?_, ?_, ?_, ?_, ?_, ?_, ?_, ?_, ?_, ?_⟩
   all_goals (refine' L2.din KX G ?a ?l ?c ?k; (case a => k_is); (case l => k_is); (case c => k_is); (case k => k_is)))
  (case gv0 => k_is)
  (case gv1 => k_is)
  (case gl1 => k_is)
  (case gk1 => k_keys)
  (case ge1 => (repeat (first | exact True.intro | refine And.intro ⟨_, _, rfl, rfl⟩ ?_)))
  (case go1 => decide)
  (case zy => refine ⟨?_, ?_, ?_, ?_, ?_, ?_, ?_, ?_⟩ <;> (unfold L2.Nn; k_is))
end
