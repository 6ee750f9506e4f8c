import PyProof.Rows.All
import Wide.All
import OpenK.AllK
import Wide.FinOn
import Lean
import PyProof.EqAt
import PyProof.EqKinds
import PyProof.TupleCall
import PyProof.NeKinds
import PyProof.EnumFor
import PyProof.EnumMake
import PyProof.Rows.EnumRows
import PyProof.Rows.Range3
import PyProof.NoPylong
import PyProof.ListRange
import PyProof.TupleOfSeq
import PyProof.TupleOfStr
import PyProof.Draws
import PyProof.ZipIter
import PyProof.Rows.ZipGen
import PyProof.Rows.SortStr
import PyProof.Rows.TupAdd
import PyProof.SetRoads
import PyProof.Rows.SetFrom
import PyProof.StrWalks
import PyProof.CollectWalk
import KE.KDictList
import PyProof.Tail
import PyProof.TupleIter
import PyProof.AttrMiss
import KE.KDictOf
import OpenK.KTop
import PyProof.Rows.SortRev
import PyProof.Rows.CallKwBuiltin
import PyProof.Rows.CallKw2
import KE.KRevIter
import PyProof.SumWalkG
import Wide.Seal
import PyProof.AttrMissHeap
import PyProof.TupleKey
import PyProof.StrCalls2
import PyProof.Rows.StrKeys3
import PyProof.Conv_int
import PyProof.ExcBaseAll.ValueError
import KE.KTryMore
import PyProof.ExcArgsOwn
import KE.KIsAll
import KE.RegKTryMore
import KE.RegKIsAll
import PyProof.ToksMono
import PyProof.StrReplace2
import PySem.Challenge.RW_lassoscribe_k86_sentences_read
open Option renaming bind_eq_some_iff → qaA, bind_assoc → qaB
open PySem renaming wpAny_bind → qbA, wpAny_pure → qcA, sizeLine_eq → qzA
open List renaming length_map → qdA, length_append → qeA, length_cons → qfA, length_singleton → qgA, mem_append → qhA, mem_cons → qiA, mem_singleton → qjA, mem_cons_self → qkA, mem_cons_of_mem → qmA, mem_of_getElem? → qnA, getElem?_eq_some_iff → qoA, getElem?_eq_getElem → qpA, append_assoc → qqA, append_nil → qrA, size_toArray → qfB, not_mem_nil → qpB, mem_append_right → qrB
open Nat renaming le_refl → qsA, le_trans → qtA, lt_irrefl → quA, ne_of_lt → qoB, lt_of_lt_of_le → qqB, zero_le → qsB
open Option.some renaming inj → qvA
open PySem.Heap renaming lt_size → qwA, get?_push_of_some → qxA, get?_push_size → qyA
open Int renaming eq_ofNat_of_zero_le → qbB, emod_nonneg → qcB, emod_lt_of_pos → qdB
open Bool renaming false_ne_true → qeB, and_eq_true → qtB
open PySem.W renaming nsIn → qgB, mg_of → qhB, keepIn → qiB, codeIn → qjB, fnOf → qkB
open List.cons renaming inj → qmB
open Array renaming length_toList → qnB
noncomputable section
set_option Elab.async false
set_option linter.all false
set_option maxRecDepth 100000
set_option maxHeartbeats 4000000
local macro_rules
 | `(tactic| clear $n:num $rs*) => do
  let i := fun (n : Lean.Name) => Lean.mkIdent n
  match n.getNat with
  | 7 => let l := #[`G1, `s1, `c, `hc, `H, `sH, `Q, `k].map i; `(tactic| intro $l:ident*)
  | 8 => `(tactic| refine $(rs[0]!) $(i `G1) $(i `s1) $(rs[1]!) $(rs[2]!) $(i `H) $(i `sH) _ fun $(i `v) $(i `G2) $(i `H2) $(i `x2) $(i `r2) => ?_)
  | _ => Lean.Macro.throwUnsupported
theorem bE {α β : Type} {o : Option α} {f : α -> Option β} {b : β} {C : Prop} (h : o.bind f = some b) (k : ∀ a, o = some a -> f a = some b -> C) : C := by
 obtain ⟨a, h1, h2⟩ := qaA.mp h;exact k a h1 h2
abbrev FZ9 := PySem.W.Frag
namespace L2
open PySem PySem.Spec PyProof.Rows
abbrev Key:=Sum Int Str
def keyIs:Key->Value->Bool
 | .inl k,v=>Value.isInt k v
 | .inr x,v=>Value.isStrOf x v
def keyH (w:World):Key->Int
 | .inl k=>hashInt k
 | .inr x=>hashStr w x
theorem Bm:∀ {k:Key}{v:Value},keyIs k v=true->(∃ i t,k=Sum.inl i/\v=Value.int i t)\/(∃ x t,k=Sum.inr x/\v=Value.str x t)
 | .inl i,v,h=>by
  obtain ⟨t,e⟩:=Value.isInt_shape (k:=i) (v:=v) h;exact .inl ⟨i,t,rfl,e⟩
 | .inr x,v,h=>by
  obtain ⟨t,e⟩:=Value.isStrOf_shape (x:=x) (v:=v) h;exact .inr ⟨x,t,rfl,e⟩
theorem key_ll (a b:Int):decide ((Sum.inl a:Key)=Sum.inl b)=(a == b):=by
 by_cases e:a=b
 ·subst e;simp
 ·have h:¬ (Sum.inl a:Key)=Sum.inl b:=fun q=>e (Sum.inl.inj q);rw [decide_eq_false h];exact (beq_eq_false_iff_ne.mpr e).symm
theorem key_rr (a b:Str):decide ((Sum.inr a:Key)=Sum.inr b)=decide (a=b):=by
 by_cases e:a=b
 ·subst e;simp
 ·have h:¬ (Sum.inr a:Key)=Sum.inr b:=fun q=>e (Sum.inr.inj q);rw [decide_eq_false h,decide_eq_false e]
theorem key_lr (a:Int)(b:Str):decide ((Sum.inl a:Key)=Sum.inr b)=false:=decide_eq_false (fun q=>nomatch q)
theorem key_rl (a:Str)(b:Int):decide ((Sum.inr a:Key)=Sum.inl b)=false:=decide_eq_false (fun q=>nomatch q)
def Ii (prog:Program)(w:World):PySem.KeyKind prog w Key where
 is:=keyIs
 hash:=keyH w
 inj:=fun v a b ha hb=>by
  rcases Bm ha with ⟨i,t,rfl,rfl⟩ | ⟨x,t,rfl,rfl⟩
  ·rcases Bm hb with ⟨j,u,rfl,e⟩ | ⟨y,u,rfl,e⟩
   ·injection e with e1 _;rw [e1]
   ·exact nomatch e
  ·rcases Bm hb with ⟨j,u,rfl,e⟩ | ⟨y,u,rfl,e⟩
   ·exact nomatch e
   ·injection e with e1 _;rw [e1]
 byValue:=fun k v h=>by
  rcases Bm h with ⟨i,t,rfl,rfl⟩ | ⟨x,t,rfl,rfl⟩<;>rfl
 pyHash:=fun hv h=>by
  rcases Bm hv with ⟨i,t,rfl,rfl⟩ | ⟨x,t,rfl,rfl⟩
  ·exact wpAny_pyHash_int h
  ·exact wpAny_pyHash_str h
 eqBool:=fun hu hv h=>by
  rcases Bm hu with ⟨i,t,rfl,rfl⟩ | ⟨x,t,rfl,rfl⟩
  ·rcases Bm hv with ⟨j,u,rfl,rfl⟩ | ⟨y,u,rfl,rfl⟩
   ·rw [key_ll] at h;exact wpAny_eqBool_int h
   ·rw [key_lr] at h;exact SeqAt.EqAt.int_str i t y u _ _ _ _ h
  ·rcases Bm hv with ⟨j,u,rfl,rfl⟩ | ⟨y,u,rfl,rfl⟩
   ·rw [key_rl] at h;exact SeqAt.EqAt.str_int x t j u _ _ _ _ h
   ·rw [key_rr] at h;exact wpAny_eqBool_str h
 «strs»:=fun k x t v h=>by
  rcases Bm h with ⟨i,u,rfl,e⟩ | ⟨y,u,rfl,e⟩
  ·exact nomatch e
  ·injection e with e1 _
   subst e1;cases v<;>rfl
inductive V where
 | non|bl (b:Bool)|int (i:Int)|str (x:Str)|byt (b:Array UInt8)|flt (b:UInt64)|ref (a:Addr)|ty (n:String)
 deriving DecidableEq
def RelV:V->Value->Prop
 | .non,u=>u=Value.none
 | .bl b,u=>u=Value.bool b
 | .int i,u=>∃ t,u=Value.int i t
 | .str x,u=>∃ t,u=Value.str x t
 | .byt b,u=>∃ t,u=Value.bytes b t
 | .flt b,u=>∃ t,u=Value.float b t
 | .ref a,u=>u=Value.ref a
 | .ty n,u=>u=Value.type n
abbrev Vals:List V->List Value->Prop:=Paired RelV
theorem Vals.length {xs:List V}{us:List Value}(r:Vals xs us):xs.length=us.length:=Paired.length r
theorem Vals.get:∀ {xs:List V}{us:List Value}{i:Nat}{x:V},Vals xs us->xs[i]? = some x->∃ u,us[i]? = some u/\RelV x u
 | _,_,_,_,.nil,e=>by simp at e
 | _,_,0,_,.cons r _,e=>by simp at e;subst e;exact ⟨_,rfl,r⟩
 | _,_,i+1,x,.cons _ t,e=>by
  obtain ⟨u,h1,h2⟩:=Vals.get (i:=i) (x:=x) t (by simpa using e);exact ⟨u,by simpa using h1,h2⟩
theorem Vals.append:∀ {xs ys:List V}{us ws:List Value},Vals xs us->Vals ys ws->Vals (xs++ys) (us++ws)
 | _,_,_,_,.nil,s=>s
 | _,_,_,_,.cons r t,s=>.cons r (Vals.append t s)
theorem Vals.take:∀ {xs:List V}{us:List Value}(n:Nat),Vals xs us->Vals (xs.take n) (us.take n)
 | _,_,0,_=>.nil
 | _,_,_+1,.nil=>.nil
 | _,_,n+1,.cons r t=>.cons r (Vals.take n t)
theorem Vals.drop:∀ {xs:List V}{us:List Value}(n:Nat),Vals xs us->Vals (xs.drop n) (us.drop n)
 | _,_,0,r=>r
 | _,_,_+1,.nil=>.nil
 | _,_,n+1,.cons _ t=>Vals.drop n t
def RelO:Option V->Option Value->Prop
 | some v,some u=>RelV v u
 | none,none=>True
 | _,_=>False
def KV {κ:Type}:List (κ × V)->List (κ × Value)->Prop:=Paired fun (p:κ × V) (q:κ × Value)=>p.1=q.1/\RelV p.2 q.2
def kV:Key->V
 | .inl i=>.int i
 | .inr x=>.str x
inductive HO where
 | lst (xs:List V)
 | tup (xs:List V)
 | dK (kvs:List (Key × V))|dT (kvs:List (List Key × V))
 | set (S:Int->Bool) (n:Nat)
 | ins (C dx:Addr) (fs:List (Str × V))
 | own (x:Addr)
 | xd (fs:List (Str × V))
 | met (f x:Addr)
 | rng (lo hi:Int)
 | frz (o:Obj) (u:HO)
 | tbl (ps:Array Value)
 | ext (φ:Heap->Prop)
abbrev Hp:=Addr->Option HO
def upd (H:Hp)(a:Addr)(o:HO):Hp:=fun b=>if b=a then some o else H b
theorem Af {H:Hp}{a:Addr}{o:HO}:upd H a o a=some o:=by unfold upd;rw [if_pos rfl]
theorem Am {H:Hp}{a b:Addr}{o:HO}(h:b≠a):upd H a o b=H b:=by unfold upd;rw [if_neg h]
theorem CC {H:Hp}{a b:Addr}{o:HO}(h:H a=some o)(h':H b=none):a≠b:=by
 intro e;subst e;rw [h] at h';cases h'
section
variable (P:Program)(w:World)
def ObjOk (H:Hp)(h:Heap)(a:Addr):HO->Prop
 | .lst xs=>xs.length<=sizeLine/\∃ (its:List Value) (n:Nat),Vals xs its/\h.get? a=some { cls:=.type "list",data:=.seq its.toArray n }
 | .tup xs=>xs.length<=sizeLine/\∃ its:List Value,Vals xs its/\IsTup h a its.toArray
 | .dK kvs=>kvs.length<=sizeLine/\(a == sysModules)=false/\∃ vs,KV kvs vs/\h.DictOf (Ii P w) a vs
 | .dT kvs=>kvs.length<=sizeLine/\(a == sysModules)=false/\∃ xs:List (List Key × Addr × Value),
   Paired (fun (p:List Key × V) (q:List Key × Addr × Value)=>p.1=q.1/\H q.2.1=some (.tup (p.1.map kV))/\RelV p.2 q.2.2) kvs xs /\
   ∃ o es ep,h.get? a=some o/\o.ExactDict/\o.data = .dict es ep/\es.toList=xs.map (entryOfKey (tupleKind (Ii P w)))/\(xs.map (·.1)).Nodup
 | .set S n=>h.SetOf (intKind P w) a S n
 | .ins C dx fs=>H dx=some (.own a)/\fs.length<=1000/\dx≠a/\h.get? a=some (PySem.W.instObj C dx) /\
   ∃ mA,h.Ns1 dx mA/\(∀ f,RelO (fs.lookup f) (mA f))/\PySem.Within mA (fs.map (·.1))
 | .own _=>∃ o,h.get? a=some o
 | .xd fs=>∃ mA,h.Ns1 a mA/\∀ f,RelO (fs.lookup f) (mA f)
 | .rng lo hi=>∃ t u v,h.get? a=some { cls:=.type "range",data:=.fields #[.int lo t,.int hi u,.int 1 v] }
 | .frz o u=>h.get? a=some o/\ObjOk H h a u
 | .tbl ps=>h.get? a=some { cls:=.none,data:=.fields ps }
 | .met f x=>h.get? a=some (PySem.W.methodObj (.ref f) (.ref x))
 | .ext φ=>φ h/\(∃ o,h.get? a=some o)/\∀ h1 h2:Heap,φ h1->(∀ o,h1.get? a=some o->h2.get? a=some o)->φ h2
def HOk (H:Hp)(h:Heap):Prop:=∀ a o,H a=some o->ObjOk P w H h a o
end
section
variable {P:Program}{w:World}{H H':Hp}{h h':Heap}{a:Addr}{o:HO}
theorem ObjOk.lt (x:ObjOk P w H h a o):a<h.objs.size:=by
 cases o with
 | lst xs=>obtain ⟨_,_,_,_,e⟩:=x;exact qwA e
 | tup xs=>obtain ⟨_,_,_,p⟩:=x;exact p.lt
 | dK kvs=>obtain ⟨_,_,_,_,o,_,_,e,_⟩:=x;exact qwA e
 | dT kvs=>obtain ⟨_,_,_,_,o,_,_,e,_⟩:=x;exact qwA e
 | set S n=>obtain ⟨o,_,_,_,e,_⟩:=x;exact qwA e
 | ins C dx fs=>obtain ⟨_,_,_,e,_⟩:=x;exact qwA e
 | own y=>obtain ⟨_,e⟩:=x;exact qwA e
 | xd fs=>obtain ⟨_,⟨_,_,_,e,_⟩,_⟩:=x;exact qwA e
 | rng lo hi=>obtain ⟨_,_,_,e⟩:=x;exact qwA e
 | frz ob u=>obtain ⟨e,_⟩:=x;exact qwA e
 | tbl ps=>exact qwA (show h.get? a=some _ from x)
 | met f y=>exact qwA (show h.get? a=some _ from x)
 | ext φ=>obtain ⟨_,⟨_,e⟩,_⟩:=x;exact qwA e
theorem Paired.mapP {α β:Type}{F G:α->β->Prop}:∀ {l₁:List α}{l₂:List β},Paired F l₁ l₂->(∀ a b,F a b->G a b)->Paired G l₁ l₂
 | _,_,.nil,_=>.nil
 | _,_,.cons r t,f=>.cons (f _ _ r) (Paired.mapP t f)
theorem Paired.imp' {α β:Type}{F G:α->β->Prop}(f:∀ a b,F a b->G a b){l₁:List α}{l₂:List β}(r:Paired F l₁ l₂):Paired G l₁ l₂:=Paired.mapP r f
theorem ObjOk.stay (x:ObjOk P w H h a o)(k:∀ b u,(b=a\/H b=some (.own a))->h.get? b=some u->h'.get? b=some u)
  (ho:∀ b,H b=some (.own a)->H' b=some (.own a)) (ht:∀ b xs,H b=some (.tup xs)->H' b=some (.tup xs)):ObjOk P w H' h' a o:=by
 induction o with
 | lst xs=>obtain ⟨z,its,n,r,e⟩:=x;exact ⟨z,its,n,r,k _ _ (.inl rfl) e⟩
 | tup xs=>obtain ⟨z,its,r,ob,e,c⟩:=x;exact ⟨z,its,r,ob,k _ _ (.inl rfl) e,c⟩
 | dK kvs=>obtain ⟨z,y,vs,r,ob,es,ep,e,c⟩:=x;exact ⟨z,y,vs,r,ob,es,ep,k _ _ (.inl rfl) e,c⟩
 | dT kvs =>
  obtain ⟨z,y,xs,r,ob,es,ep,e,c⟩:=x;exact ⟨z,y,xs,Paired.mapP r fun p q z=>⟨z.1,ht _ _ z.2.1,z.2.2⟩,ob,es,ep,k _ _ (.inl rfl) e,c⟩
 | set S n=>obtain ⟨ob,es,ep,t,e,c⟩:=x;exact ⟨ob,es,ep,t,k _ _ (.inl rfl) e,c⟩
 | ins C dx fs =>
  obtain ⟨d,z,ne,e,mA,⟨od,es,ep,e2,c⟩,r⟩:=x;exact ⟨ho _ d,z,ne,k _ _ (.inl rfl) e,mA,⟨od,es,ep,k _ _ (.inr d) e2,c⟩,r⟩
 | own y=>obtain ⟨ob,e⟩:=x;exact ⟨ob,k _ _ (.inl rfl) e⟩
 | xd fs=>obtain ⟨mA,⟨od,es,ep,e,c⟩,r⟩:=x;exact ⟨mA,⟨od,es,ep,k _ _ (.inl rfl) e,c⟩,r⟩
 | rng lo hi=>obtain ⟨t,u,v,e⟩:=x;exact ⟨t,u,v,k _ _ (.inl rfl) e⟩
 | frz ob u ih=>obtain ⟨e,q⟩:=x;exact ⟨k _ _ (.inl rfl) e,ih q⟩
 | tbl ps =>
  have e:h.get? a=some { cls:=.none,data:=.fields ps }:=x;show h'.get? a=some { cls:=.none,data:=.fields ps };exact k a _ (.inl rfl) e
 | met f y =>
  have e:h.get? a=some (PySem.W.methodObj (.ref f) (.ref y)):=x;show h'.get? a=some (PySem.W.methodObj (.ref f) (.ref y));exact k a _ (.inl rfl) e
 | ext φ=>obtain ⟨p,⟨o,e⟩,st⟩:=x;exact ⟨st _ _ p fun o q=>k _ _ (.inl rfl) q,⟨o,k _ _ (.inl rfl) e⟩,st⟩
theorem HOk.lt (x:HOk P w H h)(e:H a=some o):a<h.objs.size:=(x a o e).lt
theorem HOk.fresh (x:HOk P w H h)(e:h.objs.size<=a):H a=none:=by
 cases q:H a with
 | none=>rfl
 | some u=>exact absurd (qqB (x.lt q) e) (quA _)
theorem HOk.kept (x:HOk P w H h)(k:∀ b u,h.get? b=some u->h'.get? b=some u):HOk P w H h':=fun a o e =>
 (x a o e).stay (fun b u _ q=>k b u q) (fun _ q=>q) fun _ _ q=>q
theorem HOk.laid (x:HOk P w H h)(k:∀ b u,h.get? b=some u->h'.get? b=some u)(hp:h.objs.size<=a)(new:ObjOk P w (upd H a o) h' a o):HOk P w (upd H a o) h':=fun b u e=>by
 have hn:=x.fresh hp;by_cases hb:b=a
 ·subst hb;rw [Af] at e;cases e;exact new
 ·rw [Am hb] at e;exact (x b u e).stay (fun c v _ q=>k c v q) (fun c q=>by rw [Am (CC q hn)];exact q) fun c xs q=>by rw [Am (CC q hn)];exact q
end
def Rd (H:Hp)(a:Addr)(u:HO):Prop:=H a=some u\/∃ o,H a=some (.frz o u)
theorem Rd.ok {P:Program}{w:World}{H:Hp}{h:Heap}{a:Addr}{u:HO}(r:Rd H a u)(x:HOk P w H h):ObjOk P w H h a u:=by
 rcases r with r | ⟨o,r⟩
 ·exact x a u r
 ·obtain ⟨_,q⟩:=x a _ r;exact q
def Mut:Option HO->Prop
 | some (.lst _)=>True
 | some (.dK _)=>True
 | some (.dT _)=>True
 | some (.set _ _)=>True
 | some (.ins _ _ _)=>True
 | some (.ext _)=>True
 | _=>False
section
variable {P:Program}{w:World}{H:Hp}{h h':Heap}{x e:Addr}{o':HO}
theorem HOk.write (ok:HOk P w H h)(mu:Mut (H x))(he:e=x\/H e=some (.own x))(k:∀ b u,b≠e->h.get? b=some u->h'.get? b=some u)(heo:∃ u,h'.get? e=some u)
  (new:ObjOk P w (upd H x o') h' x o'):HOk P w (upd H x o') h':=fun b u q=>by
 have nown:∀ c y,H c=some (.own y)->c≠x:=fun c y r z=>by subst z;rw [r] at mu;exact mu
 have ntup:∀ c xs,H c=some (.tup xs)->c≠x:=fun c xs r z=>by subst z;rw [r] at mu;exact mu
 by_cases hb:b=x
 ·subst hb;rw [Af] at q;cases q;exact new
 ·rw [Am hb] at q;by_cases hbe:b=e
  ·have q':H b=some (.own x):=by
    rcases he with z|z
    ·exact absurd (hbe.trans z) hb
    ·rw [hbe];exact z
   rw [q] at q';cases q';obtain ⟨v,hv⟩:=heo;exact ⟨v,by rw [hbe];exact hv⟩
  ·refine (ok b u q).stay (fun c v hc r=>k c v ?_ r) (fun c r=>by rw [Am (nown c b r)];exact r) fun c xs r=>by rw [Am (ntup c xs r)];exact r
   rcases hc with rfl|hc
   ·exact hbe
   ·rintro rfl;rcases he with z|z
    ·exact nown c b hc z
    ·rw [hc] at z;cases z;exact hb rfl
end
structure Un (fs ex:List Addr)(H H':Hp)(h h':Heap):Prop where
 keep:∀ b o,h.get? b=some o->H b=none->b ∉ fs->b ∉ ex->h'.get? b=some o
 slot:∀ b o,h.get? b=some o->H b=none->b∈fs->b ∉ ex->∃ sl,h'.get? b=some { o with slots:=sl }
 free:∀ b o,h.get? b=some o->H b=none->b ∉ ex->H' b=none
 there:∀ b o,h.get? b=some o->b ∉ ex->∃ o',h'.get? b=some o'
 tups:∀ b xs,H b=some (.tup xs)->H' b=some (.tup xs)
 frzs:∀ b o u,H b=some (.frz o u)->H' b=some (.frz o u)
 tbls:∀ b ps,H b=some (.tbl ps)->∃ more,H' b=some (.tbl (ps++more))
section
variable {fs fs' ex ex':List Addr}{H H1 H2:Hp}{h h1 h2 h':Heap}{a x e:Addr}{o:HO}
theorem Un.any (u:Un fs ex H H1 h h1){b:Addr}{ob:Obj}(q:h.get? b=some ob)(n:H b=none)(hx:b ∉ ex):∃ sl,h1.get? b=some { ob with slots:=sl }:=by
 by_cases hb:b∈fs
 ·exact u.slot b ob q n hb hx
 ·exact ⟨ob.slots,u.keep b ob q n hb hx⟩
theorem Un.kept (k:∀ b u,h.get? b=some u->h'.get? b=some u):Un fs ex H H h h' :=
 ⟨fun b ob q _ _ _=>k b ob q,fun b ob q _ _ _=>⟨ob.slots,k b ob q⟩,fun _ _ _ n _=>n,fun b ob q _=>⟨ob,k b ob q⟩,fun _ _ q=>q,fun _ _ _ q=>q,fun _ ps q=>⟨#[],by rw [q];simp⟩⟩
theorem Un.refl:Un fs ex H H h h:=Un.kept fun _ _ q=>q
theorem Un.laid (k:∀ b u,h.get? b=some u->h'.get? b=some u)(hp:h.objs.size<=a)(hn:H a=none):Un fs ex H (upd H a o) h h' where
 keep:=fun b u q _ _ _=>k b u q
 slot:=fun b u q _ _ _=>⟨u.slots,k b u q⟩
 free:=fun b u q n _=>by rw [Am (qoB (qqB (qwA q) hp))];exact n
 there:=fun b u q _=>⟨u,k b u q⟩
 tups:=fun b xs q=>by rw [Am (CC q hn)];exact q
 frzs:=fun b u xs q=>by rw [Am (CC q hn)];exact q
 tbls:=fun b ps q=>⟨#[],by rw [Am (CC q hn),q];simp⟩
theorem Un.write (mu:Mut (H x))(he:e=x\/H e=some (.own x))(k:∀ b u,b≠e->h.get? b=some u->h'.get? b=some u)(heo:∃ u,h'.get? e=some u):Un fs ex H (upd H x o) h h':=by
 have hx:∀ b,H b=none->b≠x:=fun b n z=>by subst z;rw [n] at mu;exact mu
 have hb:∀ b,H b=none->b≠e:=fun b n z=>by
  subst z;rcases he with r|r
  ·exact hx b n r
  ·rw [n] at r;cases r
 have hm:∀ b u,H b=some u->¬ Mut (some u)->b≠x:=fun b u q nm z=>by subst z;rw [q] at mu;exact nm mu
 refine ⟨fun b u q n _ _=>k b u (hb b n) q,fun b u q n _ _=>⟨u.slots,k b u (hb b n) q⟩,fun b u q n _=>by rw [Am (hx b n)];exact n,fun b u q _=>?_,
  fun b xs q=>by rw [Am (hm b _ q fun z=>z)];exact q,fun b u xs q=>by rw [Am (hm b _ q fun z=>z)];exact q,fun b ps q=>⟨#[],by rw [Am (hm b _ q fun z=>z),q];simp⟩⟩
 by_cases hbe:b=e
 ·subst hbe;exact heo
 ·exact ⟨u,k b u hbe q⟩
end
def trk (h:Heap)(H:Hp):List Addr:=(List.range h.objs.size).filter fun a=>(H a).isSome
def Iy (h:Heap)(H:Hp):Heap:=PySem.W.hideAll h (trk h H)
theorem M6 (h:Heap)(H:Hp):(Iy h H).objs.size=h.objs.size:=PySem.W.hideAll_size _ _
theorem hidT_get {h:Heap}{H:Hp}{b:Addr}{o:Obj}(e:h.get? b=some o)(n:H b=none):(Iy h H).get? b=some o :=
 PySem.W.hideAll_get _ e fun hm=>by
  have q:(H b).isSome=true:=(List.mem_filter.mp hm).2;rw [n] at q;simp at q
theorem of_hidT {h:Heap}{H:Hp}{b:Addr}{o:Obj}(e:(Iy h H).get? b=some o):h.get? b=some o/\H b=none:=by
 have e':h.get? b=some o:=PySem.W.of_hideAll (trk h H) e;refine ⟨e',?_⟩
 cases q:H b with
 | none=>rfl
 | some x =>
  have hm:b∈trk h H:=List.mem_filter.mpr ⟨List.mem_range.mpr (qwA e'),by simp [q]⟩;have z:(Iy h H).get? b=none:=PySem.W.hideAll_none (trk h H) hm;rw [z] at e;cases e
structure Mod (K:FZ9)(mg:Str->Option Value)(base:Heap):Prop where
 kin:K.In base
 glob:base.Ns mainGlobals mg
 blt:∃ mb,base.Ns builtinsNs mb/\∀ x:Str,x ≠ "__name__" -> mb x=bootBuiltins x
 nolimit:base.NoLimit
structure Cx where
 prog:Program
 w:World
 K:FZ9
 mg:Str->Option Value
 base:Heap
 A:Around
 N:List Str
 s₀:Shared
 H₀:Hp
 env:Env
 outer:List Env
 stack:List Env
 ex:List Addr
 fn:Str->Bool
 calm:Bool
 pn:List (Addr × Obj)
 xe:Value->Shared->Prop
def frs (l:List Env):List Addr:=l.filterMap (·.frame)
abbrev Cx.fs (X:Cx):List Addr:=frs X.outer
def Vis (sc:Scope)(x:Str):Prop:=sc.names.lookup x=some .local \/ sc.names.lookup x=some .cell\/sc.names.lookup x=some .free
def Loc (sc:Scope)(x:Str):Prop:=sc.names.lookup x=some .local \/ sc.names.lookup x=some .cell
def Look (env:Env)(h:Heap)(m:Str->Option Value)(x:Str)(u:Value):Prop :=
 (env.kindOf x=some .local /\ m x=some u)\/((env.kindOf x=some .cell\/env.kindOf x=some .free)/\∃ c,env.cells.lookup x=some c/\h.IsCell c (some u))
structure Cx.Ok (X:Cx):Prop where
 mod:Mod X.K X.mg X.base
 kind:X.env.scope.kind = .function
 glob:X.env.globals=mainGlobals
 blt:X.env.builtins=builtinsNs
 above:X.s₀.heap.objs.size<=X.env.locals
 inj:∀ x y c,X.env.cells.lookup x=some c->X.env.cells.lookup y=some c->x=y
 has:∀ x,(X.env.kindOf x=some .cell\/X.env.kindOf x=some .free)->∃ c,X.env.cells.lookup x=some c
 cab:∀ x c,X.fn x=true->X.env.cells.lookup x=some c->X.s₀.heap.objs.size<=c
 hd:X.calm=true->X.A.handled=none
 frames:X.A.frames=some X.stack
 stk:X.stack=X.outer\/(X.stack=X.env::X.outer/\X.env.frame=some X.env.locals)
 exf:∀ b∈X.ex,b≠X.env.locals/\∀ x c,X.env.cells.lookup x=some c->c≠b
 bs:∀ b o,X.base.get? b=some o->X.s₀.heap.get? b=some o/\X.H₀ b=none
 bsz:X.base.objs.size<=X.s₀.heap.objs.size
 noex:∀ b o,X.base.get? b=some o->b ∉ X.ex
 exfs:∀ b∈X.ex,b ∉ X.fs
 funs:X.s₀.heap.FunFrames X.base X.outer
 frf:∀ b∈X.fs,X.H₀ b=none
structure Inv (X:Cx)(pins:List (Addr × Obj))(σ:List (Option V))(H:Hp)(s:Shared):Prop where
 ok:X.Ok
 os:s.os=X.s₀.os
 bare:AllBare s.gens
 base:Un X.fs X.ex X.H₀ H X.s₀.heap s.heap
 loc:∃ m,s.heap.Ns X.env.locals m/\∀ (i:Nat) (x:Str) (v:V),X.N[i]? = some x->σ[i]? = some (some v)->Vis X.env.scope x->∃ u,RelV v u/\Look X.env s.heap m x u
 cell:∀ x c,X.env.cells.lookup x=some c->∃ v,s.heap.IsCell c v
 free:H X.env.locals=none
 freeC:∀ x c,X.env.cells.lookup x=some c->H c=none
 pin:∀ p∈X.pn++pins,s.heap.get? p.1=some p.2/\H p.1=none/\p.1≠X.env.locals/\p.1 ∉ X.fs/\∀ v,p.2.data ≠ .cell v
 hok:HOk X.prog X.w H s.heap
 len:σ.length=X.N.length
section
variable {X:Cx}{pins:List (Addr × Obj)}{σ:List (Option V)}{H H':Hp}{s:Shared}{h':Heap}
theorem Cx.Ok.nofr (ok:X.Ok){b:Addr}{o:Obj}(e:X.base.get? b=some o):b ∉ X.fs:=fun hb=>by
 have:=(ok.funs.mem hb).1;rw [e] at this;cases this
theorem Inv.bs (I:Inv X pins σ H s):∀ b o,X.base.get? b=some o->s.heap.get? b=some o/\H b=none:=fun b o e =>
 ⟨I.base.keep b o (I.ok.bs b o e).1 (I.ok.bs b o e).2 (I.ok.nofr e) (I.ok.noex b o e),I.base.free b o (I.ok.bs b o e).1 (I.ok.bs b o e).2 (I.ok.noex b o e)⟩
theorem Inv.bk (I:Inv X pins σ H s):∀ b o,X.base.get? b=some o->s.heap.get? b=some o:=fun b o e=>(I.bs b o e).1
theorem Inv.mod (I:Inv X pins σ H s):Mod X.K X.mg X.base:=I.ok.mod
theorem Inv.kIn (I:Inv X pins σ H s):X.K.In s.heap:=I.ok.mod.kin.keeps I.bk
theorem Inv.lt (I:Inv X pins σ H s):X.env.locals<s.heap.objs.size:=let ⟨_,hn,_⟩:=I.loc;hn.lt
theorem Inv.sz (I:Inv X pins σ H s):X.s₀.heap.objs.size<=s.heap.objs.size:=qtA I.ok.above (Nat.le_of_lt I.lt)
theorem Inv.nofs (I:Inv X pins σ H s){a:Addr}(h:s.heap.objs.size<=a):a ∉ X.fs:=fun hb=>by
 obtain ⟨_,o,ho,_⟩:=I.ok.funs.mem hb;exact absurd (qqB (qwA ho) (qtA I.sz h)) (quA _)
theorem Inv.cne (I:Inv X pins σ H s):∀ x c,X.env.cells.lookup x=some c->c≠X.env.locals:=fun x c e z=>by
 obtain ⟨v,o,ho,hd⟩:=I.cell x c e;obtain ⟨m,⟨o',es,ep,ho',hd',_⟩,_⟩:=I.loc;rw [z,ho'] at ho;cases ho;rw [hd'] at hd;cases hd
theorem Inv.funs (I:Inv X pins σ H s):s.heap.FunFrames X.base X.outer:=by
 have all:∀ (l:List Env),(∀ b∈frs l,b∈X.fs)->X.s₀.heap.FunFrames X.base l->s.heap.FunFrames X.base l:=by
  intro l
  induction l with
  | nil=>intro _ _;trivial
  | cons env r ih =>
   intro hs hl;obtain ⟨hk,⟨L,o,hf,hn,ho,hd⟩,hr⟩:=hl;have hL:L∈X.fs:=hs L (by unfold frs;rw [List.filterMap_cons,hf];exact qkA);obtain ⟨sl,e⟩:=I.base.slot L o ho (I.ok.frf L hL) hL fun z=>I.ok.exfs L z hL;exact ⟨hk,⟨L,_,hf,hn,e,hd⟩,ih (fun b hb=>hs b (by unfold frs;rw [List.filterMap_cons,hf];exact qmA _ hb)) hr⟩
 exact all X.outer (fun _ hb=>hb) I.ok.funs
theorem Inv.stack (I:Inv X pins σ H s):s.heap.FunFrames X.base X.stack:=by
 rcases I.ok.stk with e | ⟨e,hf⟩
 ·rw [e];exact I.funs
 ·rw [e];obtain ⟨m,hn,_⟩:=I.loc;refine .cons (by rw [I.ok.kind];decide) hf hn ?_ I.funs;exact Heap.get?_none_of_le (qtA I.ok.bsz I.ok.above)
theorem Inv.stkSub (I:Inv X pins σ H s):∀ b∈frs X.stack,b∈X.env.locals::X.fs:=fun b hb=>by
 rcases I.ok.stk with e | ⟨e,hf⟩
 ·rw [e] at hb;exact qmA _ hb
 ·rw [e] at hb;unfold frs at hb;rw [List.filterMap_cons,hf] at hb;exact hb
theorem Inv.stkFree (I:Inv X pins σ H s):∀ b∈frs X.stack,H b=none:=fun b hb=>by
 rcases qiA.mp (I.stkSub b hb) with e|hb
 ·rw [e];exact I.free
 ·obtain ⟨_,o,ho,_⟩:=I.ok.funs.mem hb;exact I.base.free b o ho (I.ok.frf b hb) fun z=>I.ok.exfs b z hb
theorem Inv.step {g':Array GenState}{t':Nat}{d':Drawn}{ch:List Addr}(I:Inv X pins σ H s)
  (hch:∀ b∈ch,(b∈X.ex\/X.s₀.heap.objs.size<=b)/\b≠X.env.locals/\(∀ x c,X.env.cells.lookup x=some c->c≠b)/\∀ p∈X.pn++pins,p.1≠b)
  (keep:∀ b o,b≠X.env.locals->b ∉ X.fs->b ∉ ch->s.heap.get? b=some o->H b=none->h'.get? b=some o)
  (slot:∀ b o,b≠X.env.locals->b∈X.fs->b ∉ ch->s.heap.get? b=some o->H b=none->∃ sl,h'.get? b=some { o with slots:=sl }) (free:∀ b o,b ∉ ch->s.heap.get? b=some o->H b=none->H' b=none)
  (there:∀ b o,b ∉ ch->s.heap.get? b=some o->∃ o',h'.get? b=some o')
  (tups:∀ b xs,H b=some (.tup xs)->H' b=some (.tup xs)) (frzs:∀ b o u,H b=some (.frz o u)->H' b=some (.frz o u)) (tbls:∀ b ps,H b=some (.tbl ps)->∃ more,H' b=some (.tbl (ps++more)))
  (ns:∀ m,s.heap.Ns X.env.locals m->h'.Ns X.env.locals m) (hok:HOk X.prog X.w H' h') (hg:AllBare g') :
  Inv X pins σ H' { s with heap:=h',gens:=g',drawn:=d',toks:=t' }:=by
 have neL:∀ b o,X.s₀.heap.get? b=some o->b≠X.env.locals:=fun b o e=>qoB (qqB (qwA e) I.ok.above)
 have neC:∀ b o,X.s₀.heap.get? b=some o->b ∉ X.ex->b ∉ ch:=fun b o e hx hb=>by
  rcases (hch b hb).1 with z|z
  ·exact hx z
  ·exact absurd (qqB (qwA e) z) (quA _)
 have cellK:∀ x c,X.env.cells.lookup x=some c->∀ v,s.heap.IsCell c v->h'.IsCell c v:=fun x c e v ⟨o,ho,hd⟩=>by
  have nch:c ∉ ch:=fun z=>(hch c z).2.2.1 x c e rfl;by_cases hc:c∈X.fs
  ·obtain ⟨sl,q⟩:=slot c o (I.cne x c e) hc nch ho (I.freeC x c e);exact ⟨_,q,hd⟩
  ·exact ⟨o,keep c o (I.cne x c e) hc nch ho (I.freeC x c e),hd⟩
 refine ⟨I.ok,I.os,hg,⟨fun b o e n hb hx=>?_,fun b o e n hb hx=>?_,fun b o e n hx=>?_,fun b o e hx=>?_,fun b xs e=>tups b xs (I.base.tups b xs e),fun b o xs e=>frzs b o xs (I.base.frzs b o xs e),fun b ps e=>?_⟩,?_,fun x c e=>?_,?_,fun x c e=>?_,fun p hp=>?_,hok,I.len⟩
 ·exact keep b o (neL b o e) hb (neC b o e hx) (I.base.keep b o e n hb hx) (I.base.free b o e n hx)
 ·obtain ⟨sl,e1⟩:=I.base.slot b o e n hb hx;obtain ⟨sl',e2⟩:=slot b _ (neL b o e) hb (neC b o e hx) e1 (I.base.free b o e n hx);exact ⟨sl',e2⟩
 ·obtain ⟨o',e1⟩:=I.base.there b o e hx;exact free b o' (neC b o e hx) e1 (I.base.free b o e n hx)
 ·obtain ⟨o',e1⟩:=I.base.there b o e hx;exact there b o' (neC b o e hx) e1
 ·obtain ⟨m1,e1⟩:=I.base.tbls b ps e;obtain ⟨m2,e2⟩:=tbls b _ e1;exact ⟨m1++m2,by rw [e2,Array.append_assoc]⟩
 ·obtain ⟨m,hn,hl⟩:=I.loc;refine ⟨m,ns m hn,fun i x v e1 e2 e3=>?_⟩;obtain ⟨u,r,l⟩:=hl i x v e1 e2 e3;refine ⟨u,r,?_⟩;rcases l with l | ⟨k,c,e,z⟩
  ·exact .inl l
  ·exact .inr ⟨k,c,e,cellK x c e _ z⟩
 ·obtain ⟨v,z⟩:=I.cell x c e;exact ⟨v,cellK x c e v z⟩
 ·obtain ⟨m,⟨o,_,_,ho,_⟩,_⟩:=I.loc;exact free _ o (fun z=>(hch _ z).2.1 rfl) ho I.free
 ·obtain ⟨v,o,ho,hd⟩:=I.cell x c e;exact free c o (fun z=>(hch c z).2.2.1 x c e rfl) ho (I.freeC x c e)
 ·obtain ⟨e,n,ne,nf,d⟩:=I.pin p hp;have nch:p.1 ∉ ch:=fun z=>(hch p.1 z).2.2.2 p hp rfl;exact ⟨keep p.1 p.2 ne nf nch e n,free p.1 p.2 nch e n,ne,nf,d⟩
theorem Inv.un {t':Nat}(I:Inv X pins σ H s)(u:Un X.fs [] H H' s.heap h')(hok:HOk X.prog X.w H' h'):Inv X pins σ H' { s with heap:=h',toks:=t' }:=by
 obtain ⟨m,⟨o,es,ep,ho,r⟩,_⟩:=id I.loc;obtain ⟨sl,hL⟩:=u.any ho I.free (by simp)
 exact I.step (g':=s.gens) (d':=s.drawn) (ch:=[]) (fun _ z=>nomatch z) (fun b o _ hb _ e n=>u.keep b o e n hb (by simp)) (fun b o _ hb _ e n=>u.slot b o e n hb (by simp)) (fun b o _ e n=>u.free b o e n (by simp)) (fun b o _ e=>u.there b o e (by simp)) u.tups u.frzs u.tbls (fun m' hm=>by
  obtain ⟨o',es',ep',ho',r'⟩:=hm;rw [ho] at ho';cases ho'
  exact ⟨_,es',ep',hL,r'⟩) hok I.bare
theorem Inv.call {g':Array GenState}{t':Nat}{d':Drawn}{ch:List Addr}(I:Inv X pins σ H s)(u:Un (frs X.stack) ch H H' s.heap h')(hok:HOk X.prog X.w H' h')(hg:AllBare g')
  (hch:∀ b∈ch,(b∈X.ex\/X.s₀.heap.objs.size<=b)/\b≠X.env.locals/\(∀ x c,X.env.cells.lookup x=some c->c≠b)/\∀ p∈X.pn++pins,p.1≠b) :
  Inv X pins σ H' { s with heap:=h',gens:=g',drawn:=d',toks:=t' }:=by
 obtain ⟨m,⟨o,es,ep,ho,r⟩,_⟩:=id I.loc;obtain ⟨sl,hL⟩:=u.any ho I.free fun z=>(hch _ z).2.1 rfl
 exact I.step (ch:=ch) hch (fun b o hL hb hc e n=>u.keep b o e n (fun z=>(qiA.mp (I.stkSub b z)).elim hL hb) hc) (fun b o _ _ hc e n=>u.any e n hc) (fun b o hc e n=>u.free b o e n hc) (fun b o hc e=>u.there b o e hc) u.tups u.frzs u.tbls (fun m' hm=>by
  obtain ⟨o',es',ep',ho',r'⟩:=hm;rw [ho] at ho';cases ho'
  exact ⟨_,es',ep',hL,r'⟩) hok hg
theorem Inv.turned {t':Nat}{it:Addr}(I:Inv X pins σ H s)(k:∀ b o,b≠it->s.heap.get? b=some o->h'.get? b=some o)(hn:H it=none)(hL:it≠X.env.locals)
  (h1:it∈X.ex\/X.s₀.heap.objs.size<=it) (h2:∀ x c,X.env.cells.lookup x=some c->c≠it) (h3:∀ p∈X.pn++pins,p.1≠it):Inv X pins σ H { s with heap:=h',toks:=t' }:=by
 have nit:∀ b u,H b=some u->b≠it:=fun b u e z=>by rw [z,hn] at e;cases e
 refine I.step (g':=s.gens) (d':=s.drawn) (ch:=[it]) (fun b hb=>?_) (fun b o _ _ hc e _=>k b o (fun z=>hc (by simp [z])) e) (fun b o _ _ hc e _=>⟨o.slots,k b o (fun z=>hc (by simp [z])) e⟩) (fun _ _ _ _ n=>n)
  (fun b o hc e=>⟨o,k b o (fun z=>hc (by simp [z])) e⟩) (fun _ _ e=>e) (fun _ _ _ e=>e) (fun b ps e=>⟨#[],by rw [e];simp⟩) (fun m hm=>?_) (fun b u e=>?_) I.bare
 ·have e:b=it:=by simpa using hb
  subst e;exact ⟨h1,hL,h2,h3⟩
 ·obtain ⟨o,es,ep,ho,r⟩:=hm;exact ⟨o,es,ep,k _ o (Ne.symm hL) ho,r⟩
 ·refine (I.hok b u e).stay (fun c v hc q=>k c v ?_ q) (fun _ q=>q) fun _ _ q=>q;rcases hc with z|z
  ·rw [z];exact nit b u e
  ·exact nit c _ z
theorem Inv.tok (I:Inv X pins σ H s)(t:Nat):Inv X pins σ H { s with toks:=t }:=I.un (h':=s.heap) (t':=t) Un.refl I.hok
theorem Inv.kept {t':Nat}(I:Inv X pins σ H s)(k:∀ b u,s.heap.get? b=some u->h'.get? b=some u):Inv X pins σ H { s with heap:=h',toks:=t' }:=I.un (Un.kept k) (I.hok.kept k)
theorem Inv.laid {a:Addr}{o:HO}{t':Nat}(I:Inv X pins σ H s)(k:∀ b u,s.heap.get? b=some u->h'.get? b=some u)(hp:s.heap.objs.size<=a)(new:ObjOk X.prog X.w (upd H a o) h' a o) :
  Inv X pins σ (upd H a o) { s with heap:=h',toks:=t' }:=I.un (Un.laid k hp (I.hok.fresh hp)) (I.hok.laid k hp new)
theorem Inv.write {x e:Addr}{o:HO}{t':Nat}(I:Inv X pins σ H s)(mu:Mut (H x))(he:e=x\/H e=some (.own x))(k:∀ b u,b≠e->s.heap.get? b=some u->h'.get? b=some u)(heo:∃ u,h'.get? e=some u)
  (new:ObjOk X.prog X.w (upd H x o) h' x o):Inv X pins σ (upd H x o) { s with heap:=h',toks:=t' }:=I.un (Un.write mu he k heo) (I.hok.write mu he k heo new)
theorem Inv.weak {σ':List (Option V)}(I:Inv X pins σ H s)(hl:σ'.length=σ.length)(w:∀ (i:Nat) v,σ'[i]? = some (some v)->σ[i]? = some (some v)):Inv X pins σ' H s :=
 ⟨I.ok,I.os,I.bare,I.base,let ⟨m,hn,hl'⟩:=I.loc;⟨m,hn,fun i x v e1 e2 e3=>hl' i x v e1 (w i v e2) e3⟩,I.cell,I.free,I.freeC,I.pin,I.hok,hl.trans I.len⟩
theorem Inv.pins_of {pins':List (Addr × Obj)}(I:Inv X pins σ H s)(h:∀ p∈pins',s.heap.get? p.1=some p.2/\H p.1=none/\p.1≠X.env.locals/\p.1 ∉ X.fs/\∀ v,p.2.data ≠ .cell v):Inv X pins' σ H s :=
 ⟨I.ok,I.os,I.bare,I.base,I.loc,I.cell,I.free,I.freeC,fun p hp=>(qhA.mp hp).elim (fun z=>I.pin p (List.mem_append_left _ z)) (h p),I.hok,I.len⟩
theorem HM {N:List Str}(hN:N.Nodup){i j:Nat}{x:Str}(a:N[i]? = some x)(b:N[j]? = some x):i=j:=by
 obtain ⟨h1,e1⟩:=qoA.mp a;obtain ⟨h2,e2⟩:=qoA.mp b;exact (List.getElem_inj hN).mp (e1.trans e2.symm)
theorem M0 {M:Model}{A:Around}{E:Value->Shared->Prop}{i:Nat}{x:Str}{v:V}{u:Value}{Q:Unit->Shared->Prop}(I:Inv X pins σ H s)(hN:X.N.Nodup)(hi:X.N[i]? = some x)(hx:Loc X.env.scope x)(r:RelV v u)
  (h:∀ s',Inv X pins (σ.set i (some v)) H s'->(∃ a,Heap.SameBut a s.heap s'.heap/\(a=X.env.locals\/X.env.cells.lookup x=some a))->Q () s') (hf:X.fn x=true\/X.env.scope.names.lookup x=some .local := by first|exact .inl rfl|exact .inr rfl|assumption):wpAny M A (storeName X.env x u) Q E s:=by
 obtain ⟨m,hn,hl⟩:=id I.loc;have hcls:(X.env.scope.kind == .class || (X.env.scope.kind == .module && X.env.locals != X.env.globals))=false:=by rw [I.ok.kind];rfl
 have hiσ:i<σ.length:=by rw [I.len];exact (qoA.mp hi).1
 have cne:=I.cne
 have tracked:∀ {a:Addr}{h':Heap},(∃ o,s.heap.get? a=some o/\H a=none)->Heap.SameBut a s.heap h'->HOk X.prog X.w H h':=fun {a h'} ha hs b ob e=>by
  obtain ⟨_,_,hfree⟩:=ha;refine (I.hok b ob e).stay (fun c w' hc q=>(hs.2 c ?_).trans q) (fun _ q=>q) fun _ _ q=>q;rintro rfl;rcases hc with rfl|hc
  ·rw [hfree] at e;cases e
  ·rw [hfree] at hc;cases hc
 rcases hx with hk|hk
 ·refine wpAny_storeName_local hk hn (fun h' hn' hs=>?_) hcls;obtain ⟨oL,_,_,hoL,_⟩:=id hn;refine h _ ⟨I.ok,I.os,I.bare,⟨fun b o e n hb hx=>?_,fun b o e n hb hx=>?_,I.base.free,fun b o e hx=>?_,I.base.tups,I.base.frzs,I.base.tbls⟩,⟨_,hn',fun j y v' e1 e2 e3=>?_⟩,fun y c e=>?_,I.free,I.freeC,fun p hp=>?_,tracked ⟨oL,hoL,I.free⟩ hs,by simpa using I.len⟩ ⟨_,hs,.inl rfl⟩
  ·exact (hs.2 b (qoB (qqB (qwA e) I.ok.above))).trans (I.base.keep b o e n hb hx)
  ·obtain ⟨sl,e1⟩:=I.base.slot b o e n hb hx;exact ⟨sl,(hs.2 b (qoB (qqB (qwA e) I.ok.above))).trans e1⟩
  ·obtain ⟨o',e1⟩:=I.base.there b o e hx;exact ⟨o',(hs.2 b (qoB (qqB (qwA e) I.ok.above))).trans e1⟩
  ·by_cases hj:j=i
   ·subst hj;rw [hi] at e1;cases e1;rw [List.getElem?_set_self hiσ] at e2;cases e2;exact ⟨u,r,.inl ⟨hk,by simp⟩⟩
   ·rw [List.getElem?_set_ne (Ne.symm hj)] at e2;obtain ⟨u',r',q⟩:=hl j y v' e1 e2 e3;refine ⟨u',r',?_⟩;rcases q with ⟨k,e⟩ | ⟨k,c,e,z⟩
    ·refine .inl ⟨k,?_⟩;have:y≠x:=fun e=>hj (HM hN e1 (e ▸ hi));simp [this,e]
    ·exact .inr ⟨k,c,e,z.sameBut hs (cne y c e)⟩
  ·obtain ⟨w',z⟩:=I.cell y c e;exact ⟨w',z.sameBut hs (cne y c e)⟩
  ·obtain ⟨e,n,ne,nf,d⟩:=I.pin p hp;exact ⟨(hs.2 p.1 ne).trans e,n,ne,nf,d⟩
 ·have hfn:X.fn x=true:=by
   rcases hf with z|z
   ·exact z
   ·rw [z] at hk;cases hk
  obtain ⟨c,hc⟩:=I.ok.has x (.inl hk);obtain ⟨w',z⟩:=I.cell x c hc;refine wpAny_storeName_cell I.ok.kind hk hc z (fun h' hc' hs=>?_);obtain ⟨oc,hoc,hocd⟩:=id z;refine h { s with heap:=h' } ⟨I.ok,I.os,I.bare,⟨fun b o e n hb hx=>?_,fun b o e n hb hx=>?_,I.base.free,fun b o e hx=>?_,I.base.tups,I.base.frzs,I.base.tbls⟩,⟨m,hn.sameBut hs (Ne.symm (cne x c hc)),fun j y v' e1 e2 e3=>?_⟩,fun y c' e=>?_,I.free,I.freeC,fun p hp=>?_,tracked ⟨oc,hoc,I.freeC x c hc⟩ hs,by simpa using I.len⟩ ⟨c,hs,.inr hc⟩
  ·exact (hs.2 b (qoB (qqB (qwA e) (I.ok.cab x c hfn hc)))).trans (I.base.keep b o e n hb hx)
  ·obtain ⟨sl,e1⟩:=I.base.slot b o e n hb hx;exact ⟨sl,(hs.2 b (qoB (qqB (qwA e) (I.ok.cab x c hfn hc)))).trans e1⟩
  ·obtain ⟨o',e1⟩:=I.base.there b o e hx;exact ⟨o',(hs.2 b (qoB (qqB (qwA e) (I.ok.cab x c hfn hc)))).trans e1⟩
  ·by_cases hj:j=i
   ·subst hj;rw [hi] at e1;cases e1;rw [List.getElem?_set_self hiσ] at e2;cases e2;exact ⟨u,r,.inr ⟨.inl hk,c,hc,hc'⟩⟩
   ·rw [List.getElem?_set_ne (Ne.symm hj)] at e2;obtain ⟨u',r',q⟩:=hl j y v' e1 e2 e3;refine ⟨u',r',?_⟩;rcases q with q | ⟨k,c',e,z'⟩
    ·exact .inl q
    ·refine .inr ⟨k,c',e,z'.sameBut hs ?_⟩;rintro rfl;exact hj (HM hN e1 (I.ok.inj _ _ _ e hc ▸ hi))
  ·by_cases hcc:c'=c
   ·subst hcc;exact ⟨_,hc'⟩
   ·obtain ⟨w2,z2⟩:=I.cell y c' e;exact ⟨w2,z2.sameBut hs hcc⟩
  ·obtain ⟨e,n,ne,nf,d⟩:=I.pin p hp;refine ⟨(hs.2 p.1 ?_).trans e,n,ne,nf,d⟩;intro q;rw [q,hoc] at e;have q':oc=p.2:=qvA e;exact d w' (by rw [<- q'];exact hocd)
theorem ET {M:Model}{A:Around}{E:Value->Shared->Prop}{i:Nat}{x:Str}{v:V}{u:Value}{Q:Unit->Shared->Prop}(I:Inv X pins σ H s)(hN:X.N.Nodup)(hi:X.N[i]? = some x)(hx:Loc X.env.scope x)(r:RelV v u)
  (h:∀ s',Inv X pins (σ.set i (some v)) H s'->Q () s') (hf:X.fn x=true\/X.env.scope.names.lookup x=some .local := by first|exact .inl rfl|exact .inr rfl|assumption):wpAny M A (storeName X.env x u) Q E s :=
 M0 I hN hi hx r (fun s' I' _=>h s' I') hf
theorem Inv.call' {s':Shared}{ch:List Addr}(I:Inv X pins σ H s)(ho:s'.os=s.os)(u:Un (frs X.stack) ch H H' s.heap s'.heap)(hok:HOk X.prog X.w H' s'.heap)(hg:AllBare s'.gens)
  (hch:∀ b∈ch,(b∈X.ex\/X.s₀.heap.objs.size<=b)/\b≠X.env.locals/\(∀ x c,X.env.cells.lookup x=some c->c≠b)/\∀ p∈X.pn++pins,p.1≠b):Inv X pins σ H' s':=by
 obtain ⟨h',g',d',t',o'⟩:=s';have e:o'=s.os:=ho;subst e;exact I.call (g':=g') (t':=t') (d':=d') u hok hg hch
end
abbrev XK:=Value->Option Addr->Hp->Prop
abbrev St:=List (Option V)
abbrev VK:=V->Hp->Prop
abbrev TE:=St->Hp->VK->Prop
abbrev TT:=St->Hp->(Bool->Hp->Prop)->Prop
abbrev TA:=St->Hp->(List V->Hp->Prop)->Prop
structure Ends where
 nx:St->Hp->Prop
 rt:VK
 bk:St->Hp->Prop:=fun _ _=>False
 ct:St->Hp->Prop:=fun _ _=>False
abbrev TS:=Ends->St->Hp->Prop
def EP (X:Cx)(pins:List (Addr × Obj))(σ:St)(Q:VK)(u:Value)(s':Shared):Prop:=∃ v H',Inv X pins σ H' s'/\RelV v u/\Q v H'
def TP (X:Cx)(pins:List (Addr × Obj))(σ:St)(Q:Bool->Hp->Prop)(b:Bool)(s':Shared):Prop:=∃ H',Inv X pins σ H' s'/\Q b H'
def AP (X:Cx)(pins:List (Addr × Obj))(σ:St)(Q:List V->Hp->Prop)(us:List Value)(s':Shared):Prop:=∃ vs H',Inv X pins σ H' s'/\Vals vs us/\Q vs H'
def SP (X:Cx)(pins:List (Addr × Obj))(D:Ends)(f:Flow)(s':Shared):Prop :=
 match f with
 | .next=>∃ σ' H',Inv X pins σ' H' s'/\D.nx σ' H'
 | .brk=>∃ σ' H',Inv X pins σ' H' s'/\D.bk σ' H'
 | .cont=>∃ σ' H',Inv X pins σ' H' s'/\D.ct σ' H'
 | .ret u=>∃ v σ' H',Inv X pins σ' H' s'/\RelV v u/\D.rt v H'
def PE (X:Cx)(e:Expr)(t:TE):Prop :=
 ∀ (pins:List (Addr × Obj)) (s:Shared) (σ:St) (H:Hp) (Q:VK),Inv X pins σ H s->t σ H Q->wpAny (model X.prog X.w) X.A (eval e X.env) (EP X pins σ Q) X.xe s
def PT (X:Cx)(e:Expr)(t:TT):Prop :=
 ∀ (pins:List (Addr × Obj)) (s:Shared) (σ:St) (H:Hp) (Q:Bool->Hp->Prop),Inv X pins σ H s->t σ H Q->wpAny (model X.prog X.w) X.A (isTrue e X.env (eval e X.env)) (TP X pins σ Q) X.xe s
def PW (X:Cx)(e:Expr)(t:TT):Prop :=
 ∀ (whole:Sem Value) (pins:List (Addr × Obj)) (s:Shared) (σ:St) (H:Hp) (Q:Bool->Hp->Prop),Inv X pins σ H s->t σ H Q->wpAny (model X.prog X.w) X.A (isTrue e X.env whole) (TP X pins σ Q) X.xe s
theorem PW.pt {X:Cx}{e:Expr}{t:TT}(h:PW X e t):PT X e t:=h _
def PA (X:Cx)(es:List Expr)(t:TA):Prop :=
 ∀ (pos:Pos) (pins:List (Addr × Obj)) (s:Shared) (σ:St) (H:Hp) (Q:List V->Hp->Prop),Inv X pins σ H s->t σ H Q->wpAny (model X.prog X.w) X.A (spliced (backTo pos (starEach es X.env))) (AP X pins σ Q) X.xe s
def PS (X:Cx)(st:Stmt)(t:TS):Prop :=
 ∀ (pins:List (Addr × Obj)) (s:Shared) (σ:St) (H:Hp) (D:Ends),Inv X pins σ H s->t D σ H->wpAny (model X.prog X.w) X.A (exec st X.env) (SP X pins D) X.xe s
def PSs (X:Cx)(st:List Stmt)(t:TS):Prop :=
 ∀ (pins:List (Addr × Obj)) (s:Shared) (σ:St) (H:Hp) (D:Ends),Inv X pins σ H s->t D σ H->wpAny (model X.prog X.w) X.A (execs st X.env) (SP X pins D) X.xe s
theorem thn {α:Type}{t:Sem α}{Q Q':α->Shared->Prop}{M:Model}{A:Around}{E:Value->Shared->Prop}{s:Shared}(h:wpAny M A t Q E s)(hQ:∀ a s,Q a s->Q' a s):wpAny M A t Q' E s:=wpAny_mono h hQ fun _ _ x=>x
section
variable {X:Cx}
abbrev Fa (i:Nat):TE:=fun σ H Q=>∃ v,σ[i]? = some (some v)/\Q v H
abbrev tC (v:V):TE:=fun _ H Q=>Q v H
theorem pe_var {i:Nat}{x:Str}{pos:Pos}(hN:X.N[i]? = some x)(hv:Vis X.env.scope x)(hd:(x == ("__debug__" : Str))=false:=by decide)(hcd:(x == ("__classdict__" : Str))=false:=by decide):PE X (.Name x pos) (Fa i):=by
 intro pins s σ H Q I h;obtain ⟨v,e,h⟩:=h;obtain ⟨m,hn,hl⟩:=I.loc;obtain ⟨u,r,l⟩:=hl i x v hN e hv;have fin:EP X pins σ Q u s:=⟨v,H,I,r,h⟩;rcases l with ⟨hk,hm⟩ | ⟨hk,c,hc,hcell⟩
 ·exact wpAny_Name (wpAny_loadName_local I.ok.kind hk hn hm fin) hd
 ·rcases hk with hk|hk
  ·exact wpAny_Name (wpAny_loadName_cell I.ok.kind hk hc hcell fin) hd
  ·exact wpAny_Name (wpAny_loadName_free I.ok.kind hk hc hcell fin hcd) hd
theorem A5 {i j pos}:PE X (.Constant (.int i) j pos) (tC (.int i)):=fun _ _ _ H _ I h=>wpAny_Constant_int ⟨.int i,H,I.tok _,⟨_,rfl⟩,h⟩
theorem E8 {b j pos}:PE X (.Constant (.bool b) j pos) (tC (.bl b)):=fun _ _ _ H _ I h=>Constant_bool ⟨.bl b,H,I,rfl,h⟩
theorem Cq {j pos}:PE X (.Constant .none j pos) (tC .non):=fun _ _ _ H _ I h=>Constant_none ⟨.non,H,I,rfl,h⟩
theorem AH {x j pos}:PE X (.Constant (.str x) j pos) (tC (.str x)):=fun _ _ _ H _ I h=>Calls.Constant_str ⟨.str x,H,I.tok _,⟨_,rfl⟩,h⟩
def Gl (X:Cx)(x:Str):Prop:=X.env.kindOf x=some .globalImplicit
theorem D4 {E:Value->Shared->Prop}{pins:List (Addr × Obj)}{s:Shared}{σ:St}{H:Hp}{x:Str}{u:Value}{pos:Pos}{Q:Value->Shared->Prop}(I:Inv X pins σ H s)(hg:Gl X x)(hm:X.mg x=some u)(h:Q u s)
  (hd:(x == ("__debug__" : Str))=false:=by decide):wpAny (model X.prog X.w) X.A (eval (.Name x pos) X.env) Q E s :=
 Calls.Name_function_global I.ok.kind hg (Calls.loadGlobal_global (by rw [I.ok.glob];exact I.mod.glob.keeps I.bk) hm h) hd
theorem JM {E:Value->Shared->Prop}{pins:List (Addr × Obj)}{s:Shared}{σ:St}{H:Hp}{x:Str}{u:Value}{pos:Pos}{Q:Value->Shared->Prop}(I:Inv X pins σ H s)(hg:Gl X x)(hm:X.mg x=none)(hv:bootBuiltins x=some u)(h:Q u s)
  (hn:x ≠ "__name__" := by decide) (hd:(x == ("__debug__" : Str))=false:=by decide):wpAny (model X.prog X.w) X.A (eval (.Name x pos) X.env) Q E s:=by
 obtain ⟨mb,h1,h2⟩:=I.mod.blt;exact Calls.Name_function_global I.ok.kind hg (Calls.loadGlobal_builtin (by rw [I.ok.glob];exact I.mod.glob.keeps I.bk) hm (by rw [I.ok.blt];exact h1.keeps I.bk) ((h2 x hn).trans hv) h) hd
theorem D3 {x:Str}{v:V}{u:Value}{pos:Pos}(hg:Gl X x)(hm:X.mg x=some u)(r:RelV v u)(hd:(x == ("__debug__" : Str))=false:=by decide):PE X (.Name x pos) (tC v) :=
 fun _ _ _ H _ I h=>D4 I hg hm ⟨v,H,I,r,h⟩ hd
theorem Ef {x:Str}{v:V}{u:Value}{pos:Pos}(hg:Gl X x)(hm:X.mg x=none)(hv:bootBuiltins x=some u)(r:RelV v u)(hn:x ≠ "__name__" := by decide)(hd:(x == ("__debug__" : Str))=false:=by decide):PE X (.Name x pos) (tC v) :=
 fun _ _ _ H _ I h=>JM I hg hm hv ⟨v,H,I,r,h⟩ hn hd
variable {a b:Expr}{ta tb:TE}{pos:Pos}
def PC (X:Cx)(op:CmpOp)(a b:Expr)(t:TE):Prop :=
 ∀ (pins:List (Addr × Obj)) (s:Shared) (σ:St) (H:Hp) (Q:VK),Inv X pins σ H s->t σ H Q ->
  wpAny (model X.prog X.w) X.A (eval a X.env) (fun v s₁=>wpAny (model X.prog X.w) X.A (eval b X.env) (fun u s₂=>wpAny (model X.prog X.w) X.A (compareOp op v u) (EP X pins σ Q) X.xe s₂) X.xe s₁) X.xe s
theorem pe_cmp {op:CmpOp}{t:TE}(h:PC X op a b t)(h1:behindInMarks op b=false:=by first|exact nobehind _ (by decide) (by decide)|rfl):PE X (.Compare a [op] [b] pos) t:=fun pins s σ H Q I hw=>wpAny_Compare1 (h pins s σ H Q I hw) h1
variable {tA tB':TT}{rest:List Expr}
abbrev tAnd (t u:TT):TT:=fun σ H Q=>t σ H fun c H1=>if c=true then u σ H1 Q else Q false H1
abbrev tOr (t u:TT):TT:=fun σ H Q=>t σ H fun c H1=>if c=true then Q true H1 else u σ H1 Q
abbrev tNot (t:TT):TT:=fun σ H Q=>t σ H fun c H1=>Q (!c) H1
theorem FZ (ha:PT X a tA):PW X (.BoolOp .And [a] pos) tA:=by
 intro wh pins s σ H Q I h;refine isTrue_and (thn (ha pins s σ H Q I h) fun c s1 e=>?_)
 cases c with
 | true=>exact isTrue_and_nil e
 | false=>exact e
theorem Fs (ha:PT X a tA):PW X (.BoolOp .Or [a] pos) tA:=by
 intro wh pins s σ H Q I h;refine isTrue_or (thn (ha pins s σ H Q I h) fun c s1 e=>?_)
 cases c with
 | false=>exact isTrue_or_nil e
 | true=>exact e
theorem HH (ha:PT X a tA)(hb:PW X (.BoolOp .And (b::rest) pos) tB'):PW X (.BoolOp .And (a::b::rest) pos) (tAnd tA tB'):=by
 intro wh pins s σ H Q I h;refine isTrue_and (thn (ha pins s σ H _ I h) fun c s1 ⟨H1,I1,q1⟩=>?_)
 cases c with
 | true=>exact hb wh pins s1 σ H1 Q I1 q1
 | false=>exact ⟨H1,I1,q1⟩
theorem FM (ha:PT X a tA)(hb:PW X (.BoolOp .Or (b::rest) pos) tB'):PW X (.BoolOp .Or (a::b::rest) pos) (tOr tA tB'):=by
 intro wh pins s σ H Q I h;refine isTrue_or (thn (ha pins s σ H _ I h) fun c s1 ⟨H1,I1,q1⟩=>?_)
 cases c with
 | true=>exact ⟨H1,I1,q1⟩
 | false=>exact hb wh pins s1 σ H1 Q I1 q1
theorem Fy (ha:PT X a tA):PT X (.UnaryOp .Not a pos) (tNot tA):=by
 intro pins s σ H Q I h;exact isTrue_not (ha pins s σ H (fun c H1=>Q (!c) H1) I h)
abbrev tAndV (ta tb:TE):TE:=fun σ H Q=>ta σ H fun x H1=>∃ c,x = .bl c/\if c=true then tb σ H1 Q else Q (.bl false) H1
theorem JS {op}{t:TE}(h:PE X a t):PE X (.BoolOp op [a] pos) t:=fun pins s σ H Q I hw=>BoolOp_one (h pins s σ H Q I hw)
theorem Ie (ha:PE X a ta)(hb:PE X (.BoolOp .And (b::rest) pos) tb):PE X (.BoolOp .And (a::b::rest) pos) (tAndV ta tb):=by
 intro pins s σ H Q I h;refine BoolOp_and (thn (ha pins s σ H _ I h) fun v s1 ⟨x,H1,I1,r1,q1⟩=>?_);obtain ⟨c,rfl,q1⟩:=q1;cases r1;refine wpAny_truthy_bool ?_
 cases c with
 | true=>exact hb pins s1 σ H1 Q I1 q1
 | false=>exact ⟨.bl false,H1,I1,rfl,q1⟩
def tIf (t:TT)(ta tb:TE):TE:=fun σ H Q=>t σ H fun c H1=>if c=true then ta σ H1 Q else tb σ H1 Q
theorem pe_ifExp {c:Expr}(hc:PT X c tA)(ha:PE X a ta)(hb:PE X b tb):PE X (.IfExp c a b pos) (tIf tA ta tb):=by
 intro pins s σ H Q I h;refine wpAny_IfExp (thn (hc pins s σ H _ I h) fun d s1 ⟨H1,I1,q1⟩=>?_)
 cases d with
 | true=>exact ha pins s1 σ H1 Q I1 q1
 | false=>exact hb pins s1 σ H1 Q I1 q1
end
def SqL (K:FZ9)(H:Hp)(a:Addr)(xs:List V):Prop :=
 Rd H a (.lst xs) \/
  ∃ (o:Obj) (its:Array Value) (n:Nat),K.lookup a=some o/\o.cls = .type "list" /\ o.dict=none/\o.data = .seq its n/\its.size<=sizeLine/\Vals xs its.toList
def SqT (K:FZ9)(H:Hp)(a:Addr)(xs:List V):Prop :=
 Rd H a (.tup xs) \/
  ∃ (o:Obj) (its:Array Value) (n:Nat),K.lookup a=some o/\o.cls = .type "tuple" /\ o.data = .seq its n/\its.size<=sizeLine/\Vals xs its.toList
def absV:Value->Option V
 | .none=>some .non
 | .bool b=>some (.bl b)
 | .int i _=>some (.int i)
 | .str x _=>some (.str x)
 | .bytes b _=>some (.byt b)
 | .float b _=>some (.flt b)
 | .ref a=>some (.ref a)
 | .type n=>some (.ty n)
 | _=>none
theorem RelV.abs {x:V}{u:Value}(r:RelV x u):absV u=some x:=by
 cases x with
 | non=>cases r;rfl
 | bl _=>cases r;rfl
 | int _=>obtain ⟨t,rfl⟩:=r;rfl
 | str _=>obtain ⟨t,rfl⟩:=r;rfl
 | byt _=>obtain ⟨t,rfl⟩:=r;rfl
 | flt _=>obtain ⟨t,rfl⟩:=r;rfl
 | ref _=>cases r;rfl
 | ty _=>cases r;rfl
theorem RelV.inj {x y:V}{u:Value}(r:RelV x u)(q:RelV y u):x=y:=qvA (r.abs.symm.trans q.abs)
theorem Vals.inj:∀ {xs ys:List V}{us:List Value},Vals xs us->Vals ys us->xs=ys
 | _,_,_,.nil,.nil=>rfl
 | _,_,_,.cons r t,.cons r' t'=>by rw [r.inj r',Vals.inj t t']
section
variable {X:Cx}{pins:List (Addr × Obj)}{σ:St}{H:Hp}{s:Shared}{a:Addr}{xs ys:List V}
theorem SqL.of {K:FZ9}(h:H a=some (.lst xs)):SqL K H a xs:=.inl (.inl h)
theorem SqT.of {K:FZ9}(h:H a=some (.tup xs)):SqT K H a xs:=.inl (.inl h)
theorem Inv.list (I:Inv X pins σ H s)(h:SqL X.K H a xs):∃ its:List Value,Vals xs its/\PlainL s.heap a its.toArray/\xs.length<=sizeLine:=by
 rcases h with h | ⟨o,its,n,hk,hc,hd,hs,hz,r⟩
 ·obtain ⟨z,its,n,r,e⟩:=h.ok I.hok;exact ⟨its,r,⟨_,n,e,rfl,rfl,rfl⟩,z⟩
 ·refine ⟨its.toList,r,⟨o,n,I.kIn a o hk,hc,hd,by simpa using hs⟩,?_⟩;have e:=r.length;simp only [qnB] at e;omega
theorem Inv.tuple (I:Inv X pins σ H s)(h:SqT X.K H a xs):∃ its:List Value,Vals xs its/\IsTup s.heap a its.toArray/\xs.length<=sizeLine:=by
 rcases h with h | ⟨o,its,n,hk,hc,hs,hz,r⟩
 ·obtain ⟨z,its,r,p⟩:=h.ok I.hok;exact ⟨its,r,p,z⟩
 ·refine ⟨its.toList,r,⟨o,I.kIn a o hk,hc,n,by simpa using hs⟩,?_⟩;have e:=r.length;simp only [qnB] at e;omega
theorem Inv.list_inj (I:Inv X pins σ H s)(h:SqL X.K H a xs)(h':SqL X.K H a ys):xs=ys:=by
 obtain ⟨its,r,⟨o,n,e,_,_,d⟩,_⟩:=I.list h;obtain ⟨its',r',⟨o',n',e',_,_,d'⟩,_⟩:=I.list h';rw [e] at e';cases e';rw [d] at d';injection d' with d1 _
 have:its=its':=by simpa using congrArg Array.toList d1
 subst this;exact r.inj r'
theorem Inv.tuple_inj (I:Inv X pins σ H s)(h:SqT X.K H a xs)(h':SqT X.K H a ys):xs=ys:=by
 obtain ⟨its,r,⟨o,e,_,n,d⟩,_⟩:=I.tuple h;obtain ⟨its',r',⟨o',e',_,n',d'⟩,_⟩:=I.tuple h';rw [e] at e';cases e';rw [d] at d';injection d' with d1 _
 have:its=its':=by simpa using congrArg Array.toList d1
 subst this;exact r.inj r'
end
abbrev Cx.wish (X:Cx)(E:Value->Shared->Prop):Cx:={ X with xe:=E }
abbrev Cx.nox (X:Cx):Cx:=X.wish fun _ _=>False
theorem Cx.Ok.wish {X:Cx}(ok:X.Ok)(E:Value->Shared->Prop):(X.wish E).Ok :=
 ⟨ok.mod,ok.kind,ok.glob,ok.blt,ok.above,ok.inj,ok.has,ok.cab,ok.hd,ok.frames,ok.stk,ok.exf,ok.bs,ok.bsz,ok.noex,ok.exfs,ok.funs,ok.frf⟩
theorem Cx.Ok.unwish {X:Cx}{E:Value->Shared->Prop}(ok:(X.wish E).Ok):X.Ok :=
 ⟨ok.mod,ok.kind,ok.glob,ok.blt,ok.above,ok.inj,ok.has,ok.cab,ok.hd,ok.frames,ok.stk,ok.exf,ok.bs,ok.bsz,ok.noex,ok.exfs,ok.funs,ok.frf⟩
section
variable {X:Cx}{pins:List (Addr × Obj)}{σ:St}{H:Hp}{s:Shared}{E:Value->Shared->Prop}
theorem Inv.wish (I:Inv X pins σ H s)(E:Value->Shared->Prop):Inv (X.wish E) pins σ H s:=⟨I.ok.wish E,I.os,I.bare,I.base,I.loc,I.cell,I.free,I.freeC,I.pin,I.hok,I.len⟩
theorem Inv.unwish (I:Inv (X.wish E) pins σ H s):Inv X pins σ H s:=⟨I.ok.unwish,I.os,I.bare,I.base,I.loc,I.cell,I.free,I.freeC,I.pin,I.hok,I.len⟩
theorem SP.unwish {D:Ends}{f:Flow}{s':Shared}(h:SP (X.wish E) pins D f s'):SP X pins D f s':=by
 cases f with
 | next=>obtain ⟨σ',H',I,q⟩:=h;exact ⟨σ',H',I.unwish,q⟩
 | brk=>obtain ⟨σ',H',I,q⟩:=h;exact ⟨σ',H',I.unwish,q⟩
 | cont=>obtain ⟨σ',H',I,q⟩:=h;exact ⟨σ',H',I.unwish,q⟩
 | ret u=>obtain ⟨v,σ',H',I,r,q⟩:=h;exact ⟨v,σ',H',I.unwish,r,q⟩
theorem PSs.nox {st:List Stmt}{t:TS}(h:PSs X.nox st t):PSs X st t:=fun pins s σ H D I hw =>
 wpAny_mono (h pins s σ H D (I.wish _) hw) (fun _ _ q=>q.unwish) fun _ _ z=>False.elim z
end
section
variable {X:Cx}{st:Stmt}{rest:List Stmt}{t u:TS}{e:Expr}{te:TE}{pos:Pos}
abbrev DC:TS:=fun D σ H=>D.nx σ H
abbrev DS (t u:TS):TS:=fun D σ H=>t { D with nx:=u D } σ H
theorem A4:PSs X [] DC:=fun _ _ σ H _ I h=>wpAny_execs_nil ⟨σ,H,I,h⟩
theorem A3 (h1:PS X st t)(h2:PSs X rest u):PSs X (st::rest) (DS t u):=by
 intro pins s σ H D I h;refine wpAny_execs_cons (thn (h1 pins s σ H { D with nx:=u D } I h) fun f s1 q=>?_)
 cases f with
 | next =>
  obtain ⟨σ',H',I',q⟩:=q;exact h2 pins s1 σ' H' D I' q
 | ret v=>exact q
 | brk=>exact q
 | cont=>exact q
theorem Inv.quiet {pins:List (Addr × Obj)}{σ:St}{H:Hp}{s:Shared}(I:Inv X pins σ H s):interactive X.env=false:=by simp [interactive,I.ok.kind]
abbrev Fe (te:TE):TS:=fun D σ H=>te σ H fun _ H1=>D.nx σ H1
theorem CJ (he:PE X e te)(hs:swapsWith e none pos.line X.env=pure false:=by rfl):PS X (.Expr e pos) (Fe te):=by
 intro pins s σ H D I h;exact wpAny_Expr_any (thn (he pins s σ H _ I h) fun v s1 ⟨x,H1,I1,r1,q1⟩=>⟨σ,H1,I1,q1⟩) I.quiet hs
abbrev tRet (te:TE):TS:=fun D σ H=>te σ H D.rt
theorem Ab (he:PE X e te):PS X (.Return (some e) pos) (tRet te):=by
 intro pins s σ H D I h;exact wpAny_Return_some (thn (he pins s σ H _ I h) fun v s1 ⟨x,H1,I1,r1,q1⟩=>⟨x,σ,H1,I1,r1,q1⟩)
abbrev Ff (c:TT)(t u:TS):TS:=fun D σ H=>c σ H fun b H1=>if b=true then t D σ H1 else u D σ H1
theorem Ay {c:Expr}{a b:List Stmt}{tc:TT}(hc:PT X c tc)(ha:PSs X a t)(hb:PSs X b u):PS X (.If c a b pos) (Ff tc t u):=by
 intro pins s σ H D I h;refine wpAny_If (thn (hc pins s σ H _ I h) fun d s1 ⟨H1,I1,q1⟩=>?_)
 cases d with
 | true=>exact ha pins s1 σ H1 D I1 q1
 | false=>exact hb pins s1 σ H1 D I1 q1
end
abbrev TG:=V->St->Hp->(St->Hp->Prop)->Prop
def PG (X:Cx)(target:Expr)(t:TG):Prop :=
 ∀ (pins:List (Addr × Obj)) (s:Shared) (σ:St) (H:Hp) (v:V) (u:Value) (Q:St->Hp->Prop),Inv X pins σ H s->RelV v u->t v σ H Q ->
  wpAny (model X.prog X.w) X.A (assign target X.env u) (fun _ s'=>∃ σ' H',Inv X pins σ' H' s'/\Q σ' H') X.xe s
section
variable {X:Cx}{pos:Pos}
abbrev Es (i:Nat):TG:=fun v σ H Q=>Q (σ.set i (some v)) H
theorem pg_name {i:Nat}{x:Str}(hN:X.N.Nodup)(hi:X.N[i]? = some x)(hx:Loc X.env.scope x)(hf:X.fn x=true\/X.env.scope.names.lookup x=some .local := by first|exact .inl rfl|exact .inr rfl|assumption):PG X (.Name x pos) (Es i):=by
 intro pins s σ H v u Q I r h;exact wpAny_assign_Name (ET I hN hi hx r (fun s' I'=>⟨_,H,I',h⟩) hf)
abbrev KW (te:TE)(g:TG):TS:=fun D σ H=>te σ H fun x H1=>g x σ H1 D.nx
theorem Gw {i:Nat}{x:Str}{e:Expr}{te:TE}{pos':Pos}(hN:X.N.Nodup)(hi:X.N[i]? = some x)(hx:Loc X.env.scope x)(he:PE X e te)(hs:swapsWith e (some (.Name x pos')) pos.line X.env=pure false:=by rfl)(hf:X.fn x=true\/X.env.scope.names.lookup x=some .local := by first|exact .inl rfl|exact .inr rfl|assumption) :
  PS X (.Assign [.Name x pos'] e pos) (KW te (Es i)):=by
 intro pins s σ H D I h;refine wpAny_Assign_Name (thn (he pins s σ H _ I h) fun v s1 ⟨y,H1,I1,r1,q1⟩=>?_) hs;exact ET I1 hN hi hx r1 (fun s2 I2=>⟨_,H1,I2,q1⟩) hf
end
section
variable {X:Cx}{pos:Pos}
def tWhile (c:TT)(tb:TS):TS:=fun D σ H=>∃ W:Nat->St->Hp->Prop,(∃ m,W m σ H)/\∀ m σ H,W m σ H ->
 c σ H fun b H1=>if b=true then ∃ N:St->Hp->Prop,(∀ σ' H',N σ' H'->∃ m',m'<m/\W m' σ' H')/\tb { D with nx:=N,ct:=N,bk:=D.nx } σ H1 else D.nx σ H1
theorem ps_while {c:Expr}{body:List Stmt}{tc:TT}{tb:TS}(hp:PassesOwn (model X.prog X.w) X.A X.env X.xe)(hc:PT X c tc)(hb:PSs X body tb):PS X (.While c body [] pos) (tWhile tc tb):=by
 intro pins s σ H D I h;obtain ⟨W,⟨m0,w0⟩,turn⟩:=h;refine wpAny_While (codeAny_whileLoop (fun n s'=>∃ σ' H',Inv X pins σ' H' s'/\W n σ' H') ?_ m0 ⟨σ,H,I,w0⟩);rintro n s1 ⟨σ1,H1,I1,w1⟩;refine wpAny_passesOwn hp (thn (hc pins s1 σ1 H1 _ I1 (turn n σ1 H1 w1)) fun b s2 ⟨H2,I2,q2⟩=>?_)
 cases b with
 | true =>
  obtain ⟨N,hN,q2⟩:=q2;rw [if_pos rfl];refine wpAny_passesOwn hp (thn (hb pins s2 σ1 H2 _ I2 q2) fun f s3 q3=>?_)
  cases f with
  | next =>
   obtain ⟨σ3,H3,I3,n3⟩:=q3;obtain ⟨m',hm,w3⟩:=hN σ3 H3 n3;exact ⟨m',hm,σ3,H3,I3,w3⟩
  | cont =>
   obtain ⟨σ3,H3,I3,n3⟩:=q3;obtain ⟨m',hm,w3⟩:=hN σ3 H3 n3;exact ⟨m',hm,σ3,H3,I3,w3⟩
  | brk=>exact q3
  | ret v=>exact q3
 | false =>
  rw [if_neg qeB];exact wpAny_execs_nil ⟨σ1,H2,I2,q2⟩
end
structure It where
 go:Nat->Hp->Prop
 yld:Nat->Hp->V->Hp->Prop
 stop:Nat->Hp->Prop
def GW (X:Cx)(pins:List (Addr × Obj))(H:Hp)(b:Addr):Prop :=
 H b=none/\b≠X.env.locals/\b ∉ X.fs/\(b∈X.ex\/X.s₀.heap.objs.size<=b)/\(∀ x c,X.env.cells.lookup x=some c->c≠b)/\∀ p∈X.pn++pins,p.1≠b
theorem Inv.fpOk {X:Cx}{pins:List (Addr × Obj)}{σ:St}{H H':Hp}{s:Shared}{b:Addr}(I:Inv X pins σ H s)(hb:s.heap.objs.size<=b)(hn:H' b=none):GW X pins H' b:=by
 refine ⟨hn,Nat.ne_of_gt (qqB I.lt hb),I.nofs hb,.inr (qtA I.sz hb),fun x c e z=>?_,fun p hp z=>?_⟩
 ·obtain ⟨v,q⟩:=I.cell x c e;exact absurd (qqB q.lt (by rw [z];exact hb)) (quA _)
 ·exact absurd (qqB (qwA (I.pin p hp).1) (by rw [z];exact hb)) (quA _)
structure Turn (P:Program)(w:World)(K:FZ9)(tg:Expr)(J:It)(fp:List Addr)(it:Addr)(tn:Nat->Heap->Prop):Prop where
 mem:it∈fp
 obj:∀ i h,tn i h->∀ b∈fp,∃ o,h.get? b=some o/\∀ v,o.data ≠ .cell v
 keep:∀ i h h',tn i h->(∀ b∈fp,∀ o,h.get? b=some o->h'.get? b=some o)->tn i h'
 item:∀ (X:Cx),X.prog=P->X.w=w->X.K=K->X.calm=true->∀ (i:Nat) (pins:List (Addr × Obj)) (s:Shared) (σ:St) (H:Hp) (E:Value->Shared->Prop),Inv X pins σ H s->(∀ b∈fp,GW X pins H b)->tn i s.heap->J.go i H ->
  wpAny (model P w) X.A (pyNext (.ref it)) (fun r s1=>∃ u,r=some u /\
   wpAny (model P w) X.A (letOwnedTupleGo tg (.ref it) u) (fun _ s2=>∃ x H',Inv X pins σ H' s2/\RelV x u/\J.yld i H x H'/\tn (i+1) s2.heap/\∀ b∈fp,H' b=none) E s1) E s
 done:∀ (X:Cx),X.prog=P->X.w=w->X.K=K->X.calm=true->∀ (i:Nat) (pins:List (Addr × Obj)) (s:Shared) (σ:St) (H:Hp) (E:Value->Shared->Prop),Inv X pins σ H s->(∀ b∈fp,GW X pins H b)->tn i s.heap->J.stop i H ->
  wpAny (model P w) X.A (pyNext (.ref it)) (fun r s1=>r=none/\Inv X pins σ H s1) E s
 self:∀ (A:Around) (i:Nat) (s:Shared) (Q:Value->Shared->Prop) (E:Value->Shared->Prop),tn i s.heap->Q (.ref it) s->wpAny (model P w) A (pyIter (.ref it)) Q E s
abbrev TI:=St->Hp->(It->Hp->Prop)->Prop
def PIE (X:Cx)(pins:List (Addr × Obj))(σ:St)(tg:Expr)(R:It->Hp->Prop)(itv:Value)(s2:Shared):Prop :=
 ∃ (it:Addr) (fp:List Addr) (tn:Nat->Heap->Prop) (J:It) (H':Hp),itv = .ref it/\Inv X pins σ H' s2/\Turn X.prog X.w X.K tg J fp it tn/\tn 0 s2.heap/\(∀ b∈fp,GW X pins H' b)/\R J H'
def PI (X:Cx)(tg iter:Expr)(wi:TI):Prop :=
 ∀ (pins:List (Addr × Obj)) (s:Shared) (σ:St) (H:Hp) (R:It->Hp->Prop),Inv X pins σ H s->wi σ H R ->
  wpAny (model X.prog X.w) X.A (eval iter X.env) (fun v s1=>wpAny (model X.prog X.w) X.A (pyIter v) (PIE X pins σ tg R) X.xe s1) X.xe s
theorem IN {M:Model}{A:Around}{E:Value->Shared->Prop}{s:Shared}{tg:Expr}{it:Addr}{u:Value}{o:Obj}{n:String}{vs:Array Value}{Q:Unit->Shared->Prop}(ho:s.heap.get? it=some o)(hc:o.cls = .type n)(hd:o.data = .fields vs)
  (hn:["enumerate","zip","dict_itemiterator","dict_reverseitemiterator","odict_iterator","itertools.zip_longest","itertools.pairwise"].contains n=false) (hQ:Q () s):wpAny M A (letOwnedTupleGo tg (.ref it) u) Q E s:=by
 unfold letOwnedTupleGo
 cases tg<;>first
  | exact qcA hQ
  | (cases u<;>first
    | exact qcA hQ
    | (refine qbA (wpAny_load ho ?_)
       rw [hc,hd];show wpAny M A (if (["enumerate","zip","dict_itemiterator","dict_reverseitemiterator","odict_iterator","itertools.zip_longest","itertools.pairwise"].contains n && vs[0]? == some (rawInt _))=true then _ else _) Q E s;rw [if_neg (by intro h;rw [hn,Bool.false_and] at h;cases h)]
       exact qcA hQ))
def Itl (K:FZ9)(a:Addr):It :=
 ⟨fun i H=>∃ xs x,SqL K H a xs/\xs[i]? = some x,fun i H x H'=>H'=H/\∀ xs,SqL K H a xs->xs[i]? = some x,fun i H=>∃ xs,SqL K H a xs/\xs.length<=i⟩
def Itt (K:FZ9)(a:Addr):It :=
 ⟨fun i H=>∃ xs x,SqT K H a xs/\xs[i]? = some x,fun i H x H'=>H'=H/\∀ xs,SqT K H a xs->xs[i]? = some x,fun i H=>∃ xs,SqT K H a xs/\xs.length<=i⟩
def Itr (lo:Int)(n:Nat):It:=⟨fun i _=>i<n,fun i H x H'=>H'=H/\x = .int (lo+i),fun i _=>n<=i⟩
theorem Lo {P:Program}{w:World}{K:FZ9}{tg:Expr}(a it:Addr):Turn P w K tg (Itl K a) [it] it (fun i h=>h.IsListIter it a i) where
 mem:=by simp
 obj:=fun i h st b hb=>by
  have e:b=it:=by simpa using hb
  subst e;obtain ⟨o,e,c,d⟩:=st;exact ⟨o,e,fun v z=>by rw [d] at z;cases z⟩
 keep:=fun i h h' st k=>st.at fun o e=>k it (by simp) o e
 item:=by
  intro X hP hw hK hc i pins s σ H E I hf st hg;subst hP hw hK;obtain ⟨xs,x,hq,hx⟩:=hg;obtain ⟨its,rv,p,hz⟩:=I.list hq;obtain ⟨u,hu,ru⟩:=rv.get hx;obtain ⟨f0,f1,f2,f3,f4,f5⟩:=hf it (by simp);refine wpAny_pyNext_list_item st p.isList (x:=u) (by simpa using hu) fun h' st' sb=>?_;have I1:Inv X pins σ H { s with heap:=h' }:=I.turned (t':=s.toks) (fun b o hb e=>(sb.2 b hb).trans e) f0 f1 f3 f4 f5;obtain ⟨o,e,c,d⟩:=id st';exact ⟨u,rfl,IN (s:={ s with heap:=h' }) e c d (by decide) ⟨x,H,I1,ru,⟨rfl,fun ys hy=>by rw [I.list_inj hy hq];exact hx⟩,st',fun b hb=>(hf b hb).1⟩⟩
 done:=by
  intro X hP hw hK hc i pins s σ H E I hf st hg;subst hP hw hK;obtain ⟨xs,hq,hx⟩:=hg;obtain ⟨its,rv,p,hz⟩:=I.list hq;obtain ⟨f0,f1,f2,f3,f4,f5⟩:=hf it (by simp);have hl:=rv.length;exact wpAny_pyNext_list_end (I.ok.hd hc) st p.isList (by simp;omega) fun h' eb=>⟨rfl,I.turned (t':=s.toks) (fun b o hb e=>eb b o hb e) f0 f1 f3 f4 f5⟩
 self:=fun _ _ _ _ _ st h=>wpAny_pyIter_listiter st h
theorem KT {P:Program}{w:World}{K:FZ9}{tg:Expr}(a it:Addr):Turn P w K tg (Itt K a) [it] it (fun i h=>h.IsTupleIter it a i) where
 mem:=by simp
 obj:=fun i h st b hb=>by
  have e:b=it:=by simpa using hb
  subst e;obtain ⟨o,e,c,d⟩:=st;exact ⟨o,e,fun v z=>by rw [d] at z;cases z⟩
 keep:=fun i h h' st k=>st.at fun o e=>k it (by simp) o e
 item:=by
  intro X hP hw hK hc i pins s σ H E I hf st hg;subst hP hw hK;obtain ⟨xs,x,hq,hx⟩:=hg;obtain ⟨its,rv,p,hz⟩:=I.tuple hq;obtain ⟨u,hu,ru⟩:=rv.get hx;obtain ⟨f0,f1,f2,f3,f4,f5⟩:=hf it (by simp);refine wpAny_pyNext_tuple_item st (show s.heap.IsTuple a its.toArray from p) (x:=u) (by simpa using hu) fun h' st' sb=>?_;have I1:Inv X pins σ H { s with heap:=h' }:=I.turned (t':=s.toks) (fun b o hb e=>(sb.2 b hb).trans e) f0 f1 f3 f4 f5;obtain ⟨o,e,c,d⟩:=id st';exact ⟨u,rfl,IN (s:={ s with heap:=h' }) e c d (by decide) ⟨x,H,I1,ru,⟨rfl,fun ys hy=>by rw [I.tuple_inj hy hq];exact hx⟩,st',fun b hb=>(hf b hb).1⟩⟩
 done:=by
  intro X hP hw hK hc i pins s σ H E I hf st hg;subst hP hw hK;obtain ⟨xs,hq,hx⟩:=hg;obtain ⟨its,rv,p,hz⟩:=I.tuple hq;obtain ⟨f0,f1,f2,f3,f4,f5⟩:=hf it (by simp);have hl:=rv.length;exact wpAny_pyNext_tuple_end (I.ok.hd hc) st (show s.heap.IsTuple a its.toArray from p) (by simp;omega) fun h' eb=>⟨rfl,I.turned (t':=s.toks) (fun b o hb e=>eb b o hb e) f0 f1 f3 f4 f5⟩
 self:=fun _ _ _ _ _ st h=>wpAny_pyIter_tupleiter st h
theorem KG {P:Program}{w:World}{K:FZ9}{tg:Expr}(it:Addr)(lo:Int)(n:Nat):Turn P w K tg (Itr lo n) [it] it (fun i h=>IsRangeIter h it (lo+(i:Nat) * 1) ((n:Int) - (i:Nat)) 1) where
 mem:=by simp
 obj:=fun i h st b hb=>by
  have e:b=it:=by simpa using hb
  subst e
  exact ⟨_,st,fun v z=>by
   have z':Data.fields _=Data.cell v:=z
   cases z'⟩
 keep:=fun i h h' st k=>k it (by simp) _ st
 item:=by
  intro X hP hw hK hc i pins s σ H E I hf st hg;subst hP hw hK;obtain ⟨f0,f1,f2,f3,f4,f5⟩:=hf it (by simp);have W:=Walks.range (prog:=X.prog) (w:=X.w) (I.ok.hd hc) it lo 1 n;refine W.item i s _ _ hg st fun v h' tk hv st' kk=>?_;obtain ⟨t,rfl⟩:=hv;have I1:Inv X pins σ H { s with heap:=h',toks:=tk }:=I.turned (fun b o hb e=>kk b o (by simpa using hb) e) f0 f1 f3 f4 f5;refine ⟨_,rfl,IN (s:={ s with heap:=h',toks:=tk }) (n := "range_iterator") st' rfl rfl (by decide) ⟨.int (lo+i),H,I1,⟨t,?_⟩,⟨rfl,rfl⟩,st',fun b hb=>(hf b hb).1⟩⟩;rw [Int.mul_one]
 done:=by
  intro X hP hw hK hc i pins s σ H E I hf st hg;subst hP hw hK;obtain ⟨f0,f1,f2,f3,f4,f5⟩:=hf it (by simp);exact wpAny_pyNext_range_end (I.ok.hd hc) st (by have:n<=i:=hg;omega) fun h' eb=>⟨rfl,I.turned (t':=s.toks) (fun b o hb e=>eb b o hb e) f0 f1 f3 f4 f5⟩
 self:=fun _ _ _ _ _ st h=>wpAny_pyIter_rangeiter st h
section
variable {X:Cx}{tg:Expr}
theorem range_it {pins:List (Addr × Obj)}{σ:St}{H:Hp}{s:Shared}{R:It->Hp->Prop}{E:Value->Shared->Prop}{lo hi:Int}{t u v:Tok}{tk:Nat}(I:Inv X pins σ H s)(h1:-(2 ^ 62)<=lo)(h2:lo<2 ^ 62)(h3:-(2 ^ 62)<=hi)(h4:hi<2 ^ 62)
  (q:R (Itr lo (hi - lo).toNat) H):wpAny (model X.prog X.w) X.A (pyIter (.ref s.heap.objs.size)) (PIE X pins σ tg R) E { s with heap:=s.heap.push { cls:=.type "range",data:=.fields #[.int lo t,.int hi u,.int 1 v] },toks:=tk }:=by
 refine wpAny_pyIter_range (IsRange.new ..) (small_one h1 h2 h3 h4) ?_;have I1:Inv X pins σ H { s with heap:=s.heap.push { cls:=.type "range",data:=.fields #[.int lo t,.int hi u,.int 1 v] },toks:=tk }:=I.kept fun b o e=>qxA _ e
 refine ⟨(s.heap.push { cls:=.type "range",data:=.fields #[.int lo t,.int hi u,.int 1 v] }).objs.size,[(s.heap.push { cls:=.type "range",data:=.fields #[.int lo t,.int hi u,.int 1 v] }).objs.size],_,_,H,rfl,
  I1.kept (t':=tk) fun b o e=>qxA _ e,KG _ lo (hi - lo).toNat,?_,fun b hb=>?_,q⟩
 ·have e1:lo+((0:Nat):Int) * 1=lo:=by simp
  have e2:(((hi - lo).toNat:Nat):Int) - ((0:Nat):Int)=Builtin.Range.rangeSize lo hi 1:=by rw [rangeSize_one];split<;>omega
  show IsRangeIter _ _ (lo+((0:Nat):Int) * 1) ((((hi - lo).toNat:Nat):Int) - ((0:Nat):Int)) 1;rw [e1,e2];exact qyA _ rfl
 ·have e:b=(s.heap.push { cls:=.type "range",data:=.fields #[.int lo t,.int hi u,.int 1 v] }).objs.size:=by simpa using hb
  subst e;exact I1.fpOk (qsA _) (I1.hok.fresh (qsA _))
def iRng1 (ta:TA):TI:=fun σ H R=>ta σ H fun vs H1=>∃ j:Int,vs=[.int j]/\-(2 ^ 62)<=j/\j<2 ^ 62/\R (Itr 0 j.toNat) H1
theorem Dp {a:Expr}{ta:TA}{p pos:Pos}(hg:Gl X "range")(hm:X.mg "range" = none)(ha:PA X [a] ta)(hs:starEach [a] X.env=[(false,eval a X.env)]:=by rfl):PI X tg (.Call (.Name "range" p) [a] [] pos) (iRng1 ta):=by
 intro pins s σ H R I h;refine Call_ (JM I hg hm boot_range (PyProof.Rows.callWith_type1 (thn (ha pos pins s σ H _ I h) fun us s1 ⟨vs,H1,I1,r1,q1⟩=>?_) hs rfl));obtain ⟨j,e,q1,q2,q⟩:=q1;subst e
 cases r1 with
 | cons r rr =>
  cases rr;obtain ⟨t,rfl⟩:=r;exact call_range_1 (range_it I1 (by omega) (by omega) q1 q2 (by simpa using q))
def tFor (wi:TI)(g:TG)(tb:TS):TS:=fun D σ H=>wi σ H fun J H1=>∃ W:Nat->Nat->St->Hp->Prop,(∃ m,W 0 m σ H1)/\∀ i m σ H,W i m σ H ->
 (J.stop i H/\D.nx σ H)\/(J.go i H/\∃ N:St->Hp->Prop,(∀ σ' H',N σ' H'->∃ m',m'<m/\W (i+1) m' σ' H')/\∀ x H',J.yld i H x H'->g x σ H' fun σ2 H2=>tb { D with nx:=N,ct:=N,bk:=D.nx } σ2 H2)
def GD (fp:List Addr)(h:Heap):List (Addr × Obj):=fp.filterMap fun b=>(h.get? b).map fun o=>(b,o)
theorem Cs {fp:List Addr}{h:Heap}{b:Addr}{o:Obj}(hb:b∈fp)(e:h.get? b=some o):(b,o)∈GD fp h:=List.mem_filterMap.mpr ⟨b,hb,by rw [e];rfl⟩
theorem M9 {fp:List Addr}{h:Heap}{p:Addr × Obj}(hp:p∈GD fp h):p.1∈fp/\h.get? p.1=some p.2:=by
 obtain ⟨b,hb,e⟩:=List.mem_filterMap.mp hp
 cases q:h.get? b with
 | none=>rw [q] at e;cases e
 | some o =>
  rw [q] at e;have e':(b,o)=p:=qvA e;subst e';exact ⟨hb,q⟩
theorem Inv.pinned {pins:List (Addr × Obj)}{σ:St}{H:Hp}{s:Shared}{fp:List Addr}(I:Inv X pins σ H s)(hf:∀ b∈fp,GW X pins H b)(ho:∀ b∈fp,∃ o,s.heap.get? b=some o/\∀ v,o.data ≠ .cell v):Inv X (pins++GD fp s.heap) σ H s :=
 I.pins_of fun p hp=>(qhA.mp hp).elim (fun z=>I.pin p (qrB _ z)) fun z=>by
  obtain ⟨hb,e⟩:=M9 z;obtain ⟨f0,f1,f2,_⟩:=hf p.1 hb;obtain ⟨o,e',d⟩:=ho p.1 hb;rw [e] at e';cases e';exact ⟨e,f0,f1,f2,d⟩
theorem Inv.unpinned {pins pl:List (Addr × Obj)}{σ:St}{H:Hp}{s:Shared}(I:Inv X (pins++pl) σ H s):Inv X pins σ H s:=I.pins_of fun p hp=>I.pin p (qrB _ (List.mem_append_left _ hp))
theorem EZ {iter:Expr}{body:List Stmt}{wi:TI}{g:TG}{tb:TS}{pos:Pos}(hp:PassesOwn (model X.prog X.w) X.A X.env X.xe)(hc:X.calm=true)(hi:PI X tg iter wi)(hg:PG X tg g)(hb:PSs X body tb)
  (hs:∀ x,foldedSetIterable iter X.env x=pure x:=by intro _;rfl):PS X (.For tg iter body [] pos) (tFor wi g tb):=by
 intro pins s σ H D I h;refine wpAny_For (thn (hi pins s σ H _ I h) fun v s1 h1=>thn h1 fun itv s2 h2=>?_) hs;obtain ⟨it,fp,tn,J,H2,e,I2,T,st2,f2,W,⟨m0,w0⟩,turn⟩:=h2;subst e;have stat:∀ {H':Hp},(∀ b∈fp,H' b=none)->∀ b∈fp,GW X pins H' b:=fun hn b hb=>⟨hn b hb,(f2 b hb).2⟩;refine codeAny_forLoop_any (fun n s'=>∃ i σ' H',Inv X pins σ' H' s'/\tn i s'.heap/\(∀ b∈fp,H' b=none)/\W i n σ' H') ?_ m0 ⟨0,σ,H2,I2,st2,fun b hb=>(f2 b hb).1,w0⟩;rintro n s3 ⟨i,σ3,H3,I3,st3,fr3,w3⟩;rcases turn i n σ3 H3 w3 with ⟨stop,qn⟩ | ⟨go,N,hN,step⟩
 ·refine wpAny_passesOwn hp (thn (T.done X rfl rfl rfl hc i pins s3 σ3 H3 X.xe I3 (stat fr3) st3 stop) fun r s4 ⟨hr,I4⟩=>?_);subst hr;exact wpAny_execs_nil ⟨σ3,H3,I4,qn⟩
 ·refine wpAny_passesOwn hp (thn (T.item X rfl rfl rfl hc i pins s3 σ3 H3 X.xe I3 (stat fr3) st3 go) fun r s4 ⟨u,hr,h4⟩=>?_);subst hr;refine wpAny_passesOwn hp (thn h4 fun _ s5 ⟨x,H5,I5,r5,y5,st5,fr5⟩=>?_);have I5':=I5.pinned (stat fr5) (T.obj _ _ st5);refine wpAny_passesOwn hp (thn (hg _ s5 σ3 H5 x u _ I5' r5 (step x H5 y5)) fun _ s6 ⟨σ6,H6,I6,q6⟩=>?_);refine wpAny_passesOwn hp (thn (hb _ s6 σ6 H6 _ I6 q6) fun f s7 q7=>?_)
  have again:∀ {σ7:St}{H7:Hp},Inv X (pins++GD fp s5.heap) σ7 H7 s7->N σ7 H7->∃ m,m<n/\∃ i σ' H',Inv X pins σ' H' s7/\tn i s7.heap/\(∀ b∈fp,H' b=none)/\W i m σ' H':=fun {σ7 H7} I7 n7=>by
   obtain ⟨m',hm,w7⟩:=hN σ7 H7 n7;refine ⟨m',hm,i+1,σ7,H7,I7.unpinned,T.keep _ _ _ st5 fun b hb o e=>(I7.pin (b,o) (qrB _ (qrB _ (Cs hb e)))).1,fun b hb=>?_,w7⟩;obtain ⟨o,e,d⟩:=T.obj _ _ st5 b hb;exact (I7.pin (b,o) (qrB _ (qrB _ (Cs hb e)))).2.1
  cases f with
  | next=>obtain ⟨σ7,H7,I7,n7⟩:=q7;exact again I7 n7
  | cont=>obtain ⟨σ7,H7,I7,n7⟩:=q7;exact again I7 n7
  | brk=>obtain ⟨σ7,H7,I7,q7⟩:=q7;exact ⟨σ7,H7,I7.unpinned,q7⟩
  | ret v=>obtain ⟨x7,σ7,H7,I7,r7,q7⟩:=q7;exact ⟨x7,σ7,H7,I7.unpinned,r7,q7⟩
end
abbrev R2:=V->V->Hp->VK->Prop
def OpR (X:Cx)(f:Value->Value->Sem Value)(r:R2):Prop :=
 ∀ (pins:List (Addr × Obj)) (s:Shared) (σ:St) (H:Hp) (x y:V) (v u:Value) (Q:VK),Inv X pins σ H s->RelV x v->RelV y u->r x y H Q ->
  wpAny (model X.prog X.w) X.A (f v u) (EP X pins σ Q) X.xe s
def UnR (X:Cx)(f:Value->Sem Value)(r:V->Hp->VK->Prop):Prop :=
 ∀ (pins:List (Addr × Obj)) (s:Shared) (σ:St) (H:Hp) (x:V) (v:Value) (Q:VK),Inv X pins σ H s->RelV x v->r x H Q ->
  wpAny (model X.prog X.w) X.A (f v) (EP X pins σ Q) X.xe s
def EF (X:Cx)(f:Value)(r:List V->Hp->VK->Prop):Prop :=
 ∀ (pins:List (Addr × Obj)) (s:Shared) (σ:St) (H:Hp) (xs:List V) (us:List Value) (Q:VK),Inv X pins σ H s->Vals xs us->r xs H Q ->
  wpAny (model X.prog X.w) X.A (call f us) (EP X pins σ Q) X.xe s
def TruR (X:Cx)(r:V->Hp->(Bool->Hp->Prop)->Prop):Prop :=
 ∀ (pins:List (Addr × Obj)) (s:Shared) (σ:St) (H:Hp) (x:V) (v:Value) (Q:Bool->Hp->Prop),Inv X pins σ H s->RelV x v->r x H Q ->
  wpAny (model X.prog X.w) X.A (truthy v) (TP X pins σ Q) X.xe s
abbrev tOp (r:R2)(ta tb:TE):TE:=fun σ H Q=>ta σ H fun x H1=>tb σ H1 fun y H2=>r x y H2 Q
abbrev tUn (r:V->Hp->VK->Prop)(ta:TE):TE:=fun σ H Q=>ta σ H fun x H1=>r x H1 Q
def rI (C:Int->Int->Prop)(g:Int->Int->V):R2:=fun x y H Q=>∃ i j,x = .int i/\y = .int j/\C i j/\Q (g i j) H
def rI0 (g:Int->Int->V):R2:=fun x y H Q=>∃ i j,x = .int i/\y = .int j/\Q (g i j) H
def rU (g:Int->V):V->Hp->VK->Prop:=fun x H Q=>∃ i,x = .int i/\Q (g i) H
section
variable {X:Cx}{a b c:Expr}{ta tb tc:TE}{pos:Pos}
theorem binT (ha:PE X a ta)(hb:PE X b tb){pins:List (Addr × Obj)}{s:Shared}{σ:St}{H:Hp}{R:V->V->Hp->Prop}(I:Inv X pins σ H s)
  (h:ta σ H fun x H1=>tb σ H1 fun y H2=>R x y H2) {Q:Value->Shared->Prop}{f:Value->Value->Sem Value}
  (hf:∀ v u s2 x y H2,Inv X pins σ H2 s2->RelV x v->RelV y u->R x y H2->wpAny (model X.prog X.w) X.A (f v u) Q X.xe s2) :
  wpAny (model X.prog X.w) X.A (eval a X.env) (fun v s₁=>wpAny (model X.prog X.w) X.A (eval b X.env) (fun u s₂=>wpAny (model X.prog X.w) X.A (f v u) Q X.xe s₂) X.xe s₁) X.xe s:=by
 refine thn (ha pins s σ H _ I h) fun v s1 ⟨x,H1,I1,r1,q1⟩=>?_;refine thn (hb pins s1 σ H1 _ I1 q1) fun u s2 ⟨y,H2,I2,r2,q2⟩=>?_;exact hf v u s2 x y H2 I2 r1 r2 q2
theorem Ap {op:Operator}{r:R2}(ho:OpR X (binaryOp op) r)(ha:PE X a ta)(hb:PE X b tb):PE X (.BinOp a op b pos) (tOp r ta tb):=by
 intro pins s σ H Q I h;exact wpAny_BinOp (binT ha hb I h fun v u s2 x y H2 I2 rx ry q=>ho pins s2 σ H2 x y v u Q I2 rx ry q)
theorem LS {op:UnaryOp}{r:V->Hp->VK->Prop}(ho:UnR X (unaryOp op) r)(ha:PE X a ta):PE X (.UnaryOp op a pos) (tUn r ta):=by
 intro pins s σ H Q I h;exact UnaryOp_ (thn (ha pins s σ H _ I h) fun v s1 ⟨x,H1,I1,r1,q1⟩=>ho pins s1 σ H1 x v Q I1 r1 q1)
theorem opI {f:Value->Value->Sem Value}{C:Int->Int->Prop}{g:Int->Int->Int}
  (rule:∀ (i j:Int) (t u:Tok) (s:Shared) (Q:Value->Shared->Prop) (E:Value->Shared->Prop),C i j->Q (.int (g i j) s.toks) { s with toks:=s.toks+1 }->wpAny (model X.prog X.w) X.A (f (.int i t) (.int j u)) Q E s) :
  OpR X f (rI C fun i j=>.int (g i j)):=by
 intro pins s σ H x y v u Q I rx ry h;obtain ⟨i,j,rfl,rfl,hc,q⟩:=h;obtain ⟨t,rfl⟩:=rx;obtain ⟨t',rfl⟩:=ry;exact rule i j t t' s _ _ hc ⟨.int (g i j),H,I.tok _,⟨_,rfl⟩,q⟩
theorem opI0 {f:Value->Value->Sem Value}{g:Int->Int->Int}
  (rule:∀ (i j:Int) (t u:Tok) (s:Shared) (Q:Value->Shared->Prop) (E:Value->Shared->Prop),Q (.int (g i j) s.toks) { s with toks:=s.toks+1 }->wpAny (model X.prog X.w) X.A (f (.int i t) (.int j u)) Q E s) :
  OpR X f (rI0 fun i j=>.int (g i j)):=by
 intro pins s σ H x y v u Q I rx ry h;obtain ⟨i,j,rfl,rfl,q⟩:=h;obtain ⟨t,rfl⟩:=rx;obtain ⟨t',rfl⟩:=ry;exact rule i j t t' s _ _ ⟨.int (g i j),H,I.tok _,⟨_,rfl⟩,q⟩
theorem opB0 {f:Value->Value->Sem Value}{g:Int->Int->Bool}
  (rule:∀ (i j:Int) (t u:Tok) (s:Shared) (Q:Value->Shared->Prop) (E:Value->Shared->Prop),Q (.bool (g i j)) s->wpAny (model X.prog X.w) X.A (f (.int i t) (.int j u)) Q E s) :
  OpR X f (rI0 fun i j=>.bl (g i j)):=by
 intro pins s σ H x y v u Q I rx ry h;obtain ⟨i,j,rfl,rfl,q⟩:=h;obtain ⟨t,rfl⟩:=rx;obtain ⟨t',rfl⟩:=ry;exact rule i j t t' s _ _ ⟨.bl (g i j),H,I,rfl,q⟩
def KQ (i j:Int):Prop:=0<j/\j<1073741824
def CMul (i j:Int):Prop:=(-(2 ^ 64)<i/\i<2 ^ 64)\/(-(2 ^ 64)<j/\j<2 ^ 64)
theorem CMul.ok {i j:Int}(h:CMul i j):IntMulOk i j:=by
 rcases h with ⟨h1,h2⟩ | ⟨h1,h2⟩
 ·exact .of_left (intBits_le_64 h1 h2)
 ·exact .of_right (intBits_le_64 h1 h2)
theorem op_add:OpR X (binaryOp .Add) (rI0 fun i j=>.int (i+j)):=opI0 fun _ _ _ _ _ _ _ q=>add_int q
theorem op_sub:OpR X (binaryOp .Sub) (rI0 fun i j=>.int (i - j)):=opI0 fun _ _ _ _ _ _ _ q=>sub_int q
theorem op_mul:OpR X (binaryOp .Mult) (rI CMul fun i j=>.int (i * j)):=opI fun _ _ _ _ _ _ _ hc q=>mul_int q hc.ok
theorem Cg:OpR X (binaryOp .FloorDiv) (rI KQ fun i j=>.int (i / j)):=opI fun i j _ _ _ _ _ hc q=>by
 have h1:(0:Int)<j:=hc.1;have h2:j<1073741824:=hc.2;exact floordiv_int (by omega) (by rw [Int.fdiv_eq_ediv_of_nonneg i (by omega)];exact q) (.inl (PyProof.noPylong_small (by omega)))
theorem Bk:OpR X (binaryOp .Mod) (rI (fun _ j=>0<j) fun i j=>.int (i % j)):=opI fun i j _ _ _ _ _ hc q=>by
 have h1:(0:Int)<j:=hc;exact mod_int' (by omega) (by rw [Int.fmod_eq_emod_of_nonneg i (by omega)];exact q)
theorem unI {f:Value->Sem Value}{g:Int->Int}
  (rule:∀ (i:Int) (t:Tok) (s:Shared) (Q:Value->Shared->Prop) (E:Value->Shared->Prop),Q (.int (g i) s.toks) { s with toks:=s.toks+1 }->wpAny (model X.prog X.w) X.A (f (.int i t)) Q E s) :
  UnR X f (rU fun i=>.int (g i)):=by
 intro pins s σ H x v Q I rx h;obtain ⟨i,rfl,q⟩:=h;obtain ⟨t,rfl⟩:=rx;exact rule i t s _ _ ⟨.int (g i),H,I.tok _,⟨_,rfl⟩,q⟩
theorem Ip:UnR X (unaryOp .USub) (rU fun i=>.int (-i)):=unI fun _ _ _ _ _ q=>neg_int q
end
def scal:V->V->Bool
 | .non,.non=>true | .non,.int _=>true | .int _,.non=>true | .non,.bl _=>true | .bl _,.non=>true | .non,.str _=>true | .str _,.non=>true
 | .int _,.int _=>true | .bl _,.bl _=>true | .str _,.str _=>true | .byt _,.byt _=>true
 | .int _,.str _=>true | .str _,.int _=>true | .bl _,.str _=>true | .str _,.bl _=>true
 | _,_=>false
def rEq:R2:=fun x y H Q=>scal x y=true/\Q (.bl (decide (x=y))) H
def rNe:R2:=fun x y H Q=>scal x y=true/\Q (.bl (!decide (x=y))) H
theorem LJ {i j:Int}:decide (V.int i=V.int j)=(i == j):=by
 rw [Bool.eq_iff_iff];simp
theorem dec_bl {i j:Bool}:decide (V.bl i=V.bl j)=(i == j):=by
 rw [Bool.eq_iff_iff];simp
theorem Kq {i j:Str}:decide (V.str i=V.str j)=(i == j):=by
 rw [Bool.eq_iff_iff];simp
theorem L7 {i j:Array UInt8}:decide (V.byt i=V.byt j)=(i.toList == j.toList):=by
 rw [Bool.eq_iff_iff];cases i;cases j;simp
section
variable {X:Cx}{a b c:Expr}{ta tb tc:TE}{pos:Pos}
theorem Aw {pins:List (Addr × Obj)}{σ:St}{H:Hp}{s:Shared}{Q:VK}{k k':Bool}(I:Inv X pins σ H s)(q:Q (.bl k) H)(e:k=k'):EP X pins σ Q (.bool k') s:=by
 subst e;exact ⟨.bl k,H,I,rfl,q⟩
theorem BJ:OpR X (compareOp .Eq) rEq:=by
 intro pins s σ H x y v u Q I rx ry h;obtain ⟨hs,q⟩:=h
 cases x with
 | non =>
  cases rx
  cases y with
  | non=>cases ry;exact PySem.EqNone.eq_none_none (Aw I q (by simp))
  | bl j=>cases ry;exact PySem.EqNone.eq_none_bool (Aw I q (by simp))
  | int j=>obtain ⟨t',rfl⟩:=ry;exact PySem.EqNone.eq_none_int (Aw I q (by simp))
  | str j=>obtain ⟨t',rfl⟩:=ry;exact PySem.EqNone.eq_none_str (Aw I q (by simp))
  | _=>exact absurd (show false=true from hs) qeB
 | bl i =>
  cases rx
  cases y with
  | non=>cases ry;exact PySem.EqNone.eq_bool_none (Aw I q (by simp))
  | bl j=>cases ry;exact eq_bool (Aw I q dec_bl)
  | str j=>obtain ⟨t',rfl⟩:=ry;exact PySem.EqMixed.eq_bool_str (Aw I q (by simp))
  | _=>exact absurd (show false=true from hs) qeB
 | int i =>
  obtain ⟨t,rfl⟩:=rx
  cases y with
  | non=>cases ry;exact PySem.EqNone.eq_int_none (Aw I q (by simp))
  | int j=>obtain ⟨t',rfl⟩:=ry;exact eq_int (Aw I q LJ)
  | str j=>obtain ⟨t',rfl⟩:=ry;exact PySem.EqMixed.eq_int_str (Aw I q (by simp))
  | _=>exact absurd (show false=true from hs) qeB
 | str i =>
  obtain ⟨t,rfl⟩:=rx
  cases y with
  | non=>cases ry;exact PySem.EqNone.eq_str_none (Aw I q (by simp))
  | bl j=>cases ry;exact PySem.EqMixed.eq_str_bool (Aw I q (by simp))
  | int j=>obtain ⟨t',rfl⟩:=ry;exact PySem.EqMixed.eq_str_int (Aw I q (by simp))
  | str j=>obtain ⟨t',rfl⟩:=ry;exact eq_str (Aw I q Kq)
  | _=>exact absurd (show false=true from hs) qeB
 | byt i =>
  obtain ⟨t,rfl⟩:=rx
  cases y with
  | byt j=>obtain ⟨t',rfl⟩:=ry;exact PySem.W.eq_bytes (Aw I q L7)
  | _=>exact absurd (show false=true from hs) qeB
 | _=>cases y<;>exact absurd (show false=true from hs) qeB
theorem op_ne:OpR X (compareOp .NotEq) rNe:=by
 intro pins s σ H x y v u Q I rx ry h;obtain ⟨hs,q⟩:=h
 cases x with
 | non =>
  cases rx
  cases y with
  | non=>cases ry;exact PySem.EqNone.ne_none_none (Aw I q (by simp))
  | bl j=>cases ry;exact PySem.EqNone.ne_none_bool (Aw I q (by simp))
  | int j=>obtain ⟨t',rfl⟩:=ry;exact PySem.EqNone.ne_none_int (Aw I q (by simp))
  | str j=>obtain ⟨t',rfl⟩:=ry;exact PySem.EqNone.ne_none_str (Aw I q (by simp))
  | _=>exact absurd (show false=true from hs) qeB
 | bl i =>
  cases rx
  cases y with
  | non=>cases ry;exact PySem.EqNone.ne_bool_none (Aw I q (by simp))
  | bl j=>cases ry;exact ne_bool (Aw I q (congrArg not dec_bl))
  | str j=>obtain ⟨t',rfl⟩:=ry;exact PySem.EqMixed.ne_bool_str (Aw I q (by simp))
  | _=>exact absurd (show false=true from hs) qeB
 | int i =>
  obtain ⟨t,rfl⟩:=rx
  cases y with
  | non=>cases ry;exact PySem.EqNone.ne_int_none (Aw I q (by simp))
  | int j=>obtain ⟨t',rfl⟩:=ry;exact ne_int (Aw I q (congrArg not LJ))
  | str j=>obtain ⟨t',rfl⟩:=ry;exact PySem.EqMixed.ne_int_str (Aw I q (by simp))
  | _=>exact absurd (show false=true from hs) qeB
 | str i =>
  obtain ⟨t,rfl⟩:=rx
  cases y with
  | non=>cases ry;exact PySem.EqNone.ne_str_none (Aw I q (by simp))
  | bl j=>cases ry;exact PySem.EqMixed.ne_str_bool (Aw I q (by simp))
  | int j=>obtain ⟨t',rfl⟩:=ry;exact PySem.EqMixed.ne_str_int (Aw I q (by simp))
  | str j=>obtain ⟨t',rfl⟩:=ry;exact ne_str (Aw I q (congrArg not Kq))
  | _=>exact absurd (show false=true from hs) qeB
 | byt i =>
  obtain ⟨t,rfl⟩:=rx
  cases y with
  | byt j=>obtain ⟨t',rfl⟩:=ry;exact PySem.W.ne_bytes (Aw I q (congrArg not L7))
  | _=>exact absurd (show false=true from hs) qeB
 | _=>cases y<;>exact absurd (show false=true from hs) qeB
theorem op_lt:OpR X (compareOp .Lt) (rI0 fun i j=>.bl (decide (i<j))):=opB0 fun _ _ _ _ _ _ _ q=>lt_int q
theorem op_le:OpR X (compareOp .LtE) (rI0 fun i j=>.bl (decide (i<=j))):=opB0 fun _ _ _ _ _ _ _ q=>le_int q
theorem op_gt:OpR X (compareOp .Gt) (rI0 fun i j=>.bl (decide (j<i))):=opB0 fun _ _ _ _ _ _ _ q=>gt_int q
theorem M4:OpR X (compareOp .In) (fun x y H Q=>∃ i j,x = .str i/\y = .str j/\Q (.bl (!(Builtin.Str.occurrences j i 0 j.length 1).isEmpty)) H):=by
 intro pins s σ H x y v u Q I rx ry h;obtain ⟨i,j,rfl,rfl,q⟩:=h;obtain ⟨t,rfl⟩:=rx;obtain ⟨t',rfl⟩:=ry;exact in_str (Aw I q rfl)
theorem HX:OpR X (compareOp .Is) (fun x y H Q=>y = .non/\Q (.bl (decide (x = .non))) H):=by
 intro pins s σ H x y v u Q I rx ry h;obtain ⟨rfl,q⟩:=h;cases ry;refine is_none_gen (Aw I q ?_)
 cases x<;>first
  | (cases rx;rfl)
  | (obtain ⟨t,rfl⟩:=rx;rfl)
theorem op_notN:OpR X (compareOp .IsNot) (fun x y H Q=>y = .non/\Q (.bl (!decide (x = .non))) H):=by
 intro pins s σ H x y v u Q I rx ry h;obtain ⟨rfl,q⟩:=h;cases ry;refine isnot_none_gen (Aw I q ?_)
 cases x<;>first
  | (cases rx;rfl)
  | (obtain ⟨t,rfl⟩:=rx;rfl)
theorem AS (b:Expr){op:CmpOp}(h:op ≠ .In:=by decide)(h2:op ≠ .NotIn:=by decide):behindInMarks op b=false:=by
 have e1:(op == CmpOp.In)=false:=by cases op<;>first|rfl|exact absurd rfl h
 have e2:(op == CmpOp.NotIn)=false:=by cases op<;>first|rfl|exact absurd rfl h2
 cases b<;>simp [behindInMarks,e1,e2]
theorem Fg {op:CmpOp}{r:R2}(ho:OpR X (compareOp op) r)(ha:PE X a ta)(hb:PE X b tb)(hm:behindInMarks op b=false):PE X (.Compare a [op] [b] pos) (tOp r ta tb):=by
 intro pins s σ H Q I h;exact wpAny_Compare1 (binT ha hb I h fun v u s2 x y H2 I2 rx ry q=>ho pins s2 σ H2 x y v u Q I2 rx ry q) hm
abbrev tTest (t:TE):TT:=fun σ H Q=>t σ H fun x H'=>∃ k,x = .bl k/\Q k H'
theorem AK {op:CmpOp}{r:R2}(ho:OpR X (compareOp op) r)(ha:PE X a ta)(hb:PE X b tb)(hm:behindInMarks op b=false):PT X (.Compare a [op] [b] pos) (tTest (tOp r ta tb)):=by
 intro pins s σ H Q I h
 refine wpAny_isTrue_Compare1 (thn (ha pins s σ H _ I h) fun v s1 ⟨x,H1,I1,r1,q1⟩=>thn (hb pins s1 σ H1 _ I1 q1) fun u s2 ⟨y,H2,I2,r2,q2⟩ =>
  thn (ho pins s2 σ H2 x y v u _ I2 r1 r2 q2) fun c s3 ⟨z,H3,I3,r3,k,e,q3⟩=>?_) hm
 subst e;cases r3;exact wpAny_truthy_bool ⟨H3,I3,q3⟩
def TruV (K:FZ9)(x:V)(H:Hp)(k:Bool):Prop :=
 match x with
 | .non=>k=false
 | .bl b=>k=b
 | .int i=>k=(i != 0)
 | .str y=>y.length<=sizeLine/\k=((y.length:Int) != 0)
 | .byt y=>y.size<=sizeLine/\k=((y.size:Int) != 0)
 | .ref p=>(∃ xs,SqL K H p xs/\k = !xs.isEmpty)\/(∃ xs,SqT K H p xs/\k = !xs.isEmpty)\/∃ kvs,H p=some (.dK kvs)/\k = !kvs.isEmpty
 | _=>False
theorem Kg {κ:Type}{kvs:List (κ × V)}{vs:List (κ × Value)}(r:KV kvs vs):(!vs.isEmpty) = !kvs.isEmpty:=by
 cases r<;>rfl
theorem HL {xs:List V}{its:List Value}(r:Vals xs its):(!its.toArray.isEmpty) = !xs.isEmpty:=by
 cases r<;>simp
theorem Fm:(sizeLine:Nat)<2 ^ 63:=by rw [qzA];decide
theorem tru_ok:TruR X (fun x H Q=>∃ k,TruV X.K x H k/\Q k H):=by
 intro pins s σ H x v Q I rx h;obtain ⟨k,e,q⟩:=h;have hl:=Fm;have hs:sizeLine=16777216:=qzA
 cases x with
 | non =>
  cases rx;have e':k=false:=e;subst e';exact truthy_none ⟨H,I,q⟩
 | bl b =>
  cases rx;have e':k=b:=e;subst e';exact wpAny_truthy_bool ⟨H,I,q⟩
 | int i =>
  obtain ⟨t,rfl⟩:=rx;have e':k=(i != 0):=e;subst e';exact PySem.P.truthy_int ⟨H,I,q⟩
 | str y =>
  obtain ⟨t,rfl⟩:=rx;obtain ⟨hy,e'⟩:y.length<=sizeLine/\k=((y.length:Int) != 0):=e;subst e';exact PySem.P.truthy_str (by omega) ⟨H,I.tok _,q⟩
 | byt y =>
  obtain ⟨t,rfl⟩:=rx;obtain ⟨hy,e'⟩:y.size<=sizeLine/\k=((y.size:Int) != 0):=e;subst e';exact PySem.W.truthy_bytes (by omega) ⟨H,I.tok _,q⟩
 | ref p =>
  cases rx;have e':(∃ xs,SqL X.K H p xs/\k = !xs.isEmpty)\/(∃ xs,SqT X.K H p xs/\k = !xs.isEmpty)\/∃ kvs,H p=some (.dK kvs)/\k = !kvs.isEmpty:=e;rcases e' with ⟨xs,hx,e'⟩ | ⟨xs,hx,e'⟩ | ⟨kvs,hx,e'⟩
  ·subst e';obtain ⟨its,r,pl,hz⟩:=I.list hx;have hlen:=r.length;exact wpAny_truthy_list pl.isList (by simp only [qfB];omega) ⟨H,I.tok _,by rw [HL r];exact q⟩
  ·subst e';obtain ⟨its,r,pl,hz⟩:=I.tuple hx;have hlen:=r.length;exact truthy_tuple pl (by simp only [qfB];omega) ⟨H,I.tok _,by rw [HL r];exact q⟩
  ·subst e';obtain ⟨hz,hS,vs,r,m⟩:kvs.length<=sizeLine/\(p == sysModules)=false/\∃ vs,KV kvs vs/\s.heap.DictOf (Ii X.prog X.w) p vs:=I.hok p _ hx;have hlen:kvs.length=vs.length:=Paired.length r;exact wpAny_truthy_dict hS m (by omega) ⟨H,I.tok _,by rw [Kg r];exact q⟩
 | _=>exact (show False from e).elim
theorem pt_truth (ha:PE X a ta)(he:∀ whole,isTrue a X.env whole=(do let v <- whole;standAt a.pos;holding [v] (truthy v))) :
  PT X a (fun σ H Q=>ta σ H fun x H'=>∃ k,TruV X.K x H' k/\Q k H'):=by
 intro pins s σ H Q I h;exact isTrue_plain (thn (ha pins s σ H _ I h) fun v s1 ⟨x,H1,I1,r1,q1⟩=>tru_ok pins s1 σ H1 x v Q I1 r1 q1) (he _)
theorem Kk:OpR X (binaryOp .Add) (fun x y H Q=>∃ i j,x = .str i/\y = .str j/\i.length+j.length<=sizeLine/\Q (.str (i++j)) H):=by
 intro pins s σ H x y v u Q I rx ry h;obtain ⟨i,j,rfl,rfl,hz,q⟩:=h;obtain ⟨t,rfl⟩:=rx;obtain ⟨t',rfl⟩:=ry;exact add_str (fun t' tk=>⟨.str (i++j),H,I.tok _,⟨_,rfl⟩,q⟩) hz
theorem IM {x:V}{us:List Value}(r:Vals [x] us):∃ u,us=[u]/\RelV x u:=by
 cases r with
 | cons r1 r2=>cases r2;exact ⟨_,rfl,r1⟩
theorem vals2 {x y:V}{us:List Value}(r:Vals [x,y] us):∃ u w',us=[u,w']/\RelV x u/\RelV y w':=by
 cases r with
 | cons r1 r2 =>
  cases r2 with
  | cons r3 r4=>cases r4;exact ⟨_,_,rfl,r1,r3⟩
theorem M8 (hc:X.calm=true):EF X (.builtin "min") (fun xs H Q=>∃ i j,xs=[.int i,.int j]/\Q (.int (if j<i then j else i)) H):=by
 intro pins s σ H xs us Q I r h;obtain ⟨i,j,rfl,q⟩:=h;obtain ⟨u,w',rfl,⟨t,rfl⟩,⟨t',rfl⟩⟩:=vals2 r;refine min_two_ints (I.ok.hd hc) fun h' tk k=>⟨_,H,I.kept k,?_,q⟩;by_cases hj:j<i
 ·rw [if_pos hj,if_pos hj];exact ⟨_,rfl⟩
 ·rw [if_neg hj,if_neg hj];exact ⟨_,rfl⟩
end
structure Room (k:Nat)(A:Around):Prop where
 hd:A.handled=none
 dp:A.depth+3 * k+5<recursionLimit
 un:A.units+16 * k+200<cLine
theorem Room.mono {j k:Nat}{A:Around}(r:Room k A)(h:j<=k):Room j A:=⟨r.hd,by have:=r.dp;omega,by have:=r.un;omega⟩
theorem Room.deeper {k:Nat}{A:Around}(r:Room (k+1) A)(env:Env):Room k (A.deeper env) :=
 ⟨r.hd,by have:=r.dp;show A.depth+1+3 * k+5<_;omega,by have:=r.un;show A.units+3+16 * k+200<_;omega⟩
theorem Room.depth {k:Nat}{A:Around}(r:Room k A):A.depth<recursionLimit:=by have:=r.dp;omega
abbrev CM:TA:=fun _ H Q=>Q [] H
abbrev Aq (ta:TE)(tr:TA):TA:=fun σ H Q=>ta σ H fun x H1=>tr σ H1 fun xs H2=>Q (x::xs) H2
section
variable {X:Cx}{e:Expr}{es:List Expr}{te:TE}{t:TA}{pos:Pos}
theorem A9:PA X [] CM:=fun _ _ _ _ H Q I h=>Calls.spliced_nil ⟨[],H,I,.nil,h⟩
theorem A2 (ha:PE X e te)(hr:PA X es t)(hs:starEach (e::es) X.env=(false,eval e X.env)::starEach es X.env:=by rfl):PA X (e::es) (Aq te t):=by
 intro pos pins s σ H Q I h;rw [hs];show wpAny _ _ (spliced ((false,eval e X.env)::backTo pos (starEach es X.env))) _ _ s;refine Calls.spliced_cons (thn (ha pins s σ H _ I h) fun u s1 ⟨x,H1,I1,r1,q1⟩=>?_);exact thn (hr pos pins s1 σ H1 _ I1 q1) fun us s2 ⟨xs,H2,I2,r2,q2⟩=>⟨x::xs,H2,I2,.cons r1 r2,q2⟩
abbrev Lw (t:TA):TE:=fun σ H Q=>t σ H fun xs H1=>xs.length<=sizeLine/\∀ p,H1 p=none->Q (.ref p) (upd H1 p (.tup xs))
abbrev tLst (t:TA):TE:=fun σ H Q=>t σ H fun xs H1=>xs.length<=sizeLine/\∀ p,H1 p=none->Q (.ref p) (upd H1 p (.lst xs))
theorem Bj {x1}(h:PA X es t):PE X (.Tuple es x1 pos) (Lw t):=by
 intro pins s σ H Q I hq;refine wpAny_Tuple_spliced (thn (h pos pins s σ H _ I hq) fun us s1 ⟨xs,H1,I1,r,z,q⟩=>⟨by rw [<- r.length];exact z,?_⟩);have hf:H1 s1.heap.objs.size=none:=I1.hok.fresh (qsA _);refine ⟨.ref s1.heap.objs.size,upd H1 s1.heap.objs.size (.tup xs),I1.laid (t':=s1.toks) (fun b u e=>qxA _ e) (qsA _) ?_,rfl,q _ hf⟩;exact ⟨z,us,r,⟨_,qyA _ rfl,rfl,_,rfl⟩⟩
theorem CO (h:PA X es t):PE X (.List es pos) (tLst t):=by
 intro pins s σ H Q I hq;refine wpAny_List_spliced (thn (h pos pins s σ H _ I hq) fun us s1 ⟨xs,H1,I1,r,z,q⟩=>⟨by rw [<- r.length];exact z,?_⟩);have hf:H1 s1.heap.objs.size=none:=I1.hok.fresh (qsA _);refine ⟨.ref s1.heap.objs.size,upd H1 s1.heap.objs.size (.lst xs),I1.laid (t':=s1.toks) (fun b u e=>qxA _ e) (qsA _) ?_,rfl,q _ hf⟩;exact ⟨z,us,0,r,qyA _ rfl⟩
end
abbrev Sp:=List V->Hp->VK->XK->Prop
abbrev CXT:=List Env->Hp->Shared->XK->Value->Shared->Prop
structure Env0 (P:Program)(w:World)(K:FZ9)(mg:Str->Option Value)(base:Heap)(A:Around)(outer:List Env)(s:Shared)(H:Hp):Prop where
 frames:A.frames=some outer
 mod:Mod K mg base
 bs:∀ b o,base.get? b=some o->s.heap.get? b=some o/\H b=none
 bsz:base.objs.size<=s.heap.objs.size
 funs:s.heap.FunFrames base outer
 frf:∀ b∈frs outer,H b=none
 hok:HOk P w H s.heap
 bare:AllBare s.gens
def CE (outer:List Env)(P:Program)(w:World)(H:Hp)(s:Shared)(Q:VK)(u:Value)(s':Shared):Prop :=
 ∃ v H',s'.os=s.os/\AllBare s'.gens/\Un (frs outer) [] H H' s.heap s'.heap/\HOk P w H' s'.heap/\RelV v u/\Q v H'
def CR (CX:CXT)(outer:List Env)(P:Program)(w:World)(H:Hp)(s:Shared)(Q:VK)(E:XK)(r:Result)(s':Shared):Prop :=
 match r with
 | .ok (.ret u)=>CE outer P w H s Q u s'
 | .ok _=>False
 | .error e=>CX outer H s E e s'
structure FnOk (P:Program)(w:World)(K:FZ9)(mg:Str->Option Value)(base:Heap)(CX:CXT)(k:Nat)(f:Addr)(fd:FuncData)(ps:List Str)(sp:Sp):Prop where
 len:∀ vs H Q E,sp vs H Q E->vs.length=ps.length
 run:∀ (A:Around) (outer:List Env) (s:Shared) (H:Hp) (args:Args) (us:List Value) (vs:List V) (Q:VK) (E:XK),Room k A->Env0 P w K mg base A outer s H->BindsTo s fd args (ps.zip us)->Vals vs us->sp vs H Q E ->
  codeAny (model P w) A (.call (.ref f) args) (CR CX outer P w H s Q E) s
theorem FnOk.imp {P:Program}{w:World}{K:FZ9}{mg:Str->Option Value}{base:Heap}{CX:CXT}{k:Nat}{f:Addr}{fd:FuncData}{ps:List Str}{sp sp':Sp}(F:FnOk P w K mg base CX k f fd ps sp)
  (h:∀ vs H Q E,sp' vs H Q E->sp vs H Q E):FnOk P w K mg base CX k f fd ps sp' :=
 ⟨fun vs H Q E q=>F.len vs H Q E (h _ _ _ _ q),fun A outer s H args us vs Q E hr he hb hv hs=>F.run A outer s H args us vs Q E hr he hb hv (h _ _ _ _ hs)⟩
section
variable {X:Cx}{pins:List (Addr × Obj)}{σ:St}{H:Hp}{s s':Shared}
theorem Inv.env0 (I:Inv X pins σ H s):Env0 X.prog X.w X.K X.mg X.base X.A X.stack s H :=
 ⟨I.ok.frames,I.ok.mod,I.bs,qtA I.ok.bsz I.sz,I.stack,I.stkFree,I.hok,I.bare⟩
theorem Inv.after {Q:VK}{u:Value}(I:Inv X pins σ H s)(h:CE X.stack X.prog X.w H s Q u s'):EP X pins σ Q u s':=by
 obtain ⟨v,H',os,bare,un,hok,r,q⟩:=h;obtain ⟨hh,g,d,t,os'⟩:=s';obtain rfl:os'=s.os:=os;exact ⟨v,H',I.call (h':=hh) (g':=g) (d':=d) (t':=t) (ch:=[]) un hok bare (fun b z=>absurd z (by simp)),r,q⟩
end
abbrev FW (sp:Sp)(dvs:List V)(E:XK)(t:TA):TE:=fun σ H Q=>t σ H fun vs H1=>sp (vs++dvs) H1 Q E
def Binds (K:FZ9)(fd:FuncData)(ps:List Str)(ds:List Value):Prop :=
 ∀ (s:Shared) (us:List Value),K.In s.heap->(us++ds).length=ps.length->BindsTo s fd ⟨us,[]⟩ (ps.zip (us++ds))
theorem Binds.all {K:FZ9}{fd:FuncData}{ps:List Str}(h:∀ us:List Value,us.length=ps.length->bindArgs fd ⟨us,[]⟩=pure (ps.zip us)):Binds K fd ps []:=fun s us _ hl=>by
 rw [qrA] at hl ⊢;exact .of_eq (h us hl)
def KR (CX:CXT)(X:Cx)(E:XK):Prop:=∀ (pins:List (Addr × Obj)) (σ:St) (H:Hp) (s:Shared) (e:Value) (s':Shared),Inv X pins σ H s->CX X.stack H s E e s'->X.xe e s'
section
variable {X:Cx}{CX:CXT}{k:Nat}{f C:Addr}{fd:FuncData}{ps:List Str}{sp:Sp}{dvs:List V}{ds:List Value}{E:XK}{x m:Str}{p pos apos:Pos}{e o:Expr}{es:List Expr}{ta:TE}{t:TA}
theorem run_fn {pins:List (Addr × Obj)}{σ:St}{H:Hp}{s:Shared}{Q:VK}{us:List Value}{vs:List V}(F:FnOk X.prog X.w X.K X.mg X.base CX k f fd ps sp)(hr:Room k X.A)(hb:Binds X.K fd ps ds)(hd:Vals dvs ds)(hx:KR CX X E)
  (I:Inv X pins σ H s) (r:Vals vs us) (h:sp (vs++dvs) H Q E):wpAny (model X.prog X.w) X.A (call (.ref f) us) (EP X pins σ Q) X.xe s:=by
 have r2:Vals (vs++dvs) (us++ds):=r.append hd;have hl:(us++ds).length=ps.length:=by rw [<- r2.length];exact F.len _ _ _ _ h
 refine wpAny_call (codeAny_mono (F.run X.A X.stack s H ⟨us,[]⟩ (us++ds) (vs++dvs) Q E hr I.env0 (hb s us I.kIn hl) r2 h) fun r s' hq=>?_)
 cases r with
 | error e=>exact hx pins σ H s e s' I hq
 | ok fl =>
  cases fl with
  | ret u=>exact I.after hq
  | next=>exact False.elim hq
  | brk=>exact False.elim hq
  | cont=>exact False.elim hq
theorem pe_call (F:FnOk X.prog X.w X.K X.mg X.base CX k f fd ps sp)(hr:Room k X.A)(hg:Gl X x)(hm:X.mg x=some (.ref f))(hk:qiB X.K (.ref f)=true)(hb:Binds X.K fd ps ds)(hd:Vals dvs ds)(hx:KR CX X E)
  (ha:PA X (e::es) t) (hdb:(x == ("__debug__" : Str))=false:=by decide) (he:starEach (e::es) X.env=(false,eval e X.env)::starEach es X.env:=by rfl) (hpl:(backTo pos (starEach es X.env)).any (·.1)=false:=by rfl) :
  PE X (.Call (.Name x p) (e::es) [] pos) (FW sp dvs E t):=by
 intro pins s σ H Q I h;refine wpAny_Call_Name_kw (D4 I hg hm ?_ hdb);refine PySem.W.callWith_K (h₀:=X.base) I.ok.mod.kin hk (thn (ha pos pins s σ H _ I h) fun us s1 ⟨vs,H1,I1,r,q⟩=>⟨I1.kIn,?_⟩) he hpl;exact run_fn F hr hb hd hx I1 r q
end
structure FnScope (N P:List Str)(sc:Scope):Prop where
 kind:sc.kind = .function
 co:sc.isCoroutine=false
 gen:sc.isGenerator=false
 nd:N.Nodup
 pre:N.take P.length=P
 par:∀ x∈P,sc.names.lookup x=some .local \/ sc.names.lookup x=some .cell
 nofree:∀ y∈sc.names,y.2 ≠ .free
theorem IG {kindOf:Str->Option NameKind}{x:Str}:∀ {binds:List (Str × Value)}{m:Str->Option Value},(∀ v,(x,v) ∉ binds)->bindL kindOf binds m x=m x
 | [],_,_=>rfl
 | (n,v)::r,m,h=>by
  unfold bindL;rw [IG fun w hw=>h w (qmA _ hw)];split
  ·have:x≠n:=by rintro rfl;exact h v qkA
   simp [this]
  ·rfl
theorem IC {kindOf:Str->Option NameKind}{x:Str}:∀ {binds:List (Str × Value)}{m:Str->Option Value},(∀ v,(x,v) ∉ binds)->bindC kindOf binds m x=m x
 | [],_,_=>rfl
 | (n,v)::r,m,h=>by
  unfold bindC;rw [IC fun w hw=>h w (qmA _ hw)];split
  ·rfl
  ·have:x≠n:=by rintro rfl;exact h v qkA
   simp [this]
theorem IR {kindOf:Str->Option NameKind}{x:Str}{v:Value}:∀ {P:List Str}{vs:List Value}{i:Nat}{m:Str->Option Value},P.Nodup->P[i]? = some x->vs[i]? = some v->kindOf x=some .local ->
  bindL kindOf (P.zip vs) m x=some v
 | [],_,_,_,_,h,_,_=>by simp at h
 | _::_,[],_,_,_,_,h,_=>by simp at h
 | p::P,w::vs,0,m,nd,h1,h2,hk=>by
  simp at h1 h2;subst h1;subst h2;show bindL kindOf ((p,w)::P.zip vs) m p=_;unfold bindL;rw [IG fun v hv=>(List.nodup_cons.mp nd).1 (List.of_mem_zip hv).1,if_pos hk];simp
 | p::P,w::vs,i+1,m,nd,h1,h2,hk=>by
  show bindL kindOf ((p,w)::P.zip vs) m x=_;unfold bindL;exact IR (i:=i) (List.nodup_cons.mp nd).2 (by simpa using h1) (by simpa using h2) hk
theorem IK {kindOf:Str->Option NameKind}{x:Str}{v:Value}:∀ {P:List Str}{vs:List Value}{i:Nat}{m:Str->Option Value},P.Nodup->P[i]? = some x->vs[i]? = some v->kindOf x≠some .local ->
  bindC kindOf (P.zip vs) m x=some v
 | [],_,_,_,_,h,_,_=>by simp at h
 | _::_,[],_,_,_,_,h,_=>by simp at h
 | p::P,w::vs,0,m,nd,h1,h2,hk=>by
  simp at h1 h2;subst h1;subst h2;show bindC kindOf ((p,w)::P.zip vs) m p=_;unfold bindC;rw [IC fun v hv=>(List.nodup_cons.mp nd).1 (List.of_mem_zip hv).1,if_neg hk];simp
 | p::P,w::vs,i+1,m,nd,h1,h2,hk=>by
  show bindC kindOf ((p,w)::P.zip vs) m x=_;unfold bindC;exact IK (i:=i) (List.nodup_cons.mp nd).2 (by simpa using h1) (by simpa using h2) hk
def start (N:List Str)(vs:List V):St:=vs.map some++List.replicate (N.length - vs.length) none
def DV (CX:CXT)(P:Program)(w:World)(K:FZ9)(mg:Str->Option Value)(base:Heap)(N:List Str)(qual:Str)(scope:Scope)(f:Addr)(cd:Value)(A:Around)(outer:List Env)(s:Shared)(H:Hp)(E:XK):Cx where
 prog:=P
 w:=w
 K:=K
 mg:=mg
 base:=base
 A:=A.deeper (envOfC qual scope s.heap.objs.size f cd)
 N:=N
 s₀:=s
 H₀:=H
 env:=envOfC qual scope s.heap.objs.size f cd
 outer:=outer
 stack:=envOfC qual scope s.heap.objs.size f cd::outer
 ex:=[]
 calm:=true
 fn:=fun _=>true
 pn:=[]
 xe:=fun e s'=>wpAny (model P w) (A.deeper (envOfC qual scope s.heap.objs.size f cd)) (leaving (envOfC qual scope s.heap.objs.size f cd) e) (fun _ s''=>CX outer H s E e s'') (fun e' s''=>CX outer H s E e' s'') s'
theorem K2 {sc:Scope}{n:Nat}{x:Str}(h:sc.names.lookup x=some .cell):∃ c,(cellsFrom n sc.names []).lookup x=some c:=by
 have q:=PySem.W.cellsFrom_some sc.names n [] (.inl h);exact Option.isSome_iff_exists.mp q
theorem Ek {CX:CXT}{P:Program}{w:World}{K:FZ9}{mg:Str->Option Value}{base:Heap}{N ps:List Str}{qual:Str}{scope:Scope}{f:Addr}{cd:Value}{A:Around}{outer:List Env}{s s1:Shared}{H:Hp}{E:XK}{us:List Value}{vs:List V}
  (S:FnScope N ps scope) (hd:A.handled=none) (e0:Env0 P w K mg base A outer s H) (hl:vs.length=ps.length) (r:Vals vs us)
  (x:InCallC s s.heap.objs.size (bindL (envOfC qual scope s.heap.objs.size f cd).kindOf (ps.zip us) fun _=>none) (cellsFrom (s.heap.objs.size+1) scope.names []) (bindC (envOfC qual scope s.heap.objs.size f cd).kindOf (ps.zip us) fun _=>none) s1) :
  Inv (DV CX P w K mg base N qual scope f cd A outer s H E) [] (start N vs) H s1:=by
 have hpl:ps.length<=N.length:=by have:=congrArg List.length S.pre;rw [List.length_take] at this;omega
 obtain ⟨h1,tk,rfl,hk⟩:=x.done;have noA:∀ b:Addr,b ∉ (DV CX P w K mg base N qual scope f cd A outer s H E).ex:=fun b z=>absurd (show b∈([]:List Addr) from z) (by simp)
 refine ⟨⟨e0.mod,S.kind,rfl,rfl,qsA _,fun y z c h1 h2=>?_,fun y hy=>?_,fun y c _ h=>?_,fun _=>hd,Around.frames_deeper e0.frames,.inr ⟨rfl,rfl⟩,fun b z=>absurd z (noA b),e0.bs,e0.bsz,fun b _ _=>noA b,fun b z=>absurd z (noA b),e0.funs,e0.frf⟩,
  rfl,e0.bare,Un.kept hk,⟨_,x.toInCall.ns,fun i y v h1 h2 h3=>?_⟩,fun y c h=>⟨_,x.cell y c h⟩,e0.hok.fresh (qsA _),fun y c h=>?_,fun p hp=>absurd (show p∈([]:List (Addr × Obj)) from hp) (by simp),e0.hok.kept hk,?_⟩
 ·exact name_of_addr x.apart (PySem.mem_of_lookup h1) (PySem.mem_of_lookup h2)
 ·have hy:scope.names.lookup y=some .cell\/scope.names.lookup y=some .free:=hy;rcases hy with hy|hy
  ·exact K2 hy
  ·exact absurd rfl (S.nofree _ (PySem.mem_of_lookup hy))
 ·exact Nat.le_of_lt (x.above y c (PySem.mem_of_lookup h))
 ·have hi:i<vs.length:=by
   unfold start at h2;by_cases hi:i<vs.length
   ·exact hi
   ·rw [List.getElem?_append_right (by simpa using hi)] at h2;rw [List.getElem?_replicate] at h2;split at h2<;>cases h2
  have ha:vs[i]? = some v:=by
   unfold start at h2;rw [List.getElem?_append_left (by simpa using hi),List.getElem?_map] at h2
   cases e:vs[i]? with
   | none=>rw [e] at h2;cases h2
   | some a=>rw [e] at h2;cases h2;rfl
  obtain ⟨u,hu,rv⟩:=r.get ha
  have hp:ps[i]? = some y:=by
   rw [<- S.pre,List.getElem?_take_of_lt (by omega)];exact h1
  have ndP:ps.Nodup:=by rw [<- S.pre];exact S.nd.sublist (List.take_sublist _ _)
  refine ⟨u,rv,?_⟩;rcases S.par y (qnA hp) with k|k
  ·exact .inl ⟨k,IR ndP hp hu k⟩
  ·obtain ⟨c,e⟩:=K2 (n:=s.heap.objs.size+1) k;refine .inr ⟨.inl k,c,e,?_⟩;have q:=x.cell y c e;rw [IK ndP hp hu (by show scope.names.lookup y≠_;rw [k];decide)] at q;exact q
 ·exact e0.hok.fresh (Nat.le_of_lt (x.above y c (PySem.mem_of_lookup h)))
 ·unfold start;show _=N.length;rw [qeA,qdA,List.length_replicate];omega
theorem fn_of {CX:CXT}{P:Program}{w:World}{K:FZ9}{mg:Str->Option Value}{base:Heap}{k:Nat}{f:Addr}{name qual:Str}{params:Arguments}{body:List Stmt}{scope:Scope}{dV kV doc pm cdv ct oc:Value}{an od:Option Addr}
  {osl:Array (Option Value)}{N ps:List Str}{sp:Sp}(lk:K.lookup f=some ⟨oc,od,.func (qkB name qual params body scope dV kV doc pm an cdv ct),osl⟩) (hcd:qjB K cdv qual=true) (S:FnScope N ps scope)
  (len:∀ vs H Q E,sp vs H Q E->vs.length=ps.length)
  (hbody:∀ (A:Around) (outer:List Env) (s:Shared) (H:Hp) (vs:List V) (Q:VK) (E:XK),Room k (A.deeper (envOfC qual scope s.heap.objs.size f cdv))->sp vs H Q E ->
   ∃ t,PSs (DV CX P w K mg base N qual scope f cdv A outer s H E) body t/\t { nx:=fun _ H'=>Q .non H',rt:=Q } (start N vs) H) :
  FnOk P w K mg base CX (k+1) f (qkB name qual params body scope dV kV doc pm an cdv ct) ps sp:=by
 refine ⟨len,fun A outer s H args us vs Q E hr e0 hb r hsp=>?_⟩;have hl:=len _ _ _ _ hsp;have KX:K.In s.heap:=e0.mod.kin.keeps fun b o e=>(e0.bs b o e).1;have lim:s.heap.NoLimit:=e0.mod.nolimit.keeps fun b o e=>(e0.bs b o e).1
 have hkind:∀ y∈ps.zip us,scope.names.lookup y.1=some .local \/ (scope.names.lookup y.1=some .cell/\((cellsFrom (s.heap.objs.size+1) scope.names []).lookup y.1).isSome=true):=fun ⟨n,v⟩ hy=>by
  rcases S.par n (List.of_mem_zip hy).1 with q|q
  ·exact .inl q
  ·exact .inr ⟨q,PySem.W.cellsFrom_some _ _ _ (.inl q)⟩
 refine codeAny_call_function hr.depth (KX _ _ lk) rfl S.co S.gen rfl (PySem.W.codeRec_of KX hcd) (hb _ _ _ _ ?_);refine wpAny_newFunctionEnv_cells S.kind hkind fun env he s1 x=>?_;subst he;refine ⟨lim.keeps x.toInCall.keep,codeAny_func ?_⟩;obtain ⟨t,ht,hq⟩:=hbody A outer s H vs Q E (hr.deeper _) hsp;have I:Inv (DV CX P w K mg base N qual scope f cdv A outer s H E) [] (start N vs) H s1:=Ek S hr.hd e0 hl r x;refine wpAny_mono (ht [] s1 (start N vs) H _ I hq) (fun fl s' hs=>?_) fun e s' hs=>hs
 have fin:∀ {σ':St}{H':Hp}{v:V}{u:Value},Inv (DV CX P w K mg base N qual scope f cdv A outer s H E) [] σ' H' s'->RelV v u->Q v H'->CE outer P w H s Q u s' :=
  fun {σ' H' v u} J rv q=>⟨v,H',J.os,J.bare,J.base,J.hok,rv,q⟩
 cases fl with
 | ret u =>
  obtain ⟨v,σ',H',J,rv,q⟩:=hs;exact fin J rv q
 | next =>
  obtain ⟨σ',H',J,q⟩:=hs;exact fin (v:=V.non) (u:=Value.none) J rfl q
 | brk =>
  obtain ⟨_,_,_,q⟩:=hs;exact False.elim q
 | cont =>
  obtain ⟨_,_,_,q⟩:=hs;exact False.elim q
section
variable {X:Cx}{x:Str}{p pos:Pos}{e:Expr}{es:List Expr}{t:TA}{id T:String}{r:List V->Hp->VK->Prop}
abbrev tCB (r:List V->Hp->VK->Prop)(t:TA):TE:=fun σ H Q=>t σ H fun vs H1=>r vs H1 Q
theorem BH (hc:EF X (.builtin id) r)(hg:Gl X x)(hm:X.mg x=none)(hv:bootBuiltins x=some (.builtin id))(ha:PA X (e::es) t)(hn:x ≠ "__name__" := by decide)(hdb:(x == ("__debug__" : Str))=false:=by decide)
  (he:starEach (e::es) X.env=(false,eval e X.env)::starEach es X.env:=by rfl) (hpl:(backTo pos (starEach es X.env)).any (·.1)=false:=by rfl):PE X (.Call (.Name x p) (e::es) [] pos) (tCB r t):=by
 intro pins s σ H Q I h;refine wpAny_Call_Name_kw (JM I hg hm hv ?_ hn hdb);exact PyProof.Rows.callWith_builtin1 (thn (ha pos pins s σ H _ I h) fun us s1 ⟨vs,H1,I1,r1,q1⟩=>hc pins s1 σ H1 vs us Q I1 r1 q1) he hpl
end
end L2
namespace HT
open PySem PyProof.Rows
section
open PySem.SeqAt
open PySem.AutoSeq1 (wpAny_loadPart')
open PySem.MeetsSeq PySem.MeetsSeq2 PySem.MeetsSeq3
end
section
variable {prog:Program}{w:World}{A:Around}{E:Value->Shared->Prop}{s:Shared}
def sIx (n d:Nat):Option Int->Nat
 | none=>d
 | some v=>if v<0 then (v+(n:Int)).toNat else min v.toNat n
theorem sIx_le (n d:Nat)(hd:d<=n)(o:Option Int):sIx n d o<=n:=by
 cases o with
 | none=>exact hd
 | some v =>
  show (if v<0 then (v+(n:Int)).toNat else min v.toNat n)<=n;by_cases hv:v<0
  ·rw [if_pos hv];omega
  ·rw [if_neg hv];exact Nat.min_le_right _ _
theorem Kr (v:Int)(n d:Nat):(if v<0 then max (v+(n:Int)) 0 else min v (n:Int))=((sIx n d (some v):Nat):Int):=by
 show (if v<0 then max (v+(n:Int)) 0 else min v (n:Int))=(((if v<0 then (v+(n:Int)).toNat else min v.toNat n):Nat):Int);by_cases hv:v<0
 ·simp only [if_pos hv];omega
 ·simp only [if_neg hv];omega
theorem Kd (lo hi:Option Int)(n:Nat):Builtin.Slice.sliceAdjust lo hi 1 (n:Int)=(((sIx n 0 lo:Nat):Int),((sIx n n hi:Nat):Int)):=by
 have h1:¬ ((1:Int)<0):=by omega
 unfold Builtin.Slice.sliceAdjust;simp only [h1,if_false];refine Prod.ext ?_ ?_
 ·cases lo with
  | none=>rfl
  | some v=>exact Kr v n 0
 ·cases hi with
  | none=>rfl
  | some v=>exact Kr v n n
theorem KP (i j:Nat):Builtin.Slice.slicePlaces (i:Int) (j:Int) 1=j - i:=by
 unfold Builtin.Slice.slicePlaces;have h1:(1:Int) > 0:=by omega
 simp only [h1,if_true,Int.ediv_one];split<;>omega
theorem HP {v:Value}{o:Option Int}{Q:Option Int->Shared->Prop}(p:IsPart v o)(h:Q o s):wpAny (model prog w) A (Builtin.Slice.slicePartIndex v) Q E s:=by
 cases p with
 | none=>exact slicePart_none h
 | int i t=>exact slicePart_int h
theorem Fw {sl:Addr}{vl vu:Value}{lo hi:Option Int}{n:Nat}{Q:Int × Int × Nat->Shared->Prop}(hs:s.heap.IsSliceOf sl vl vu .none)(pl:IsPart vl lo)(pu:IsPart vu hi)
  (h:Q (((sIx n 0 lo:Nat):Int),1,sIx n n hi - sIx n 0 lo) s):wpAny (model prog w) A (Builtin.Slice.sliceApplied (.ref sl) (pure (n:Int))) Q E s:=by
 obtain ⟨os,hos,hcs,hds⟩:=id hs;unfold Builtin.Slice.sliceApplied Builtin.Slice.sliceFields;refine qbA (qbA (wpAny_field hos hds (x:=vl) rfl (qbA (wpAny_field hos hds (x:=vu) rfl (qbA (wpAny_field hos hds (x:=.none) rfl (qcA ?_)))))));refine qbA (slicePart_none ?_);show wpAny _ _ (if ((1:Int) == 0)=true then _ else _) _ _ s;rw [if_neg (by decide)];refine qbA (HP pl (qbA (HP pu (qbA (qcA ?_)))));show wpAny _ _ (match Builtin.Slice.sliceAdjust lo hi 1 (n:Int) with | (lo,hi)=>pure (lo,(1:Int),Builtin.Slice.slicePlaces lo hi 1)) _ _ s;rw [Kd lo hi n];show wpAny _ _ (pure (((sIx n 0 lo:Nat):Int),(1:Int),Builtin.Slice.slicePlaces ((sIx n 0 lo:Nat):Int) ((sIx n n hi:Nat):Int) 1)) _ _ s;rw [KP];exact qcA h
theorem pick_gen (xs:Array Value)(i k:Nat):((List.range k).filterMap fun (m:Nat)=>xs[((i:Int)+(m:Int) * 1).toNat]?).toArray=((xs.toList.drop i).take k).toArray:=by
 have e:(fun (m:Nat)=>xs[((i:Int)+(m:Int) * 1).toNat]?)=fun m=>xs[i+m]?:=by
  funext m
  have:((i:Int)+(m:Int) * 1).toNat=i+m:=by omega
  rw [this]
 rw [e];have:=pick_run xs i k;rw [List.filterMap_map] at this;have e2:((fun x=>xs[x]?)∘fun x=>i+x)=fun m=>xs[i+m]?:=rfl;rw [e2] at this;rw [this]
theorem getItem_tuple_cut {t sl:Addr}{items:Array Value}{vl vu:Value}{lo hi:Option Int}{Q:Value->Shared->Prop}(ht:IsTup s.heap t items)(hs:s.heap.IsSliceOf sl vl vu .none)(pl:IsPart vl lo)(pu:IsPart vu hi)
  (hw:¬ (sIx items.size 0 lo=0/\sIx items.size items.size hi=items.size))
  (h:Q (.ref s.heap.objs.size) { s with heap:=s.heap.push { cls:=.type "tuple",data:=.seq ((items.toList.drop (sIx items.size 0 lo)).take (sIx items.size items.size hi - sIx items.size 0 lo)).toArray } })
  (hsz:items.size<=sizeLine):wpAny (model prog w) A (getItem (.ref t) (.ref sl)) Q E s:=by
 have htake:sizeOk (.seq ((items.toList.drop (sIx items.size 0 lo)).take (sIx items.size items.size hi - sIx items.size 0 lo)).toArray):=by
  show ((items.toList.drop (sIx items.size 0 lo)).take (sIx items.size items.size hi - sIx items.size 0 lo)).toArray.size<=sizeLine;rw [qfB,List.length_take,List.length_drop,qnB];omega
 have hj:sIx items.size items.size hi<=items.size:=sIx_le _ _ (qsA _) hi;obtain ⟨os,hos,hcs,hds⟩:=id hs;have hTs:s.TypeIs (.ref sl) "slice" := ⟨os,hos,hcs⟩;unfold getItem
 try with_reducible refine wpAny_holding ?_
 first|refine qbA (qcA ?_)|skip
 refine qbA (wpAny_sequenceKey ht.typeIs (by decide) ?_)
 refine qbA (wpAny_callSpecial?_slot (name:=Str.ofString "__getitem__") ht.typeIs PyProof.Rows.slot_tuple_getitem
  (wpAny_call_entry PyProof.Rows.slot_tuple_getitem ht.typeIs entry_tuple_getitem ?_ (args_tuple_getitem _ _)))
 show wpAny _ _ (Builtin.Tuple.tupleItemsOf (.ref t) >>= _) _ _ s;refine qbA (tupleItemsOf_ ht ?_);refine qbA (wpAny_typeOf hTs ?_);rw [if_pos (by decide)];refine qbA (Fw hs pl pu ?_)
 have hno:¬ ((((sIx items.size 0 lo:Nat):Int) == 0 && (1:Int) == 1 && (sIx items.size items.size hi - sIx items.size 0 lo) == items.size)=true):=by
  intro q;rw [qtB,qtB] at q;have q1:((sIx items.size 0 lo:Nat):Int)=0:=eq_of_beq q.1.1;have q2:sIx items.size items.size hi - sIx items.size 0 lo=items.size:=eq_of_beq q.2;exact hw ⟨by omega,by omega⟩
 show wpAny _ _ (if (((sIx items.size 0 lo:Nat):Int) == 0 && (1:Int) == 1 && (sIx items.size items.size hi - sIx items.size 0 lo) == items.size)=true then _ else _) _ _ s;rw [if_neg hno,pick_gen]
 first
  | exact qbA (m:=Builtin.Tuple.tupleExact _) (wpAny_newObj_type (qcA ⟨_,rfl,qcA h⟩) htake)
  | exact qbA (m:=Builtin.Tuple.tupleExact _) (wpAny_newObj_type (qbA (qcA (qcA ⟨_,rfl,qcA h⟩))) htake)
  | exact qbA (qbA (m:=Builtin.Tuple.tupleExact _) (wpAny_newObj_type (qcA (qcA ⟨_,rfl,qcA h⟩)) htake))
  | exact qbA (qbA (m:=Builtin.Tuple.tupleExact _) (wpAny_newObj_type (qcA ⟨_,rfl,qcA h⟩) htake))
end
end HT
namespace L2
open PySem PySem.Spec PyProof.Rows
abbrev TO:=St->Hp->(Option Int->Hp->Prop)->Prop
def PO (X:Cx)(e:Option Expr)(t:TO):Prop :=
 ∀ (pins:List (Addr × Obj)) (s:Shared) (σ:St) (H:Hp) (Q:Option Int->Hp->Prop),Inv X pins σ H s->t σ H Q ->
  wpAny (model X.prog X.w) X.A (evalPart e X.env) (fun u s'=>∃ o H',Inv X pins σ H' s'/\IsPart u o/\Q o H') X.xe s
abbrev LH:TO:=fun _ H Q=>Q none H
abbrev tPart (t:TE):TO:=fun σ H Q=>t σ H fun x H1=>∃ i,x = .int i/\Q (some i) H1
section
variable {X:Cx}{e:Expr}{te:TE}{lo hi:Option Expr}{tl th:TO}{pos p2:Pos}
theorem BZ:PO X none LH:=by
 intro pins s σ H Q I h;rw [evalPart_none];exact qcA ⟨none,H,I,.none,h⟩
theorem Au (h:PE X e te):PO X (some e) (tPart te):=by
 intro pins s σ H Q I hw;rw [evalPart_some];refine thn (h pins s σ H _ I hw) fun u s1 ⟨x,H1,I1,r1,q1⟩=>?_;obtain ⟨i,rfl,q⟩:=q1;obtain ⟨t,rfl⟩:=r1;exact ⟨some i,H1,I1,.int i t,q⟩
def SlR (X:Cx)(r:V->Option Int->Option Int->Hp->VK->Prop):Prop :=
 ∀ (pins:List (Addr × Obj)) (s:Shared) (σ:St) (H:Hp) (x:V) (v vl vu:Value) (lo hi:Option Int) (sl:Addr) (Q:VK),Inv X pins σ H s->RelV x v->s.heap.IsSliceOf sl vl vu .none->IsPart vl lo->IsPart vu hi->r x lo hi H Q ->
  ∃ T id,typeLookup (.type T) "__getitem__" = pure (some (.builtin id))/\s.TypeIs v T/\wpAny (model X.prog X.w) X.A (getItem v (.ref sl)) (EP X pins σ Q) X.xe s
abbrev tSl (r:V->Option Int->Option Int->Hp->VK->Prop)(te:TE)(tl th:TO):TE:=fun σ H Q=>te σ H fun x H1=>tl σ H1 fun l H2=>th σ H2 fun u H3=>r x l u H3 Q
theorem An {r:V->Option Int->Option Int->Hp->VK->Prop}(hr:SlR X r)(he:PE X e te)(hl:PO X lo tl)(hu:PO X hi th):PE X (.Subscript e (.Slice lo hi none p2) pos) (tSl r te tl th):=by
 intro pins s σ H Q I h;refine Subscript_ (thn (he pins s σ H _ I h) fun v s1 ⟨x,H1,I1,r1,q1⟩=>?_);refine wpAny_Slice (thn (hl pins s1 σ H1 _ I1 q1) fun vl s2 ⟨l,H2,I2,pl,q2⟩=>thn (hu pins s2 σ H2 _ I2 q2) fun vu s3 ⟨u,H3,I3,pu,q3⟩=>?_);rw [evalPart_none];refine qcA ?_;have I4:Inv X pins σ H3 { s3 with heap:=s3.heap.push { cls:=.type "slice",data:=.fields #[vl,vu,.none] } }:=I3.kept (t':=s3.toks) fun b ob q=>qxA _ q;obtain ⟨T,id,hT,ht,hg⟩:=hr pins { s3 with heap:=s3.heap.push { cls:=.type "slice",data:=.fields #[vl,vu,.none] } } σ H3 x v vl vu l u s3.heap.objs.size Q I4 r1 (Heap.IsSliceOf.new ..) pl pu q3;show wpAny (model X.prog X.w) X.A (subscriptTail e (.Slice lo hi none p2) v (.ref s3.heap.objs.size)) (EP X pins σ Q) X.xe { s3 with heap:=s3.heap.push { cls:=.type "slice",data:=.fields #[vl,vu,.none] } };exact tail_any (ops:=[.ref s3.heap.objs.size,v]) ht hT hg (by with_unfolding_all rfl)
def Hy (xs:List V)(lo hi:Option Int):List V:=(xs.drop (HT.sIx xs.length 0 lo)).take (HT.sIx xs.length xs.length hi - HT.sIx xs.length 0 lo)
theorem ER (xs:List V)(lo hi:Option Int):(Hy xs lo hi).length<=xs.length:=by
 unfold Hy;rw [List.length_take,List.length_drop];omega
def rSlT (K:FZ9):V->Option Int->Option Int->Hp->VK->Prop:=fun x lo hi H Q=>∃ a xs,x = .ref a/\SqT K H a xs /\
 ¬ (HT.sIx xs.length 0 lo=0/\HT.sIx xs.length xs.length hi=xs.length)/\∀ p,H p=none->Q (.ref p) (upd H p (.tup (Hy xs lo hi)))
theorem sl_tup:SlR X (rSlT X.K):=by
 intro pins s σ H x v vl vu lo hi sl Q I rx hs pl pu h;obtain ⟨a,xs,rfl,hx,hw,q⟩:=h;cases rx;obtain ⟨its,r,ht,hz⟩:=I.tuple hx;have hlen:its.toArray.size=xs.length:=by rw [qfB];exact r.length.symm
 refine ⟨"tuple",_,PyProof.Rows.slot_tuple_getitem.lookup,ht.typeIs,?_⟩;refine HT.getItem_tuple_cut ht hs pl pu (by rw [hlen];exact hw) ?_ (by rw [hlen];exact hz);rw [hlen];refine ⟨.ref s.heap.objs.size,_,I.laid (t':=s.toks) (o:=.tup (Hy xs lo hi)) (fun b ob q=>qxA _ q) (qsA _) ?_,rfl,q _ (I.hok.fresh (qsA _))⟩;exact ⟨qtA (ER xs lo hi) hz,_,(r.drop (HT.sIx xs.length 0 lo)).take (HT.sIx xs.length xs.length hi - HT.sIx xs.length 0 lo),IsTup.new _ _⟩
end
def ixN (n:Nat)(i:Int):Option Nat:=if 0<=i then (if i<n then some i.toNat else none) else if -(n:Int)<=i then some (i+n).toNat else none
def atI {α:Type}(xs:List α)(i:Int):Option α:=(ixN xs.length i).bind fun j=>xs[j]?
theorem ixN_seq {n:Nat}{i:Int}{j:Nat}(h:ixN n i=some j):seqIndex? i n=some j/\j<n/\-(n:Int)<=i/\i<n:=by
 unfold ixN at h;by_cases h0:0<=i
 ·rw [if_pos h0] at h;by_cases h1:i<n
  ·rw [if_pos h1] at h;have e:i.toNat=j:=qvA h;exact ⟨by rw [seqIndex_of h0 h1,e],by omega,by omega,h1⟩
  ·rw [if_neg h1] at h;cases h
 ·rw [if_neg h0] at h;by_cases h1:-(n:Int)<=i
  ·rw [if_pos h1] at h;have e:(i+n).toNat=j:=qvA h;exact ⟨by rw [seqIndex_neg (by omega) h1,e],by omega,h1,by omega⟩
  ·rw [if_neg h1] at h;cases h
theorem JG {α:Type}{xs:List α}{i:Int}{v:α}(h:atI xs i=some v):∃ j,seqIndex? i xs.length=some j/\xs[j]? = some v/\j<xs.length/\-(xs.length:Int)<=i/\i<xs.length:=by
 unfold atI at h
 cases e:ixN xs.length i with
 | none=>rw [e] at h;cases h
 | some j =>
  rw [e] at h;obtain ⟨h1,h2,h3,h4⟩:=ixN_seq e;exact ⟨j,h1,h,h2,h3,h4⟩
theorem CW {α:Type}{xs:List α}{j:Nat}{v:α}(h:xs[j]? = some v):atI xs (j:Int)=some v:=by
 have hj:j<xs.length:=(qoA.mp h).1
 have e:ixN xs.length (j:Int)=some j:=by
  unfold ixN;rw [if_pos (by omega),if_pos (by omega)];simp
 unfold atI;rw [e];exact h
theorem atI_last {α:Type}(xs:List α)(v:α):atI (xs++[v]) (-1)=some v:=by
 have hl:(xs++[v]).length=xs.length+1:=by simp
 have e:ixN (xs++[v]).length (-1)=some xs.length:=by
  unfold ixN;rw [hl,if_neg (by decide),if_pos (by omega)]
  congr 1
  omega
 unfold atI;rw [e];show (xs++[v])[xs.length]? = some v;simp
def LE (b:Expr):Prop:=∀ o i,subscripted b false o i=operate [o,i] (getItem o i)
def IxR (X:Cx)(r:R2):Prop :=
 ∀ (value slice:Expr) (pins:List (Addr × Obj)) (s:Shared) (σ:St) (H:Hp) (x y:V) (v u:Value) (Q:VK),Inv X pins σ H s->RelV x v->RelV y u->r x y H Q ->
  subscripted slice false v u=operate [v,u] (getItem v u)->wpAny (model X.prog X.w) X.A (subscriptTail value slice v u) (EP X pins σ Q) X.xe s
def MtR (X:Cx)(id:String)(r:V->List V->Hp->VK->Prop):Prop :=
 ∀ (pins:List (Addr × Obj)) (s:Shared) (σ:St) (H:Hp) (x:V) (xs:List V) (v:Value) (us:List Value) (Q:VK),Inv X pins σ H s->RelV x v->Vals xs us->r x xs H Q ->
  wpAny (model X.prog X.w) X.A (call (.builtin id) (v::us)) (EP X pins σ Q) X.xe s
section
variable {X:Cx}{a b:Expr}{ta tb:TE}{pos:Pos}
theorem pe_ix {r:R2}(hr:IxR X r)(ha:PE X a ta)(hb:PE X b tb)(hs:LE b):PE X (.Subscript a b pos) (tOp r ta tb):=by
 intro pins s σ H Q I h;exact Subscript_ (binT ha hb I h fun v u s2 x y H2 I2 rx ry q=>hr a b pins s2 σ H2 x y v u Q I2 rx ry q (hs _ _))
def rIxL (K:FZ9):R2:=fun x y H Q=>∃ p xs i v,x = .ref p/\y = .int i/\SqL K H p xs/\atI xs i=some v/\Q v H
def rIxT (K:FZ9):R2:=fun x y H Q=>∃ p xs i v,x = .ref p/\y = .int i/\SqT K H p xs/\atI xs i=some v/\Q v H
def rIxS:R2:=fun x y H Q=>∃ z i c,x = .str z/\y = .int i/\z.length<=sizeLine/\atI z.cps.toList i=some c/\Q (.str ⟨#[c]⟩) H
theorem ix_list:IxR X (rIxL X.K):=by
 intro value slice pins s σ H x y v u Q I rx ry h hs;obtain ⟨p,xs,i,z,rfl,rfl,hq,he,q⟩:=h;cases rx;obtain ⟨t,rfl⟩:=ry;obtain ⟨its,r,pl,hz⟩:=I.list hq;obtain ⟨j,h1,h2,h3,h4,h5⟩:=JG he;obtain ⟨w,ew,rw'⟩:=r.get h2;have hl:=r.length;have hn:=Fm;have fin:EP X pins σ Q w s:=⟨z,H,I,rw',q⟩;by_cases h0:0<=i
 ·have hj:i.toNat=j:=by
   rw [seqIndex_of h0 h5] at h1;exact qvA h1
  exact item_listR pl.isList h0 (by omega) (by rw [hj];simpa using ew) fin hs
 ·have hj:(i+(its.toArray.size:Int)).toNat=j:=by
   rw [seqIndex_neg (by omega) h4] at h1;rw [qfB,<- hl];exact qvA h1
  exact subscriptTail_builtinR (x:=w) pl.isList.typeIs slot_list_getitem.lookup
   (wpAny_getItem_list_neg (Q:=fun r s'=>r=w/\EP X pins σ Q r s') pl.isList (by omega) (by rw [qfB]<;>omega) (by omega) (by rw [hj];simpa using ew) ⟨rfl,fin⟩) hs
theorem ix_tup:IxR X (rIxT X.K):=by
 intro value slice pins s σ H x y v u Q I rx ry h hs;obtain ⟨p,xs,i,z,rfl,rfl,hq,he,q⟩:=h;cases rx;obtain ⟨t,rfl⟩:=ry;obtain ⟨its,r,pl,hz⟩:=I.tuple hq;obtain ⟨j,h1,h2,h3,h4,h5⟩:=JG he;obtain ⟨w,ew,rw'⟩:=r.get h2;have hl:=r.length;have hn:=Fm;have fin:EP X pins σ Q w s:=⟨z,H,I,rw',q⟩
 exact subscriptTail_builtinR (x:=w) pl.typeIs slot_tuple_getitem.lookup
  (getItem_tuple (j:=j) (Q:=fun r s'=>r=w/\EP X pins σ Q r s') pl (by omega) (by omega) (by rw [qfB,<- hl];exact h1) (by simpa using ew) ⟨rfl,fin⟩) hs
theorem ix_str:IxR X rIxS:=by
 intro value slice pins s σ H x y v u Q I rx ry h hs;obtain ⟨z,i,c,rfl,rfl,hz,he,q⟩:=h;obtain ⟨t,rfl⟩:=rx;obtain ⟨t',rfl⟩:=ry;obtain ⟨j,h1,h2,h3,h4,h5⟩:=JG he;have hl:z.cps.toList.length=z.length:=by simp [Str.length]
 rw [hl] at h1 h4 h5;have hn:=Fm
 exact tail_any (typeIs_str s z t) slot_str_getitem.lookup (getItem_str (c:=c) (by
  have e1:decide (i < -(2 ^ 63:Int))=false:=decide_eq_false (by omega);have e2:decide (i>=2 ^ 63)=false:=decide_eq_false (by omega)
  rw [e1,e2,Bool.or_false]) (by rw [h1];simpa using h2) ⟨.str ⟨#[c]⟩,H,I.tok _,⟨_,rfl⟩,q⟩) hs
theorem JH (lo hi:Option Int)(n:Nat):(sliceBounds lo hi none n).1=((HT.sIx n 0 lo:Nat):Int)/\(sliceBounds lo hi none n).2.1=((HT.sIx n n hi:Nat):Int)/\(sliceBounds lo hi none n).2.2=1:=by
 refine ⟨?_,?_,rfl⟩
 ·cases lo with
  | none=>simp [sliceBounds,HT.sIx]
  | some i =>
   simp only [sliceBounds,HT.sIx,Option.getD_none,show (1:Int) > 0 by decide,if_true];by_cases h:i<0
   ·simp only [h,if_true]<;>omega
   ·simp only [h,if_false]<;>omega
 ·cases hi with
  | none=>simp [sliceBounds,HT.sIx]
  | some i =>
   simp only [sliceBounds,HT.sIx,Option.getD_none,show (1:Int) > 0 by decide,if_true];by_cases h:i<0
   ·simp only [h,if_true]<;>omega
   ·simp only [h,if_false]<;>omega
theorem Hr (its:List Value)(lo hi:Option Int):slicePick its.toArray lo hi none=((its.drop (HT.sIx its.length 0 lo)).take (HT.sIx its.length its.length hi - HT.sIx its.length 0 lo)).toArray:=by
 obtain ⟨h1,h2,h3⟩:=JH lo hi its.toArray.size;unfold slicePick;rw [h1,h2,h3];simp only [sliceRange_one,pick_run,qfB]<;>rfl
def rSlL (K:FZ9):V->Option Int->Option Int->Hp->VK->Prop:=fun x lo hi H Q=>∃ a xs,x = .ref a/\SqL K H a xs/\∀ p,H p=none->Q (.ref p) (upd H p (.lst (Hy xs lo hi)))
theorem sl_list:SlR X (rSlL X.K):=by
 intro pins s σ H x v vl vu lo hi sl Q I rx hs pl pu h;obtain ⟨a,xs,rfl,hx,q⟩:=h;cases rx;obtain ⟨its,r,ht,hz⟩:=I.list hx;have hlen:=r.length;refine ⟨"list",_,slot_list_getitem.lookup,ht.isList.typeIs,?_⟩;refine wpAny_getItem_list_slice ht.isList hs pl pu .none (by simp) ?_ (by rw [qfB]<;>omega);rw [Hr,<- hlen];refine ⟨.ref s.heap.objs.size,_,I.laid (t':=s.toks) (o:=.lst (Hy xs lo hi)) (fun b ob q=>qxA _ q) (qsA _) ?_,rfl,q _ (I.hok.fresh (qsA _))⟩;exact ⟨qtA (ER xs lo hi) hz,_,0,(r.drop (HT.sIx xs.length 0 lo)).take (HT.sIx xs.length xs.length hi - HT.sIx xs.length 0 lo),qyA _ rfl⟩
def F1:V->Bool
 | .non=>true
 | .bl _=>true
 | .int _=>true
 | .str _=>true
 | _=>false
def eqV:V->V->Bool
 | .non,.non=>true
 | .bl a,.bl b=>a == b
 | .bl a,.int b=>(if a then 1 else 0) == b
 | .int a,.bl b=>a == (if b then 1 else 0)
 | .int a,.int b=>a == b
 | .str a,.str b=>a == b
 | _,_=>false
theorem eqAt_V {A:Around}{s:Shared}{y x:V}{u v:Value}(ry:RelV y u)(rx:RelV x v)(fy:F1 y=true)(fx:F1 x=true):SeqAt.EqAt A s u v (eqV y x):=by
 cases y with
 | non =>
  cases ry
  cases x with
  | non=>cases rx;exact SeqAt.EqAt.same _
  | bl b=>cases rx;exact SeqAt.EqAt.none_bool b
  | int b=>obtain ⟨t,rfl⟩:=rx;exact SeqAt.EqAt.none_int b t
  | str b=>obtain ⟨t,rfl⟩:=rx;exact SeqAt.EqAt.none_str b t
  | _=>exact absurd (show false=true from fx) qeB
 | bl a =>
  cases ry
  cases x with
  | non=>cases rx;exact SeqAt.EqAt.bool_none a
  | bl b=>cases rx;exact SeqAt.EqAt.bool_bool a b
  | int b=>obtain ⟨t,rfl⟩:=rx;exact SeqAt.EqAt.bool_int a b t
  | str b=>obtain ⟨t,rfl⟩:=rx;exact SeqAt.EqAt.bool_str a b t
  | _=>exact absurd (show false=true from fx) qeB
 | int a =>
  obtain ⟨t',rfl⟩:=ry
  cases x with
  | non=>cases rx;exact SeqAt.EqAt.int_none a t'
  | bl b=>cases rx;exact SeqAt.EqAt.int_bool a t' b
  | int b=>obtain ⟨t,rfl⟩:=rx;exact SeqAt.EqAt.int_int a t' b t
  | str b=>obtain ⟨t,rfl⟩:=rx;exact SeqAt.EqAt.int_str a t' b t
  | _=>exact absurd (show false=true from fx) qeB
 | str a =>
  obtain ⟨t',rfl⟩:=ry
  cases x with
  | non=>cases rx;exact SeqAt.EqAt.str_none a t'
  | bl b=>cases rx;exact SeqAt.EqAt.str_bool a t' b
  | int b=>obtain ⟨t,rfl⟩:=rx;exact SeqAt.EqAt.str_int a t' b t
  | str b=>obtain ⟨t,rfl⟩:=rx;exact SeqAt.EqAt.str_str a t' b t
  | _=>exact absurd (show false=true from fx) qeB
 | _=>exact absurd (show false=true from fy) qeB
def eqU (x:V)(u:Value):Bool:=match u with
 | .none=>eqV .non x
 | .bool b=>eqV (.bl b) x
 | .int i _=>eqV (.int i) x
 | .str z _=>eqV (.str z) x
 | _=>false
theorem eqU_of {x y:V}{u:Value}(r:RelV y u)(f:F1 y=true):eqU x u=eqV y x:=by
 cases y with
 | non=>cases r;rfl
 | bl b=>cases r;rfl
 | int i=>obtain ⟨t,rfl⟩:=r;rfl
 | str z=>obtain ⟨t,rfl⟩:=r;rfl
 | _=>exact absurd (show false=true from f) qeB
theorem J0 {x:V}:∀ {xs:List V}{us:List Value},Vals xs us->xs.all F1=true->us.any (eqU x)=xs.any fun y=>eqV y x
 | _,_,.nil,_=>rfl
 | y::xs,u::us,.cons r t,f=>by
  rw [List.all_cons,qtB] at f;rw [List.any_cons,List.any_cons,eqU_of r f.1,J0 t f.2]
theorem Gm {A:Around}{s:Shared}{x:V}{v:Value}(rx:RelV x v)(fx:F1 x=true):∀ {xs:List V}{us:List Value},Vals xs us->xs.all F1=true->∀ u∈us,SeqAt.EqAt A s u v (eqU x u)
 | _,_,.nil,_=>fun u hu=>by cases hu
 | y::xs,u::us,.cons r t,f=>fun u' hu=>by
  rw [List.all_cons,qtB] at f;rcases qiA.mp hu with rfl|hu
  ·rw [eqU_of r f.1];exact eqAt_V r rx f.1 fx
  ·exact Gm rx fx t f.2 u' hu
def inV (x:V)(xs:List V):Bool:=xs.any fun y=>eqV y x
def rIn (K:FZ9)(neg:Bool):R2:=fun x y H Q=>∃ p xs,y = .ref p/\(SqL K H p xs\/SqT K H p xs)/\F1 x=true/\xs.all F1=true/\Q (.bl (if neg then !inV x xs else inV x xs)) H
theorem Ly:OpR X (compareOp .In) (rIn X.K false):=by
 intro pins s σ H x y v u Q I rx ry h;obtain ⟨p,xs,rfl,hq,fx,fs,q⟩:=h;cases ry;rcases hq with hq|hq
 ·obtain ⟨its,r,pl,hz⟩:=I.list hq;refine SeqAt.in_listAt (eqU x) pl.isList (fun w hw=>Gm rx fx r fs w (by simpa using hw)) ⟨.bl _,H,I,rfl,?_⟩;rw [show its.toArray.any (eqU x)=its.any (eqU x) by simp,J0 r fs];exact q
 ·obtain ⟨its,r,pl,hz⟩:=I.tuple hq;refine SeqAt.in_tupleAt (eqU x) pl (fun w hw=>Gm rx fx r fs w (by simpa using hw)) ⟨.bl _,H,I,rfl,?_⟩;rw [show its.toArray.any (eqU x)=its.any (eqU x) by simp,J0 r fs];exact q
theorem Im:EF X (.builtin "len") (fun xs H Q=>∃ p ys,xs=[.ref p]/\(SqL X.K H p ys\/SqT X.K H p ys)/\Q (.int ys.length) H):=by
 intro pins s σ H xs us Q I r h;obtain ⟨p,ys,rfl,hq,q⟩:=h;obtain ⟨u,rfl,rx⟩:=IM r;cases rx;have hn:=Fm;rcases hq with hq|hq
 ·obtain ⟨its,r',pl,hz⟩:=I.list hq;have hlen:=r'.length;exact Calls.call_len_list pl.isList (by simp only [qfB]<;>omega) ⟨.int ys.length,H,I.tok _,⟨s.toks+1,by rw [qfB,hlen]⟩,q⟩
 ·obtain ⟨its,r',pl,hz⟩:=I.tuple hq;have hlen:=r'.length;exact len_tuple pl (by simp only [qfB]<;>omega) ⟨.int ys.length,H,I.tok _,⟨s.toks+1,by rw [qfB,hlen]⟩,q⟩
theorem Iw:EF X (.builtin "len") (fun xs H Q=>∃ z,xs=[.str z]/\z.length<=sizeLine/\Q (.int z.length) H):=by
 intro pins s σ H xs us Q I r h;obtain ⟨z,rfl,hz,q⟩:=h;obtain ⟨u,rfl,t,rfl⟩:=IM r;have hn:=Fm;exact len_str (by omega) ⟨.int z.length,H,I.tok _,⟨_,rfl⟩,q⟩
def tyV (K:FZ9)(T:String)(x:V)(H:Hp):Prop:=match x with
 | .str _=>T = "str"
 | .int _=>T = "int"
 | .ref p=>(T = "list" /\ ∃ xs,SqL K H p xs)\/(T = "tuple" /\ ∃ o,K.lookup p=some o/\o.cls = .type "tuple" /\ o.dict=none) \/
   (T = "dict" /\ ((∃ kvs,H p=some (.dK kvs))\/∃ kvs,H p=some (.dT kvs)))\/(T = "set" /\ ∃ S n,H p=some (.set S n))
 | _=>False
theorem KM {pins:List (Addr × Obj)}{σ:St}{H:Hp}{s:Shared}{T:String}{x:V}{v:Value}(I:Inv X pins σ H s)(r:RelV x v)(ty:tyV X.K T x H) :
  s.TypeIs v T/\∀ a,v = .ref a->∃ ob,s.heap.get? a=some ob/\ob.dict=none:=by
 cases x with
 | str z =>
  obtain ⟨t,rfl⟩:=r;cases (show T = "str" from ty);exact ⟨typeIs_str s z t,fun _ e=>nomatch e⟩
 | int i =>
  obtain ⟨t,rfl⟩:=r;cases (show T = "int" from ty);exact ⟨typeIs_int s i t,fun _ e=>nomatch e⟩
 | ref p =>
  cases r;rcases ty with ⟨rfl,xs,hq⟩ | ⟨rfl,o,hk,hc,hd⟩ | ⟨rfl,hk⟩ | ⟨rfl,S,n,hk⟩
  ·obtain ⟨its,_,pl,_⟩:=I.list hq;refine ⟨pl.isList.typeIs,fun a e=>?_⟩;cases e;obtain ⟨o,n,e,c,hd,_⟩:=pl;exact ⟨o,e,hd⟩
  ·refine ⟨⟨o,I.kIn p o hk,hc⟩,fun a e=>?_⟩;cases e;exact ⟨o,I.kIn _ o hk,hd⟩
  ·have z:∃ o,s.heap.get? p=some o/\o.ExactDict:=by
    rcases hk with ⟨kvs,hk⟩ | ⟨kvs,hk⟩
    ·obtain ⟨_,_,_,_,o,_,_,e,ex,_⟩:=I.hok p _ hk;exact ⟨o,e,ex⟩
    ·obtain ⟨_,_,_,_,o,_,_,e,ex,_⟩:=I.hok p _ hk;exact ⟨o,e,ex⟩
   obtain ⟨o,e,ex⟩:=z;refine ⟨⟨o,e,ex.1⟩,fun a e2=>?_⟩;cases e2;exact ⟨o,e,ex.2.1⟩
  ·obtain ⟨o,_,_,_,e,ex,_⟩:=I.hok p _ hk;refine ⟨⟨o,e,ex.1⟩,fun a e2=>?_⟩;cases e2;exact ⟨o,e,ex.2.1⟩
 | _=>exact False.elim ty
abbrev tBM0 (K:FZ9)(T:String)(r:V->List V->Hp->VK->Prop)(to:TE):TE:=fun σ H Q=>to σ H fun x H1=>tyV K T x H1/\r x [] H1 Q
abbrev tBM (K:FZ9)(T:String)(r:V->List V->Hp->VK->Prop)(to:TE)(t:TA):TE:=fun σ H Q=>to σ H fun x H1=>tyV K T x H1/\t σ H1 fun xs H2=>r x xs H2 Q
variable {o e:Expr}{es:List Expr}{to:TE}{t:TA}{name:Str}{apos cpos:Pos}{T id:String}{r:V->List V->Hp->VK->Prop}
theorem pe_bm0 (pa:PlainAttrs T)(slot:Slot T name id)(hty:typeOf (.builtin id)=pure (.type "method_descriptor"))(hm:MtR X id r)(ho:PE X o to)
  (hbase:attributeBase o name X.env (eval o X.env)=eval o X.env:=by rfl) (hline:(apos.endLine == cpos.line)=true:=by rfl):PE X (.Call (.Attribute o name apos) [] [] cpos) (tBM0 X.K T r to):=by
 intro pins s σ H Q I h;refine wpAny_Call_method0_late hbase hline (thn (ho pins s σ H _ I h) fun v s1 ⟨x,H1,I1,r1,ty,q1⟩=>?_);obtain ⟨h1,h2⟩:=KM I1 r1 ty;exact ⟨T,id,pa,slot,hty,h1,h2,Calls.callWith_builtin rfl (PySem.evalArgs_none (hm pins s1 σ H1 x [] v [] Q I1 r1 .nil q1))⟩
theorem pe_bm (pa:PlainAttrs T)(slot:Slot T name id)(hty:typeOf (.builtin id)=pure (.type "method_descriptor"))(hm:MtR X id r)(ho:PE X o to)(ha:PA X (e::es) t)
  (hbase:attributeBase o name X.env (eval o X.env)=eval o X.env:=by rfl)
  (hfew:((backTo cpos (starEach (e::es) X.env)).all (fun x=>!x.1) && (backToKw cpos (keywordEach [] X.env)).all (fun x=>x.1.isSome)
   && decide ((e::es).length+([]:List Keyword).length+(if ([]:List Keyword).isEmpty then 0 else 1)<30))=true:=by rfl)
  (hline:(apos.endLine == cpos.line)=true:=by rfl) (hs:starEach (e::es) X.env=(false,eval e X.env)::starEach es X.env:=by rfl) (hplain:(backTo cpos (starEach es X.env)).any (·.1)=false:=by rfl) :
  PE X (.Call (.Attribute o name apos) (e::es) [] cpos) (tBM X.K T r to t):=by
 intro pins s σ H Q I h;refine wpAny_Call_method_late hbase hfew hline rfl (thn (ho pins s σ H _ I h) fun v s1 ⟨x,H1,I1,r1,ty,q1⟩=>?_);obtain ⟨h1,h2⟩:=KM I1 r1 ty;refine ⟨T,id,pa,slot,hty,h1,h2,?_⟩;have hA:=ha cpos pins s1 σ H1 _ I1 q1;rw [hs] at hA ⊢;refine Calls.callWith_builtin (by show (false || (backTo cpos (starEach es X.env)).any (·.1))=false;rw [hplain]<;>rfl) (Calls.evalArgs_plain ?_);exact thn hA fun us s2 ⟨vs,H2,I2,r2,q2⟩=>hm pins s2 σ H2 x vs v us Q I2 r1 r2 q2
end
def MtM (X:Cx)(id:String)(r:V->List V->Hp->VK->Prop):Prop :=
 ∀ (pins:List (Addr × Obj)) (s:Shared) (σ:St) (H:Hp) (x:V) (xs:List V) (v:Value) (us:List Value) (Q:VK),Inv X pins σ H s->RelV x v->Vals xs us->r x xs H Q ->
  wpAny (model X.prog X.w) X.A (call (.builtin id) (v::us)) (EP X pins σ Q) X.xe s
theorem Vals.one:∀ {x:V}{us:List Value},Vals [x] us->∃ u,us=[u]/\RelV x u
 | _,_,.cons r .nil=>⟨_,rfl,r⟩
theorem Vals.zero:∀ {us:List Value},Vals [] us->us=[]
 | _,.nil=>rfl
theorem Vals.dropLast {xs:List V}{us:List Value}(h:Vals xs us):Vals xs.dropLast us.dropLast:=by
 induction h with
 | nil=>exact .nil
 | cons r t ih =>
  cases t with
  | nil=>exact .nil
  | cons q t'=>exact .cons r ih
theorem Vals.rep {xs:List V}{us:List Value}(h:Vals xs us):∀ k:Nat,Vals (List.replicate k xs).flatten (List.replicate k us).flatten
 | 0=>.nil
 | k+1=>by
  rw [List.replicate_succ,List.replicate_succ,List.flatten_cons,List.flatten_cons];exact Vals.append h (Vals.rep h k)
theorem Ko {α:Type}(l:List α):l.eraseIdx (l.length - 1)=l.dropLast:=by
 induction l with
 | nil=>rfl
 | cons a r ih =>
  cases r with
  | nil=>rfl
  | cons b r =>
   have e:(a::b::r).length - 1=((b::r).length - 1)+1:=by
    have h1:(a::b::r).length=r.length+2:=rfl;have h2:(b::r).length=r.length+1:=rfl;omega
   rw [e,List.eraseIdx_cons_succ,ih]
   all_goals rfl
theorem Fi (its:List Value):∀ (k:Nat) (acc:List Value),
  List.foldl (fun x1 x2=>x1++x2) acc.toArray (List.replicate k its.toArray)=(acc++(List.replicate k its).flatten).toArray
 | 0,acc=>by simp
 | k+1,acc=>by
  have e:acc.toArray++its.toArray=(acc++its).toArray:=by simp
  have e2:(acc++its)++(List.replicate k its).flatten=acc++(List.replicate (k+1) its).flatten:=by
   rw [List.replicate_succ,List.flatten_cons,qqA]
  rw [<- e2,<- Fi its k (acc++its),<- e,List.replicate_succ,List.foldl_cons]
section
variable {X:Cx}{pins:List (Addr × Obj)}{σ:St}{H:Hp}{s:Shared}{l b:Addr}{xs ys zs:List V}
theorem Inv.lset {its its':List Value}{n:Nat}{f:Array Value->Array Value}{t':Nat}(I:Inv X pins σ H s)(hH:H l=some (.lst xs))
  (e:s.heap.get? l=some { cls:=.type "list",data:=.seq its.toArray n }) (hf:f its.toArray=its'.toArray) (hv:Vals ys its') (hz:ys.length<=sizeLine) :
  Inv X pins σ (upd H l (.lst ys)) { s with heap:=s.heap.update l (Obj.mapSeq f),toks:=t' }:=by
 have q:=PySem.IsL.update e f;rw [hf] at q;refine I.write (x:=l) (e:=l) (by rw [hH];exact trivial) (.inl rfl) (fun b' u hb hu=>(Heap.get?_update_other s.heap (Obj.mapSeq f) (Ne.symm hb)).trans hu) ⟨_,q⟩ ?_;exact ⟨hz,its',_,hv,q⟩
theorem Inv.lnew {its:List Value}{t':Nat}(I:Inv X pins σ H s)(hv:Vals ys its)(hz:ys.length<=sizeLine) :
  Inv X pins σ (upd H s.heap.objs.size (.lst ys)) { s with heap:=s.heap.push { cls:=.type "list",data:=.seq its.toArray },toks:=t' } :=
 I.laid (fun _ _ q=>qxA _ q) (qsA _) ⟨hz,its,0,hv,qyA _ rfl⟩
theorem Inv.fresh (I:Inv X pins σ H s):H s.heap.objs.size=none:=I.hok.fresh (qsA _)
theorem Inv.lstM (I:Inv X pins σ H s)(hH:H l=some (.lst xs)):xs.length<=sizeLine/\∃ (its:List Value) (n:Nat),Vals xs its/\xs.length=its.length/\s.heap.get? l=some { cls:=.type "list",data:=.seq its.toArray n }:=by
 obtain ⟨z,its,n,r,e⟩:=I.hok l _ hH;exact ⟨z,its,n,r,r.length,e⟩
theorem Hd {n:Nat}(h:n<=sizeLine):Builtin.List.listTooLong n=false:=by
 unfold Builtin.List.listTooLong;exact decide_eq_false (by omega)
end
section
variable {X:Cx}
def GZ:V->List V->Hp->VK->Prop:=fun x vs H Q=>∃ l xs y,x = .ref l/\vs=[y]/\H l=some (.lst xs)/\xs.length<sizeLine/\Q .non (upd H l (.lst (xs++[y])))
theorem IS:MtM X "list.append" GZ:=by
 intro pins s σ H x vs v us Q I rx rv h;obtain ⟨l,xs,y,rfl,rfl,hH,hz,q⟩:=h;cases rx;obtain ⟨u,rfl,ru⟩:=rv.one;obtain ⟨z,its,n,r,hl,e⟩:=I.lstM hH;refine call_meets F.slot_list_append ⟨_,e,rfl⟩ F.entry_list_append (F.args_list_append_2 _ _) (PySem.list_append l its.toArray n u (by rw [qfB];omega)) ⟨e,?_⟩;refine ⟨.non,_,I.lset (its':=its++[u]) hH e (by simp) (r.append (.cons ru .nil)) ?_,rfl,q⟩;rw [qeA,qgA];omega
def rPop:V->List V->Hp->VK->Prop:=fun x vs H Q=>∃ l xs y,x = .ref l/\vs=[]/\H l=some (.lst xs)/\xs[xs.length - 1]? = some y/\Q y (upd H l (.lst xs.dropLast))
theorem mt_pop:MtM X "list.pop" rPop:=by
 intro pins s σ H x vs v us Q I rx rv h;obtain ⟨l,xs,y,rfl,rfl,hH,hy,q⟩:=h;cases rx;have hus:=rv.zero;subst hus;obtain ⟨z,its,n,r,hl,e⟩:=I.lstM hH;obtain ⟨u,hu,ru⟩:=r.get hy
 have hy':its.toArray[its.toArray.size - 1]? = some u:=by
  show its.toArray[its.length - 1]? = some u;rw [<- Array.getElem?_toList,<- hl];exact hu
 refine call_meets F.slot_list_pop ⟨_,e,rfl⟩ F.entry_list_pop (F.args_list_pop_1 _) (MeetsSeq.list_pop_last l its.toArray n u hy' (by rw [qfB];omega)) ⟨e,?_⟩;refine ⟨y,_,I.lset (its':=its.dropLast) hH e ?_ r.dropLast ?_,ru,q⟩
 ·show its.toArray.eraseIdxIfInBounds (its.toArray.size - 1)=its.dropLast.toArray;rw [qfB,List.eraseIdxIfInBounds_toArray,Ko]
 ·rw [List.length_dropLast];omega
def rRep:R2:=fun x y H Q=>∃ l k xs,x = .ref l/\y = .int k/\H l=some (.lst xs)/\-(2 ^ 63)<=k/\k<2 ^ 63/\xs.length * k.toNat<=sizeLine /\
 ∀ p,H p=none->Q (.ref p) (upd H p (.lst (List.replicate k.toNat xs).flatten))
theorem JT {α:Type}(xs:List α)(k:Nat):(List.replicate k xs).flatten.length=k * xs.length:=by
 induction k with
 | zero=>simp
 | succ k ih=>rw [List.replicate_succ,List.flatten_cons,qeA,ih,Nat.succ_mul,Nat.add_comm]
theorem op_rep:OpR X (binaryOp .Mult) rRep:=by
 intro pins s σ H x y v u Q I rx ry h;obtain ⟨l,k,xs,rfl,rfl,hH,h1,h2,hz,q⟩:=h;cases rx;obtain ⟨t,rfl⟩:=ry;obtain ⟨z,its,n,r,hl,e⟩:=I.lstM hH;have hlen:its.toArray.size * k.toNat<=sizeLine:=by rw [qfB,<- hl];exact hz
 have hcap:¬ its.toArray.size * k.toNat > (2 ^ 63 - 1) / 8:=by
  have:(sizeLine:Nat)<=(2 ^ 63 - 1) / 8:=by decide
  omega
 have hfit:¬ (!Builtin.List.listFitsIndex k)=true:=by
  rw [fitsIndex_both h1 h2];exact qeB
 have hlong:¬ Builtin.List.listTooLong (its.toArray.size * k.toNat)=true:=by
  rw [Hd hlen];exact qeB
 have hnew:List.foldl (fun x1 x2=>x1++x2) #[] (List.replicate (if its.toArray.isEmpty=true then 0 else k.toNat) its.toArray)=(List.replicate k.toNat its).flatten.toArray:=by
  have f0:∀ m:Nat,List.foldl (fun x1 x2=>x1++x2) #[] (List.replicate m its.toArray)=(List.replicate m its).flatten.toArray:=fun m=>by
   have:=Fi its m [];rw [List.nil_append] at this;exact this
  rw [f0]
  cases its with
  | nil=>simp
  | cons a r'=>rw [if_neg (by simp)]
 refine wpAny_binaryOp_repeat_ref (T := "list") (U := "int") (by decide) ⟨_,e,rfl⟩ (fun s'=>typeIs_int s' k t) noFill_list_mul F.fills_int_mul F.slot_int_rmul repeat_list F.slot_int_index.lookup
  (call_meets F.slot_int_rmul (typeIs_int s k t) F.entry_int_rmul (F.args_int_rmul_2 _ _) (int___rmul___int_list k t l its.toArray n)
   ⟨e,rfl,⟨_,e,rfl⟩,call_meets F.slot_list_mul ⟨_,e,rfl⟩ F.entry_list_mul (F.args_list_mul_2 _ _) (AutoListH.list___mul___list_int_3 l its.toArray n k t hfit hcap hlong) ⟨e,?_⟩⟩)
 rw [hnew];exact ⟨.ref _,_,I.lnew (t':=s.toks) (r.rep k.toNat) (by rw [JT,Nat.mul_comm];exact hz),rfl,q _ I.fresh⟩
end
end L2
namespace Att
open PySem PySem.W PySem.Calls PyProof.Rows
theorem GU {P:Params}{h:Heap}:∀ (ns:List Int) (vs:List Value),WellAll P h vs (ns.map WData.int)->IntsAre vs ns:=by
 intro ns
 induction ns with
 | nil =>
  intro vs w;rw [List.map_nil] at w;cases w;exact .nil
 | cons n ns ih =>
  intro vs w;rw [List.map_cons] at w
  cases w with
  | cons a b =>
   cases a;exact .cons _ _ (ih _ b)
theorem Lu {l:OpenLaw}{n:Nat}(hn:l.most=some n){P:Params}{h:Heap}{args:List WData}{vals:List Value}
  (hpre:l.row.toRowW.claim.pre args=true) (hwl:WellAll P h vals args) :
  ∃ a vs ns,vals=[Value.ref a]/\args=[WData.list (ns.map WData.int)]/\h.get? a=some { cls:=.type "list",data:=.seq vs.toArray }/\IntsAre vs ns/\ns.length<=n:=by
 have hsh:WShape.hasAll [] args [.list .int]=true:=(pre_splitW hpre).1;have hc:l.pre.holds [] { args:=args }=true:=(pre_splitW hpre).2;obtain ⟨d,r,rfl,h1,h2⟩:=hasAllW_cons hsh;obtain rfl:=hasAllW_nil h2;obtain ⟨xs,rfl,h3⟩:=hasW_list h1;obtain ⟨ns,rfl⟩:=items_int h3
 have hlen:ns.length<=n:=by
  unfold OpenLaw.pre at hc
  have h4:(WTm.not (.lt (.lit (.int (n:Int))) (.len (.arg 0)))).holds [] { args:=[.list (ns.map .int)] }=true:=by
   have h4:=(holds_andW hc).1;rw [hn] at h4;exact h4
  have h5:=condW_of h4 (w_not (w_lt w_lit (w_len_list (w_arg rfl))));rw [qdA] at h5;refine Nat.le_of_not_lt fun q=>?_;have q':(n:Int)<((ns.length:Nat):Int):=by omega
  first
   | (rw [decide_eq_true q'] at h5;exact absurd h5 (by decide))
   | (simp at h5;omega)
 cases hwl with
 | cons w1 w2 =>
  cases w2
  cases w1 with
  | list ho hall=>exact ⟨_,_,ns,rfl,rfl,ho,GU ns _ hall,hlen⟩
theorem MC (l:OpenLaw)(args:List WData):l.row.toRowW.claim.post args (.bool true) args=true :=
 postW_of (r:=l.row.toRowW) (X:=(true == true))
  (show WShape.has [] (.bool true) .bool=true by first|rfl|decide|simp [WShape.has,WShape.arms,WShape.armsAll])
  (show (WTm.eq .res (.lit (.bool true))).value [] { args:=args,res:=some (.bool true),after:=args }=some (.bool (true == true)) from w_eq_bool (w_res rfl) w_lit) rfl
theorem attach_call {l:OpenLaw}{n:Nat}{q:Program}{loose:List Str}{XP:(Str->Option Value)->Heap->Prop}{YP:World->Heap->Prop}{d:DefRec}
  (hn:l.most=some n) (hdf:d.params.defaults=[])
  (call:∀ (w:World) (s₀ s₁:Shared) (mg mb:Str->Option Value) (fa:Addr) (o:Obj) (pm cd doc:Value) (a:Addr) (vs:List Value) (ns:List Int),
   Ground q loose [] XP w s₀ mg mb s₁.heap->YP w s₁.heap ->
   s₁.heap.get? fa=some o->o.data = .func (docDef d.name d.params d.body d.scope pm cd doc)->s₁.heap.CodeRec cd d.name->mg d.name=some (.ref fa) ->
   s₁.heap.get? a=some { cls:=.type "list",data:=.seq vs.toArray }->IntsAre vs ns->ns.length<=n->s₁.gens = #[] ->
   codeAny (model l.prog w) callerA (.call (.ref fa) ⟨[.ref a],[]⟩) (fun r s'=>r = .ok (.ret (.bool true))/\OldK s₁.heap s'.heap/\s'.os=s₁.os/\AllBare s'.gens) s₁) :
  WalkO q loose XP YP l.row.toRowW d [] (fun f vs=>PySem.call f vs):=by
 intro w s₀ s₁ mg mb G Y fa o pm cd doc dV kV ho hd hcd hD hmg hg args vals as hpre hlay hrd hwl hlo;obtain rfl:dV = .none:=Dflts.none hD hdf;obtain rfl:kV = .none:=Dflts.noKw hD;obtain ⟨a,vs,ns,rfl,rfl,hobj,hints,hlen⟩:=Lu hn hpre hwl;refine enter_call (codeAny_mono (call w s₀ s₁ mg mb fa o pm cd doc a vs ns G Y ho (fd_plain hd) hcd hmg hobj hints hlen hg) fun r s' hq=>?_);obtain ⟨rfl,h2,h3,h4⟩:=hq;exact ⟨.inl ⟨.bool true,.bool true,[],rfl,fun _=>rfl,.bool true,MC l _,fun _=>⟨List.Pairwise.nil,fun _ hm=>(nomatch hm)⟩⟩,h2,h3,h4⟩
end Att
namespace L2
open PySem PySem.Spec PyProof.Rows
theorem IA:∀ {vs:List Value}{ns:List Int},IntsAre vs ns->Vals (ns.map V.int) vs
 | _,_,.nil=>.nil
 | _,_,.cons n t h=>.cons ⟨t,rfl⟩ (IA h)
def Only (H:Hp):Prop:=∀ b,H b=none\/∃ o xs,H b=some (.frz o (.lst xs))
theorem law_call {P:Program}{w:World}{K:FZ9}{mg mb:Str->Option Value}{CX:CXT}{k:Nat}{fa a:Addr}{fd:FuncData}{x:Str}{sp:Sp}{s₁:Shared}{vs:List Value}{ns:List Int}
  (KX:K.In s₁.heap) (hns:s₁.heap.Ns mainGlobals mg) (hb:s₁.heap.Ns builtinsNs mb) (hbb:∀ x:Str,x ≠ "__name__" -> mb x=bootBuiltins x) (hlim:s₁.heap.NoLimit) (hg:s₁.gens = #[])
  (ha:s₁.heap.get? a=some { cls:=.type "list",data:=.seq vs.toArray }) (hi:IntsAre vs ns) (hl:ns.length<=sizeLine) (hr:Room k callerA)
  (F:∀ base:Heap,K.In base->base.Ns mainGlobals mg->FnOk P w K mg base CX k fa fd [x] sp) (hbind:∀ (s:Shared) (u:Value),BindsTo s fd ⟨[u],[]⟩ [(x,u)])
  (hsp:∀ H:Hp,Only H->SqL K H a (ns.map V.int)->sp [.ref a] H (fun v _=>v = .bl true) fun _ _ _=>False)
  (hCX:∀ H e s',CX [] H s₁ (fun _ _ _=>False) e s'->False) :
  codeAny (model P w) callerA (.call (.ref fa) ⟨[.ref a],[]⟩) (fun r s'=>r = .ok (.ret (.bool true))/\OldK s₁.heap s'.heap/\s'.os=s₁.os/\AllBare s'.gens) s₁:=by
 have rv:=IA hi;have lenV:=hi.length
 have core:∀ H:Hp,Only H->SqL K H a (ns.map V.int)->HOk P w H s₁.heap->(∀ b,H b≠none->b=a)->(H a≠none->K.lookup a=none) ->
   codeAny (model P w) callerA (.call (.ref fa) ⟨[.ref a],[]⟩) (fun r s'=>r = .ok (.ret (.bool true))/\OldK s₁.heap s'.heap/\s'.os=s₁.os/\AllBare s'.gens) s₁:=by
  intro H hO hS hok hA hK;have base_of:∀ {b:Addr}{o:Obj},s₁.heap.get? b=some o->H b=none->(Iy s₁.heap H).get? b=some o:=fun e n=>hidT_get e n
  have noA:∀ {b:Addr}{o:Obj}{es:Array DictEntry}{ep:Nat},s₁.heap.get? b=some o->o.data = .dict es ep->H b=none:=fun {b o es ep} e d=>by
   cases q:H b with
   | none=>rfl
   | some u =>
    have e':b=a:=hA b (by rw [q];simp);subst e';rw [ha] at e;cases e;have d':Data.seq vs.toArray _=Data.dict es ep:=d;cases d'
  have nsK:∀ {b:Addr}{m:Str->Option Value},s₁.heap.Ns b m->(Iy s₁.heap H).Ns b m:=fun {b m} ⟨o,es,ep,e,d,r⟩=>⟨o,es,ep,base_of e (noA e d),d,r⟩
  have hKb:K.In (Iy s₁.heap H):=fun b o e=>base_of (KX b o e) (by
   cases q:H b with
   | none=>rfl
   | some u =>
    have e':b=a:=hA b (by rw [q];simp);subst e'
    rw [hK (by rw [q];simp)] at e;cases e)
  have hM:Mod K mg (Iy s₁.heap H):=⟨hKb,nsK hns,⟨mb,nsK hb,hbb⟩,let ⟨mc,h1,h2⟩:=hlim;⟨mc,nsK h1,h2⟩⟩;have e0:Env0 P w K mg (Iy s₁.heap H) callerA [] s₁ H:=⟨rfl,hM,fun b o e=>of_hidT e,Nat.le_of_eq (M6 _ _),trivial,fun b hb=>absurd (show b∈([]:List Addr) from hb) (by simp),hok,.of_eq hg⟩;refine codeAny_mono ((F _ hKb (nsK hns)).run callerA [] s₁ H ⟨[.ref a],[]⟩ [.ref a] [.ref a] _ _ hr e0 (hbind s₁ (.ref a)) (.cons rfl .nil) (hsp H hO hS)) fun r s' h=>?_
  cases r with
  | error e=>exact (hCX H e s' h).elim
  | ok fl =>
   cases fl with
   | next=>exact False.elim h
   | brk=>exact False.elim h
   | cont=>exact False.elim h
   | ret u =>
    obtain ⟨v,H',os,bare,un,hok',r',q⟩:=h;have q':v = .bl true:=q;subst q';obtain rfl:u=Value.bool true:=r';refine ⟨rfl,OldK.of_keep fun b o e=>?_,os,bare⟩
    cases q:H b with
    | none=>exact un.keep b o e q (by intro z;exact absurd (show b∈([]:List Addr) from z) (by simp)) (by simp)
    | some u =>
     rcases hO b with z | ⟨ob,xs,z⟩
     ·rw [q] at z;cases z
     ·have z2:=un.frzs b ob _ z;obtain ⟨e1,_⟩:=hok b _ z;obtain ⟨e2,_⟩:=hok' b _ z2;rw [e] at e1;cases e1;exact e2
 cases hk:K.lookup a with
 | some o =>
  have e:=KX a o hk;rw [ha] at e;cases e;refine core (fun _=>none) (fun _=>.inl rfl) (.inr ⟨_,vs.toArray,_,hk,rfl,rfl,rfl,by rw [qfB,lenV];exact hl,by simpa using rv⟩) (fun b u z=>by have z':(none:Option HO)=some u:=z;cases z') (fun b z=>absurd rfl z) fun z=>absurd rfl z
 | none =>
  refine core (fun b=>if b=a then some (.frz { cls:=.type "list",data:=.seq vs.toArray } (.lst (ns.map V.int))) else none) (fun b=>?_) (.inl (.inr ⟨{ cls:=.type "list",data:=.seq vs.toArray },if_pos rfl⟩)) (fun b u z=>?_) (fun b z=>?_) fun _=>hk
  ·by_cases hb:b=a
   ·exact .inr ⟨_,_,if_pos hb⟩
   ·exact .inl (if_neg hb)
  ·by_cases hb:b=a
   ·have z':=(if_pos hb).symm.trans z;cases z';subst hb;exact ⟨ha,by rw [qdA];exact hl,vs,_,rv,ha⟩
   ·have z':=(if_neg hb).symm.trans z;cases z'
  ·by_cases hb:b=a
   ·exact hb
   ·exact absurd (if_neg hb) z
theorem walk_of {l:PySem.W.OpenLaw}{n k:Nat}{q:Program}{loose:List Str}{XP:(Str->Option Value)->Heap->Prop}{YP:World->Heap->Prop}{d:DefRec}{K:Params->FZ9}{CX:World->CXT}{sp:World->Sp}{x:Str}
  (hn:l.most=some n) (hn2:n<=sizeLine) (hdf:d.params.defaults=[]) (hr:Room k callerA)
  (hY:∀ (w:World) (h:Heap),YP w h->(K w.params).In h)
  (F:∀ (w:World) (mg:Str->Option Value) (fa:Addr) (h:Heap),(K w.params).In h->h.Ns mainGlobals mg->mg d.name=some (.ref fa) ->
   ∃ fd:FuncData,(∀ (s:Shared) (u:Value),BindsTo s fd ⟨[u],[]⟩ [(x,u)]) /\
    ∀ base:Heap,(K w.params).In base->base.Ns mainGlobals mg->FnOk l.prog w (K w.params) mg base (CX w) k fa fd [x] (sp w))
  (hsp:∀ (w:World) (H:Hp) (a:Addr) (ns:List Int),ns.length<=n->Only H->SqL (K w.params) H a (ns.map V.int)->sp w [.ref a] H (fun v _=>v = .bl true) fun _ _ _=>False)
  (hCX:∀ (w:World) (H:Hp) (s:Shared) (e:Value) (s':Shared),CX w [] H s (fun _ _ _=>False) e s'->False) :
  PySem.W.WalkO q loose XP YP l.row.toRowW d [] (fun f vs=>PySem.call f vs):=by
 refine Att.attach_call hn hdf fun w s₀ s₁ mg mb fa o pm cd doc a vs ns G Y ho hd hcd hmg hobj hints hlen hg=>?_;have KX:=hY w _ Y;obtain ⟨fd,hb,hF⟩:=F w mg fa _ KX G.T.g hmg;exact law_call KX G.T.g G.T.b G.T.builtins G.T.nolimit hg hobj hints (qtA hlen hn2) hr hF hb (fun H hO hS=>hsp w H a ns hlen hO hS) fun H e s'=>hCX w H s₁ e s'
def DX (s:Stmt):Arguments:=match s with
 | .FunctionDef _ a _ _ _ _ _ _ _ _=>a
 | _=>{ posonlyargs:=[],args:=[],vararg:=none,kwonlyargs:=[],kw_defaults:=[],kwarg:=none,defaults:=[] }
def Bo (s:Stmt):List Stmt:=match s with
 | .FunctionDef _ _ b _ _ _ _ _ _ _=>b
 | _=>[]
def AE (s:Stmt):Scope:=match s with
 | .FunctionDef _ _ _ _ _ _ sc _ _ _=>sc
 | _=>{ kind:=.function,names:=[],isGenerator:=false,isCoroutine:=false }
abbrev CX0:CXT:=fun _ _ _ _ _ _=>False
abbrev E0:XK:=fun _ _ _=>False
theorem pass0 {X:Cx}:KR CX0 X E0:=fun _ _ _ _ _ _ _ h=>h.elim
structure Fun (K:FZ9)(x qual:Str)(st:Stmt)(f:Addr)(fd:FuncData):Prop where
 ex:∃ (oc:Value) (od:Option Addr) (kV doc pm:Value) (an:Option Addr) (cdv ct:Value) (osl:Array (Option Value)),
  fd=qkB x qual (DX st) (Bo st) (AE st) .none kV doc pm an cdv ct/\K.lookup f=some ⟨oc,od,.func fd,osl⟩/\qjB K cdv qual=true
 kp:qiB K (.ref f)=true
section
variable {P:Program}{w:World}{K:FZ9}{mg:Str->Option Value}{base:Heap}
theorem Fun.ok {x qual:Str}{st:Stmt}{f:Addr}{fd:FuncData}{N ps:List Str}{k:Nat}{sp:Sp}(F:Fun K x qual st f fd)(S:FnScope N ps (AE st))(len:∀ vs H Q E,sp vs H Q E->vs.length=ps.length)
  (hbody:∀ (cdv:Value) (A:Around) (outer:List Env) (s:Shared) (H:Hp) (vs:List V) (Q:VK) (E:XK),Room k (A.deeper (envOfC qual (AE st) s.heap.objs.size f cdv))->sp vs H Q E ->
   ∃ t,PSs (DV CX0 P w K mg base N qual (AE st) f cdv A outer s H E).nox (Bo st) t/\t { nx:=fun _ H'=>Q .non H',rt:=Q } (start N vs) H):FnOk P w K mg base CX0 (k+1) f fd ps sp:=by
 obtain ⟨oc,od,kV,doc,pm,an,cdv,ct,osl,rfl,lk,hcd⟩:=F.ex;refine fn_of lk hcd S len fun A outer s H vs Q E hr hsp=>?_;obtain ⟨t,h,q⟩:=hbody cdv A outer s H vs Q E hr hsp;exact ⟨t,h.nox,q⟩
theorem Fun.binds {x qual:Str}{st:Stmt}{f:Addr}{fd:FuncData}{ps:List Str}(F:Fun K x qual st f fd)
  (h:∀ (kV doc pm:Value) (an:Option Addr) (cdv ct:Value) (us:List Value),us.length=ps.length->bindArgs (qkB x qual (DX st) (Bo st) (AE st) .none kV doc pm an cdv ct) ⟨us,[]⟩=pure (ps.zip us)):Binds K fd ps []:=by
 obtain ⟨oc,od,kV,doc,pm,an,cdv,ct,osl,rfl,lk,hcd⟩:=F.ex;exact .all (h kV doc pm an cdv ct)
theorem fun_mk {x qual:Str}{st:Stmt}{f:Addr}{oc:Value}{od an:Option Addr}{osl:Array (Option Value)}{kV doc pm cdv ct:Value}(l:K.lookup f=some ⟨oc,od,.func (qkB x qual (DX st) (Bo st) (AE st) .none kV doc pm an cdv ct),osl⟩)
  (c:qjB K cdv qual=true) (k:qiB K (.ref f)=true):Fun K x qual st f (qkB x qual (DX st) (Bo st) (AE st) .none kV doc pm an cdv ct):=⟨⟨oc,od,kV,doc,pm,an,cdv,ct,osl,rfl,l,c⟩,k⟩
end
section
variable {X:Cx}
theorem pv (i:Nat){x:Str}{pos:Pos}(hN:X.N[i]? = some x:=by rfl)(hv:Vis X.env.scope x:=by first|exact Or.inl rfl|exact Or.inr (Or.inl rfl)|exact Or.inr (Or.inr rfl))(hd:(x == ("__debug__" : Str))=false:=by decide)
  (hcd:(x == ("__classdict__" : Str))=false:=by decide):PE X (.Name x pos) (Fa i):=pe_var hN hv hd hcd
end
theorem BQ {A B:Prop}(h:B):if false=true then A else B:=by
 rw [if_neg qeB];exact h
theorem BR {A B:Prop}(h:A):if true=true then A else B:=by
 rw [if_pos rfl];exact h
def Same (H H':Hp):Prop:=∀ b o,H b=some o->H' b=some o
theorem Same.refl (H:Hp):Same H H:=fun _ _ h=>h
theorem Same.trans {H H1 H2:Hp}(a:Same H H1)(b:Same H1 H2):Same H H2:=fun c o h=>b c o (a c o h)
theorem Same.free {H H':Hp}(e:Same H H'){l:Addr}(h:H' l=Option.none):H l=Option.none:=by
 cases q:H l with
 | none=>rfl
 | some o =>
  rw [e l o q] at h;cases h
theorem Same.seq {K:FZ9}{H H':Hp}{a:Addr}{xs:List V}(e:Same H H')(h:SqL K H a xs):SqL K H' a xs:=by
 rcases h with (h | ⟨o,h⟩)|h
 ·exact .inl (.inl (e _ _ h))
 ·exact .inl (.inr ⟨o,e _ _ h⟩)
 ·exact .inr h
section
variable {X:Cx}{pins:List (Addr × Obj)}{σ:St}{H:Hp}{s:Shared}{a:Addr}{y v:V}{u r:Value}{o:Option V}{A:Around}{E:Value->Shared->Prop}
theorem Inv.big (I:Inv X pins σ H s):sysModules<s.heap.objs.size:=by
 have h:mainGlobals<s.heap.objs.size:=(I.mod.glob.keeps I.bk).lt;exact Nat.lt_trans (by decide) h
end
def NoSl (i:Expr):Prop:=∀ ov iv,subscripted i false ov iv=operate [ov,iv] (getItem ov iv)
theorem subD_of {prog:Program}{w:World}{A:Around}{E:Value->Shared->Prop}{s:Shared}{env:Env}{value slice:Expr}{pos:Pos}{T id:String}{Q:Value->Shared->Prop}
  (hl:typeLookup (.type T) "__getitem__" = pure (some (.builtin id))) (hs:NoSl slice)
  (h:wpAny (model prog w) A (eval value env) (fun o s₁=>wpAny (model prog w) A (eval slice env) (fun i s₂=>s₂.TypeIs o T/\wpAny (model prog w) A (getItem o i) Q E s₂) E s₁) E s) :
  wpAny (model prog w) A (eval (.Subscript value slice pos) env) Q E s:=by
 refine Subscript_ (wpAny_mono h (fun o s₁ h₁=>wpAny_mono h₁ (fun i s₂ h₂=>?_) fun _ _ x=>x) fun _ _ x=>x);obtain ⟨hT,h₂⟩:=h₂;unfold subscriptTail;refine qbA ?_;rw [getitemInPython_of_ne hT.not_modules];refine qbA (wpAny_specialOf hT hl ?_)
 have fin:wpAny (model prog w) A (subscripted slice false o i) (fun r s₃=>wpAny (model prog w) A (letTemporaryGo value o r >>= fun _=>pure r) Q E s₃) E s₂:=by
  rw [hs o i];exact wpAny_operating (wpAny_mono h₂ (fun r s₃ h₃=>qbA (wpAny_letTemporaryGo (qcA h₃))) fun _ _ x=>x)
 first
  | exact qcA (qbA fin)
  | exact qbA (qcA (qbA fin))
  | exact qbA fin
theorem dk_empty {P:Program}{w:World}{H:Hp}(h:Heap)(hb:sysModules<h.objs.size):ObjOk P w H (h.push { cls:=.type "dict",data:=.dict #[] }) h.objs.size (.dK []) :=
 ⟨qsB _,beq_eq_false_iff_ne.mpr (Ne.symm (qoB hb)),[],.nil,Heap.DictOf.new h⟩
def tDNewK:TE:=fun _ H Q=>∀ p,H p=none->Q (.ref p) (upd H p (.dK []))
section
variable {X:Cx}{pos:Pos}
theorem pe_dnewK:PE X (.Dict [] [] pos) tDNewK:=fun pins s σ H Q I h =>
 wpAny_Dict_empty ⟨.ref s.heap.objs.size,_,I.laid (a:=s.heap.objs.size) (o:=.dK []) (t':=s.toks) (fun _ _ q=>qxA _ q) (qsA _) (dk_empty s.heap I.big),rfl,h _ (I.hok.fresh (qsA _))⟩
end
theorem len_app (x y:Str):(x++y).length=x.length+y.length:=by
 show (x.cps++y.cps).size=_;rw [Array.size_append]
 rfl
theorem sing_lt (a b:Nat):([a] < [b]) ↔ a<b:=by
 rw [List.cons_lt_cons_iff];simp
def Gu (scope:Scope)(env:Env):List (Str × Addr) :=
 (scope.names.filterMap fun p=>if p.2 == NameKind.free then (env.cells.lookup p.1).map fun c=>(p.1,c) else none).reverse
theorem E3 {env:Env}:∀ (names:List (Str × NameKind)) (acc:List (Str × Addr)),(∀ y∈names,y.2 = .free->∃ c,env.cells.lookup y.1=some c) ->
  (forIn names acc fun (x:Str × NameKind) (cs:List (Str × Addr))=>(match x with
   | (name,kind)=>if (kind == NameKind.free)=true then do
     let c <- cellOf env name
     pure (ForInStep.yield ((name,c)::cs))
    else pure (ForInStep.yield cs):Sem (ForInStep (List (Str × Addr))))) =
   pure ((names.filterMap fun p=>if p.2 == NameKind.free then (env.cells.lookup p.1).map fun c=>(p.1,c) else none).reverse++acc)
 | [],acc,_=>rfl
 | (n,k)::r,acc,h=>by
  rw [List.forIn_cons];by_cases hk:k = .free
  ·subst hk;obtain ⟨c,hc⟩:=h (n,.free) qkA rfl;have e1:cellOf env n=pure c:=by unfold cellOf;rw [hc]
   have ih:=E3 r ((n,c)::acc) fun y hy=>h y (qmA _ hy);simp only [beq_self_eq_true,if_true,e1,pure_bind,List.filterMap_cons,hc,Option.map_some,List.reverse_cons,qqA,List.singleton_append];exact ih
  ·have hb:(k == NameKind.free)=false:=by simpa using hk
   have ih:=E3 r acc fun y hy=>h y (qmA _ hy);simp only [hb,Bool.false_eq_true,if_false,pure_bind,List.filterMap_cons];exact ih
theorem Hx {scope:Scope}{env:Env}(h:∀ y∈scope.names,y.2 = .free->∃ c,env.cells.lookup y.1=some c):closureFor scope env=pure (Gu scope env):=by
 have e:=E3 (env:=env) scope.names [] h;unfold closureFor;rw [qrA] at e;exact (congrArg (· >>= pure) e).trans (by rfl)
theorem clOf_mem {scope:Scope}{env:Env}{y:Str}{c:Addr}(h:(y,c)∈Gu scope env):(y,NameKind.free)∈scope.names/\env.cells.lookup y=some c:=by
 unfold Gu at h;obtain ⟨⟨n,k⟩,hp,e⟩:=List.mem_filterMap.mp (List.mem_reverse.mp h);by_cases hk:k = .free
 ·subst hk;simp only [beq_self_eq_true,if_true] at e
  cases hc:env.cells.lookup n with
  | none=>rw [hc] at e;cases e
  | some c' =>
   rw [hc] at e;have e':(n,c')=(y,c):=qvA e;cases e';exact ⟨hp,hc⟩
 ·have hb:(k == NameKind.free)=false:=by simpa using hk
  simp only [hb,Bool.false_eq_true,if_false] at e;cases e
theorem Dq {scope:Scope}{env:Env}{y:Str}{c:Addr}(h:(Gu scope env).lookup y=some c):env.cells.lookup y=some c:=(clOf_mem (PySem.mem_of_lookup h)).2
theorem Et {α:Type}{y:Str}:∀ {l:List (Str × α)}{c:α},(y,c)∈l->∃ c',l.lookup y=some c'
 | (n,a)::r,c,h=>by
  by_cases e:y=n
  ·subst e;exact ⟨a,by simp [List.lookup_cons]⟩
  ·have hb:(y == n)=false:=by simpa using e
   rcases qiA.mp h with h|h
   ·cases h;exact absurd rfl e
   ·obtain ⟨c',h'⟩:=Et h;exact ⟨c',by simp [List.lookup_cons,hb,h']⟩
theorem Jy {scope:Scope}{env:Env}{y:Str}{c:Addr}(h1:(y,NameKind.free)∈scope.names)(h2:env.cells.lookup y=some c):(Gu scope env).lookup y=some c:=by
 have m:(y,c)∈Gu scope env:=by
  unfold Gu;exact List.mem_reverse.mpr (List.mem_filterMap.mpr ⟨(y,.free),h1,by simp [h2]⟩)
 obtain ⟨c',h'⟩:=Et m;have:=Dq h';rw [h2] at this;cases this;exact h'
theorem Ik {scope:Scope}{env:Env}(hcell:∀ y∈scope.names,y.2 ≠ .cell){y:Str}(h:(relabel scope env).names.lookup y=some .cell\/(relabel scope env).names.lookup y=some .free):(y,NameKind.free)∈scope.names:=by
 have m:∃ k,(k = .cell\/k = .free)/\(y,k)∈(relabel scope env).names:=by
  rcases h with h|h
  ·exact ⟨_,.inl rfl,PySem.mem_of_lookup h⟩
  ·exact ⟨_,.inr rfl,PySem.mem_of_lookup h⟩
 obtain ⟨k,hk,hm⟩:=m;unfold relabel at hm;obtain ⟨⟨n,k'⟩,hp,e⟩:=List.mem_map.mp hm;dsimp only at e;by_cases hf:k' = .free
 ·subst hf;split at e<;>(cases e;exact hp)
 ·have hb:(k' == NameKind.free)=false:=by simpa using hf
  rw [hb,Bool.false_and,Bool.false_and,if_neg (by decide)] at e;cases e;rcases hk with hk|hk
  ·exact absurd hk (hcell _ hp)
  ·exact absurd hk hf
def Cn (X:Cx)(N:List Str)(scope:Scope)(C:Addr)(s:Shared)(H:Hp)(fp:List Addr):Cx where
 prog:=X.prog
 w:=X.w
 K:=X.K
 mg:=X.mg
 base:=X.base
 A:=X.A
 N:=N
 s₀:=s
 H₀:=H
 env:=compEnvC scope (Gu scope X.env) C X.env
 outer:=X.stack
 stack:=X.stack
 ex:=fp
 fn:=fun _=>false
 calm:=true
 pn:=[]
 xe:=fun _ _=>False
def Caps (X:Cx)(scope:Scope):List Str->List Nat->Prop
 | [],[]=>True
 | x::xs,i::is=>(X.N[i]? = some x/\(X.env.scope.names.lookup x=some .cell\/X.env.scope.names.lookup x=some .free)/\scope.names.lookup x=some .free)/\Caps X scope xs is
 | _,_=>False
theorem Caps.len {X:Cx}{scope:Scope}:∀ {xs:List Str}{is:List Nat},Caps X scope xs is->is.length=xs.length
 | [],[],_=>rfl
 | _::_,_::_,h=>congrArg (· + 1) (Caps.len h.2)
 | [],_::_,h=>h.elim
 | _::_,[],h=>h.elim
theorem Caps.at {X:Cx}{scope:Scope}:∀ {xs:List Str}{is:List Nat}{j:Nat}{x:Str},Caps X scope xs is->xs[j]? = some x->∃ i,is[j]? = some i/\X.N[i]? = some x/\(X.env.scope.names.lookup x=some .cell\/X.env.scope.names.lookup x=some .free)/\scope.names.lookup x=some .free
 | [],[],_,_,_,e=>by simp at e
 | y::_,i::_,0,x,h,e=>by
  simp at e;subst e;exact ⟨i,rfl,h.1⟩
 | _::xs,_::is,j+1,x,h,e=>by
  obtain ⟨i,h1,h2⟩:=Caps.at (j:=j) h.2 (by simpa using e);exact ⟨i,by simpa using h1,h2⟩
 | [],_::_,_,_,h,_=>h.elim
 | _::_,[],_,_,h,_=>h.elim
def D6 (cap:List Nat)(σ:St):St:=none::cap.map fun i=>(σ[i]?).join
def PTs (X:Cx)(ifs:List Expr)(t:TT):Prop :=
 ∀ (pins:List (Addr × Obj)) (s:Shared) (σ:St) (H:Hp) (Q:Bool->Hp->Prop),Inv X pins σ H s->t σ H Q ->
  wpAny (model X.prog X.w) X.A (forIn ifs true fun c r=>if r=true then do let ok <- isTrue c X.env (eval c X.env);pure (ForInStep.yield ok) else pure (ForInStep.yield r)) (TP X pins σ Q) X.xe s
def tYes:TT:=fun _ H Q=>Q true H
theorem pts_nil {X:Cx}:PTs X [] tYes:=fun _ _ _ H _ I h=>wpAny_tests_nil ⟨H,I,h⟩
theorem Ic {prog:Program}{w:World}{A:Around}{R:Result->Shared->Prop}{s:Shared}{elt target iter:Expr}{ifs:List Expr}{scope:Scope}{pos:Pos}{it acc:Value}{env:Env}(I:Nat->Shared->Prop)
  (turn:∀ n s,I n s->wpAny (model prog w) A (pyNext it) (fun r s₁=>match r with
   | none=>R (.ok .next) s₁
   | some v=>wpAny (model prog w) A (letOwnedTupleGo target it v) (fun _ s₁'=>wpAny (model prog w) A (assign target env v) (fun _ s₂ =>
     wpAny (model prog w) A (forIn ifs true fun c r=>if r=true then do let ok <- isTrue c env (eval c env);pure (ForInStep.yield ok) else pure (ForInStep.yield r)) (fun ok s₃ =>
      if ok=true then wpAny (model prog w) A (eval elt env) (fun x s₄ =>
       wpAny (model prog w) A (call (.builtin "list.append") [acc,x]) (fun _ s₅=>∃ m,m<n/\I m s₅) (fun _ _=>False) s₄) (fun _ _=>False) s₃
      else ∃ m,m<n/\I m s₃) (fun _ _=>False) s₂) (fun _ _=>False) s₁') (fun _ _=>False) s₁) (fun _ _=>False) s)
  (n:Nat) (h:I n s) :
  codeAny (model prog w) A (.compLoop (.ListComp elt [⟨target,iter,ifs,0⟩] scope pos) 0 it acc env) R s:=by
 refine codeAny_loop rfl I (fun n s hI=>?_) n h;show wpAny _ A ((compTurn (.ListComp elt [⟨target,iter,ifs,0⟩] scope pos) 0 it acc env).onRaise (fun x=>do noteFrame x env;theTreesLotGoes x)) _ _ s;refine wpAny_noted ?_;rw [compTurn_list];refine qbA (wpAny_standAt (qbA (wpAny_mono (turn n s hI) (fun r s₁ h₁=>?_) fun _ _ h'=>h'.elim)))
 cases r with
 | none=>exact qcA h₁
 | some v =>
  refine qbA (wpAny_mono h₁ (fun _ s₁' h₁'=>?_) fun _ _ h'=>h'.elim);refine qbA (wpAny_mono h₁' (fun _ s₂ h₂=>qbA (wpAny_mono h₂ (fun ok s₃ h₃=>?_) fun _ _ h'=>h'.elim)) fun _ _ h'=>h'.elim)
  cases ok with
  | false=>exact qcA ⟨rfl,h₃⟩
  | true =>
   exact qbA (qbA (wpAny_mono h₃ (fun x s₄ h₄=>qbA (wpAny_mono h₄ (fun _ s₅ h₅=>qcA (qcA ⟨rfl,h₅⟩)) fun _ _ h'=>h'.elim)) fun _ _ h'=>h'.elim))
def tComp (cap:List Nat)(wi:TI)(tc:TT)(te:TE):TE:=fun σ H Q=>wi σ H fun J H1=>∀ p,H1 p=none ->
 ∃ W:Nat->Nat->List V->Hp->Prop,(∃ m,W 0 m [] (upd H1 p (.lst [])))/\∀ i m xs H2,W i m xs H2 ->
  (J.stop i H2/\Q (.ref p) H2)\/(J.go i H2/\∃ N:List V->Hp->Prop,(∀ xs' H',N xs' H'->∃ m',m'<m/\W (i+1) m' xs' H') /\
   ∀ x H3,J.yld i H2 x H3->tc ((D6 cap σ).set 0 (some x)) H3 fun b H5=>if b=true then te ((D6 cap σ).set 0 (some x)) H5 fun v H6=>H6 p=some (.lst xs)/\xs.length<sizeLine/\N (xs++[v]) (upd H6 p (.lst (xs++[v]))) else N xs H5)
section
variable {X:Cx}{pins:List (Addr × Obj)}{σ:St}
structure CompScope (X:Cx)(scope:Scope):Prop where
 cell:∀ y∈scope.names,y.2 ≠ .cell
 kind:scope.kind = .function
 names:∀ y∈scope.names,y.2 = .local -> scope.names.lookup y.1=some .local
 free:∀ y∈scope.names,y.2 = .free->X.env.scope.names.lookup y.1=some .cell\/X.env.scope.names.lookup y.1=some .free
theorem CompScope.clos {scope:Scope}{H:Hp}{s:Shared}(S:CompScope X scope)(I:Inv X pins σ H s):closureFor scope X.env=pure (Gu scope X.env) :=
 Hx fun y hy hf=>I.ok.has y.1 (S.free y hy hf)
theorem KJ {scope:Scope}{x:Str}{cn:List Str}{cap:List Nat}{s3:Shared}{H3:Hp}{fp:List Addr}{h₁:Heap}{tk:Nat}{H2:Hp}(S:CompScope X scope)(I:Inv X pins σ H3 s3)(hc:X.calm=true)(hcap:Caps X scope cn cap)
  (f2:∀ b∈fp,GW X pins H2 b) (lt:∀ b∈fp,b<s3.heap.objs.size) (keep:∀ b o,s3.heap.get? b=some o->h₁.get? b=some o) (hns:h₁.Ns s3.heap.objs.size fun _=>none) :
  Inv (Cn X (x::cn) scope s3.heap.objs.size s3 H3 fp) [] (D6 cap σ) H3 { s3 with heap:=h₁,toks:=tk }:=by
 have noS:∀ b o,X.base.get? b=some o->b<X.s₀.heap.objs.size:=fun b o e=>qqB (qwA e) I.ok.bsz
 refine ⟨⟨I.ok.mod,S.kind,I.ok.glob,I.ok.blt,qsA _,fun y z c h1 h2=>I.ok.inj y z c (Dq h1) (Dq h2),fun y hy=>?_,fun y c h=>?_,fun _=>I.ok.hd hc,I.ok.frames,.inl rfl,fun b hb=>⟨qoB (lt b hb),fun y c h=>(f2 b hb).2.2.2.2.1 y c (Dq h)⟩,
  I.bs,qtA I.ok.bsz I.sz,fun b o e hb=>?_,fun b hb z=>?_,I.stack,I.stkFree⟩,rfl,I.bare,Un.kept keep,⟨_,hns,fun i y v e1 e2 e3=>?_⟩,fun y c e=>?_,I.hok.fresh (qsA _),fun y c e=>I.freeC y c (Dq e),fun p hp=>absurd (show p∈([]:List (Addr × Obj)) from hp) (by simp),I.hok.kept keep,?_⟩
 ·have m:=Ik S.cell hy;obtain ⟨c,hc'⟩:=I.ok.has y (S.free _ m rfl);exact ⟨c,Jy m hc'⟩
 ·cases h
 ·rcases (f2 b hb).2.2.2.1 with z|z
  ·exact I.ok.noex b o e z
  ·exact absurd (qqB (noS b o e) z) (quA _)
 ·rcases qiA.mp (I.stkSub b z) with e|e
  ·exact (f2 b hb).2.1 e
  ·exact (f2 b hb).2.2.1 e
 ·cases i with
  | zero =>
   have e2:(some none:Option (Option V))=some (some v):=e2;cases e2
  | succ j =>
   have e1:cn[j]? = some y:=e1;obtain ⟨k,hk,hN,hkind,hfr⟩:=hcap.at e1;have e2:(cap.map fun i=>(σ[i]?).join)[j]? = some (some v):=e2;rw [List.getElem?_map,hk] at e2;have e2:(σ[k]?).join=some v:=qvA e2
   have e2:σ[k]? = some (some v):=by
    cases q:σ[k]? with
    | none=>rw [q] at e2;cases e2
    | some o=>rw [q] at e2;cases o with
     | none=>cases e2
     | some v'=>have e2:some v'=some v:=e2;rw [e2]
   obtain ⟨m,hn,hl⟩:=I.loc;obtain ⟨u,r,l⟩:=hl k y v hN e2 (.inr hkind);refine ⟨u,r,?_⟩;rcases l with ⟨kl,_⟩ | ⟨_,c,hc',o,ho,hd⟩
   ·have kl:X.env.scope.names.lookup y=some .local := kl;rw [kl] at hkind;rcases hkind with z|z<;>cases z
   ·refine .inr ⟨?_,c,Jy (PySem.mem_of_lookup hfr) hc',o,keep c o ho,hd⟩;rcases e3 with z|z
    ·
     exfalso;have z:(relabel scope X.env).names.lookup y=some .local := z;have hm:=PySem.mem_of_lookup z;unfold relabel at hm;obtain ⟨⟨n,k'⟩,hp,e⟩:=List.mem_map.mp hm;dsimp only at e
     have hl2:(y,NameKind.local)∈scope.names:=by
      split at e
      ·cases e
      ·cases e;exact hp
     have:=S.names _ hl2 rfl;rw [hfr] at this;cases this
    ·exact z
 ·obtain ⟨v,o,ho,hd⟩:=I.cell y c (Dq e);exact ⟨v,o,keep c o ho,hd⟩
 ·show (D6 cap σ).length=(x::cn).length;unfold D6;rw [qfA,qdA,hcap.len,qfA]
theorem comp_out {scope:Scope}{N:List Str}{C:Addr}{s3 s':Shared}{H2 H3 Hf:Hp}{fp:List Addr}{pins':List (Addr × Obj)}{σ':St}(I:Inv X pins σ H3 s3)(J:Inv (Cn X N scope C s3 H3 fp) pins' σ' Hf s')(f2:∀ b∈fp,GW X pins H2 b):Inv X pins σ Hf s' :=
 I.call' (ch:=fp) J.os J.base J.hok J.bare fun b hb=>⟨(f2 b hb).2.2.2.1,(f2 b hb).2.1,(f2 b hb).2.2.2.2.1,(f2 b hb).2.2.2.2.2⟩
theorem Lp {scope:Scope}{x:Str}{px pos:Pos}{elt iter:Expr}{ifs:List Expr}{cn:List Str}{cap:List Nat}{s2:Shared}{H2:Hp}{it:Addr}{fp:List Addr}{tn:Nat->Heap->Prop}{J:It}{tc:TT}{te:TE}{Q:VK}{RR:Value->Addr->Result->Shared->Prop}{E:Value->Shared->Prop}
  (S:CompScope X scope) (I2:Inv X pins σ H2 s2) (hc:X.calm=true) (hcap:Caps X scope cn cap) (hx:scope.names.lookup x=some .local) (hnd:(x::cn).Nodup)
  (T:Turn X.prog X.w X.K (.Name x px) J fp it tn) (st2:tn 0 s2.heap) (f2:∀ b∈fp,GW X pins H2 b)
  (body:∀ (C:Addr) (s:Shared) (H:Hp) (fp:List Addr),PTs (Cn X (x::cn) scope C s H fp) ifs tc/\PE (Cn X (x::cn) scope C s H fp) elt te)
  (q:∀ p,H2 p=none->∃ W:Nat->Nat->List V->Hp->Prop,(∃ m,W 0 m [] (upd H2 p (.lst [])))/\∀ i m xs H3,W i m xs H3 ->
   (J.stop i H3/\Q (.ref p) H3)\/(J.go i H3/\∃ N:List V->Hp->Prop,(∀ xs' H',N xs' H'->∃ m',m'<m/\W (i+1) m' xs' H') /\
    ∀ v H4,J.yld i H3 v H4->tc ((D6 cap σ).set 0 (some v)) H4 fun b H5=>if b=true then te ((D6 cap σ).set 0 (some v)) H5 fun v H6=>H6 p=some (.lst xs)/\xs.length<sizeLine/\N (xs++[v]) (upd H6 p (.lst (xs++[v]))) else N xs H5))
  (hRR:∀ (p C:Addr) (s3 s':Shared) (H3 Hf:Hp) (σ':St),Inv X pins σ H3 s3->s3.heap.objs.size=C->Inv (Cn X (x::cn) scope C s3 H3 fp) [] σ' Hf s'->Q (.ref p) Hf->RR (.ref p) C (.ok .next) s') :
  wpAny (model X.prog X.w) X.A (newList []) (fun acc s₃=>wpAny (model X.prog X.w) X.A (newFunctionEnv scope X.env.globals (Gu scope X.env) [] X.env.qual none .none (some X.env)) (fun cenv s₄ =>
   codeAny (model X.prog X.w) X.A (.compStart (.ListComp elt [⟨.Name x px,iter,ifs,0⟩] scope pos) 0 (.ref it) acc { cenv with scope:=relabel scope X.env }) (RR acc cenv.locals) s₄) E s₃) E s2:=by
 refine wpAny_newObj_type (wpAny_newFunctionEnv S.cell (by intro y hy;simp at hy) (fun h₁ hns₁ hsb₁=>?_) S.kind);dsimp only at hns₁ hsb₁ ⊢;have hfr:H2 s2.heap.objs.size=none:=I2.hok.fresh (qsA _);obtain ⟨W,⟨m0,w0⟩,turn⟩:=q _ hfr
 have I3:Inv X pins σ (upd H2 s2.heap.objs.size (.lst [])) { s2 with heap:=s2.heap.push { cls:=.type "list",data:=.seq ([]:List Value).toArray } } :=
  I2.lnew (its:=[]) (t':=s2.toks) .nil (qsB _)
 generalize hs3:({ s2 with heap:=s2.heap.push { cls:=.type "list",data:=.seq ([]:List Value).toArray } }:Shared)=s3 at I3;have hs3h:s3.heap=s2.heap.push { cls:=.type "list",data:=.seq ([]:List Value).toArray }:=by rw [<- hs3]
 have hst3:tn 0 s3.heap:=T.keep _ _ _ st2 fun b hb o e=>by rw [hs3h];exact qxA _ e
 have ltf:∀ b∈fp,b<s3.heap.objs.size:=fun b hb=>by
  obtain ⟨o,e,_⟩:=T.obj _ _ hst3 b hb;exact qwA e
 have hC:(s2.heap.push { cls:=.type "list",dict:=none,data:=.seq ([]:List Value).toArray }).objs.size=s3.heap.objs.size:=by rw [hs3h]
 rw [hC] at hns₁ hsb₁ ⊢
 have keep:∀ b o,s3.heap.get? b=some o->h₁.get? b=some o:=fun b o e=>by
  refine hsb₁.extBut b o (qoB (qwA e)) (qxA _ ?_);rw [hs3h] at e;exact e
 have J4:Inv (Cn X (x::cn) scope s3.heap.objs.size s3 (upd H2 s2.heap.objs.size (.lst [])) fp) [] (D6 cap σ) (upd H2 s2.heap.objs.size (.lst [])) { s3 with heap:=h₁,toks:=s2.toks+([]:List (Str × Value)).length } :=
  KJ S I3 hc hcap f2 ltf keep hns₁
 have st4:tn 0 h₁:=T.keep _ _ _ hst3 fun b hb o e=>keep b o e
 have fr4:∀ b∈fp,(upd H2 s2.heap.objs.size (.lst [])) b=none:=fun b hb=>by
  obtain ⟨o,e,_⟩:=T.obj _ _ st2 b hb;rw [Am (qoB (qwA e))];exact (f2 b hb).1
 have hst:({ s2 with heap:=h₁,toks:=s2.toks+([]:List (Str × Value)).length }:Shared) = { s3 with heap:=h₁,toks:=s2.toks+([]:List (Str × Value)).length }:=by rw [<- hs3]
 have loop:codeAny (model X.prog X.w) X.A (.compLoop (.ListComp elt [⟨.Name x px,iter,ifs,0⟩] scope pos) 0 (.ref it) (.ref s2.heap.objs.size) (compEnvC scope (Gu scope X.env) s3.heap.objs.size X.env))
   (RR (.ref s2.heap.objs.size) s3.heap.objs.size) { s2 with heap:=h₁,toks:=s2.toks+([]:List (Str × Value)).length }:=by
  rw [hst];generalize hX':Cn X (x::cn) scope s3.heap.objs.size s3 (upd H2 s2.heap.objs.size (.lst [])) fp=X' at J4
  have hfpk:∀ {Hc:Hp},(∀ b∈fp,Hc b=none)->∀ b∈fp,GW X' [] Hc b:=fun {Hc} hn b hb=>by
   subst hX';refine ⟨hn b hb,(J4.ok.exf b hb).1,J4.ok.exfs b hb,.inl hb,(J4.ok.exf b hb).2,fun p hp=>absurd (show p∈([]:List (Addr × Obj)) from hp) (by simp)⟩
  refine Ic (fun n s'=>∃ i xs Hc,Inv X' [] (D6 cap σ) Hc s'/\tn i s'.heap/\(∀ b∈fp,Hc b=none)/\W i n xs Hc) ?_ m0 ⟨0,[],_,J4,st4,fr4,w0⟩;rintro n s5 ⟨i,xs,Hc,I5,st5,fr5,w5⟩;have B:=body s3.heap.objs.size s3 (upd H2 s2.heap.objs.size (.lst [])) fp;rcases turn i n xs Hc w5 with ⟨stop,qn⟩ | ⟨go,N,hN,step⟩
  ·subst hX';refine thn (T.done (Cn X (x::cn) scope s3.heap.objs.size s3 (upd H2 s2.heap.objs.size (.lst [])) fp) rfl rfl rfl rfl i [] s5 (D6 cap σ) Hc (fun _ _=>False) I5 (hfpk fr5) st5 stop) fun r s6 ⟨hr,I6⟩=>?_;subst hr;exact hRR _ _ s3 s6 _ Hc _ I3 rfl I6 qn
  ·subst hX';refine thn (T.item (Cn X (x::cn) scope s3.heap.objs.size s3 (upd H2 s2.heap.objs.size (.lst [])) fp) rfl rfl rfl rfl i [] s5 (D6 cap σ) Hc (fun _ _=>False) I5 (hfpk fr5) st5 go) fun r s6 ⟨u,hr,h6⟩=>?_;subst hr;refine thn h6 fun _ s7 ⟨v,H7,I7,r7,y7,st7,fr7⟩=>?_;have I7':=I7.pinned (hfpk fr7) (T.obj _ _ st7);have hlook:(relabel scope X.env).names.lookup x=some .local := lookup_relabel_local hx;refine wpAny_assign_Name (ET (X:=Cn X (x::cn) scope s3.heap.objs.size s3 (upd H2 s2.heap.objs.size (.lst [])) fp) I7' (i:=0) hnd rfl (.inl hlook) r7 (fun s8 I8=>?_) (.inr hlook))
   have again:∀ {s9:Shared}{H9:Hp}{ys:List V},Inv (Cn X (x::cn) scope s3.heap.objs.size s3 (upd H2 s2.heap.objs.size (.lst [])) fp) ([]++GD fp s7.heap) ((D6 cap σ).set 0 (some v)) H9 s9->N ys H9 ->
     ∃ m,m<n/\∃ i xs Hc,Inv (Cn X (x::cn) scope s3.heap.objs.size s3 (upd H2 s2.heap.objs.size (.lst [])) fp) [] (D6 cap σ) Hc s9/\tn i s9.heap/\(∀ b∈fp,Hc b=none)/\W i m xs Hc:=fun {s9 H9 ys} I9 n9=>by
    obtain ⟨m',hm,w9⟩:=hN ys H9 n9;refine ⟨m',hm,i+1,ys,H9,(I9.unpinned (pins:=[])).weak (by simp [D6]) (fun j w e=>?_),T.keep _ _ _ st7 fun b hb o e=>(I9.pin (b,o) (qrB _ (qrB _ (Cs hb e)))).1,fun b hb=>?_,w9⟩
    ·cases j with
     | zero =>
      have e:(some none:Option (Option V))=some (some w):=e;cases e
     | succ j=>exact e
    ·obtain ⟨o,e,_⟩:=T.obj _ _ st7 b hb;exact (I9.pin (b,o) (qrB _ (qrB _ (Cs hb e)))).2.1
   refine thn (B.1 _ s8 _ H7 _ I8 (step v H7 y7)) fun ok s9 ⟨H9,I9,q9⟩=>?_
   cases ok with
   | false =>
    rw [if_neg qeB] at q9 ⊢;exact again I9 q9
   | true =>
    rw [if_pos rfl] at q9 ⊢;refine thn (B.2 _ s9 _ H9 _ I9 q9) fun uy s10 ⟨y,H10,I10,r10,hp,hl,n10⟩=>?_;refine thn (IS _ s10 _ H10 (.ref s2.heap.objs.size) [y] (.ref s2.heap.objs.size) [uy] (fun _ H11=>N (xs++[y]) H11) I10 rfl (.cons r10 .nil) ⟨_,xs,y,rfl,rfl,hp,hl,n10⟩) fun _ s11 ⟨_,H11,I11,_,n11⟩=>?_;exact again I11 n11
 exact codeAny_compStart_list loop (T.self _ _ _ _ _ st4 loop)
theorem pe_comp {scope:Scope}{x:Str}{px pos:Pos}{elt iter:Expr}{ifs:List Expr}{cn:List Str}{cap:List Nat}{wi:TI}{tc:TT}{te:TE}
  (hc:X.calm=true) (S:CompScope X scope) (hx:scope.names.lookup x=some .local) (hnd:(x::cn).Nodup) (hcap:Caps X scope cn cap) (hi:PI X (.Name x px) iter wi)
  (body:∀ (C:Addr) (s:Shared) (H:Hp) (fp:List Addr),PTs (Cn X (x::cn) scope C s H fp) ifs tc/\PE (Cn X (x::cn) scope C s H fp) elt te)
  (hs:∀ x,foldedSetIterable iter X.env x=pure x:=by intro _;rfl):PE X (.ListComp elt [⟨.Name x px,iter,ifs,0⟩] scope pos) (tComp cap wi tc te):=by
 intro pins s σ H Q I h;rw [eval_ListComp];refine wpAny_comprehension_free (use:=none) rfl hs (S.clos I) S.kind S.names (thn (hi pins s σ H _ I h) fun xv s1 h1=>thn h1 fun itv s2 h2=>?_);obtain ⟨it,fp,tn,J,H2,e,I2,T,st2,f2,q⟩:=h2;subst e;refine Lp (RR:=fun acc C=>compPost (model X.prog X.w) X.A X.xe none (EP X pins σ Q) acc C) S I2 hc hcap hx hnd T st2 f2 body q ?_;intro p C s3 s' H3 Hf σ' I3 hC J' qf;subst hC;have I4:=comp_out I3 J' f2;obtain ⟨m,hn,_⟩:=J'.loc;refine ⟨m,hn,fun h' hs'=>?_⟩;refine ⟨.ref p,Hf,?_,rfl,qf⟩;have f:=I3.fpOk (H':=Hf) (qsA _) J'.free;exact I4.turned (t':=s'.toks) (it:=s3.heap.objs.size) (fun b o hb e=>(hs'.2 b hb).trans e) f.1 f.2.1 f.2.2.2.1 f.2.2.2.2.1 f.2.2.2.2.2
end
theorem bt_len:bootBuiltins "len" = some (.builtin "len"):=by decide +kernel
theorem Ah:bootBuiltins "isinstance" = some (.builtin "isinstance"):=by decide +kernel
theorem bt_min:bootBuiltins "min" = some (.builtin "min"):=by decide +kernel
theorem bt_tuple:bootBuiltins "tuple" = some (.type "tuple"):=by decide +kernel
theorem J8:bootBuiltins "str" = some (.type "str"):=by decide +kernel
theorem pe_globI {X:Cx}{x:Str}{i:Int}{pos:Pos}(hg:Gl X x)(h:∃ t,X.mg x=some (.int i t))(hd:(x == ("__debug__" : Str))=false:=by decide):PE X (.Name x pos) (tC (.int i)):=by
 obtain ⟨t,h⟩:=h;exact D3 (u:=.int i t) hg h ⟨t,rfl⟩ hd
def kitC (T c:String):Option Bool:=if (T == c)=true then some true else if PySem.W.kitMeta c=true then (fastBuiltinMro T).map (·.contains (.type c)) else none
theorem kit_of {K:FZ9}{T c:String}{b:Bool}(h:kitC T c=some b):PySem.W.kitOne K (.type T) (.type c)=some b:=by
 unfold kitC at h;unfold PySem.W.kitOne;by_cases e:T=c
 ·subst e;rw [if_pos (by simp)] at h;rw [if_pos (by simp)];exact h
 ·rw [if_neg (by simpa using e)] at h;rw [if_neg (by intro z;exact e (by simpa using z))];exact h
structure DefOk (P:Program)(w:World)(K:FZ9)(mg:Str->Option Value)(base:Heap)(x:Str)(k:Nat)(ps:List Str)(sp:Sp):Prop where
 ex:∃ f fd,FnOk P w K mg base CX0 k f fd ps sp/\mg x=some (.ref f)/\qiB K (.ref f)=true/\Binds K fd ps []
section
variable {X:Cx}{x:Str}{k j:Nat}{ps:List Str}{sp:Sp}{e:Expr}{es:List Expr}{t:TA}{p pos:Pos}
theorem B1 (F:DefOk X.prog X.w X.K X.mg X.base x k ps sp)(hr:Room j X.A)(hj:k<=j)(hg:Gl X x)(ha:PA X (e::es) t)(hdb:(x == ("__debug__" : Str))=false:=by decide)
  (he:starEach (e::es) X.env=(false,eval e X.env)::starEach es X.env:=by rfl) (hpl:(backTo pos (starEach es X.env)).any (·.1)=false:=by rfl) :
  PE X (.Call (.Name x p) (e::es) [] pos) (FW sp [] E0 t):=by
 obtain ⟨f,fd,G,m,kp,b⟩:=F.ex;exact pe_call G (hr.mono hj) hg m kp b .nil pass0 ha hdb he hpl
end
theorem Dz {P:Program}{w:World}{K:FZ9}{mg:Str->Option Value}{base:Heap}{x:Str}{st:Stmt}{f:Addr}{fd:FuncData}{k:Nat}{ps:List Str}{sp:Sp}(F:Fun K x x st f fd)(m:mg x=some (.ref f))(b:Binds K fd ps [])(G:FnOk P w K mg base CX0 k f fd ps sp):DefOk P w K mg base x k ps sp :=
 ⟨f,fd,G,m,F.kp,b⟩
theorem free_of {X:Cx}{scope:Scope}(h:(scope.names.all fun p=>p.2 != .free || X.env.scope.names.lookup p.1 == some .cell || X.env.scope.names.lookup p.1 == some .free)=true) :
  ∀ y∈scope.names,y.2 = .free->X.env.scope.names.lookup y.1=some .cell\/X.env.scope.names.lookup y.1=some .free:=fun y hy hf=>by
 have:=List.all_eq_true.mp h y hy;rw [hf] at this
 simpa using this
theorem Same.new {H:Hp}{p:Addr}{o:HO}(h:H p=none):Same H (upd H p o):=fun b u e=>by rw [Am (CC e h)];exact e
theorem Same.put {H H':Hp}{p:Addr}{o:HO}(s:Same H H')(h:H p=none):Same H (upd H' p o):=fun b u e=>by rw [Am (CC e h)];exact s b u e
def Its (x:Str):It:=⟨fun i _=>i<x.cps.size,fun i H v H'=>H'=H/\∃ c,x.cps[i]? = some c/\v = .str ⟨#[c]⟩,fun i _=>i=x.cps.size⟩
def StrIt (it:Addr)(x:Str)(t:Tok)(i:Nat)(h:Heap):Prop:=h.IsStrIter it "str_ascii_iterator" x t i\/h.IsStrIter it "str_iterator" x t i
theorem Jm {P:Program}{w:World}{K:FZ9}{tg:Expr}(x:Str)(t:Tok)(it:Addr):Turn P w K tg (Its x) [it] it (StrIt it x t) where
 mem:=by simp
 obj:=fun i h st b hb=>by
  have e:b=it:=by simpa using hb
  subst e;rcases st with ⟨o,e,c,d⟩ | ⟨o,e,c,d⟩<;>exact ⟨o,e,fun v z=>by rw [d] at z;cases z⟩
 keep:=fun i h h' st k=>by
  rcases st with ⟨o,e,r⟩ | ⟨o,e,r⟩
  ·exact .inl ⟨o,k it (by simp) o e,r⟩
  ·exact .inr ⟨o,k it (by simp) o e,r⟩
 item:=by
  intro X hP hw hK hc i pins s σ H E I hf st hg;subst hP hw hK;obtain ⟨f0,f1,f2,f3,f4,f5⟩:=hf it (by simp);rcases st with st|st
  ·refine (Walks.strAscii (prog:=X.prog) (w:=X.w) (I.ok.hd hc) it x t).item i s _ _ hg st fun v h' tk hv st' kk=>?_;obtain ⟨c,u,hcx,rfl⟩:=hv;have I1:=I.turned (h':=h') (t':=tk) (fun b o hb e=>kk b o (by simpa using hb) e) f0 f1 f3 f4 f5;obtain ⟨o,e,hc',d⟩:=id st';exact ⟨_,rfl,IN (s:={ s with heap:=h',toks:=tk }) e hc' d (by decide) ⟨.str ⟨#[c]⟩,H,I1,⟨u,rfl⟩,⟨rfl,c,hcx,rfl⟩,.inl st',fun b hb=>(hf b hb).1⟩⟩
  ·refine (Walks.strWide (prog:=X.prog) (w:=X.w) (I.ok.hd hc) it x t).item i s _ _ hg st fun v h' tk hv st' kk=>?_;obtain ⟨c,u,hcx,rfl⟩:=hv;have I1:=I.turned (h':=h') (t':=tk) (fun b o hb e=>kk b o (by simpa using hb) e) f0 f1 f3 f4 f5;obtain ⟨o,e,hc',d⟩:=id st';exact ⟨_,rfl,IN (s:={ s with heap:=h',toks:=tk }) e hc' d (by decide) ⟨.str ⟨#[c]⟩,H,I1,⟨u,rfl⟩,⟨rfl,c,hcx,rfl⟩,.inr st',fun b hb=>(hf b hb).1⟩⟩
 done:=by
  intro X hP hw hK hc i pins s σ H E I hf st hg;subst hP hw hK;obtain ⟨f0,f1,f2,f3,f4,f5⟩:=hf it (by simp);have hg:i=x.cps.size:=hg;subst hg;rcases st with st|st
  ·exact (Walks.strAscii (prog:=X.prog) (w:=X.w) (I.ok.hd hc) it x t).done s _ _ st fun h' tk kk=>⟨rfl,I.turned (fun b o hb e=>kk b o (by simpa using hb) e) f0 f1 f3 f4 f5⟩
  ·exact (Walks.strWide (prog:=X.prog) (w:=X.w) (I.ok.hd hc) it x t).done s _ _ st fun h' tk kk=>⟨rfl,I.turned (fun b o hb e=>kk b o (by simpa using hb) e) f0 f1 f3 f4 f5⟩
 self:=fun _ _ _ _ _ st h=>by
  rcases st with st|st
  ·exact wpAny_pyIter_striter_ascii st h
  ·exact wpAny_pyIter_striter_wide st h
section
variable {X:Cx}{tg:Expr}
def iAny (K:FZ9)(tl:TE):TI:=fun σ H R=>tl σ H fun v H1=>match v with
 | .str x=>R (Its x) H1
 | .ref a=>((∃ xs,SqL K H1 a xs)/\R (Itl K a) H1)\/((∃ xs,SqT K H1 a xs)/\R (Itt K a) H1)
 | _=>False
theorem pi_any {l:Expr}{tl:TE}(hl:PE X l tl):PI X tg l (iAny X.K tl):=by
 intro pins s σ H R I h;refine thn (hl pins s σ H _ I h) fun v s1 ⟨x,H1,I1,r1,q1⟩=>?_
 have one:∀ b∈[s1.heap.objs.size],GW X pins H1 b:=fun b hb=>by
  have e:b=s1.heap.objs.size:=by simpa using hb
  subst e;exact I1.fpOk (qsA _) (I1.hok.fresh (qsA _))
 cases x with
 | str z =>
  obtain ⟨t,rfl⟩:=r1;have q1:R (Its z) H1:=q1;cases ha:z.cps.all (· < 128)
  ·exact wpAny_pyIter_wide ha ⟨s1.heap.objs.size,[s1.heap.objs.size],_,_,H1,rfl,I1.kept (t':=s1.toks) fun b o e=>qxA _ e,Jm z t _,.inr ⟨_,qyA _ rfl,rfl,rfl⟩,one,q1⟩
  ·exact wpAny_pyIter_ascii ha ⟨s1.heap.objs.size,[s1.heap.objs.size],_,_,H1,rfl,I1.kept (t':=s1.toks) fun b o e=>qxA _ e,Jm z t _,.inl ⟨_,qyA _ rfl,rfl,rfl⟩,one,q1⟩
 | ref a =>
  cases r1;have q1:((∃ xs,SqL X.K H1 a xs)/\R (Itl X.K a) H1)\/((∃ xs,SqT X.K H1 a xs)/\R (Itt X.K a) H1):=q1;rcases q1 with ⟨⟨xs,hq⟩,q⟩ | ⟨⟨xs,hq⟩,q⟩
  ·obtain ⟨its,rv,p,hz⟩:=I1.list hq;exact wpAny_pyIter_list p.isList ⟨s1.heap.objs.size,[s1.heap.objs.size],_,_,H1,rfl,I1.kept (t':=s1.toks) fun b o e=>qxA _ e,Lo a _,⟨_,qyA _ rfl,rfl,rfl⟩,one,q⟩
  ·obtain ⟨its,rv,p,hz⟩:=I1.tuple hq;exact wpAny_pyIter_tuple (show s1.heap.IsTuple a its.toArray from p) ⟨s1.heap.objs.size,[s1.heap.objs.size],_,_,H1,rfl,I1.kept (t':=s1.toks) fun b o e=>qxA _ e,KT a _,⟨_,qyA _ rfl,rfl,rfl⟩,one,q⟩
 | _=>exact (show False from q1).elim
end
structure Yields (J:It)(H:Hp)(xs:List V):Prop where
 go:∀ i H',Same H H'->i<xs.length->J.go i H'
 stop:∀ H',Same H H'->J.stop xs.length H'
 yld:∀ i H' x H'',Same H H'->i<xs.length->J.yld i H' x H''->H''=H'/\xs[i]? = some x
def Dl (x:Str):List V:=x.cps.toList.map fun c=>.str ⟨#[c]⟩
theorem Ka (x:Str)(H:Hp):Yields (Its x) H (Dl x) where
 go:=fun i H' _ hi=>by
  have:(Dl x).length=x.cps.size:=by simp [Dl]
  show i<x.cps.size;omega
 stop:=fun H' _=>by
  show (Dl x).length=x.cps.size;simp [Dl]
 yld:=fun i H' v H'' _ _ y=>by
  obtain ⟨rfl,c,hc,rfl⟩:=y;refine ⟨rfl,?_⟩;simp only [Dl,List.getElem?_map,Array.getElem?_toList,hc,Option.map_some]
theorem JC (lo:Int)(n:Nat)(H:Hp):Yields (Itr lo n) H ((List.range n).map fun (i:Nat)=>V.int (lo+(i:Int))) where
 go:=fun i H' _ hi=>by
  show i<n
  simpa using hi
 stop:=fun H' _=>by
  show n<=((List.range n).map fun (i:Nat)=>V.int (lo+(i:Int))).length;simp
 yld:=fun i H' v H'' _ hi y=>by
  obtain ⟨rfl,rfl⟩:=y;rw [qdA,List.length_range] at hi;refine ⟨rfl,?_⟩;simp [hi]
theorem GN {K:FZ9}{a:Addr}{xs:List V}{H:Hp}(h:SqL K H a xs):Yields (Itl K a) H xs where
 go:=fun i H' s hi=>⟨xs,xs[i],s.seq h,by simp [hi]⟩
 stop:=fun H' s=>⟨xs,s.seq h,qsA _⟩
 yld:=fun i H' v H'' s _ y=>⟨y.1,y.2 xs (s.seq h)⟩
section
variable {X:Cx}
def IP (K:FZ9):R2:=fun x y H Q=>match x,y with
 | .int i,.int j=>Q (.int (i+j)) H
 | .str a,.str b=>a.length+b.length<=sizeLine/\Q (.str (a++b)) H
 | .ref a,.ref b=>∃ xs ys,Rd H a (.lst xs)/\Rd H b (.lst ys)/\xs.length+ys.length<=sizeLine/\∀ p,H p=none->Q (.ref p) (upd H p (.lst (xs++ys)))
 | _,_=>False
theorem op_catS:OpR X (binaryOp .Add) (fun x y H Q=>∃ a b xs ys,x = .ref a/\y = .ref b/\Rd H a (.lst xs)/\Rd H b (.lst ys)/\xs.length+ys.length<=sizeLine/\∀ p,H p=none->Q (.ref p) (upd H p (.lst (xs++ys)))):=by
 intro pins s σ H x y v u Q I rx ry h;obtain ⟨l,b,xs,zs,rfl,rfl,hH,hB,hz,q⟩:=h;cases rx;cases ry;obtain ⟨z,its,n,r,e⟩:=hH.ok I.hok;obtain ⟨z2,its2,n2,r2,e2⟩:=hB.ok I.hok;have hl:=r.length;have hl2:=r2.length;refine PySem.P.add_list e e2 ?_ (by rw [qfB,qfB];omega);have ea:its.toArray++its2.toArray=(its++its2).toArray:=by simp
 rw [ea];exact ⟨.ref _,_,I.lnew (t':=s.toks) (r.append r2) (by rw [qeA];omega),rfl,q _ I.fresh⟩
theorem op_plus:OpR X (binaryOp .Add) (IP X.K):=by
 intro pins s σ H x y v u Q I rx ry h
 cases x with
 | int i=>cases y with
  | int j=>exact op_add pins s σ H _ _ v u Q I rx ry ⟨i,j,rfl,rfl,h⟩
  | _=>exact (show False from h).elim
 | str a=>cases y with
  | str b=>exact Kk pins s σ H _ _ v u Q I rx ry ⟨a,b,rfl,rfl,h.1,h.2⟩
  | _=>exact (show False from h).elim
 | ref a=>cases y with
  | ref b =>
   obtain ⟨xs,ys,h1,h2,h3,h4⟩:=h;exact op_catS pins s σ H _ _ v u Q I rx ry ⟨a,b,xs,ys,rfl,rfl,h1,h2,h3,h4⟩
  | _=>exact (show False from h).elim
 | _=>exact (show False from h).elim
def Lg (fi:Int->Int->Bool)(fs:List Nat->List Nat->Bool):R2:=fun x y H Q=>match x,y with
 | .int i,.int j=>Q (.bl (fi i j)) H
 | .str a,.str b=>Q (.bl (fs a.cps.toList b.cps.toList)) H
 | _,_=>False
theorem Kn {f:Value->Value->Sem Value}{fi:Int->Int->Bool}{fs:List Nat->List Nat->Bool}(hi:OpR X f (rI0 fun i j=>.bl (fi i j)))
  (hs:∀ (s:Shared) (a b:Str) (t u:Tok) (Q:Value->Shared->Prop),Q (.bool (fs a.cps.toList b.cps.toList)) s->wpAny (model X.prog X.w) X.A (f (.str a t) (.str b u)) Q X.xe s):OpR X f (Lg fi fs):=by
 intro pins s σ H x y v u Q I rx ry h
 cases x with
 | int i=>cases y with
  | int j=>exact hi pins s σ H _ _ v u Q I rx ry ⟨i,j,rfl,rfl,h⟩
  | _=>exact (show False from h).elim
 | str a=>cases y with
  | str b =>
   obtain ⟨t,rfl⟩:=rx;obtain ⟨t',rfl⟩:=ry;exact hs s a b t t' _ ⟨.bl _,H,I,rfl,h⟩
  | _=>exact (show False from h).elim
 | _=>exact (show False from h).elim
theorem JK:OpR X (compareOp .Lt) (Lg (fun i j=>decide (i<j)) fun a b=>decide (a<b)):=Kn op_lt fun _ _ _ _ _ _ h=>lt_str h
theorem op_leU:OpR X (compareOp .LtE) (Lg (fun i j=>decide (i<=j)) fun a b=>!decide (b<a)):=Kn op_le fun _ _ _ _ _ _ h=>PySem.P.le_str h
theorem Fk:OpR X (compareOp .Gt) (Lg (fun i j=>decide (j<i)) fun a b=>decide (b<a)):=Kn op_gt fun _ _ _ _ _ _ h=>PySem.P.gt_str h
def rMul (K:FZ9):R2:=fun x y H Q=>match x,y with
 | .int i,.int j=>CMul i j/\Q (.int (i * j)) H
 | .ref l,.int k=>∃ xs,H l=some (.lst xs)/\-(2 ^ 63)<=k/\k<2 ^ 63/\xs.length * k.toNat<=sizeLine/\∀ p,H p=none->Q (.ref p) (upd H p (.lst (List.replicate k.toNat xs).flatten))
 | _,_=>False
theorem op_mulU:OpR X (binaryOp .Mult) (rMul X.K):=by
 intro pins s σ H x y v u Q I rx ry h
 cases x with
 | int i=>cases y with
  | int j=>exact op_mul pins s σ H _ _ v u Q I rx ry ⟨i,j,rfl,rfl,h.1,h.2⟩
  | _=>exact (show False from h).elim
 | ref l=>cases y with
  | int k =>
   obtain ⟨xs,h1,h2,h3,h4,h5⟩:=h;exact op_rep pins s σ H _ _ v u Q I rx ry ⟨l,k,xs,rfl,rfl,h1,h2,h3,h4,h5⟩
  | _=>exact (show False from h).elim
 | _=>exact (show False from h).elim
def rSl (K:FZ9):V->Option Int->Option Int->Hp->VK->Prop:=fun x lo hi H Q=>match x with
 | .str z=>z.length<=sizeLine/\Q (.str (Txt.slice z lo hi)) H
 | .ref a=>(∃ xs,SqL K H a xs/\∀ p,H p=none->Q (.ref p) (upd H p (.lst (Hy xs lo hi))))
 | _=>False
theorem sl_str:SlR X (fun x lo hi H Q=>∃ z,x = .str z/\z.length<=sizeLine/\Q (.str (Txt.slice z lo hi)) H):=by
 intro pins s σ H x v vl vu lo hi sl Q I rx hs pl pu h;obtain ⟨z,rfl,hz,q⟩:=h;obtain ⟨t,rfl⟩:=rx;refine ⟨"str",_,F.slot_str_getitem.lookup,typeIs_str _ _ _,?_⟩;have fin:∀ (t':Tok) (k:Nat),EP X pins σ Q (.str (Txt.slice z lo hi) t') { s with toks:=k }:=fun t' k=>⟨.str _,H,I.tok k,⟨t',rfl⟩,q⟩
 cases pl with
 | none=>cases pu with
  | none=>exact wpAny_getItem_str_slice (l:=none) (u:=none) (st:=none) hs rfl (post_val_or_str ⟨qtA (Txt.slice_le z _ _) hz,fin⟩)
  | int j uj=>exact wpAny_getItem_str_slice (l:=none) (u:=some (j,uj)) (st:=none) hs rfl (post_val_or_str ⟨qtA (Txt.slice_le z _ _) hz,fin⟩)
 | int i ui=>cases pu with
  | none=>exact wpAny_getItem_str_slice (l:=some (i,ui)) (u:=none) (st:=none) hs rfl (post_val_or_str ⟨qtA (Txt.slice_le z _ _) hz,fin⟩)
  | int j uj=>exact wpAny_getItem_str_slice (l:=some (i,ui)) (u:=some (j,uj)) (st:=none) hs rfl (post_val_or_str ⟨qtA (Txt.slice_le z _ _) hz,fin⟩)
theorem sl_any:SlR X (rSl X.K):=by
 intro pins s σ H x v vl vu lo hi sl Q I rx hs pl pu h
 cases x with
 | str z=>exact sl_str pins s σ H _ v vl vu lo hi sl Q I rx hs pl pu ⟨z,rfl,h.1,h.2⟩
 | ref a =>
  obtain ⟨xs,h1,h2⟩:=h;exact sl_list pins s σ H _ v vl vu lo hi sl Q I rx hs pl pu ⟨a,xs,rfl,h1,h2⟩
 | _=>exact (show False from h).elim
def rAt (K:FZ9):R2:=fun x y H Q=>match x,y with
 | .str z,.int i=>z.length<=sizeLine/\∃ c,atI z.cps.toList i=some c/\Q (.str ⟨#[c]⟩) H
 | .ref p,.int i=>(∃ xs v,SqL K H p xs/\atI xs i=some v/\Q v H)\/(∃ xs v,SqT K H p xs/\atI xs i=some v/\Q v H)
 | _,_=>False
theorem ix_any:IxR X (rAt X.K):=by
 intro value slice pins s σ H x y v u Q I rx ry q hs
 cases x with
 | str z=>cases y with
  | int i =>
   obtain ⟨hz,c,hc,q⟩:=q;exact ix_str value slice pins s σ H _ _ v u Q I rx ry ⟨z,i,c,rfl,rfl,hz,hc,q⟩ hs
  | _=>exact (show False from q).elim
 | ref p=>cases y with
  | int i =>
   rcases q with ⟨xs,w',h1,h2,h3⟩ | ⟨xs,w',h1,h2,h3⟩
   ·exact ix_list value slice pins s σ H _ _ v u Q I rx ry ⟨p,xs,i,w',rfl,rfl,h1,h2,h3⟩ hs
   ·exact ix_tup value slice pins s σ H _ _ v u Q I rx ry ⟨p,xs,i,w',rfl,rfl,h1,h2,h3⟩ hs
  | _=>exact (show False from q).elim
 | _=>exact (show False from q).elim
def K7 (K:FZ9):List V->Hp->VK->Prop:=fun vs H Q=>match vs with
 | [.str z]=>z.length<=sizeLine/\Q (.int z.length) H
 | [.ref p]=>∃ ys,(SqL K H p ys\/SqT K H p ys)/\Q (.int ys.length) H
 | _=>False
theorem Lk:EF X (.builtin "len") (K7 X.K):=by
 intro pins s σ H vs us Q I r h
 match vs,h with
 | [.str z],h=>exact Iw pins s σ H _ us Q I r ⟨z,rfl,h.1,h.2⟩
 | [.ref p],h =>
  obtain ⟨ys,h1,h2⟩:=h;exact Im pins s σ H _ us Q I r ⟨p,ys,rfl,h1,h2⟩
end
structure EqTy (K:FZ9)(k:Nat){α:Type}[DecidableEq α](R:Hp->V->α->Prop):Prop where
 fn:∀ {X:Cx}{pins:List (Addr × Obj)}{σ:St}{H:Hp}{s:Shared}{x:V}{a b:α},X.K=K->Inv X pins σ H s->R H x a->R H x b->a=b
 eq:∀ {X:Cx}{pins:List (Addr × Obj)}{σ:St}{H:Hp}{s:Shared}{x y:V}{u v:Value}{a b:α}(A:Around),X.K=K->Inv X pins σ H s->A.units+k<cLine->RelV x u->RelV y v->R H x a->R H y b->SeqAt.EqAt A s u v (decide (a=b))
 rc:∀ {X:Cx}{pins:List (Addr × Obj)}{σ:St}{H:Hp}{s:Shared}{x y:V}{u v:Value}{a b:α}(A:Around),X.K=K->Inv X pins σ H s->A.units+k<cLine->RelV x u->RelV y v->R H x a->R H y b->SeqAt.RcAt A s u v (decide (a=b))/\SeqAt.RcNeAt A s u v (!decide (a=b))
def isBl:Hp->V->Bool->Prop:=fun _ x a=>x = .bl a
theorem Ge {α:Type}[DecidableEq α][BEq α][LawfulBEq α](a b:α):(a == b)=decide (a=b):=by
 by_cases h:a=b
 ·subst h;simp
 ·rw [decide_eq_false h];simpa using h
theorem eqBl {K:FZ9}:EqTy K 0 isBl where
 fn:=fun _ _ h1 h2=>by cases h1;cases h2;rfl
 eq:=fun A _ _ _ r1 r2 h1 h2=>by
  cases h1;cases h2;cases r1;cases r2;rw [<- Ge];exact SeqAt.EqAt.bool_bool _ _
 rc:=fun A _ _ _ r1 r2 h1 h2=>by
  cases h1;cases h2;cases r1;cases r2;rw [<- Ge];exact ⟨SeqAt.RcAt.bool_bool _ _,SeqAt.RcNeAt.bool_bool _ _⟩
theorem Paired.at' {α β:Type}{F:α->β->Prop}:∀ {l₁:List α}{l₂:List β}{i:Nat}{a:α}{b:β},Paired F l₁ l₂->l₁[i]? = some a->l₂[i]? = some b->F a b
 | _,_,_,_,_,.nil,e,_=>by simp at e
 | _,_,0,_,_,.cons h _,e1,e2=>by simp at e1 e2;subst e1;subst e2;exact h
 | _,_,i+1,_,_,.cons _ t,e1,e2=>Paired.at' (i:=i) t (by simpa using e1) (by simpa using e2)
theorem Fq {α β:Type}{F:α->β->Prop}(hf:∀ a b c,F a b->F a c->b=c):∀ {xs:List α}{as bs:List β},Paired F xs as->Paired F xs bs->as=bs
 | _,_,_,.nil,.nil=>rfl
 | _,_,_,.cons h t,.cons h' t'=>by rw [hf _ _ _ h h',Fq hf t t']
theorem Lb {α:Type}[DecidableEq α]:∀ (as bs:List α) (hl:as.length=bs.length),((List.range as.length).all fun j=>decide (as[j]? = bs[j]?))=decide (as=bs):=by
 intro as bs hl;apply Bool.eq_iff_iff.mpr;rw [decide_eq_true_iff,List.all_eq_true];constructor
 ·intro h;apply List.ext_getElem?;intro i;by_cases hi:i<as.length
  ·exact of_decide_eq_true (h i (List.mem_range.mpr hi))
  ·rw [List.getElem?_eq_none (by omega),List.getElem?_eq_none (by omega)]
 ·rintro rfl i _;simp
def Jz (K:FZ9){α:Type}(R:Hp->V->α->Prop):Hp->V->List α->Prop:=fun H x as=>∃ l xs,x = .ref l/\SqL K H l xs/\Paired (R H) xs as
theorem HB {K:FZ9}{k:Nat}{α:Type}[DecidableEq α]{R:Hp->V->α->Prop}(E:EqTy K k R){X:Cx}{pins:List (Addr × Obj)}{σ:St}{H:Hp}{s:Shared}{A:Around}(hK:X.K=K)(I:Inv X pins σ H s)(hu:A.units+(k+1)<cLine)
  {xs ys:List V}{us vs:List Value}{as bs:List α}(rx:Vals xs us) (ry:Vals ys vs) (px:Paired (R H) xs as) (py:Paired (R H) ys bs) :
  ∀ j (h1:j<us.toArray.size) (h2:j<vs.toArray.size),SeqAt.EqAt A.in1 s us.toArray[j] vs.toArray[j] (decide (as[j]? = bs[j]?)):=by
 intro j h1 h2;have h1':j<us.length:=by simpa using h1
 have h2':j<vs.length:=by simpa using h2
 have lx:=rx.length;have ly:=ry.length;have lpx:=Paired.length px;have lpy:=Paired.length py;have ex:xs[j]? = some xs[j]:=qpA (by omega);have ey:ys[j]? = some ys[j]:=qpA (by omega);have ea:as[j]? = some as[j]:=qpA (by omega);have eb:bs[j]? = some bs[j]:=qpA (by omega);obtain ⟨u,hu',ru⟩:=rx.get ex;obtain ⟨v,hv',rv⟩:=ry.get ey
 have e1:us.toArray[j]=u:=by
  rw [qpA h1'] at hu'
  simpa using hu'
 have e2:vs.toArray[j]=v:=by
  rw [qpA h2'] at hv'
  simpa using hv'
 rw [e1,e2,ea,eb];have:=E.eq A.in1 hK I (show A.units+1+k<cLine by omega) ru rv (Paired.at' px ex ea) (Paired.at' py ey eb);have e3:decide (some as[j]=some bs[j])=decide (as[j]=bs[j]):=by simp
 rw [e3];exact this
theorem eqLst {K:FZ9}{k:Nat}{α:Type}[DecidableEq α]{R:Hp->V->α->Prop}(E:EqTy K k R):EqTy K (k+1) (Jz K R):=by
 have fn:∀ {X:Cx}{pins:List (Addr × Obj)}{σ:St}{H:Hp}{s:Shared}{x:V}{a b:List α},X.K=K->Inv X pins σ H s->Jz K R H x a->Jz K R H x b->a=b:=by
  intro X pins σ H s x a b hK I ha hb;obtain ⟨l,xs,rfl,h1,p1⟩:=ha;obtain ⟨l',ys,e,h2,p2⟩:=hb;cases e;subst hK;have:=I.list_inj h1 h2;subst this;exact Fq (F:=R H) (fun _ _ _ p q=>E.fn rfl I p q) p1 p2
 have rc:∀ {X:Cx}{pins:List (Addr × Obj)}{σ:St}{H:Hp}{s:Shared}{x y:V}{u v:Value}{a b:List α}(A:Around),X.K=K->Inv X pins σ H s->A.units+(k+1)<cLine->RelV x u->RelV y v->Jz K R H x a->Jz K R H y b ->
   SeqAt.RcAt A s u v (decide (a=b))/\SeqAt.RcNeAt A s u v (!decide (a=b)):=by
  intro X pins σ H s x y u v a b A hK I hu r1 r2 ha hb;obtain ⟨l,xs,rfl,h1,p1⟩:=ha;obtain ⟨l',ys,rfl,h2,p2⟩:=hb;cases r1;cases r2;subst hK;obtain ⟨us,rx,plx,_⟩:=I.list h1;obtain ⟨vs,ry,ply,_⟩:=I.list h2;have lx:=rx.length;have ly:=ry.length;have lpx:=Paired.length p1;have lpy:=Paired.length p2;by_cases hl:a.length=b.length
  ·have hsz:us.toArray.size=vs.toArray.size:=by simp;omega
   have it:=HB E rfl I hu rx ry p1 p2
   have ed:((List.range us.toArray.size).all fun j=>decide (a[j]? = b[j]?))=decide (a=b):=by
    rw [<- Lb a b hl,qfB,<- lx,lpx]
   rw [<- ed];exact ⟨SeqAt.RcAt.lists plx.isList ply.isList hsz (by omega) it,SeqAt.RcNeAt.lists plx.isList ply.isList hsz (by omega) it⟩
  ·have hsz:(us.toArray.size != vs.toArray.size)=true:=by simp;omega
   have ne:a≠b:=fun e=>hl (by rw [e]);rw [decide_eq_false ne];exact ⟨SeqAt.RcAt.lists_lengths plx.isList ply.isList hsz (by omega),SeqAt.RcNeAt.lists_lengths plx.isList ply.isList hsz (by omega)⟩
 refine ⟨fn,?_,rc⟩;intro X pins σ H s x y u v a b A hK I hu r1 r2 ha hb;have h:=(rc A hK I hu r1 r2 ha hb).1;obtain ⟨l,xs,rfl,h1,p1⟩:=id ha;obtain ⟨l',ys,rfl,h2,p2⟩:=id hb;cases r1;cases r2;by_cases e:l=l'
 ·subst e;have:a=b:=fn hK I ha hb;rw [decide_eq_true this];exact SeqAt.EqAt.same _
 ·exact SeqAt.EqAt.of_refs e h
section
variable {X:Cx}
theorem op_eqD {k j:Nat}{α:Type}[DecidableEq α]{R:Hp->V->α->Prop}(E:EqTy X.K k R)(hr:Room j X.A)(hk:k<=10):OpR X (compareOp .Eq) (fun x y H Q=>∃ a b,R H x a/\R H y b/\Q (.bl (decide (a=b))) H):=by
 intro pins s σ H x y v u Q I rx ry h;obtain ⟨a,b,h1,h2,q⟩:=h;exact (E.rc X.A rfl I (by have:=hr.un;omega) rx ry h1 h2).1 _ _ _ _ ⟨.bl _,H,I,rfl,q⟩
end
class Rp (α:Type) where
 rel:FZ9->Hp->V->α->Prop
 mono:∀ {K:FZ9}{H H':Hp}{v:V}{a:α},Same H H'->rel K H v a->rel K H' v a
theorem Same.rd {H H':Hp}{a:Addr}{u:HO}(s:Same H H')(h:Rd H a u):Rd H' a u:=by
 rcases h with h | ⟨o,h⟩
 ·exact .inl (s _ _ h)
 ·exact .inr ⟨o,s _ _ h⟩
theorem Same.tup {K:FZ9}{H H':Hp}{a:Addr}{xs:List V}(e:Same H H')(h:SqT K H a xs):SqT K H' a xs:=by
 rcases h with h|h
 ·exact .inl (e.rd h)
 ·exact .inr h
instance rpInt:Rp Int:=⟨fun _ _ v a=>v = .int a,fun _ h=>h⟩
instance rpBool:Rp Bool:=⟨fun _ _ v a=>v = .bl a,fun _ h=>h⟩
instance rpStr:Rp Str:=⟨fun _ _ v a=>v = .str a/\a.length<=sizeLine,fun _ h=>h⟩
instance rpUnit:Rp Unit:=⟨fun _ _ v _=>v = .non,fun _ h=>h⟩
instance rpList {α:Type}[Rp α]:Rp (List α) :=
 ⟨fun K H v as=>∃ l xs,v = .ref l/\Rd H l (.lst xs)/\xs.length<=sizeLine/\Paired (Rp.rel K H) xs as,
  fun s ⟨l,xs,e,h,z,p⟩=>⟨l,xs,e,s.rd h,z,Paired.imp' (fun _ _ r=>Rp.mono s r) p⟩⟩
instance rpPair {α β:Type}[Rp α][Rp β]:Rp (α × β) :=
 ⟨fun K H v p=>∃ t a b,v = .ref t/\SqT K H t [a,b]/\Rp.rel K H a p.1/\Rp.rel K H b p.2,
  fun s ⟨t,a,b,e,h,r1,r2⟩=>⟨t,a,b,e,s.tup h,Rp.mono s r1,Rp.mono s r2⟩⟩
structure T3 (α β γ:Type) where
 a:α
 b:β
 c:γ
 deriving DecidableEq
structure T4 (α β γ δ:Type) where
 a:α
 b:β
 c:γ
 d:δ
 deriving DecidableEq
structure Tp (α:Type) where
 l:List α
 deriving DecidableEq
instance rpT3 {α β γ:Type}[Rp α][Rp β][Rp γ]:Rp (T3 α β γ) :=
 ⟨fun K H v p=>∃ t a b c,v = .ref t/\SqT K H t [a,b,c]/\Rp.rel K H a p.a/\Rp.rel K H b p.b/\Rp.rel K H c p.c,
  fun s ⟨t,a,b,c,e,h,r1,r2,r3⟩=>⟨t,a,b,c,e,s.tup h,Rp.mono s r1,Rp.mono s r2,Rp.mono s r3⟩⟩
instance rpTp {α:Type}[Rp α]:Rp (Tp α) :=
 ⟨fun K H v as=>∃ t xs,v = .ref t/\SqT K H t xs/\xs.length<=sizeLine/\Paired (Rp.rel K H) xs as.l,
  fun s ⟨l,xs,e,h,z,p⟩=>⟨l,xs,e,s.tup h,z,Paired.imp' (fun _ _ r=>Rp.mono s r) p⟩⟩
instance rpOpt {α:Type}[Rp α]:Rp (Option α) :=
 ⟨fun K H v o=>match o with|none=>v = .non|some a=>Rp.rel K H v a,
  fun {K H H' v o} s h=>by cases o with|none=>exact h|some a=>exact Rp.mono (α:=α) s h⟩
class RpA (α:Type) where
 n:Nat
 rel:FZ9->Hp->List V->α->Prop
 mono:∀ {K:FZ9}{H H':Hp}{v:List V}{a:α},Same H H'->rel K H v a->rel K H' v a
 len:∀ {K:FZ9}{H:Hp}{v:List V}{a:α},rel K H v a->v.length=n
instance raNil:RpA Unit:=⟨0,fun _ _ vs _=>vs=[],fun _ h=>h,fun h=>by rw [h];rfl⟩
instance raCons {α β:Type}[Rp α][RpA β]:RpA (α × β) :=
 ⟨RpA.n β+1,fun K H vs p=>∃ v r,vs=v::r/\Rp.rel K H v p.1/\RpA.rel K H r p.2,
  fun s ⟨v,r,e,h1,h2⟩=>⟨v,r,e,Rp.mono s h1,RpA.mono s h2⟩,fun ⟨v,r,e,h1,h2⟩=>by rw [e,qfA,RpA.len h2]⟩
structure Ext (G H G' H':Hp):Prop where
 gg:Same G G'
 gh:Same G' H'
 hh:Same H H'
 no:∀ b,G b=none->H b≠none->G' b=none
section
variable {G H G1 H1 G2 H2 G0 H0:Hp}{p:Addr}{o:HO}
theorem Ext.refl (s:Same G H):Ext G H G H:=⟨.refl _,s,.refl _,fun _ h _=>h⟩
theorem Ext.trans (x:Ext G H G1 H1)(y:Ext G1 H1 G2 H2):Ext G H G2 H2 :=
 ⟨x.gg.trans y.gg,y.gh,x.hh.trans y.hh,fun b h1 h2=>y.no b (x.no b h1 h2) fun z=>h2 (x.hh.free z)⟩
theorem Same.both (s:Same G H):Same (upd G p o) (upd H p o):=fun b u e=>by
 by_cases hb:b=p
 ·subst hb;rw [Af] at e ⊢;exact e
 ·rw [Am hb] at e ⊢;exact s b u e
theorem Ext.new (s:Same G H)(h:H p=none):Ext G H (upd G p o) (upd H p o) :=
 ⟨Same.new (s.free h),s.both,Same.new h,fun b h1 h2=>by
  have hb:b≠p:=fun z=>h2 (by rw [z];exact h);rw [Am hb]
  exact h1⟩
theorem Ext.own (s:Same G H)(h:H p=none):Ext G H G (upd H p o):=⟨.refl _,s.trans (Same.new h),Same.new h,fun _ h _=>h⟩
theorem Ext.put (x:Ext G0 H0 G H)(h0:H0 p=none)(hg:G p=none):Ext G0 H0 G (upd H p o):=⟨x.gg,x.gh.put hg,x.hh.put h0,x.no⟩
theorem Ext.frz (x:Ext G0 H0 G H)(h0:H0 p=none)(hg:G p=none)(hh:H p=some o):Ext G0 H0 (upd G p o) H :=
 ⟨x.gg.trans (Same.new hg),fun b u e=>by
  by_cases hb:b=p
  ·subst hb;rw [Af] at e;rw [hh];exact e
  ·rw [Am hb] at e
   exact x.gh b u e,x.hh,fun b h1 h2=>by
  have hb:b≠p:=fun z=>h2 (by rw [z];exact h0);rw [Am hb]
  exact x.no b h1 h2⟩
end
section
variable {K:FZ9}{σ:St}{G:Hp}
def EV (K:FZ9){α:Type}[Rp α](te:TE)(σ:St)(G:Hp)(m:Option α):Prop :=
 ∀ G1,Same G G1->∀ a,m=some a->∀ H,Same G1 H->∀ Q:VK,(∀ v G2 H2,Ext G1 H G2 H2->Rp.rel K G2 v a->Q v H2)->te σ H Q
def TV (t:TT)(σ:St)(G:Hp)(m:Option Bool):Prop :=
 ∀ G1,Same G G1->∀ a,m=some a->∀ H,Same G1 H->∀ Q:Bool->Hp->Prop,(∀ G2 H2,Ext G1 H G2 H2->Q a H2)->t σ H Q
def AV (K:FZ9){α:Type}[RpA α](t:TA)(σ:St)(G:Hp)(m:Option α):Prop :=
 ∀ G1,Same G G1->∀ a,m=some a->∀ H,Same G1 H->∀ Q:List V->Hp->Prop,(∀ vs G2 H2,Ext G1 H G2 H2->RpA.rel K G2 vs a->Q vs H2)->t σ H Q
def LV (K:FZ9){α:Type}[Rp α](t:TA)(σ:St)(G:Hp)(n:Nat)(m:Option (List α)):Prop :=
 ∀ G1,Same G G1->∀ a,m=some a->∀ H,Same G1 H->∀ Q:List V->Hp->Prop,(∀ vs G2 H2,Ext G1 H G2 H2->vs.length=n->Paired (Rp.rel K G2) vs a->Q vs H2)->t σ H Q
def OV (t:TO)(σ:St)(G:Hp)(m:Option (Option Int)):Prop :=
 ∀ G1,Same G G1->∀ a,m=some a->∀ H,Same G1 H->∀ Q:Option Int->Hp->Prop,(∀ G2 H2,Ext G1 H G2 H2->Q a H2)->t σ H Q
def FV (K:FZ9){α:Type}[Rp α](te:TE)(σ:St)(G:Hp)(m:Option (List α)):Prop :=
 ∀ G1,Same G G1->∀ a,m=some a->∀ H,Same G1 H->∀ Q:VK,(∀ p vs G2 H2,Ext G1 H G2 H2->H p=none->G2 p=none->H2 p=some (.lst vs)->vs.length<=sizeLine->Paired (Rp.rel K G2) vs a->Q (.ref p) H2)->te σ H Q
section
variable {α β γ δ:Type}[Rp α][Rp β][Rp γ][Rp δ]{ta tb tc td:TE}{ma:Option α}{mb:Option β}{mc:Option γ}
theorem EV.run {te:TE}{H:Hp}{a:α}{Q:VK}{m:Option α}(e:EV K te σ G m)(hm:m=some a)(s:Same G H)(k:∀ v G2 H2,Ext G H G2 H2->Rp.rel K G2 v a->Q v H2):te σ H Q:=e G (.refl G) a hm H s Q k
theorem TV.run {t:TT}{H:Hp}{a:Bool}{Q:Bool->Hp->Prop}{m:Option Bool}(e:TV t σ G m)(hm:m=some a)(s:Same G H)(k:∀ G2 H2,Ext G H G2 H2->Q a H2):t σ H Q:=e G (.refl G) a hm H s Q k
theorem EV.of {te:TE}{m m':Option α}(e:EV K te σ G m)(h:m=m'):EV K te σ G m':=h ▸ e
theorem FV.ev {te:TE}{m:Option (List α)}(e:FV K te σ G m):EV K te σ G m:=by
 intro G1 s1 a ha H sH Q k;refine e G1 s1 a ha H sH Q fun p vs G2 H2 x h0 hg hh hz hp=>?_;exact k _ _ _ (x.frz h0 hg hh) ⟨p,vs,rfl,.inl Af,hz,Paired.imp' (fun _ _ r=>Rp.mono (Same.new hg) r) hp⟩
theorem ev_var {i:Nat}{v:V}{a:α}(h:σ[i]? = some (some v))(r:Rp.rel K G v a):EV K (Fa i) σ G (some a):=fun G1 s a' e H sH Q k=>by
 cases e;exact ⟨v,h,k v G1 H (.refl sH) (Rp.mono s r)⟩
theorem ev_c {v:V}{a:α}(h:∀ G,Rp.rel K G v a):EV K (tC v) σ G (some a):=fun G1 s a' e H sH Q k=>by
 cases e;exact k v G1 H (.refl sH) (h _)
theorem AY {i:Int}:EV K (tC (.int i)) σ G (some i):=ev_c fun _=>rfl
theorem GT {b:Bool}:EV K (tC (.bl b)) σ G (some b):=ev_c fun _=>rfl
theorem Aj {x:Str}(h:x.length<=sizeLine:=by decide +kernel):EV K (tC (.str x)) σ G (some x):=ev_c fun _=>⟨rfl,h⟩
theorem ev_n:EV K (tC .non) σ G (some ()):=ev_c fun _=>rfl
theorem Dw:EV K (tC .non) σ G (some (none:Option α)):=ev_c fun _=>rfl
theorem E6 {te:TE}{m:Option α}(e:EV K te σ G m):EV K te σ G (m.bind fun a=>some (some a)):=by
 clear 7;obtain ⟨a,ha,hc⟩:=qaA.mp hc;cases hc;exact e G1 s1 a ha H sH Q k
theorem Bd {r:R2}{f:α->β->Option γ}
  (h:∀ {G H:Hp}{v u:V}{a:α}{b:β}{c:γ},Same G H->Rp.rel K G v a->Rp.rel K G u b->f a b=some c->∀ {Q:VK},(∀ w G2 H2,Ext G H G2 H2->Rp.rel K G2 w c->Q w H2)->r v u H Q)
  (ea:EV K ta σ G ma) (eb:EV K tb σ G mb):EV K (tOp r ta tb) σ G (ma.bind fun a=>mb.bind fun b=>f a b):=by
 clear 7;obtain ⟨a,ha,hc⟩:=qaA.mp hc;obtain ⟨b,hb,hc⟩:=qaA.mp hc;clear 8 ea a ha;refine eb G2 (s1.trans x2.gg) b hb H2 x2.gh _ fun u G3 H3 x3 r3=>?_;exact h x3.gh (Rp.mono x3.gg r2) r3 hc fun w G4 H4 x4 r4=>k w G4 H4 ((x2.trans x3).trans x4) r4
theorem ev_un {r:V->Hp->VK->Prop}{f:α->Option γ}
  (h:∀ {G H:Hp}{v:V}{a:α}{c:γ},Same G H->Rp.rel K G v a->f a=some c->∀ {Q:VK},(∀ w G2 H2,Ext G H G2 H2->Rp.rel K G2 w c->Q w H2)->r v H Q)
  (ea:EV K ta σ G ma):EV K (tUn r ta) σ G (ma.bind fun a=>f a):=by
 clear 7;obtain ⟨a,ha,hc⟩:=qaA.mp hc;clear 8 ea a ha;exact h x2.gh r2 hc fun w G4 H4 x4 r4=>k w G4 H4 (x2.trans x4) r4
instance decMul (i j:Int):Decidable (CMul i j):=by unfold CMul;infer_instance
instance decDiv (i j:Int):Decidable (KQ i j):=by unfold KQ;infer_instance
def Ln (a b:Int):Option Int:=if CMul a b then some (a * b) else none
def ME (a b:Int):Option Int:=if KQ a b then some (a / b) else none
def Il (a b:Int):Option Int:=if 0<b then some (a % b) else none
theorem BD {p:Prop}[Decidable p]{α:Type}{a c:α}(h:(if p then some a else none)=some c):p/\a=c:=by
 by_cases hp:p
 ·rw [if_pos hp] at h;exact ⟨hp,qvA h⟩
 ·rw [if_neg hp] at h;cases h
section
variable {ia ib:Option Int}
theorem BI (ea:EV K ta σ G ia)(eb:EV K tb σ G ib):EV K (tOp (IP K) ta tb) σ G (ia.bind fun a=>ib.bind fun b=>some (a+b)) :=
 Bd (fun s ra rb e Q k=>by cases ra;cases rb;cases e;exact k _ _ _ (.refl s) rfl) ea eb
theorem ev_sub (ea:EV K ta σ G ia)(eb:EV K tb σ G ib):EV K (tOp (rI0 fun i j=>.int (i - j)) ta tb) σ G (ia.bind fun a=>ib.bind fun b=>some (a - b)) :=
 Bd (fun s ra rb e Q k=>by cases ra;cases rb;cases e;exact ⟨_,_,rfl,rfl,k _ _ _ (.refl s) rfl⟩) ea eb
theorem ev_mul (ea:EV K ta σ G ia)(eb:EV K tb σ G ib):EV K (tOp (rMul K) ta tb) σ G (ia.bind fun a=>ib.bind fun b=>Ln a b) :=
 Bd (fun s ra rb e Q k=>by cases ra;cases rb;obtain ⟨h,rfl⟩:=BD e;exact ⟨h,k _ _ _ (.refl s) rfl⟩) ea eb
theorem Hi (ea:EV K ta σ G ia)(eb:EV K tb σ G ib):EV K (tOp (rI (fun _ j=>0<j) fun i j=>.int (i % j)) ta tb) σ G (ia.bind fun a=>ib.bind fun b=>Il a b) :=
 Bd (fun s ra rb e Q k=>by cases ra;cases rb;obtain ⟨h,rfl⟩:=BD e;exact ⟨_,_,rfl,rfl,h,k _ _ _ (.refl s) rfl⟩) ea eb
theorem ev_div (ea:EV K ta σ G ia)(eb:EV K tb σ G ib):EV K (tOp (rI KQ fun i j=>.int (i / j)) ta tb) σ G (ia.bind fun a=>ib.bind fun b=>ME a b) :=
 Bd (fun s ra rb e Q k=>by cases ra;cases rb;obtain ⟨h,rfl⟩:=BD e;exact ⟨_,_,rfl,rfl,h,k _ _ _ (.refl s) rfl⟩) ea eb
theorem Iv (ea:EV K ta σ G ia):EV K (tUn (rU fun i=>.int (-i)) ta) σ G (ia.bind fun a=>some (-a)) :=
 ev_un (fun s ra e Q k=>by cases ra;cases e;exact ⟨_,rfl,k _ _ _ (.refl s) rfl⟩) ea
theorem EK {p:Int->Int->Bool}{q:List Nat->List Nat->Bool}(ea:EV K ta σ G ia)(eb:EV K tb σ G ib):EV K (tOp (Lg p q) ta tb) σ G (ia.bind fun a=>ib.bind fun b=>some (p a b)) :=
 Bd (fun s ra rb e Q k=>by cases ra;cases rb;cases e;exact k _ _ _ (.refl s) rfl) ea eb
theorem Bq (ea:EV K ta σ G ia)(eb:EV K tb σ G ib):EV K (tOp rEq ta tb) σ G (ia.bind fun a=>ib.bind fun b=>some (decide (a=b))) :=
 Bd (fun s ra rb e Q k=>by cases ra;cases rb;cases e;exact ⟨rfl,k _ _ _ (.refl s) (by show V.bl _=V.bl _;congr 1;simp)⟩) ea eb
theorem ev_neI (ea:EV K ta σ G ia)(eb:EV K tb σ G ib):EV K (tOp rNe ta tb) σ G (ia.bind fun a=>ib.bind fun b=>some (!decide (a=b))) :=
 Bd (fun s ra rb e Q k=>by cases ra;cases rb;cases e;exact ⟨rfl,k _ _ _ (.refl s) (by show V.bl _=V.bl _;congr 1;simp)⟩) ea eb
end
section
variable {ba bb:Option Bool}
theorem JB (ea:EV K ta σ G ba)(eb:EV K tb σ G bb):EV K (tAndV ta tb) σ G (ba.bind fun a=>cond a bb (some false)):=by
 clear 7;obtain ⟨a,ha,hc⟩:=qaA.mp hc;clear 8 ea a ha;cases r2;refine ⟨_,rfl,?_⟩
 cases a with
 | false=>cases hc;exact BQ (k _ _ _ x2 rfl)
 | true=>exact BR (eb G2 (s1.trans x2.gg) c hc H2 x2.gh _ fun u G3 H3 x3 r3=>k _ _ _ (x2.trans x3) r3)
theorem ev_ifx {tt:TT}{m1 m2:Option α}(et:TV tt σ G ba)(ea:EV K ta σ G m1)(eb:EV K tb σ G m2):EV K (tIf tt ta tb) σ G (ba.bind fun a=>cond a m1 m2):=by
 clear 7;obtain ⟨a,ha,hc⟩:=qaA.mp hc;refine et G1 s1 a ha H sH _ fun G2 H2 x2=>?_
 cases a with
 | true=>exact BR (ea G2 (s1.trans x2.gg) c hc H2 x2.gh _ fun u G3 H3 x3 r3=>k _ _ _ (x2.trans x3) r3)
 | false=>exact BQ (eb G2 (s1.trans x2.gg) c hc H2 x2.gh _ fun u G3 H3 x3 r3=>k _ _ _ (x2.trans x3) r3)
theorem AJ (ea:EV K ta σ G ba):TV (tTest ta) σ G ba:=by
 clear 7;clear 8 ea c hc;cases r2;exact ⟨_,rfl,k _ _ x2⟩
theorem F6 {t:TT}(ea:TV t σ G ba):TV (tNot t) σ G (ba.bind fun a=>some (!a)):=by
 clear 7;obtain ⟨a,ha,hc⟩:=qaA.mp hc;cases hc;exact ea G1 s1 a ha H sH _ fun G2 H2 x2=>k _ _ x2
theorem JE {t u:TT}(ea:TV t σ G ba)(eb:TV u σ G bb):TV (tAnd t u) σ G (ba.bind fun a=>cond a bb (some false)):=by
 clear 7;obtain ⟨a,ha,hc⟩:=qaA.mp hc;refine ea G1 s1 a ha H sH _ fun G2 H2 x2=>?_
 cases a with
 | false=>cases hc;exact BQ (k _ _ x2)
 | true=>exact BR (eb G2 (s1.trans x2.gg) c hc H2 x2.gh _ fun G3 H3 x3=>k _ _ (x2.trans x3))
theorem FX {t u:TT}(ea:TV t σ G ba)(eb:TV u σ G bb):TV (tOr t u) σ G (ba.bind fun a=>cond a (some true) bb):=by
 clear 7;obtain ⟨a,ha,hc⟩:=qaA.mp hc;refine ea G1 s1 a ha H sH _ fun G2 H2 x2=>?_
 cases a with
 | true=>cases hc;exact BR (k _ _ x2)
 | false=>exact BQ (eb G2 (s1.trans x2.gg) c hc H2 x2.gh _ fun G3 H3 x3=>k _ _ (x2.trans x3))
theorem tv_tru {f:α->Bool}(h:∀ {G:Hp}{v:V}{a:α},Rp.rel K G v a->TruV K v G (f a))(mn:∀ {G H:Hp}{v:V}{k:Bool},Same G H->TruV K v G k->TruV K v H k)(ea:EV K ta σ G ma) :
  TV (fun σ H Q=>ta σ H fun x H'=>∃ k,TruV K x H' k/\Q k H') σ G (ma.bind fun a=>some (f a)):=by
 clear 7;obtain ⟨a,ha,hc⟩:=qaA.mp hc;cases hc;clear 8 ea a ha;exact ⟨_,mn x2.gh (h r2),k _ _ x2⟩
end
end
end
section
variable {K:FZ9}{σ:St}{G:Hp}{α β γ δ:Type}[Rp α][Rp β][Rp γ][Rp δ]{ta tb tc td:TE}{ma:Option α}{mb:Option β}{mc:Option γ}{md:Option δ}
section
variable {sa sb:Option Str}{ia ib:Option Int}
def C4 (a b:Str):Option Str:=if a.length+b.length<=sizeLine then some (a++b) else none
theorem Ai (ea:EV K ta σ G sa)(eb:EV K tb σ G sb):EV K (tOp (IP K) ta tb) σ G (sa.bind fun a=>sb.bind fun b=>C4 a b) :=
 Bd (fun s ra rb e Q k=>by
  obtain ⟨rfl,z1⟩:=ra;obtain ⟨rfl,z2⟩:=rb;obtain ⟨h,rfl⟩:=BD e
  exact ⟨h,k _ _ _ (.refl s) ⟨rfl,by rw [len_app];exact h⟩⟩) ea eb
theorem JU {p:Int->Int->Bool}{q:List Nat->List Nat->Bool}(ea:EV K ta σ G sa)(eb:EV K tb σ G sb):EV K (tOp (Lg p q) ta tb) σ G (sa.bind fun a=>sb.bind fun b=>some (q a.cps.toList b.cps.toList)) :=
 Bd (fun s ra rb e Q k=>by obtain ⟨rfl,z1⟩:=ra;obtain ⟨rfl,z2⟩:=rb;cases e;exact k _ _ _ (.refl s) rfl) ea eb
theorem Ci (ea:EV K ta σ G sa)(eb:EV K tb σ G sb):EV K (tOp rEq ta tb) σ G (sa.bind fun a=>sb.bind fun b=>some (decide (a=b))) :=
 Bd (fun s ra rb e Q k=>by obtain ⟨rfl,z1⟩:=ra;obtain ⟨rfl,z2⟩:=rb;cases e;exact ⟨rfl,k _ _ _ (.refl s) (by show V.bl _=V.bl _;congr 1;simp)⟩) ea eb
theorem ev_neS (ea:EV K ta σ G sa)(eb:EV K tb σ G sb):EV K (tOp rNe ta tb) σ G (sa.bind fun a=>sb.bind fun b=>some (!decide (a=b))) :=
 Bd (fun s ra rb e Q k=>by obtain ⟨rfl,z1⟩:=ra;obtain ⟨rfl,z2⟩:=rb;cases e;exact ⟨rfl,k _ _ _ (.refl s) (by show V.bl _=V.bl _;congr 1;simp)⟩) ea eb
def inS (a b:Str):Bool:=!(Builtin.Str.occurrences b a 0 b.length 1).isEmpty
theorem ev_inS (ea:EV K ta σ G sa)(eb:EV K tb σ G sb):EV K (tOp (fun x y H Q=>∃ i j,x = .str i/\y = .str j/\Q (.bl (!(Builtin.Str.occurrences j i 0 j.length 1).isEmpty)) H) ta tb) σ G (sa.bind fun a=>sb.bind fun b=>some (inS a b)) :=
 Bd (fun s ra rb e Q k=>by obtain ⟨rfl,z1⟩:=ra;obtain ⟨rfl,z2⟩:=rb;cases e;exact ⟨_,_,rfl,rfl,k _ _ _ (.refl s) rfl⟩) ea eb
theorem HI (ea:EV K ta σ G sa)(eb:EV K tb σ G ib):EV K (tOp (rAt K) ta tb) σ G (sa.bind fun a=>ib.bind fun i=>(atI a.cps.toList i).bind fun c=>some (⟨#[c]⟩:Str)) :=
 Bd (fun s ra rb e Q k=>by
  obtain ⟨rfl,z1⟩:=ra;cases rb;obtain ⟨c,hc,e⟩:=qaA.mp e;cases e
  exact ⟨z1,c,hc,k _ _ _ (.refl s) ⟨rfl,by show 1<=sizeLine;decide⟩⟩) ea eb
end
theorem Cu {R:V->α->Prop}{xs:List V}{as:List α}{i:Int}{a:α}(p:Paired R xs as)(h:atI as i=some a):∃ v,atI xs i=some v/\R v a:=by
 have hl:=Paired.length p;unfold atI at h ⊢;obtain ⟨j,hj,h⟩:=qaA.mp h;rw [hl,hj]
 have hlt:j<xs.length:=by
  have:=(qoA.mp h).1;omega
 exact ⟨xs[j],qpA hlt,Paired.at' p (qpA hlt) h⟩
theorem Paired.app {α β:Type}{F:α->β->Prop}:∀ {l1 l2:List α}{m1 m2:List β},Paired F l1 m1->Paired F l2 m2->Paired F (l1++l2) (m1++m2)
 | _,_,_,_,.nil,h=>h
 | _,_,_,_,.cons r t,h=>.cons r (Paired.app t h)
theorem Paired.tk {α β:Type}{F:α->β->Prop}:∀ (n:Nat) {l:List α}{m:List β},Paired F l m->Paired F (l.take n) (m.take n)
 | 0,_,_,_=>by simpa using .nil
 | n+1,_,_,.nil=>by simpa using .nil
 | n+1,_,_,.cons r t=>.cons r (Paired.tk n t)
theorem Paired.dp {α β:Type}{F:α->β->Prop}:∀ (n:Nat) {l:List α}{m:List β},Paired F l m->Paired F (l.drop n) (m.drop n)
 | 0,_,_,h=>h
 | n+1,_,_,.nil=>by simpa using .nil
 | n+1,_,_,.cons r t=>Paired.dp n t
theorem Paired.rep {α β:Type}{F:α->β->Prop}{l:List α}{m:List β}(h:Paired F l m):∀ n:Nat,Paired F (List.replicate n l).flatten (List.replicate n m).flatten
 | 0=>.nil
 | n+1=>by
  rw [List.replicate_succ,List.replicate_succ,List.flatten_cons,List.flatten_cons];exact Paired.app h (Paired.rep h n)
section
variable {la lb:Option (List α)}{ia ib:Option Int}
theorem Du (ea:EV K ta σ G la)(eb:EV K tb σ G ib):EV K (tOp (rAt K) ta tb) σ G (la.bind fun a=>ib.bind fun i=>atI a i) :=
 Bd (fun s ra rb e Q k=>by
  obtain ⟨l,xs,rfl,h,z,p⟩:=ra;cases rb;obtain ⟨v,hv,r⟩:=Cu p e
  exact .inl ⟨xs,v,.inl (s.rd h),hv,k _ _ _ (.refl s) r⟩) ea eb
theorem DP {pa:Option (Tp α)}(ea:EV K ta σ G pa)(eb:EV K tb σ G ib):EV K (tOp (rAt K) ta tb) σ G (pa.bind fun a=>ib.bind fun i=>atI a.l i) :=
 Bd (fun s ra rb e Q k=>by
  obtain ⟨l,xs,rfl,h,z,p⟩:=ra;cases rb;obtain ⟨v,hv,r⟩:=Cu p e
  exact .inr ⟨xs,v,s.tup h,hv,k _ _ _ (.refl s) r⟩) ea eb
theorem Fc {τ:Type}[Rp τ]{mt:Option τ}{i:Int}{f:τ->α}(h:∀ {G:Hp}{v:V}{p:τ},Rp.rel K G v p->∃ t xs w,v = .ref t/\SqT K G t xs/\atI xs i=some w/\Rp.rel K G w (f p))(ea:EV K ta σ G mt) :
  EV K (tOp (rAt K) ta (tC (.int i))) σ G (mt.bind fun p=>some (f p)):=by
 clear 7;obtain ⟨a,ha,hc⟩:=qaA.mp hc;cases hc;clear 8 ea a ha;obtain ⟨t,xs,w,rfl,ht,hw,r⟩:=h r2;exact .inr ⟨xs,w,x2.gh.tup ht,hw,k _ _ _ x2 r⟩
theorem Fp {mt:Option (α × β)}(ea:EV K ta σ G mt):EV K (tOp (rAt K) ta (tC (.int 0))) σ G (mt.bind fun p=>some p.1) :=
 Fc (τ:=α × β) (fun ⟨t,a,b,e,h,r1,r2⟩=>⟨t,_,a,e,h,rfl,r1⟩) ea
theorem ev_snd {mt:Option (α × β)}(ea:EV K ta σ G mt):EV K (tOp (rAt K) ta (tC (.int 1))) σ G (mt.bind fun p=>some p.2) :=
 Fc (τ:=α × β) (fun ⟨t,a,b,e,h,r1,r2⟩=>⟨t,_,b,e,h,rfl,r2⟩) ea
theorem ev_p31 {mt:Option (T3 α β γ)}(ea:EV K ta σ G mt):EV K (tOp (rAt K) ta (tC (.int 0))) σ G (mt.bind fun p=>some p.a) :=
 Fc (τ:=T3 α β γ) (fun ⟨t,a,b,c,e,h,r1,r2,r3⟩=>⟨t,_,a,e,h,rfl,r1⟩) ea
theorem ev_p32 {mt:Option (T3 α β γ)}(ea:EV K ta σ G mt):EV K (tOp (rAt K) ta (tC (.int 1))) σ G (mt.bind fun p=>some p.b) :=
 Fc (τ:=T3 α β γ) (fun ⟨t,a,b,c,e,h,r1,r2,r3⟩=>⟨t,_,b,e,h,rfl,r2⟩) ea
theorem ev_p33 {mt:Option (T3 α β γ)}(ea:EV K ta σ G mt):EV K (tOp (rAt K) ta (tC (.int 2))) σ G (mt.bind fun p=>some p.c) :=
 Fc (τ:=T3 α β γ) (fun ⟨t,a,b,c,e,h,r1,r2,r3⟩=>⟨t,_,c,e,h,rfl,r3⟩) ea
theorem LN {H:Hp}{Q:VK}{as:List α}{G1:Hp}(s:Same G1 H){vs:List V}(hz:vs.length<=sizeLine)(hp:Paired (Rp.rel K G1) vs as)
  (k:∀ p vs G2 H2,Ext G1 H G2 H2->H p=none->G2 p=none->H2 p=some (.lst vs)->vs.length<=sizeLine->Paired (Rp.rel K G2) vs as->Q (.ref p) H2):∀ p,H p=none->Q (.ref p) (upd H p (.lst vs)) :=
 fun p h=>k p vs G1 _ (.own s h) h (s.free h) Af hz hp
theorem FV.mono {H H' G1 G2:Hp}{as:List α}{Q:VK}(x:Ext G1 H G2 H')
  (k:∀ p vs G3 H3,Ext G1 H G3 H3->H p=none->G3 p=none->H3 p=some (.lst vs)->vs.length<=sizeLine->Paired (Rp.rel K G3) vs as->Q (.ref p) H3) :
  ∀ p vs G3 H3,Ext G2 H' G3 H3->H' p=none->G3 p=none->H3 p=some (.lst vs)->vs.length<=sizeLine->Paired (Rp.rel K G3) vs as->Q (.ref p) H3 :=
 fun p vs G3 H3 y h0=>k p vs G3 H3 (x.trans y) (x.hh.free h0)
def catL {α:Type}(a b:List α):Option (List α):=if a.length+b.length<=sizeLine then some (a++b) else none
theorem Kc (ea:EV K ta σ G la)(eb:EV K tb σ G lb):FV K (tOp (IP K) ta tb) σ G (la.bind fun a=>lb.bind fun b=>catL a b):=by
 clear 7;obtain ⟨a,ha,hc⟩:=qaA.mp hc;obtain ⟨b,hb,hc⟩:=qaA.mp hc;obtain ⟨hl,rfl⟩:=BD hc;clear 8 ea a ha;refine eb G2 (s1.trans x2.gg) b hb H2 x2.gh _ fun u G3 H3 x3 r3=>?_;obtain ⟨l1,xs,rfl,h1,z1,p1⟩:=Rp.mono x3.gg r2;obtain ⟨l2,ys,rfl,h2,z2,p2⟩:=r3;have e1:=Paired.length p1;have e2:=Paired.length p2;have hz:(xs++ys).length<=sizeLine:=by rw [qeA];omega
 exact ⟨xs,ys,x3.gh.rd h1,x3.gh.rd h2,by rw [qeA] at hz;exact hz,LN x3.gh hz (Paired.app p1 p2) (FV.mono (x2.trans x3) k)⟩
def cutA {α:Type}(xs:List α)(lo hi:Option Int):List α:=(xs.drop (HT.sIx xs.length 0 lo)).take (HT.sIx xs.length xs.length hi - HT.sIx xs.length 0 lo)
theorem Paired.cut {α:Type}{R:V->α->Prop}{xs:List V}{as:List α}(p:Paired R xs as)(lo hi:Option Int):Paired R (Hy xs lo hi) (cutA as lo hi):=by
 unfold Hy cutA;rw [Paired.length p];exact Paired.tk _ (Paired.dp _ p)
section
variable {t1 t2:TO}{m1 m2:Option (Option Int)}
theorem BY:OV LH σ G (some none):=fun G1 s1 a ha H sH Q k=>by
 cases ha;exact k _ _ (.refl sH)
theorem Ar (ea:EV K ta σ G ia):OV (tPart ta) σ G (ia.bind fun i=>some (some i)):=by
 clear 7;obtain ⟨a,ha,hc⟩:=qaA.mp hc;cases hc;clear 8 ea a ha;cases r2;exact ⟨_,rfl,k _ _ x2⟩
theorem Al {sa:Option Str}(ea:EV K ta σ G sa)(e1:OV t1 σ G m1)(e2:OV t2 σ G m2):EV K (tSl (rSl K) ta t1 t2) σ G (sa.bind fun a=>m1.bind fun lo=>m2.bind fun hi=>some (Txt.slice a lo hi)):=by
 clear 7;obtain ⟨a,ha,hc⟩:=qaA.mp hc;obtain ⟨lo,hlo,hc⟩:=qaA.mp hc;obtain ⟨hi,hhi,hc⟩:=qaA.mp hc;cases hc;clear 8 ea a ha;refine e1 G2 (s1.trans x2.gg) lo hlo H2 x2.gh _ fun G3 H3 x3=>?_;refine e2 G3 (s1.trans (x2.trans x3).gg) hi hhi H3 x3.gh _ fun G4 H4 x4=>?_;obtain ⟨rfl,z⟩:=r2;exact ⟨z,k _ _ _ ((x2.trans x3).trans x4) ⟨rfl,qtA (Txt.slice_le _ _ _) z⟩⟩
end
end
section
variable {t:TA}{n:Nat}{ml:Option (List α)}
theorem B0:LV K CM σ G 0 (some ([]:List α)):=fun G1 s1 a ha H sH Q k=>by
 cases ha;exact k _ _ _ (.refl sH) rfl .nil
theorem AA (ea:EV K ta σ G ma)(er:LV K t σ G n ml):LV K (Aq ta t) σ G (n+1) (ma.bind fun a=>ml.bind fun r=>some (a::r)):=by
 clear 7;obtain ⟨a,ha,hc⟩:=qaA.mp hc;obtain ⟨r,hr,hc⟩:=qaA.mp hc;cases hc;clear 8 ea a ha;refine er G2 (s1.trans x2.gg) r hr H2 x2.gh _ fun vs G3 H3 x3 hl hp=>?_;exact k _ _ _ (x2.trans x3) (by rw [qfA,hl]) (.cons (Rp.mono x3.gg r2) hp)
theorem CL (e:LV K t σ G n ml)(hn:n<=sizeLine:=by decide):FV K (tLst t) σ G ml:=by
 clear 7;refine e G1 s1 c hc H sH _ fun vs G2 H2 x2 hl hp=>?_;exact ⟨by omega,LN x2.gh (by omega) hp (FV.mono x2 k)⟩
theorem J5 (e:LV K t σ G n ml)(hn:n<=sizeLine:=by decide):EV K (Lw t) σ G (ml.bind fun l=>some (Tp.mk l)):=by
 clear 7;obtain ⟨l,hl,hc⟩:=qaA.mp hc;cases hc;refine e G1 s1 l hl H sH _ fun vs G2 H2 x2 hl hp=>⟨by omega,fun p h=>?_⟩;exact k _ _ _ (x2.trans (.new x2.gh h)) ⟨p,vs,rfl,SqT.of Af,by omega,Paired.imp' (fun _ _ r=>Rp.mono (Same.new (x2.gh.free h)) r) hp⟩
theorem Gg (ea:EV K ta σ G ma)(eb:EV K tb σ G mb):EV K (Lw (Aq ta (Aq tb CM))) σ G (ma.bind fun a=>mb.bind fun b=>some (a,b)):=by
 clear 7;obtain ⟨a,ha,hc⟩:=qaA.mp hc;obtain ⟨b,hb,hc⟩:=qaA.mp hc;cases hc;clear 8 ea a ha;refine eb G2 (s1.trans x2.gg) b hb H2 x2.gh _ fun u G3 H3 x3 r3=>⟨by show 2<=sizeLine;decide,fun p h=>?_⟩;have s:=Same.new (o:=.tup [v,u]) (x3.gh.free h);exact k _ _ _ ((x2.trans x3).trans (.new x3.gh h)) ⟨p,v,u,rfl,SqT.of Af,Rp.mono (x3.gg.trans s) r2,Rp.mono s r3⟩
theorem ev_tup3 (ea:EV K ta σ G ma)(eb:EV K tb σ G mb)(ec:EV K tc σ G mc):EV K (Lw (Aq ta (Aq tb (Aq tc CM)))) σ G (ma.bind fun a=>mb.bind fun b=>mc.bind fun c=>some (T3.mk a b c)):=by
 clear 7;obtain ⟨a,ha,hc⟩:=qaA.mp hc;obtain ⟨b,hb,hc⟩:=qaA.mp hc;obtain ⟨c',hc',hc⟩:=qaA.mp hc;cases hc;clear 8 ea a ha;refine eb G2 (s1.trans x2.gg) b hb H2 x2.gh _ fun u G3 H3 x3 r3=>?_;refine ec G3 (s1.trans (x2.trans x3).gg) c' hc' H3 x3.gh _ fun w G4 H4 x4 r4=>⟨by show 3<=sizeLine;decide,fun p h=>?_⟩;have s:=Same.new (o:=.tup [v,u,w]) (x4.gh.free h);exact k _ _ _ (((x2.trans x3).trans x4).trans (.new x4.gh h)) ⟨p,v,u,w,rfl,SqT.of Af,Rp.mono ((x3.trans x4).gg.trans s) r2,Rp.mono (x4.gg.trans s) r3,Rp.mono s r4⟩
end
section
variable {t:TA}{A B:Type}[RpA A][RpA B]{mA:Option A}
theorem Ki:AV K CM σ G (some ()):=fun G1 s1 a ha H sH Q k=>by
 cases ha;exact k _ _ _ (.refl sH) rfl
theorem JQ (ea:EV K ta σ G ma)(er:AV K t σ G mA):AV K (Aq ta t) σ G (ma.bind fun a=>mA.bind fun r=>some (a,r)):=by
 clear 7;obtain ⟨a,ha,hc⟩:=qaA.mp hc;obtain ⟨r,hr,hc⟩:=qaA.mp hc;cases hc;clear 8 ea a ha;refine er G2 (s1.trans x2.gg) r hr H2 x2.gh _ fun vs G3 H3 x3 hp=>?_;exact k _ _ _ (x2.trans x3) ⟨v,vs,rfl,Rp.mono x3.gg r2,hp⟩
def spM (K:FZ9){A:Type}{ρ:Type}[RpA A][Rp ρ](m:A->Option ρ):Sp:=fun vs H Q _ =>
 ∃ G a r,Same G H/\RpA.rel K G vs a/\m a=some r/\∀ v G2 H2,Ext G H G2 H2->Rp.rel K G2 v r->Q v H2
theorem CV {A:Type}{ρ:Type}[RpA A][Rp ρ]{m:A->Option ρ}{vs:List V}{H:Hp}{Q:VK}{E:XK}(h:spM K m vs H Q E):vs.length=RpA.n A:=by
 obtain ⟨G,a,r,_,h,_⟩:=h;exact RpA.len h
theorem FD {la:Option (List α)}(ea:EV K ta σ G la):EV K (tCB (K7 K) (Aq ta CM)) σ G (la.bind fun a=>some (a.length:Int)):=by
 clear 7;obtain ⟨a,ha,hc⟩:=qaA.mp hc;cases hc;clear 8 ea a ha;obtain ⟨l,xs,rfl,h,z,p⟩:=r2;exact ⟨xs,.inl (.inl (x2.gh.rd h)),by rw [Paired.length p];exact k _ _ _ x2 rfl⟩
theorem FR {la:Option (Tp α)}(ea:EV K ta σ G la):EV K (tCB (K7 K) (Aq ta CM)) σ G (la.bind fun a=>some (a.l.length:Int)):=by
 clear 7;obtain ⟨a,ha,hc⟩:=qaA.mp hc;cases hc;clear 8 ea a ha;obtain ⟨l,xs,rfl,h,z,p⟩:=r2;exact ⟨xs,.inr (x2.gh.tup h),by rw [Paired.length p];exact k _ _ _ x2 rfl⟩
theorem Eg {sa:Option Str}(ea:EV K ta σ G sa):EV K (tCB (K7 K) (Aq ta CM)) σ G (sa.bind fun a=>some (a.length:Int)):=by
 clear 7;obtain ⟨a,ha,hc⟩:=qaA.mp hc;cases hc;clear 8 ea a ha;obtain ⟨rfl,z⟩:=r2;exact ⟨z,k _ _ _ x2 rfl⟩
theorem ev_min {ia ib:Option Int}(ea:EV K ta σ G ia)(eb:EV K tb σ G ib):EV K (tCB (fun xs H Q=>∃ i j,xs=[.int i,.int j]/\Q (.int (if j<i then j else i)) H) (Aq ta (Aq tb CM))) σ G (ia.bind fun a=>ib.bind fun b=>some (if b<a then b else a)):=by
 clear 7;obtain ⟨a,ha,hc⟩:=qaA.mp hc;obtain ⟨b,hb,hc⟩:=qaA.mp hc;cases hc;clear 8 ea a ha;refine eb G2 (s1.trans x2.gg) b hb H2 x2.gh _ fun u G3 H3 x3 r3=>?_;cases r2;cases r3;exact ⟨_,_,rfl,k _ _ _ (x2.trans x3) rfl⟩
end
inductive TyS (K:FZ9)(H:Hp):V->String->Prop where
 | non:TyS K H .non "NoneType"
 | bl (x:Bool):TyS K H (.bl x) "bool"
 | int (i:Int):TyS K H (.int i) "int"
 | str (x:Str):TyS K H (.str x) "str"
 | lst {a:Addr}{xs:List V}(e:SqL K H a xs):TyS K H (.ref a) "list"
 | tup {a:Addr}{xs:List V}(e:SqT K H a xs):TyS K H (.ref a) "tuple"
 | dK {a:Addr}{kvs:List (Key × V)}(e:Rd H a (.dK kvs)):TyS K H (.ref a) "dict"
 | dT {a:Addr}{kvs:List (List Key × V)}(e:Rd H a (.dT kvs)):TyS K H (.ref a) "dict"
def rInst (K:FZ9):List V->Hp->VK->Prop:=fun vs H Q=>∃ x t T b,vs=[x,.ty T]/\TyS K H x t/\kitC t T=some b/\Q (.bl b) H
theorem M3 {X:Cx}:EF X (.builtin "isinstance") (rInst X.K):=by
 intro pins s σ H vs us Q I r h;obtain ⟨x,t,T,b,rfl,ty,e,q⟩:=h;obtain ⟨u,w',rfl,rx,r2⟩:=vals2 r;obtain rfl:w'=Value.type T:=r2;have e:=kit_of (K:=X.K) e;have fin:∀ tk,EP X pins σ Q (.bool b) { s with toks:=tk }:=fun tk=>⟨.bl b,H,I.tok tk,rfl,q⟩
 cases ty with
 | non=>cases (show u=Value.none from rx);exact PySem.W.kia_one PySem.W.kitx_none I.kIn True.intro e (fun z=>nomatch z) fin
 | bl y=>cases (show u=Value.bool y from rx);exact PySem.W.kia_one PySem.W.kitx_bool I.kIn True.intro e (fun z=>nomatch z) fin
 | int i=>obtain ⟨t,q'⟩:=(show ∃ t,u=Value.int i t from rx);cases q';exact PySem.W.kia_one PySem.W.kitx_int I.kIn True.intro e (fun z=>nomatch z) fin
 | str y=>obtain ⟨t,q'⟩:=(show ∃ t,u=Value.str y t from rx);cases q';exact PySem.W.kia_one PySem.W.kitx_str I.kIn True.intro e (fun z=>nomatch z) fin
 | @lst a xs ea =>
  cases (show u=Value.ref a from rx);obtain ⟨its,_,pl,_⟩:=I.list ea;obtain ⟨o,n,h1,h2,_⟩:=pl;exact PySem.W.kia_one PySem.W.kitx_list I.kIn ⟨o,h1,h2⟩ e (fun z=>nomatch z) fin
 | @tup a xs ea =>
  cases (show u=Value.ref a from rx);obtain ⟨its,_,pl,_⟩:=I.tuple ea;obtain ⟨o,h1,h2,_⟩:=pl;exact PySem.W.kia_one PySem.W.kitx_tuple I.kIn ⟨o,h1,h2⟩ e (fun z=>nomatch z) fin
 | @dK a kvs ea =>
  cases (show u=Value.ref a from rx);obtain ⟨_,_,vs,_,p⟩:=ea.ok I.hok;obtain ⟨o,es,ep,h1,h2,_⟩:=p;exact PySem.W.kia_one PySem.W.kitx_dict I.kIn ⟨o,h1,h2.1⟩ e (fun z=>nomatch z) fin
 | @dT a kvs ea =>
  cases (show u=Value.ref a from rx);obtain ⟨_,_,xs,_,o,es,ep,h1,h2,_⟩:=ea.ok I.hok;exact PySem.W.kia_one PySem.W.kitx_dict I.kIn ⟨o,h1,h2.1⟩ e (fun z=>nomatch z) fin
class RpT (α:Type) [Rp α] where
 tn:String
 ty:∀ {K:FZ9}{H:Hp}{v:V}{a:α},Rp.rel K H v a->TyS K H v tn
theorem TyS.mono {H H':Hp}{v:V}{t:String}(s:Same H H')(h:TyS K H v t):TyS K H' v t:=by
 cases h with
 | non=>exact .non
 | bl=>exact .bl _
 | int=>exact .int _
 | str=>exact .str _
 | lst e=>exact .lst (s.seq e)
 | tup e=>exact .tup (s.tup e)
 | dK e=>exact .dK (s.rd e)
 | dT e=>exact .dT (s.rd e)
theorem EqTy.imp {k:Nat}{α:Type}[DecidableEq α]{R R':Hp->V->α->Prop}(E:EqTy K k R)(h:∀ H v a,R' H v a->R H v a):EqTy K k R' :=
 ⟨fun hK I a b=>E.fn hK I (h _ _ _ a) (h _ _ _ b),fun A hK I hu r1 r2 a b=>E.eq A hK I hu r1 r2 (h _ _ _ a) (h _ _ _ b),fun A hK I hu r1 r2 a b=>E.rc A hK I hu r1 r2 (h _ _ _ a) (h _ _ _ b)⟩
class RpE (α:Type) [Rp α] [DecidableEq α] where
 k:Nat
 ty:∀ K:FZ9,EqTy K k (Rp.rel (α:=α) K)
instance reBool:RpE Bool:=⟨0,fun _=>eqBl⟩
instance reList {α:Type}[Rp α][DecidableEq α][RpE α]:RpE (List α):=⟨RpE.k α+1,fun K=>(eqLst (RpE.ty K)).imp fun _ _ _ ⟨l,xs,e,h,_,p⟩=>⟨l,xs,e,.inl h,p⟩⟩
section
variable {α:Type}[Rp α][DecidableEq α]{m1 m2:Option α}
def rEqD (K:FZ9)(α:Type)[Rp α][DecidableEq α]:R2:=fun x y H Q=>∃ a b:α,Rp.rel K H x a/\Rp.rel K H y b/\Q (.bl (decide (a=b))) H
theorem op_eqM {X:Cx}{j:Nat}(α:Type)[Rp α][DecidableEq α][RpE α](hr:Room j X.A)(hk:RpE.k α<=10):OpR X (compareOp .Eq) (rEqD X.K α):=op_eqD (RpE.ty X.K) hr hk
theorem ev_eq (ea:EV K ta σ G m1)(eb:EV K tb σ G m2):EV K (tOp (rEqD K α) ta tb) σ G (m1.bind fun a=>m2.bind fun b=>some (decide (a=b))) :=
 Bd (fun s ra rb e Q k=>by cases e;exact ⟨_,_,Rp.mono s ra,Rp.mono s rb,k _ _ _ (.refl s) rfl⟩) ea eb
end
end
inductive Fl (S ρ:Type) where
 | nx (s:S)
 | bk (s:S)
 | rt (r:ρ)
def Bt {α S ρ:Type}(f:α->S->Option (Fl S ρ)):List α->S->Option (Fl S ρ)
 | [],s=>some (.nx s)
 | a::as,s=>(f a s).bind fun fl=>match fl with
  | .nx s'=>Bt f as s'
  | .bk s'=>some (.nx s')
  | .rt r=>some (.rt r)
def FG {S ρ:Type}(c:S->Option Bool)(f:S->Option (Fl S ρ)):Nat->S->Option (Fl S ρ)
 | 0,_=>none
 | n+1,s=>(c s).bind fun b=>cond b ((f s).bind fun fl=>match fl with
  | .nx s'=>FG c f n s'
  | .bk s'=>some (.nx s')
  | .rt r=>some (.rt r)) (some (.nx s))
def Ky:Nat:=16777216
def GH {α β:Type}(fc:α->Option Bool)(fe:α->Option β):List α->Option (List β)
 | []=>some []
 | a::r=>(fc a).bind fun b=>cond b ((fe a).bind fun y=>(GH fc fe r).bind fun ys=>some (y::ys)) (GH fc fe r)
def KN {α β:Type}(fe:α->Option β):List α->Option (List β)
 | []=>some []
 | a::r=>(fe a).bind fun y=>(KN fe r).bind fun ys=>some (y::ys)
theorem HJ {α β:Type}(fe:α->Option β):∀ as,GH (fun _=>some true) fe as=KN fe as
 | []=>rfl
 | a::r=>by
  show ((fe a).bind fun y=>(GH (fun _=>some true) fe r).bind fun ys=>some (y::ys))=_;rw [HJ fe r]
  rfl
def Ij (lo hi:Int):Option (List Int):=if (-(2 ^ 62)<=lo/\lo<2 ^ 62/\-(2 ^ 62)<=hi/\hi<2 ^ 62)/\(hi - lo).toNat<=sizeLine then some ((List.range (hi - lo).toNat).map fun (i:Nat)=>lo+(i:Int)) else none
section
variable {K:FZ9}{σ:St}{G:Hp}{α β γ δ:Type}[Rp α][Rp β][Rp γ][Rp δ]{ta tb tc td:TE}{ma:Option α}{mb:Option β}{mc:Option γ}{md:Option δ}
def IW (K:FZ9){α:Type}[Rp α](wi:TI)(σ:St)(G:Hp)(m:Option (List α)):Prop :=
 ∀ G1,Same G G1->∀ a,m=some a->∀ H,Same G1 H->∀ R:It->Hp->Prop,(∀ J vs G2 H2,Ext G1 H G2 H2->Yields J G2 vs->vs.length<=sizeLine->Paired (Rp.rel K G2) vs a->R J H2)->wi σ H R
theorem Gz {a:Addr}{xs:List V}{H:Hp}(h:SqT K H a xs):Yields (Itt K a) H xs where
 go:=fun i H' s hi=>⟨xs,xs[i],s.tup h,by simp [hi]⟩
 stop:=fun H' s=>⟨xs,s.tup h,qsA _⟩
 yld:=fun i H' v H'' s _ y=>⟨y.1,y.2 xs (s.tup h)⟩
theorem L9 {la:Option (List α)}(ea:EV K ta σ G la):IW K (iAny K ta) σ G la:=by
 intro G1 s1 a ha H sH R k;clear 8 ea a ha;obtain ⟨l,xs,rfl,h,z,p⟩:=r2;exact .inl ⟨⟨xs,.inl (x2.gh.rd h)⟩,k _ xs G2 H2 x2 (GN (.inl h)) z p⟩
theorem iw_tup {la:Option (Tp α)}(ea:EV K ta σ G la):IW K (iAny K ta) σ G (la.bind fun a=>some a.l):=by
 intro G1 s1 a ha H sH R k;obtain ⟨b,hb,ha⟩:=qaA.mp ha;cases ha;clear 8 ea b hb;obtain ⟨l,xs,rfl,h,z,p⟩:=r2;exact .inr ⟨⟨xs,x2.gh.tup h⟩,k _ xs G2 H2 x2 (Gz h) z p⟩
def JX (x:Str):List Str:=x.cps.toList.map fun c=>(⟨#[c]⟩:Str)
theorem JR (x:Str)(H:Hp):Paired (Rp.rel K H) (Dl x) (JX x):=by
 unfold Dl JX
 induction x.cps.toList with
 | nil=>exact .nil
 | cons c r ih=>exact .cons ⟨rfl,by show 1<=sizeLine;decide⟩ ih
theorem GL (H:Hp)(f:Nat->Int):∀ l:List Nat,Paired (Rp.rel K H) (l.map fun i=>V.int (f i)) (l.map fun i=>f i)
 | []=>.nil
 | a::r=>.cons rfl (GL H f r)
theorem FU {ia:Option Int}(ea:EV K ta σ G ia):IW K (iRng1 (Aq ta CM)) σ G (ia.bind fun j=>Ij 0 j):=by
 intro G1 s1 a ha H sH R k;obtain ⟨j,hj,ha⟩:=qaA.mp ha;obtain ⟨⟨hb,hz⟩,rfl⟩:=BD ha;clear 8 ea j hj;cases r2;refine ⟨j,rfl,hb.2.2.1,hb.2.2.2,?_⟩;have e:(j - 0).toNat=j.toNat:=by omega
 rw [e] at hz k;exact k (Itr 0 j.toNat) _ G2 H2 x2 (JC 0 j.toNat G2) (by rw [qdA,List.length_range];exact hz) (GL G2 (fun i=>(0:Int)+(i:Int)) _)
theorem tv_yes:TV tYes σ G (some true):=fun G1 s1 a ha H sH Q k=>by
 cases ha;exact k _ _ (.refl sH)
theorem Paired.getR {F:V->α->Prop}:∀ {xs:List V}{as:List α}{i:Nat}{v:V},Paired F xs as->xs[i]? = some v->∃ a,as[i]? = some a/\F v a
 | _,_,_,_,.nil,e=>by simp at e
 | _,_,0,_,.cons r _,e=>by simp at e;subst e;exact ⟨_,rfl,r⟩
 | _,_,i+1,_,.cons _ t,e=>Paired.getR (i:=i) t (by simpa using e)
theorem fv_comp {cap:List Nat}{wi:TI}{tt:TT}{te:TE}{mi:Option (List α)}{fc:α->Option Bool}{fe:α->Option β}(ei:IW K wi σ G mi)
  (hb:∀ (x:V) (a:α) (G1:Hp),Same G G1->Rp.rel K G1 x a->TV tt ((D6 cap σ).set 0 (some x)) G1 (fc a)/\EV K te ((D6 cap σ).set 0 (some x)) G1 (fe a)) :
  FV K (tComp cap wi tt te) σ G (mi.bind fun as=>GH fc fe as):=by
 clear 7;obtain ⟨as,has,hc⟩:=qaA.mp hc;refine ei G1 s1 as has H sH _ fun J vs Ga Ha xa Y hz pr p hp=>?_;have hla:=Paired.length pr
 refine ⟨fun i m ys H2=>m=vs.length - i/\i<=vs.length/\∃ G2 bs cs,Ext Ga Ha G2 H2/\G2 p=none/\H2 p=some (.lst ys)/\ys.length<=i/\Paired (Rp.rel K G2) ys bs/\GH fc fe (as.drop i)=some cs/\c=bs++cs,
  ⟨vs.length,by simp,qsB _,Ga,[],c,.own xa.gh hp,xa.gh.free hp,Af,qsA _,.nil,hc,rfl⟩,?_⟩
 rintro i m ys H2 ⟨rfl,hi,G2,bs,cs,x2,hg,hh,hy,hpr,hcs,rfl⟩;by_cases hlt:i<vs.length
 ·refine .inr ⟨Y.go i _ (x2.gg.trans x2.gh) hlt,fun ys' H'=>∃ G2 bs' cs',Ext Ga Ha G2 H'/\G2 p=none/\H' p=some (.lst ys')/\ys'.length<=i+1/\Paired (Rp.rel K G2) ys' bs'/\GH fc fe (as.drop (i+1))=some cs'/\bs++cs=bs'++cs',
   fun ys' H' ⟨G3,bs',cs',h⟩=>⟨vs.length - (i+1),by omega,rfl,hlt,G3,bs',cs',h⟩,fun x H3 y=>?_⟩
  obtain ⟨rfl,hx⟩:=Y.yld i _ x H3 (x2.gg.trans x2.gh) hlt y;obtain ⟨a,hai,ra⟩:=Paired.getR pr hx
  have hd:as.drop i=a::as.drop (i+1):=by
   obtain ⟨h1,h2⟩:=qoA.mp hai;rw [List.drop_eq_getElem_cons h1,h2]
  rw [hd] at hcs;obtain ⟨b,hbb,hcs⟩:=qaA.mp hcs;have B:=hb x a G2 (s1.trans (xa.gg.trans x2.gg)) (Rp.mono x2.gg ra);refine B.1 G2 (.refl _) b hbb _ x2.gh _ fun G5 H5 x5=>?_;have hp5:H5 p=some (.lst ys):=x5.hh _ _ hh;have hg5:G5 p=none:=x5.no p hg (by rw [hh];exact fun z=>nomatch z)
  cases b with
  | false =>
   rw [if_neg qeB];exact ⟨G5,bs,cs,x2.trans x5,hg5,hp5,by omega,Paired.imp' (fun _ _ r=>Rp.mono x5.gg r) hpr,hcs,rfl⟩
  | true =>
   rw [if_pos rfl];obtain ⟨z,hze,hcs⟩:=qaA.mp hcs;obtain ⟨cs',hcs',hcs⟩:=qaA.mp hcs;cases hcs;refine B.2 G5 x5.gg z hze H5 x5.gh _ fun v G6 H6 x6 r6=>?_;have hp6:H6 p=some (.lst ys):=x6.hh _ _ hp5;have hg6:G6 p=none:=x6.no p hg5 (by rw [hp5];exact fun z=>nomatch z);refine ⟨hp6,by omega,G6,bs++[z],cs',((x2.trans x5).trans x6).put hp hg6,hg6,Af,?_,Paired.app (Paired.imp' (fun _ _ r=>Rp.mono (x5.trans x6).gg r) hpr) (.cons r6 .nil),hcs',by simp⟩;rw [qeA,qgA];omega
 ·have e:i=vs.length:=by omega
  subst e;have hd:as.drop vs.length=[]:=List.drop_eq_nil_of_le (by omega);rw [hd] at hcs;cases hcs;refine .inl ⟨Y.stop _ (x2.gg.trans x2.gh),?_⟩;rw [qrA] at k;exact k p ys G2 H2 (xa.trans x2) (xa.hh.free hp) hg hh (by omega) hpr
theorem fv_map {cap:List Nat}{wi:TI}{te:TE}{mi:Option (List α)}{fe:α->Option β}(ei:IW K wi σ G mi)
  (hb:∀ (x:V) (a:α) (G1:Hp),Same G G1->Rp.rel K G1 x a->EV K te ((D6 cap σ).set 0 (some x)) G1 (fe a)) :
  FV K (tComp cap wi tYes te) σ G (mi.bind fun as=>KN fe as):=by
 have h:=fv_comp (tt:=tYes) (fc:=fun _=>some true) ei fun x a G1 s r=>⟨tv_yes,hb x a G1 s r⟩;have e:(fun as=>GH (fun _=>some true) fe as)=fun as=>KN fe as:=funext (HJ fe);rw [e] at h;exact h
def repL {α:Type}(a:List α)(k:Int):Option (List α):=if (-(2 ^ 63)<=k/\k<2 ^ 63)/\a.length * k.toNat<=sizeLine then some (List.replicate k.toNat a).flatten else none
theorem HV {mo:Option (Option α)}(hn:∀ {G:Hp}{v:V}{a:α},Rp.rel K G v a->v ≠ .non)(ea:EV K ta σ G mo) :
  EV K (tOp (fun x y H Q=>y = .non/\Q (.bl (decide (x = .non))) H) ta (tC .non)) σ G (mo.bind fun o=>some o.isNone):=by
 clear 7;obtain ⟨a,ha,hc⟩:=qaA.mp hc;cases hc;refine ea G1 s1 a ha H sH _ fun v G2 H2 x2 r2=>⟨rfl,?_⟩;refine k _ _ _ x2 ?_;show V.bl _=V.bl _
 congr 1
 cases a with
 | none=>exact decide_eq_true r2
 | some a=>exact decide_eq_false (hn r2)
theorem ev_notN {mo:Option (Option α)}(hn:∀ {G:Hp}{v:V}{a:α},Rp.rel K G v a->v ≠ .non)(ea:EV K ta σ G mo) :
  EV K (tOp (fun x y H Q=>y = .non/\Q (.bl (!decide (x = .non))) H) ta (tC .non)) σ G (mo.bind fun o=>some o.isSome):=by
 clear 7;obtain ⟨a,ha,hc⟩:=qaA.mp hc;cases hc;refine ea G1 s1 a ha H sH _ fun v G2 H2 x2 r2=>⟨rfl,?_⟩;refine k _ _ _ x2 ?_;show V.bl _=V.bl _
 congr 1
 cases a with
 | none=>rw [decide_eq_true (show v=V.non from r2)];rfl
 | some a=>rw [decide_eq_false (hn (show Rp.rel K G2 v a from r2))];rfl
end
section
variable {K:FZ9}{σ:St}{G H:Hp}{α β:Type}[Rp α][Rp β]{te:TE}{tt:TT}{t u rest:TS}{D:Ends}{i:Nat}{a:α}{m:Option α}
theorem Ac (e:EV K te σ G m)(hm:m=some a)(s:Same G H)(k:∀ v G2 H2,Ext G H G2 H2->Rp.rel K G2 v a->rest D (σ.set i (some v)) H2):DS (KW te (Es i)) rest D σ H:=e.run hm s k
theorem Aa (e:EV K te σ G m)(hm:m=some a)(s:Same G H)(k:∀ v G2 H2,Ext G H G2 H2->Rp.rel K G2 v a->D.rt v H2):DS (tRet te) rest D σ H:=e.run hm s k
theorem Av {b:Bool}{m:Option Bool}(e:TV tt σ G m)(hm:m=some b)(s:Same G H)(k:∀ G2 H2,Ext G H G2 H2->if b=true then t { D with nx:=rest D } σ H2 else u { D with nx:=rest D } σ H2) :
  DS (Ff tt t u) rest D σ H:=e.run hm s k
theorem D5 (Pv:St->Hp->Prop)(h:∀ nx:St->Hp->Prop,(∀ σ' H',Pv σ' H'->nx σ' H')->DS t DC { D with nx:=nx } σ H)(key:∀ σ' H',Pv σ' H'->rest D σ' H'):DS t rest D σ H:=h (rest D) key
structure LoopOb (K:FZ9){α S ρ:Type}[Rp α](RR:ρ->V->Hp->Hp->Prop)(f:α->S->Option (Fl S ρ))(g:TG)(tb:TS)(D:Ends)(σ:St)(G2 H2:Hp)(as:List α)(s0:S)(res:Fl S ρ)(RS:S->St->Hp->Hp->Prop):Prop where
 start:RS s0 σ G2 H2
 keep:∀ s σ' G' H',RS s σ' G' H'->Same G2 G'/\Same G' H'
 step:∀ (x:V) (a:α) (s:S) (σ1:St) (G1 H1:Hp) (fl:Fl S ρ),a∈as->RS s σ1 G1 H1->Rp.rel K G1 x a->f a s=some fl->∀ D':Ends,(∀ s' σ' G' H',fl = .nx s'->RS s' σ' G' H'->D'.nx σ' H')->(∀ s' σ' G' H',fl = .nx s'->RS s' σ' G' H'->D'.ct σ' H') ->
  (∀ s' σ' G' H',fl = .bk s'->RS s' σ' G' H'->D'.bk σ' H')->(∀ r v G' H',fl = .rt r->RR r v G' H'->D'.rt v H')->g x σ1 H1 fun σ2 H2=>tb D' σ2 H2
 nxt:∀ s σ' G' H',res = .nx s->RS s σ' G' H'->D.nx σ' H'
 rtn:∀ r v G' H',res = .rt r->RR r v G' H'->D.rt v H'
theorem EI {S ρ:Type}{RR:ρ->V->Hp->Hp->Prop}{f:α->S->Option (Fl S ρ)}{wi:TI}{g:TG}{tb:TS}{mi:Option (List α)}{as:List α}{s0:S}{res:Fl S ρ}(ei:IW K wi σ G mi)(hm:mi=some as)(hf:Bt f as s0=some res)(sg:Same G H)
  (k:∀ G2 H2,Ext G H G2 H2->∃ RS,LoopOb K RR f g tb { D with nx:=rest D } σ G2 H2 as s0 res RS):DS (tFor wi g tb) rest D σ H:=by
 refine ei G (.refl G) as hm H sg _ fun J vs G2 H2 x2 Y hz pr=>?_;obtain ⟨RS,L⟩:=k G2 H2 x2;have hla:=Paired.length pr;refine ⟨fun i m σ' H'=>m=vs.length - i/\i<=vs.length/\∃ s G',RS s σ' G' H'/\Bt f (as.drop i) s=some res,⟨vs.length,by simp,qsB _,s0,G2,L.start,hf⟩,?_⟩;rintro i m σ' H' ⟨rfl,hi,s,G',rs,hfo⟩;obtain ⟨k1,k2⟩:=L.keep _ _ _ _ rs;by_cases hlt:i<vs.length
 ·refine .inr ⟨Y.go i _ (k1.trans k2) hlt,fun σ'' H''=>∃ s' G'',RS s' σ'' G'' H''/\Bt f (as.drop (i+1)) s'=some res,fun σ'' H'' ⟨s',G'',h⟩=>⟨vs.length - (i+1),by omega,rfl,hlt,s',G'',h⟩,fun x H3 y=>?_⟩;obtain ⟨rfl,hx⟩:=Y.yld i _ x H3 (k1.trans k2) hlt y;obtain ⟨a,hai,ra⟩:=Paired.getR pr hx
  have hd:as.drop i=a::as.drop (i+1):=by
   obtain ⟨h1,h2⟩:=qoA.mp hai;rw [List.drop_eq_getElem_cons h1,h2]
  rw [hd] at hfo;obtain ⟨fl,hfl,hfo⟩:=qaA.mp hfo;refine L.step x a s σ' G' _ fl (qnA hai) rs (Rp.mono k1 ra) hfl _ ?_ ?_ ?_ ?_
  ·intro s' σ'' G'' H'' e r;subst e;exact ⟨s',G'',r,hfo⟩
  ·intro s' σ'' G'' H'' e r;subst e;exact ⟨s',G'',r,hfo⟩
  ·intro s' σ'' G'' H'' e r;subst e;exact L.nxt s' σ'' G'' H'' (qvA hfo).symm r
  ·intro r v G'' H'' e rl;subst e;exact L.rtn r v G'' H'' (qvA hfo).symm rl
 ·have e:i=vs.length:=by omega
  subst e;have hd:as.drop vs.length=[]:=List.drop_eq_nil_of_le (by omega);rw [hd] at hfo;exact .inl ⟨Y.stop _ (k1.trans k2),L.nxt s σ' G' H' (qvA hfo).symm rs⟩
structure WhileOb (K:FZ9){S ρ:Type}(RR:ρ->V->Hp->Hp->Prop)(c:S->Option Bool)(f:S->Option (Fl S ρ))(tt:TT)(tb:TS)(D:Ends)(σ:St)(G2 H2:Hp)(s0:S)(res:Fl S ρ)(RS:S->St->Hp->Hp->Prop):Prop where
 start:RS s0 σ G2 H2
 keep:∀ s σ' G' H',RS s σ' G' H'->Same G' H'
 test:∀ s σ' G' H' b,RS s σ' G' H'->c s=some b->∀ Q:Bool->Hp->Prop,(∀ G'' H'',RS s σ' G'' H''->Q b H'')->tt σ' H' Q
 step:∀ (s:S) (σ1:St) (G1 H1:Hp) (fl:Fl S ρ),RS s σ1 G1 H1->f s=some fl->c s=some true->∀ D':Ends,(∀ s' σ' G' H',fl = .nx s'->RS s' σ' G' H'->D'.nx σ' H')->(∀ s' σ' G' H',fl = .nx s'->RS s' σ' G' H'->D'.ct σ' H') ->
  (∀ s' σ' G' H',fl = .bk s'->RS s' σ' G' H'->D'.bk σ' H')->(∀ r v G' H',fl = .rt r->RR r v G' H'->D'.rt v H')->tb D' σ1 H1
 nxt:∀ s σ' G' H',res = .nx s->RS s σ' G' H'->D.nx σ' H'
 rtn:∀ r v G' H',res = .rt r->RR r v G' H'->D.rt v H'
theorem sv_while {S ρ:Type}{RR:ρ->V->Hp->Hp->Prop}{c:S->Option Bool}{f:S->Option (Fl S ρ)}{tb:TS}{n:Nat}{s0:S}{res:Fl S ρ}(hf:FG c f n s0=some res)(RS:S->St->Hp->Hp->Prop)
  (L:WhileOb K RR c f tt tb { D with nx:=rest D } σ G H s0 res RS):DS (tWhile tt tb) rest D σ H:=by
 refine ⟨fun m σ' H'=>∃ s G',RS s σ' G' H'/\FG c f m s=some res,⟨n,s0,G,L.start,hf⟩,?_⟩;rintro m σ' H' ⟨s,G',rs,hw⟩
 cases m with
 | zero=>cases hw
 | succ m =>
  obtain ⟨b,hb,hw⟩:=qaA.mp hw;refine L.test s σ' G' H' b rs hb _ fun G'' H'' rs'=>?_
  cases b with
  | false=>exact BQ (L.nxt s σ' G'' H'' (qvA hw).symm rs')
  | true =>
   obtain ⟨fl,hfl,hw⟩:=qaA.mp hw;refine BR ⟨fun σ2 H2=>∃ s' G2,RS s' σ2 G2 H2/\FG c f m s'=some res,fun σ2 H2 h=>⟨m,Nat.lt_succ_self m,h⟩,?_⟩;refine L.step s σ' G'' H'' fl rs' hfl hb _ ?_ ?_ ?_ ?_
   ·intro s' σ2 G2 H2 e r;subst e;exact ⟨s',G2,r,hw⟩
   ·intro s' σ2 G2 H2 e r;subst e;exact ⟨s',G2,r,hw⟩
   ·intro s' σ2 G2 H2 e r;subst e;exact L.nxt s' σ2 G2 H2 (qvA hw).symm r
   ·intro r v G2 H2 e rl;subst e;exact L.rtn r v G2 H2 (qvA hw).symm rl
end
structure Own (K:FZ9){α:Type}[Rp α](G H:Hp)(v:V)(p:Addr)(vs:List V)(as:List α):Prop where
 v:v = .ref p
 g:G p=none
 h:H p=some (.lst vs)
 z:vs.length<=sizeLine
 p:Paired (Rp.rel K G) vs as
section
variable {K:FZ9}{σ:St}{G H G1 H1 G0 H0:Hp}{α β:Type}[Rp α][Rp β]{te ti:TE}{tt:TT}{t u rest:TS}{D:Ends}{i:Nat}{a:α}{m:Option α}{as:List α}{v:V}{p q:Addr}{vs:List V}
theorem Own.ext (o:Own K G H v p vs as)(x:Ext G H G1 H1):Own K G1 H1 v p vs as :=
 ⟨o.v,x.no p o.g (by rw [o.h];exact fun z=>nomatch z),x.hh _ _ o.h,o.z,Paired.imp' (fun _ _ r=>Rp.mono x.gg r) o.p⟩
theorem Own.tell (o:Own K G H v p vs as):Rp.rel K (upd G p (.lst vs)) v as:=⟨p,vs,o.v,.inl Af,o.z,Paired.imp' (fun _ _ r=>Rp.mono (Same.new o.g) r) o.p⟩
theorem Own.same (o:Own K G H v p vs as)(s:Same G H):Same (upd G p (.lst vs)) H:=fun b x e=>by
 by_cases hb:b=p
 ·subst hb;rw [Af] at e;rw [o.h];exact e
 ·rw [Am hb] at e;exact s b x e
theorem Kl {m:Option (List α)}{as:List α}(e:FV K te σ G m)(hm:m=some as)(s:Same G H)(k:∀ p vs G2 H2,Ext G H G2 H2->H p=none->Own K G2 H2 (.ref p) p vs as->rest D (σ.set i (some (.ref p))) H2):DS (KW te (Es i)) rest D σ H :=
 e G (.refl G) as hm H s _ fun p vs G2 H2 x h0 hg hh hz hp=>k p vs G2 H2 x h0 ⟨rfl,hg,hh,hz,hp⟩
def Da {α:Type}(as:List α)(a:α):Option (List α):=if as.length<sizeLine then some (as++[a]) else none
theorem DI {as':List α}(hσ:σ[i]? = some (some v))(o:Own K G H v p vs as)(e:EV K te σ G m)(hm:m=some a)(hp:Da as a=some as')(s:Same G H)
  (k:∀ G2 H2 w,Ext G H G2 H2->Own K G2 (upd H2 p (.lst (vs++[w]))) v p (vs++[w]) as'->rest D σ (upd H2 p (.lst (vs++[w])))):DS (Fe (tBM K "list" GZ (Fa i) (Aq te CM))) rest D σ H:=by
 obtain ⟨hl,rfl⟩:=BD hp;have hlen:=Paired.length o.p;obtain ⟨rfl,og,oh,oz,op⟩:=o;refine ⟨_,hσ,.inl ⟨rfl,_,SqL.of oh⟩,?_⟩;refine e.run hm s fun w G2 H2 x r=>?_;refine ⟨p,vs,w,rfl,rfl,x.hh _ _ oh,by omega,?_⟩;refine k G2 H2 w x ⟨rfl,x.no p og (by rw [oh];exact fun z=>nomatch z),Af,?_,Paired.app (Paired.imp' (fun _ _ r=>Rp.mono x.gg r) op) (.cons r .nil)⟩;rw [qeA,qgA];omega
structure TupK (H H':Hp):Prop where
 rd:∀ b xs,Rd H b (.tup xs)->Rd H' b (.tup xs)
 eq:∀ b xs,H b=some (.tup xs)->H' b=some (.tup xs)
class Imm (α:Type) [Rp α]:Prop where
 im:∀ {K:FZ9}{H H':Hp}{v:V}{a:α},TupK H H'->Rp.rel K H v a->Rp.rel K H' v a
instance imInt:Imm Int:=⟨fun _ h=>h⟩
theorem SqT.im {H H':Hp}{t:Addr}{xs:List V}(f:TupK H H')(h:SqT K H t xs):SqT K H' t xs:=by
 rcases h with h|h
 ·exact .inl (f.rd _ _ h)
 ·exact .inr h
instance imPair {α β:Type}[Rp α][Rp β][Imm α][Imm β]:Imm (α × β):=⟨fun f ⟨t,a,b,e,h,r1,r2⟩=>⟨t,a,b,e,h.im f,Imm.im f r1,Imm.im f r2⟩⟩
def del (G:Hp)(p:Addr):Hp:=fun b=>if b=p then none else G b
theorem Fo {G:Hp}{p b:Addr}(h:b≠p):del G p b=G b:=by unfold del;rw [if_neg h]
theorem K0 {G:Hp}{p:Addr}:del G p p=none:=by unfold del;rw [if_pos rfl]
theorem Ext.del {ho:HO}{G2 H2:Hp}(hg:G p=none)(x:Ext (upd G p ho) H G2 H2):Ext G H (L2.del G2 p) H2 :=
 ⟨fun b o e=>by
  have hb:b≠p:=CC e hg;rw [Fo hb]
  exact x.gg b o (by rw [Am hb];exact e),fun b o e=>by
  by_cases hb:b=p
  ·subst hb;rw [K0] at e;cases e
  ·rw [Fo hb] at e
   exact x.gh b o e,x.hh,fun b h1 h2=>by
  by_cases hb:b=p
  ·subst hb;exact K0
  ·rw [Fo hb]
   exact x.no b (by rw [Am hb];exact h1) h2⟩
theorem Imm.del {β:Type}[Rp β][Imm β]{G2:Hp}{w:V}{c:β}{ys:List V}(h:G2 p=some (.lst ys))(r:Rp.rel K G2 w c):Rp.rel K (L2.del G2 p) w c :=
 Imm.im ⟨fun b xs e=>by
  have hb:b≠p:=fun z=>by
   subst z;rcases e with e | ⟨o,e⟩<;>(rw [h] at e;cases e)
  rcases e with e | ⟨o,e⟩
  ·exact .inl (by rw [Fo hb];exact e)
  ·exact .inr ⟨o,by rw [Fo hb];exact e⟩,fun b xs e=>by
  have hb:b≠p:=fun z=>by
   subst z;rw [h] at e;cases e
  rw [Fo hb]
  exact e⟩ r
theorem EV.runB {β:Type}[Rp β][Imm β]{mb:Option β}{b:β}{Q:VK}(o:Own K G H v p vs as)(e:EV K te σ (upd G p (.lst vs)) mb)(hm:mb=some b)(s:Same G H)(k:∀ w G2 H2,Ext G H G2 H2->Rp.rel K G2 w b->Q w H2):te σ H Q :=
 e.run hm (o.same s) fun w G2 H2 x r=>k w (del G2 p) H2 (x.del o.g) (Imm.del (x.gg _ _ Af) r)
theorem TV.runB {mb:Option Bool}{b:Bool}{Q:Bool->Hp->Prop}(o:Own K G H v p vs as)(e:TV tt σ (upd G p (.lst vs)) mb)(hm:mb=some b)(s:Same G H)(k:∀ G2 H2,Ext G H G2 H2->Q b H2):tt σ H Q :=
 e.run hm (o.same s) fun G2 H2 x=>k (del G2 p) H2 (x.del o.g)
end
section
variable {K:FZ9}{σ:St}{G:Hp}
theorem Ax {ρ A0:Type}[Rp ρ][Rp A0]{t0:TE}{m0:Option A0}{m:A0 × Unit->Option ρ}(e0:EV K t0 σ G m0):EV K (FW (spM K m) [] E0 (Aq t0 CM)) σ G (m0.bind fun a0=>m (a0,())):=by
 clear 7;obtain ⟨a0,ha0,hc⟩:=qaA.mp hc;refine e0 G1 s1 a0 ha0 H sH _ fun v0 G2 H2 x0 r0=>?_;have y0:=x0;exact ⟨G2,_,c,y0.gh,⟨v0,_,rfl,r0,rfl⟩,hc,fun v G9 H9 x9 r9=>k v G9 H9 (y0.trans x9) r9⟩
theorem DY {ρ A0 A1:Type}[Rp ρ][Rp A0][Rp A1]{t0 t1:TE}{m0:Option A0}{m1:Option A1}{m:A0 × A1 × Unit->Option ρ}(e0:EV K t0 σ G m0)(e1:EV K t1 σ G m1):EV K (FW (spM K m) [] E0 (Aq t0 (Aq t1 CM))) σ G (m0.bind fun a0=>m1.bind fun a1=>m (a0,a1,())):=by
 clear 7;obtain ⟨a0,ha0,hc⟩:=qaA.mp hc;obtain ⟨a1,ha1,hc⟩:=qaA.mp hc;refine e0 G1 s1 a0 ha0 H sH _ fun v0 G2 H2 x0 r0=>?_;have y0:=x0;refine e1 G2 (s1.trans y0.gg) a1 ha1 H2 y0.gh _ fun v1 G3 H3 x1 r1=>?_;have y1:=y0.trans x1;exact ⟨G3,_,c,y1.gh,⟨v0,_,rfl,(Rp.mono x1.gg r0),⟨v1,_,rfl,r1,rfl⟩⟩,hc,fun v G9 H9 x9 r9=>k v G9 H9 (y1.trans x9) r9⟩
section
variable {ta tb:TE}{a b:Bool}{tt tu:TT}{mb:Option Bool}
theorem TV.of {m m':Option Bool}(e:TV tt σ G m)(h:m=m'):TV tt σ G m':=h ▸ e
theorem LF (ea:TV tt σ G (some a))(eb:TV tu σ G (some b)):TV (tAnd tt tu) σ G (some (a && b)):=(JE ea eb).of (by cases a<;>rfl)
theorem tv_orP (ea:TV tt σ G (some a))(eb:TV tu σ G (some b)):TV (tOr tt tu) σ G (some (a || b)):=(FX ea eb).of (by cases a<;>rfl)
theorem Eb {α:Type}[Rp α]{te:TE}{mo:Option (Option α)}(e:EV K te σ G mo):EV K te σ G (mo.bind fun o=>o):=by
 clear 7;obtain ⟨o,ho,hc⟩:=qaA.mp hc;subst hc;exact e G1 s1 _ ho H sH Q k
theorem TruV.mono {G H:Hp}{v:V}{k:Bool}(s:Same G H)(h:TruV K v G k):TruV K v H k:=by
 cases v with
 | ref p =>
  rcases h with ⟨xs,hx,e⟩ | ⟨xs,hx,e⟩ | ⟨kvs,hx,e⟩
  ·exact .inl ⟨xs,s.seq hx,e⟩
  ·exact .inr (.inl ⟨xs,s.tup hx,e⟩)
  ·exact .inr (.inr ⟨kvs,s _ _ hx,e⟩)
 | _=>exact h
theorem Ig {mb:Option Bool}(ea:EV K ta σ G mb):TV (fun σ H Q=>ta σ H fun x H'=>∃ k,TruV K x H' k/\Q k H') σ G mb:=by
 have h:=tv_tru (K:=K) (f:=fun (a:Bool)=>a) (fun {G v a}(r:Rp.rel K G v a)=>by cases r;exact rfl) (fun s=>TruV.mono s) ea;refine h.of ?_;cases mb<;>rfl
end
theorem cT {α:Type}{A B:Option α}{r:Option α}(h:cond true A B=r):A=r:=h
theorem cF {α:Type}{A B:Option α}{r:Option α}(h:cond false A B=r):B=r:=h
theorem DH {i:Nat}{x:V}{σ:St}{H:Hp}{tb:TS}{D:Ends}(h:tb D (σ.set i (some x)) H):Es i x σ H fun σ2 H2=>tb D σ2 H2:=h
end
section
variable {K:FZ9}{σ:St}{G H:Hp}{α β γ:Type}[Rp α][Rp β][Rp γ]{ta tb te:TE}{ia ib:Option Int}{c:Int}{rest t u:TS}{D:Ends}{i j:Nat}{tt:TT}
theorem Ej (ea:EV K ta σ G ia)(hc:-(2 ^ 64)<c/\c<2 ^ 64:=by decide):EV K (tOp (rMul K) ta (tC (.int c))) σ G (ia.bind fun a=>some (a * c)):=by
 have h:=ev_mul ea (AY (K:=K) (σ:=σ) (G:=G) (i:=c))
 have e:(ia.bind fun a=>(some c).bind fun b=>Ln a b)=ia.bind fun a=>some (a * c):=by
  congr 1;funext a
  show Ln a c=_;unfold Ln;rw [if_pos (.inr hc)]
 exact h.of e
theorem Bg (ea:EV K ta σ G ia)(hc:0<c:=by decide):EV K (tOp (rI (fun _ j=>0<j) fun i j=>.int (i % j)) ta (tC (.int c))) σ G (ia.bind fun a=>some (a % c)):=by
 have h:=Hi ea (AY (K:=K) (σ:=σ) (G:=G) (i:=c))
 have e:(ia.bind fun a=>(some c).bind fun b=>Il a b)=ia.bind fun a=>some (a % c):=by
  congr 1;funext a
  show Il a c=_;unfold Il;rw [if_pos hc]
 exact h.of e
theorem D0 (ea:EV K ta σ G ia)(hc:0<c/\c<1073741824:=by decide):EV K (tOp (rI KQ fun i j=>.int (i / j)) ta (tC (.int c))) σ G (ia.bind fun a=>some (a / c)):=by
 have h:=ev_div ea (AY (K:=K) (σ:=σ) (G:=G) (i:=c))
 have e:(ia.bind fun a=>(some c).bind fun b=>ME a b)=ia.bind fun a=>some (a / c):=by
  congr 1;funext a
  show ME a c=_;unfold ME;rw [if_pos (show KQ a c from hc)]
 exact h.of e
structure Scr where
 l:List Int
instance rpScr:Rp Scr:=⟨fun K H v a=>∃ l,v = .ref l/\SqL K H l (a.l.map V.int),fun s ⟨l,e,h⟩=>⟨l,e,s.seq h⟩⟩
theorem J7 {ma:Option Scr}(ea:EV K ta σ G ma):EV K (tCB (K7 K) (Aq ta CM)) σ G (ma.bind fun a=>some (a.l.length:Int)):=by
 clear 7;obtain ⟨a,ha,hc⟩:=qaA.mp hc;cases hc;clear 8 ea a ha;obtain ⟨l,rfl,h⟩:=r2;exact ⟨_,.inl (x2.gh.seq h),by rw [qdA];exact k _ _ _ x2 rfl⟩
theorem LB {H:Hp}:∀ ns:List Int,Paired (Rp.rel K H) (ns.map V.int) ns
 | []=>.nil
 | _::r=>.cons rfl (LB r)
theorem ev_atX {ma:Option Scr}(ea:EV K ta σ G ma)(eb:EV K tb σ G ib):EV K (tOp (rAt K) ta tb) σ G (ma.bind fun a=>ib.bind fun i=>atI a.l i) :=
 Bd (fun s ra rb e Q k=>by
  obtain ⟨l,rfl,h⟩:=ra;cases rb;obtain ⟨v,hv,r⟩:=Cu (LB (K:=K) _) e
  exact .inl ⟨_,v,s.seq h,hv,k _ _ _ (.refl s) r⟩) ea eb
theorem decOI {G:Hp}{v u:V}{a b:Option Int}(ra:Rp.rel K G v a)(rb:Rp.rel K G u b):scal v u=true/\decide (v=u)=decide (a=b):=by
 cases a with
 | none =>
  cases (show v=V.non from ra)
  cases b with
  | none=>cases (show u=V.non from rb);exact ⟨rfl,rfl⟩
  | some j=>cases (show u=V.int j from rb);exact ⟨rfl,by simp⟩
 | some i =>
  cases (show v=V.int i from ra)
  cases b with
  | none=>cases (show u=V.non from rb);exact ⟨rfl,by simp⟩
  | some j=>cases (show u=V.int j from rb);exact ⟨rfl,by simp⟩
theorem LX {oa ob:Option (Option Int)}(ea:EV K ta σ G oa)(eb:EV K tb σ G ob):EV K (tOp rEq ta tb) σ G (oa.bind fun a=>ob.bind fun b=>some (decide (a=b))) :=
 Bd (fun s ra rb e Q k=>by cases e;obtain ⟨h1,h2⟩:=decOI ra rb;exact ⟨h1,k _ _ _ (.refl s) (by show V.bl _=V.bl _;rw [h2])⟩) ea eb
theorem op_repR {X:Cx}:OpR X (binaryOp .Mult) (fun x y H Q=>∃ l k xs,x = .ref l/\y = .int k/\Rd H l (.lst xs)/\-(2 ^ 63)<=k/\k<2 ^ 63/\xs.length * k.toNat<=sizeLine/\∀ p,H p=none->Q (.ref p) (upd H p (.lst (List.replicate k.toNat xs).flatten))):=by
 intro pins s σ H x y v u Q I rx ry h;obtain ⟨l,k,xs,rfl,rfl,hH,h1,h2,hz,q⟩:=h;cases rx;obtain ⟨t,rfl⟩:=ry;obtain ⟨z,its,n,r,e⟩:=hH.ok I.hok;have hl:=r.length;have hlen:its.toArray.size * k.toNat<=sizeLine:=by rw [qfB,<- hl];exact hz
 have hcap:¬ its.toArray.size * k.toNat > (2 ^ 63 - 1) / 8:=by
  have:(sizeLine:Nat)<=(2 ^ 63 - 1) / 8:=by decide
  omega
 have hfit:¬ (!Builtin.List.listFitsIndex k)=true:=by
  rw [fitsIndex_both h1 h2];exact qeB
 have hlong:¬ Builtin.List.listTooLong (its.toArray.size * k.toNat)=true:=by
  rw [Hd hlen];exact qeB
 have hnew:List.foldl (fun x1 x2=>x1++x2) #[] (List.replicate (if its.toArray.isEmpty=true then 0 else k.toNat) its.toArray)=(List.replicate k.toNat its).flatten.toArray:=by
  have f0:∀ m:Nat,List.foldl (fun x1 x2=>x1++x2) #[] (List.replicate m its.toArray)=(List.replicate m its).flatten.toArray:=fun m=>by
   have:=Fi its m [];rw [List.nil_append] at this;exact this
  rw [f0]
  cases its with
  | nil=>simp
  | cons a r'=>rw [if_neg (by simp)]
 refine wpAny_binaryOp_repeat_ref (T := "list") (U := "int") (by decide) ⟨_,e,rfl⟩ (fun s'=>typeIs_int s' k t) noFill_list_mul F.fills_int_mul F.slot_int_rmul repeat_list F.slot_int_index.lookup
  (call_meets F.slot_int_rmul (typeIs_int s k t) F.entry_int_rmul (F.args_int_rmul_2 _ _) (int___rmul___int_list k t l its.toArray n)
   ⟨e,rfl,⟨_,e,rfl⟩,call_meets F.slot_list_mul ⟨_,e,rfl⟩ F.entry_list_mul (F.args_list_mul_2 _ _) (AutoListH.list___mul___list_int_3 l its.toArray n k t hfit hcap hlong) ⟨e,?_⟩⟩)
 rw [hnew];exact ⟨.ref _,_,I.lnew (t':=s.toks) (r.rep k.toNat) (by rw [JT,Nat.mul_comm];exact hz),rfl,q _ I.fresh⟩
theorem fv_rep {la:Option (List α)}(ea:EV K ta σ G la)(eb:EV K tb σ G ib) :
  FV K (tOp (fun x y H Q=>∃ l k xs,x = .ref l/\y = .int k/\Rd H l (.lst xs)/\-(2 ^ 63)<=k/\k<2 ^ 63/\xs.length * k.toNat<=sizeLine/\∀ p,H p=none->Q (.ref p) (upd H p (.lst (List.replicate k.toNat xs).flatten))) ta tb) σ G (la.bind fun a=>ib.bind fun b=>repL a b):=by
 clear 7;obtain ⟨a,ha,hc⟩:=qaA.mp hc;obtain ⟨b,hb,hc⟩:=qaA.mp hc;obtain ⟨⟨hl,hz⟩,rfl⟩:=BD hc;clear 8 ea a ha;refine eb G2 (s1.trans x2.gg) b hb H2 x2.gh _ fun u G3 H3 x3 r3=>?_;obtain ⟨l1,xs,rfl,h1,z1,p1⟩:=Rp.mono x3.gg r2;cases r3;have e1:=Paired.length p1;rw [<- e1] at hz;exact ⟨l1,b,xs,rfl,rfl,x3.gh.rd h1,hl.1,hl.2,hz,LN x3.gh (by rw [JT,Nat.mul_comm];exact hz) (Paired.rep p1 _) (FV.mono (x2.trans x3) k)⟩
theorem L4 {a:α}{m:Option α}[Imm α]{v:V}{p:Addr}{vs:List V}{as:List β}(o:Own K G H v p vs as)(e:EV K te σ (upd G p (.lst vs)) m)(hm:m=some a)(s:Same G H)(k:∀ v G2 H2,Ext G H G2 H2->Rp.rel K G2 v a->rest D (σ.set i (some v)) H2) :
  DS (KW te (Es i)) rest D σ H:=EV.runB o e hm s k
theorem KO {b:Bool}{m:Option Bool}{v:V}{p:Addr}{vs:List V}{as:List β}(o:Own K G H v p vs as)(e:TV tt σ (upd G p (.lst vs)) m)(hm:m=some b)(s:Same G H)(k:∀ G2 H2,Ext G H G2 H2->if b=true then t { D with nx:=rest D } σ H2 else u { D with nx:=rest D } σ H2) :
  DS (Ff tt t u) rest D σ H:=TV.runB o e hm s k
end
section
variable {K:FZ9}{σ:St}{G H G1 H1 G0 H0:Hp}{α β γ:Type}[Rp α][Rp β][Rp γ]{ta tb te ti:TE}{tt:TT}{t u rest:TS}{D:Ends}{i j:Nat}{v:V}{p q r:Addr}{vs ws:List V}{a:List α × List β}
def two (G:Hp)(p q:Addr)(vs ws:List V):Hp:=upd (upd G p (.lst vs)) q (.lst ws)
end
section
variable {X:Cx}{K:FZ9}
theorem op_plusK (h:X.K=K):OpR X (binaryOp .Add) (IP K):=h ▸ op_plus
theorem E4 (h:X.K=K):OpR X (binaryOp .Mult) (rMul K):=h ▸ op_mulU
theorem BL (h:X.K=K):SlR X (rSl K):=h ▸ sl_any
theorem ix_anyK (h:X.K=K):IxR X (rAt K):=h ▸ ix_any
theorem M5 (h:X.K=K):EF X (.builtin "len") (K7 K):=h ▸ Lk
theorem DM (h:X.K=K):EF X (.builtin "isinstance") (rInst K):=h ▸ M3
theorem op_eqK {j:Nat}(h:X.K=K)(α:Type)[Rp α][DecidableEq α][RpE α](hr:Room j X.A)(hk:RpE.k α<=10):OpR X (compareOp .Eq) (rEqD K α):=h ▸ op_eqM α hr hk
theorem Gc {tg l:Expr}{tl:TE}(h:X.K=K)(hl:PE X l tl):PI X tg l (iAny K tl):=h ▸ pi_any hl
theorem Lh {a:Expr}{ta:TE}(h:X.K=K)(ha:PE X a ta)(he:∀ whole,isTrue a X.env whole=(do let v <- whole;standAt a.pos;holding [v] (truthy v))) :
  PT X a (fun σ H Q=>ta σ H fun x H'=>∃ k,TruV K x H' k/\Q k H'):=h ▸ pt_truth ha he
section
variable {o e:Expr}{es:List Expr}{to:TE}{t:TA}{name:Str}{apos cpos:Pos}{T id:String}{r:V->List V->Hp->VK->Prop}
theorem pe_bmK (h:X.K=K)(pa:PlainAttrs T)(slot:Slot T name id)(hty:typeOf (.builtin id)=pure (.type "method_descriptor"))(hm:MtR X id r)(ho:PE X o to)(ha:PA X (e::es) t)
  (hbase:attributeBase o name X.env (eval o X.env)=eval o X.env:=by rfl)
  (hfew:((backTo cpos (starEach (e::es) X.env)).all (fun x=>!x.1) && (backToKw cpos (keywordEach [] X.env)).all (fun x=>x.1.isSome)
   && decide ((e::es).length+([]:List Keyword).length+(if ([]:List Keyword).isEmpty then 0 else 1)<30))=true:=by rfl)
  (hline:(apos.endLine == cpos.line)=true:=by rfl) (hs:starEach (e::es) X.env=(false,eval e X.env)::starEach es X.env:=by rfl) (hplain:(backTo cpos (starEach es X.env)).any (·.1)=false:=by rfl) :
  PE X (.Call (.Attribute o name apos) (e::es) [] cpos) (tBM K T r to t):=h ▸ pe_bm pa slot hty hm ho ha hbase hfew hline hs hplain
end
end
theorem Er {f:St->Hp->Prop}{rt:VK}{bk ct:St->Hp->Prop}{σ:St}{H:Hp}(h:f σ H):({ nx:=f,rt:=rt,bk:=bk,ct:=ct }:Ends).nx σ H:=h
section
variable {K:FZ9}{σ:St}{G H:Hp}{α β γ:Type}[Rp α][Rp β][Rp γ]{ta tb te:TE}{rest t u:TS}{D:Ends}{i j:Nat}
def extO {α:Type}(as bs:List α):Option (List α):=if as.length+bs.length<=sizeLine then some (as++bs) else none
end
inductive D where
 | non
 | bl (b:Bool)
 | int (i:Int)
 | str (x:Str)
 | lst (l:List D)
 | tup (l:List D)
 | dic
mutual
inductive RelD (K:FZ9)(H:Hp):V->D->Prop where
 | non:RelD K H .non .non
 | bl (b:Bool):RelD K H (.bl b) (.bl b)
 | int (i:Int):RelD K H (.int i) (.int i)
 | str (x:Str) (z:x.length<=sizeLine):RelD K H (.str x) (.str x)
 | lst {a:Addr}{xs:List V}{ds:List D}(h:Rd H a (.lst xs)) (z:xs.length<=sizeLine) (r:RelDs K H xs ds):RelD K H (.ref a) (.lst ds)
 | tup {a:Addr}{xs:List V}{ds:List D}(h:SqT K H a xs) (z:xs.length<=sizeLine) (r:RelDs K H xs ds):RelD K H (.ref a) (.tup ds)
 | dK {a:Addr}{kvs:List (Key × V)}(h:Rd H a (.dK kvs)):RelD K H (.ref a) .dic
inductive RelDs (K:FZ9)(H:Hp):List V->List D->Prop where
 | nil:RelDs K H [] []
 | cons {x:V}{d:D}{xs:List V}{ds:List D}(h:RelD K H x d) (t:RelDs K H xs ds):RelDs K H (x::xs) (d::ds)
end
mutual
theorem RelD.mono {K:FZ9}{H H':Hp}(s:Same H H'):∀ {v:V}{d:D},RelD K H v d->RelD K H' v d
 | _,_,.non=>.non
 | _,_,.bl b=>.bl b
 | _,_,.int i=>.int i
 | _,_,.str x z=>.str x z
 | _,_,.lst h z r=>.lst (s.rd h) z (RelDs.mono s r)
 | _,_,.tup h z r=>.tup (s.tup h) z (RelDs.mono s r)
 | _,_,.dK h=>.dK (s.rd h)
theorem RelDs.mono {K:FZ9}{H H':Hp}(s:Same H H'):∀ {v:List V}{d:List D},RelDs K H v d->RelDs K H' v d
 | _,_,.nil=>.nil
 | _,_,.cons h t=>.cons (RelD.mono s h) (RelDs.mono s t)
end
instance rpD:Rp D:=⟨RelD,fun s h=>RelD.mono s h⟩
theorem Hk {K:FZ9}{H:Hp}:∀ {xs:List V}{ds:List D},Paired (Rp.rel K H) xs ds->RelDs K H xs ds
 | _,_,.nil=>.nil
 | _,_,.cons h t=>.cons h (Hk t)
theorem DQ {K:FZ9}{H:Hp}:∀ {xs:List V}{ds:List D},RelDs K H xs ds->Paired (Rp.rel K H) xs ds
 | _,_,.nil=>.nil
 | _,_,.cons h t=>.cons h (DQ t)
class ToD (α:Type) [Rp α] where
 to:α->D
 rel:∀ {K:FZ9}{H:Hp}{v:V}{a:α},Rp.rel K H v a->RelD K H v (to a)
theorem toDs {K:FZ9}{H:Hp}{α:Type}[Rp α][ToD α]:∀ {xs:List V}{as:List α},Paired (Rp.rel K H) xs as->Paired (Rp.rel (α:=D) K H) xs (as.map ToD.to)
 | _,_,.nil=>.nil
 | _,_,.cons h t=>.cons (ToD.rel h) (toDs t)
instance tdD:ToD D:=⟨id,fun h=>h⟩
instance tdInt:ToD Int:=⟨.int,fun h=>by cases h;exact .int _⟩
instance tdBool:ToD Bool:=⟨.bl,fun h=>by cases h;exact .bl _⟩
instance tdStr:ToD Str:=⟨.str,fun h=>by obtain ⟨rfl,z⟩:=h;exact .str _ z⟩
instance tdUnit:ToD Unit:=⟨fun _=>.non,fun h=>by cases h;exact .non⟩
instance tdList {α:Type}[Rp α][ToD α]:ToD (List α):=⟨fun l=>.lst (l.map ToD.to),fun ⟨l,xs,e,h,z,p⟩=>by subst e;exact .lst h z (Hk (toDs p))⟩
instance tdTp {α:Type}[Rp α][ToD α]:ToD (Tp α):=⟨fun l=>.tup (l.l.map ToD.to),fun ⟨l,xs,e,h,z,p⟩=>by subst e;exact .tup h z (Hk (toDs p))⟩
def Bw:D->Option Str
 | .str x=>some x
 | _=>none
def dk:D->String
 | .non => "NoneType"
 | .bl _ => "bool"
 | .int _ => "int"
 | .str _ => "str"
 | .lst _ => "list"
 | .tup _ => "tuple"
 | .dic => "dict"
def isK (T:String)(d:D):Bool:=dk d == T || (T == "int" && dk d == "bool")
def F7:D->Option Int
 | .str x=>some (x.length:Int)
 | .lst l=>some (l.length:Int)
 | .tup l=>some (l.length:Int)
 | _=>none
def atD:D->Int->Option D
 | .lst l,i=>atI l i
 | .tup l,i=>atI l i
 | .str x,i=>(atI x.cps.toList i).bind fun c=>some (.str ⟨#[c]⟩)
 | _,_=>none
def iterD:D->Option (List D)
 | .lst l=>some l
 | .tup l=>some l
 | .str x=>some ((JX x).map D.str)
 | _=>none
section
variable {K:FZ9}{σ:St}{G:Hp}{α β:Type}[Rp α][Rp β]{ta tb te:TE}{md:Option D}
theorem CN [ToD α]{m:Option α}(e:EV K te σ G m):EV K te σ G (m.bind fun a=>some (ToD.to a)):=by
 clear 7;obtain ⟨a,ha,hc⟩:=qaA.mp hc;cases hc;exact e G1 s1 a ha H sH Q fun v G2 H2 x r=>k v G2 H2 x (ToD.rel r)
theorem By (e:EV K te σ G md):EV K te σ G (md.bind fun d=>Bw d):=by
 clear 7;obtain ⟨d,hd,hc⟩:=qaA.mp hc;refine e G1 s1 d hd H sH Q fun v G2 H2 x r=>?_
 cases d with
 | str y =>
  cases hc
  cases r with
  | str _ z=>exact k _ _ _ x ⟨rfl,z⟩
 | _=>cases hc
theorem RelD.ty {H:Hp}{v:V}{d:D}(r:RelD K H v d):TyS K H v (dk d):=by
 cases r with
 | non=>exact .non
 | bl=>exact .bl _
 | int=>exact .int _
 | str=>exact .str _
 | lst h=>exact .lst (.inl h)
 | tup h=>exact .tup h
 | dK h=>exact .dK h
theorem kit_all:∀ n∈["NoneType","bool","int","str","list","tuple","dict"],∀ T∈["str","list","tuple","bool","int","dict"],kitC n T=some (n == T || (T == "int" && n == "bool")):=by decide +kernel
theorem isK_ok {T:String}(hT:T∈["str","list","tuple","bool","int","dict"])(d:D):kitC (dk d) T=some (isK T d):=by
 unfold isK;exact kit_all (dk d) (by cases d<;>simp [dk]) T hT
theorem EU {T:String}(hT:T∈["str","list","tuple","bool","int","dict"])(ea:EV K ta σ G md):EV K (tCB (rInst K) (Aq ta (Aq (tC (.ty T)) CM))) σ G (md.bind fun d=>some (isK T d)):=by
 clear 7;obtain ⟨a,ha,hc⟩:=qaA.mp hc;cases hc;clear 8 ea a ha;exact ⟨_,_,_,_,rfl,(RelD.ty r2).mono x2.gh,isK_ok hT a,k _ _ _ x2 rfl⟩
theorem RelDs.len {H:Hp}{xs:List V}{ds:List D}(r:RelDs K H xs ds):xs.length=ds.length:=Paired.length (DQ r)
theorem Fd (ea:EV K ta σ G md):EV K (tCB (K7 K) (Aq ta CM)) σ G (md.bind fun d=>F7 d):=by
 clear 7;obtain ⟨a,ha,hc⟩:=qaA.mp hc;clear 8 ea a ha
 cases r2 with
 | str x z=>cases hc;exact ⟨z,k _ _ _ x2 rfl⟩
 | lst h z r=>cases hc;exact ⟨_,.inl (.inl (x2.gh.rd h)),by rw [r.len];exact k _ _ _ x2 rfl⟩
 | tup h z r=>cases hc;exact ⟨_,.inr (x2.gh.tup h),by rw [r.len];exact k _ _ _ x2 rfl⟩
 | _=>cases hc
theorem Fu {ib:Option Int}(ea:EV K ta σ G md)(eb:EV K tb σ G ib):EV K (tOp (rAt K) ta tb) σ G (md.bind fun d=>ib.bind fun i=>atD d i) :=
 Bd (fun s ra rb e Q k=>by
  cases rb
  cases ra with
  | str x z =>
   obtain ⟨c,hc,e⟩:=qaA.mp e;cases e;exact ⟨z,c,hc,k _ _ _ (.refl s) (.str _ (by show 1<=sizeLine;decide))⟩
  | lst h z r =>
   obtain ⟨v,hv,r⟩:=Cu (DQ r) e;exact .inl ⟨_,v,.inl (s.rd h),hv,k _ _ _ (.refl s) r⟩
  | tup h z r =>
   obtain ⟨v,hv,r⟩:=Cu (DQ r) e;exact .inr ⟨_,v,s.tup h,hv,k _ _ _ (.refl s) r⟩
  | _=>cases e) ea eb
theorem iw_any (ea:EV K ta σ G md):IW K (iAny K ta) σ G (md.bind fun d=>iterD d):=by
 intro G1 s1 a ha H sH R k;obtain ⟨b,hb,ha⟩:=qaA.mp ha;clear 8 ea b hb
 cases r2 with
 | str x z =>
  cases ha;exact k _ (Dl x) G2 H2 x2 (Ka x G2) (by unfold Dl;rw [qdA];exact z) (toDs (JR x G2))
 | lst h z r=>cases ha;exact .inl ⟨⟨_,.inl (x2.gh.rd h)⟩,k _ _ G2 H2 x2 (GN (.inl h)) z (DQ r)⟩
 | tup h z r=>cases ha;exact .inr ⟨⟨_,x2.gh.tup h⟩,k _ _ G2 H2 x2 (Gz h) z (DQ r)⟩
 | _=>cases ha
theorem ev_dnew:EV K tDNewK σ G (some D.dic):=by
 clear 7;cases hc;exact fun p hp=>k _ _ _ (.new sH hp) (.dK (.inl Af))
end
def OK {α:Type}(m:Option α)(P:α->Prop):Prop:=∃ a,m=some a/\P a
section
variable {α β S ρ:Type}{m:Option α}{P Q:α->Prop}{R:β->Prop}
theorem OK.mono (h:OK m P)(k:∀ a,P a->Q a):OK m Q:=let ⟨a,e,p⟩:=h;⟨a,e,k a p⟩
theorem A8 {a:α}(h:P a):OK (some a) P:=⟨a,rfl,h⟩
theorem AM {f:α->Option β}(h:OK m fun a=>OK (f a) R):OK (m.bind f) R:=by
 obtain ⟨a,rfl,h⟩:=h;exact h
theorem ok_bC {f:α->Option β}(a:α)(e:m=some a)(h:OK (f a) R):OK (m.bind f) R:=AM ⟨a,e,h⟩
theorem Bb {f:α->Option β}(h:OK m P)(k:∀ a,P a->OK (f a) R):OK (m.bind f) R:=AM (h.mono k)
theorem DB {a:α}{f:α->Option β}(h:OK (f a) R):OK ((some a).bind f) R:=h
theorem Ad {b:Bool}{x y:Option α}(h1:b=true->OK x P)(h2:b=false->OK y P):OK (cond b x y) P:=by
 cases b with
 | true=>exact h1 rfl
 | false=>exact h2 rfl
theorem OK.eq {a:α}(h:OK m fun b=>b=a):m=some a:=by obtain ⟨b,e,rfl⟩:=h;exact e
theorem OK.of {a:α}(e:m=some a)(h:P a):OK m P:=⟨a,e,h⟩
theorem AB {α β:Type}(a:α)(f:α->Option β):(some a).bind f=f a:=by rw [Option.bind_some]
theorem AO {α:Type}(m:Option α):(m.bind fun x=>some x)=m:=by cases m<;>rfl
theorem JI {a b:Int}{P:Int->Prop}(hb:0<b)(h:P (a % b)):OK (Il a b) P:=⟨_,if_pos hb,h⟩
theorem ok_mul {a b:Int}{P:Int->Prop}(hb:CMul a b)(h:P (a * b)):OK (Ln a b) P:=⟨_,if_pos hb,h⟩
theorem ok_div {a b:Int}{P:Int->Prop}(hb:0<b/\b<1073741824)(h:P (a / b)):OK (ME a b) P:=⟨_,if_pos hb,h⟩
theorem CU {a b:Str}{P:Str->Prop}(hb:a.length+b.length<=sizeLine)(h:P (a++b)):OK (C4 a b) P:=⟨_,if_pos hb,h⟩
theorem LG {a:List α}{b:α}{P:List α->Prop}(hb:a.length<sizeLine)(h:P (a++[b])):OK (Da a b) P:=⟨_,if_pos hb,h⟩
theorem GA {lo hi:Int}{n:Nat}{P:List Int->Prop}(hn:hi - lo=n)(h0:-1000000000<=lo/\lo<=1000000000)(h1:n<=sizeLine)(h:P ((List.range n).map fun (i:Nat)=>lo+(i:Int))):OK (Ij lo hi) P:=by
 have hs:sizeLine=16777216:=qzA;have e:(hi - lo).toNat=n:=by omega
 refine ⟨_,if_pos ⟨⟨by omega,by omega,by omega,by omega⟩,by omega⟩,?_⟩;rw [e];exact h
theorem GI {a:List α}{i:Int}(h0:0<=i)(h1:i<a.length)(h:∀ x,a[i.toNat]? = some x->P x):OK (atI a i) P:=by
 obtain ⟨k,rfl⟩:=qbB h0;have hk:k<a.length:=by omega
 refine ⟨a[k],CW (by simp [hk]),h _ ?_⟩;rw [Int.toNat_natCast];simp [hk]
theorem ok_last {a:List α}(h:a ≠ [])(k:P (a.getLast h)):OK (atI a (-1)) P:=by
 refine ⟨_,?_,k⟩;have:=atI_last a.dropLast (a.getLast h)
 rwa [List.dropLast_concat_getLast] at this
theorem Ft {f:α->S->Option (Fl S ρ)}{as:List α}{s0:S}(I:Nat->S->Prop)(J:S->Prop)(R:ρ->Prop){P:Fl S ρ->Prop}(h0:I 0 s0)
  (hs:∀ (i:Nat) a s,as[i]? = some a->I i s->OK (f a s) fun fl=>match fl with | .nx s'=>I (i+1) s' | .bk s'=>J s' | .rt r=>R r)
  (hn:∀ s,I as.length s->P (.nx s)) (hj:∀ s,J s->P (.nx s)) (hr:∀ r,R r->P (.rt r)):OK (Bt f as s0) P:=by
 have key:∀ (n i:Nat) (s:S),n=as.length - i->i<=as.length->I i s->OK (Bt f (as.drop i) s) P:=by
  intro n
  induction n with
  | zero =>
   intro i s hn0 hi hI;have e:i=as.length:=by omega
   subst e;rw [List.drop_length];exact A8 (hn s hI)
  | succ n ih =>
   intro i s hn0 hi hI;have hlt:i<as.length:=by omega
   rw [List.drop_eq_getElem_cons hlt];obtain ⟨fl,e,h⟩:=hs i as[i] s (by simp [hlt]) hI;show OK ((f as[i] s).bind _) P;rw [e]
   cases fl with
   | nx s'=>exact ih (i+1) s' (by omega) hlt h
   | bk s'=>exact A8 (hj s' h)
   | rt r=>exact A8 (hr r h)
 exact key as.length 0 s0 (by omega) (qsB _) h0
theorem Gf {f:α->S->Option (Fl S ρ)}{as:List α}{s0:S}(I:Nat->S->Prop){P:Fl S ρ->Prop}(h0:I 0 s0)
  (hs:∀ (i:Nat) a s,as[i]? = some a->I i s->OK (f a s) fun fl=>∃ s',fl = .nx s'/\I (i+1) s') (hn:∀ s,I as.length s->P (.nx s)):OK (Bt f as s0) P :=
 Ft I (fun _=>False) (fun _=>False) h0 (fun i a s ha hI=>(hs i a s ha hI).mono fun fl ⟨s',e,h⟩=>by subst e;exact h) hn (fun _ h=>h.elim) fun _ h=>h.elim
theorem Jw {c:S->Option Bool}{f:S->Option (Fl S ρ)}{s0:S}(I:S->Prop)(J:S->Prop)(R:ρ->Prop)(μ:S->Nat){P:Fl S ρ->Prop}(h0:I s0)(hμ:μ s0<1000000)
  (hs:∀ s,I s->OK (c s) fun b=>if b=true then OK (f s) fun fl=>match fl with | .nx s'=>I s'/\μ s'<μ s | .bk s'=>J s' | .rt r=>R r else P (.nx s))
  (hj:∀ s,J s->P (.nx s)) (hr:∀ r,R r->P (.rt r)):OK (FG c f Ky s0) P:=by
 have key:∀ (n:Nat) (s:S),μ s<n->I s->OK (FG c f n s) P:=by
  intro n
  induction n with
  | zero=>intro s h;exact absurd h (Nat.not_lt_zero _)
  | succ n ih =>
   intro s hlt hI;obtain ⟨b,e,h⟩:=hs s hI;show OK ((c s).bind _) P;rw [e]
   cases b with
   | false =>
    rw [if_neg qeB] at h;exact A8 h
   | true =>
    rw [if_pos rfl] at h;obtain ⟨fl,e2,h⟩:=h;show OK ((f s).bind _) P;rw [e2]
    cases fl with
    | nx s'=>exact ih s' (by have:=h.2;omega) h.1
    | bk s'=>exact A8 (hj s' h)
    | rt r=>exact A8 (hr r h)
 exact key Ky s0 (by unfold Ky;omega) h0
end
end L2
namespace Lasso
variable {α β:Type}
end Lasso
namespace Lasso
variable {α:Type}[DecidableEq α]
end Lasso
namespace L2
open PySem PySem.Spec PyProof.Rows
def Fv {α:Type}:List α->Option (α × List α)
 | []=>none
 | [a]=>some (a,[])
 | a::b::r=>(Fv (b::r)).bind fun p=>some (p.1,a::p.2)
theorem Paired.last {α β:Type}{R:α->β->Prop}:∀ {vs:List α}{as:List β}{a:β}{as':List β},Paired R vs as->Fv as=some (a,as')->∃ w,vs[vs.length - 1]? = some w/\R w a/\Paired R vs.dropLast as'
 | _,_,_,_,.nil,hp=>by cases hp
 | _,_,_,_,.cons h .nil,hp=>by
  cases hp;exact ⟨_,rfl,h,.nil⟩
 | _,_,_,_,.cons h (.cons h2 t),hp=>by
  obtain ⟨q,hq,e⟩:=qaA.mp hp;cases e;obtain ⟨w,hw,r,pr⟩:=Paired.last (.cons h2 t) hq;exact ⟨w,by simpa using hw,r,.cons h pr⟩
section
variable {X:Cx}{K:FZ9}{o:Expr}{to:TE}{name:Str}{apos cpos:Pos}{T id:String}{r:V->List V->Hp->VK->Prop}
theorem pe_bm0K (h:X.K=K)(pa:PlainAttrs T)(slot:Slot T name id)(hty:typeOf (.builtin id)=pure (.type "method_descriptor"))(hm:MtR X id r)(ho:PE X o to)
  (hbase:attributeBase o name X.env (eval o X.env)=eval o X.env:=by rfl) (hline:(apos.endLine == cpos.line)=true:=by rfl):PE X (.Call (.Attribute o name apos) [] [] cpos) (tBM0 K T r to):=h ▸ pe_bm0 pa slot hty hm ho hbase hline
end
section
variable {K:FZ9}{σ:St}{G H G1 H1 G0 H0:Hp}{α β:Type}[Rp α][Rp β]{te ti:TE}{tt:TT}{t u rest:TS}{D:Ends}{i j:Nat}{a:α}{m:Option α}{as:List α}{v:V}{p q:Addr}{vs:List V}
def era (H:Hp)(C:List Addr):Hp:=fun a=>if a∈C then none else H a
theorem Ir {C:List Addr}{b:Addr}(h:b∈C):era H C b=none:=if_pos h
theorem JF {C:List Addr}{b:Addr}(h:b ∉ C):era H C b=H b:=if_neg h
theorem era_same {C:List Addr}:Same (era H C) H:=fun b o e=>by
 by_cases h:b∈C
 ·rw [Ir h] at e;cases e
 ·rw [JF h] at e;exact e
theorem Ext.begin {C:List Addr}(s:Same G H):Ext G (era H C) G H:=⟨.refl _,s,era_same,fun _ h _=>h⟩
theorem Ext.past {C:List Addr}(x:Ext G0 H0 G H)(h0:∀ b∈C,H0 b=none)(y:Ext G (era H C) G1 H1):Ext G0 H0 G1 H1:=by
 refine ⟨x.gg.trans y.gg,y.gh,fun b o e=>?_,fun b g h=>?_⟩
 ·have hb:b ∉ C:=fun hc=>by
   rw [h0 b hc] at e;cases e
  exact y.hh b o (by rw [JF hb];exact x.hh b o e)
 ·have hb:b ∉ C:=fun hc=>h (h0 b hc);refine y.no b (x.no b g h) ?_;rw [JF hb]
  cases e:H0 b with
  | none=>exact absurd e h
  | some o =>
   rw [x.hh b o e];exact fun z=>nomatch z
def spW1 (K:FZ9){A:Type}[RpA A]{α:Type}[Rp α](m:List α->A->Option (List α)):Sp:=fun vs H Q _ =>
 ∃ G p xs us as a r,vs = .ref p::us/\Same G H/\Own K G H (.ref p) p xs as/\RpA.rel K G us a/\m as a=some r /\
  ∀ G2 H2 xs',Ext G (era H [p]) G2 H2->Own K G2 H2 (.ref p) p xs' r->Q .non H2
theorem spW1_len {A:Type}[RpA A]{m:List α->A->Option (List α)}{vs:List V}{Q:VK}{E:XK}(h:spW1 K m vs H Q E):vs.length=RpA.n A+1:=by
 obtain ⟨G,p,xs,us,as,a,r,rfl,_,_,h,_⟩:=h;rw [qfA,RpA.len h]
theorem IU {A:Type}[RpA A]{mA:Option A}{ta:TA}{c:A}{m:List α->A->Option (List α)}{r:List α}(hσ:σ[i]? = some (some v))(o:Own K G H v p vs as)(ea:AV K ta σ G mA)(ha:mA=some c)(hm:m as c=some r)(s:Same G H)
  (k:∀ G1 H1 G2 H2 vs',Ext G H G1 H1->Ext G1 (era H1 [p]) G2 H2->Own K G2 H2 v p vs' r->rest D σ H2):DS (Fe (FW (spW1 K m) [] E0 (Aq (Fa i) ta))) rest D σ H:=by
 have ov:=o.v;subst ov;refine ⟨_,hσ,?_⟩;refine ea G (.refl G) c ha H s _ fun us G1 H1 x h=>?_;exact ⟨G1,p,vs,us,as,c,r,qrA _,x.gh,o.ext x,h,hm,fun G2 H2 xs' y o'=>k G1 H1 G2 H2 xs' x y o'⟩
end
inductive Nt where
 | txt (x:Str)
 | tup (l:List Nt)
 | int (n:Int)
mutual
def Nt.dec:(a b:Nt)->Decidable (a=b)
 | .txt x,.txt y=>if h:x=y then .isTrue (by rw [h]) else .isFalse fun e=>h (by cases e;rfl)
 | .txt _,.tup _=>.isFalse fun e=>by cases e
 | .tup _,.txt _=>.isFalse fun e=>by cases e
 | .int m,.int n=>if h:m=n then .isTrue (by rw [h]) else .isFalse fun e=>h (by cases e;rfl)
 | .int _,.txt _=>.isFalse fun e=>by cases e
 | .int _,.tup _=>.isFalse fun e=>by cases e
 | .txt _,.int _=>.isFalse fun e=>by cases e
 | .tup _,.int _=>.isFalse fun e=>by cases e
 | .tup l,.tup m=>match Nt.decs l m with
  | .isTrue h=>.isTrue (by rw [h])
  | .isFalse h=>.isFalse fun e=>h (by cases e;rfl)
def Nt.decs:(l m:List Nt)->Decidable (l=m)
 | [],[]=>.isTrue rfl
 | [],_::_=>.isFalse fun e=>by cases e
 | _::_,[]=>.isFalse fun e=>by cases e
 | a::l,b::m=>match Nt.dec a b with
  | .isFalse h=>.isFalse fun e=>h (by cases e;rfl)
  | .isTrue h=>match Nt.decs l m with
   | .isTrue h2=>.isTrue (by rw [h,h2])
   | .isFalse h2=>.isFalse fun e=>h2 (by cases e;rfl)
end
instance ntDec:DecidableEq Nt:=Nt.dec
mutual
def Nt.dep:Nt->Nat
 | .txt _=>0
 | .int _=>0
 | .tup l=>Nt.deps l+1
def Nt.deps:List Nt->Nat
 | []=>0
 | a::l=>max (Nt.dep a) (Nt.deps l)
end
mutual
inductive RelN (K:FZ9)(H:Hp):V->Nt->Prop where
 | txt (x:Str) (z:x.length<=sizeLine):RelN K H (.str x) (.txt x)
 | int (n:Int):RelN K H (.int n) (.int n)
 | tup {a:Addr}{xs:List V}{ds:List Nt}(h:SqT K H a xs) (z:xs.length<=sizeLine) (r:RelNs K H xs ds) (l:ds[0]? = some (.txt "lamp")->H a=some (.tup xs)):RelN K H (.ref a) (.tup ds)
inductive RelNs (K:FZ9)(H:Hp):List V->List Nt->Prop where
 | nil:RelNs K H [] []
 | cons {x:V}{d:Nt}{xs:List V}{ds:List Nt}(h:RelN K H x d) (t:RelNs K H xs ds):RelNs K H (x::xs) (d::ds)
end
mutual
theorem RelN.mono {K:FZ9}{H H':Hp}(s:Same H H'):∀ {v:V}{d:Nt},RelN K H v d->RelN K H' v d
 | _,_,.txt x z=>.txt x z
 | _,_,.int n=>.int n
 | _,_,.tup h z r l=>.tup (s.tup h) z (RelNs.mono s r) fun e=>s _ _ (l e)
theorem RelNs.mono {K:FZ9}{H H':Hp}(s:Same H H'):∀ {v:List V}{d:List Nt},RelNs K H v d->RelNs K H' v d
 | _,_,.nil=>.nil
 | _,_,.cons h t=>.cons (RelN.mono s h) (RelNs.mono s t)
end
instance rpN:Rp Nt:=⟨RelN,fun s h=>RelN.mono s h⟩
theorem Hq {K:FZ9}{H:Hp}:∀ {xs:List V}{ds:List Nt},Paired (Rp.rel K H) xs ds->RelNs K H xs ds
 | _,_,.nil=>.nil
 | _,_,.cons h t=>.cons h (Hq t)
theorem Ji {K:FZ9}{H:Hp}:∀ {xs:List V}{ds:List Nt},RelNs K H xs ds->Paired (Rp.rel K H) xs ds
 | _,_,.nil=>.nil
 | _,_,.cons h t=>.cons h (Ji t)
theorem SqT.keep {K:FZ9}{H H':Hp}{a:Addr}{xs:List V}(s:TupK H H')(h:SqT K H a xs):SqT K H' a xs:=by
 rcases h with h|h
 ·exact .inl (s.rd _ _ h)
 ·exact .inr h
mutual
theorem RelN.keep {K:FZ9}{H H':Hp}(s:TupK H H'):∀ {v:V}{d:Nt},RelN K H v d->RelN K H' v d
 | _,_,.txt x z=>.txt x z
 | _,_,.int n=>.int n
 | _,_,.tup h z r l=>.tup (SqT.keep s h) z (RelNs.keep s r) fun e=>s.eq _ _ (l e)
theorem RelNs.keep {K:FZ9}{H H':Hp}(s:TupK H H'):∀ {v:List V}{d:List Nt},RelNs K H v d->RelNs K H' v d
 | _,_,.nil=>.nil
 | _,_,.cons h t=>.cons (RelN.keep s h) (RelNs.keep s t)
end
instance imN:Imm Nt:=⟨fun s h=>RelN.keep s h⟩
def isTxt:Hp->V->Nt->Prop:=fun _ v a=>(∃ x,v = .str x/\a = .txt x)\/∃ n,v = .int n/\a = .int n
def isU (K:FZ9)(R:Hp->V->Nt->Prop):Hp->V->Nt->Prop:=fun H v a=>isTxt H v a\/∃ t xs l,v = .ref t/\SqT K H t xs/\a = .tup l/\Paired (R H) xs l
theorem Kw (x y:Str):decide (Nt.txt x=Nt.txt y)=(x == y):=by
 rw [Ge];exact decide_eq_decide.mpr ⟨fun e=>by cases e;rfl,fun e=>by rw [e]⟩
theorem LD (m n:Int):decide (Nt.int m=Nt.int n)=(m == n):=by
 rw [show (m == n)=decide (m=n) from rfl];exact decide_eq_decide.mpr ⟨fun e=>by cases e;rfl,fun e=>by rw [e]⟩
theorem eqTxt {K:FZ9}:EqTy K 0 isTxt where
 fn:=fun _ _ h h'=>by
  rcases h with ⟨x,h1,e1⟩ | ⟨x,h1,e1⟩<;>rcases h' with ⟨y,h2,e2⟩ | ⟨y,h2,e2⟩<;>(subst h1;first | (cases h2;rw [e1,e2];done)|cases h2)
 eq:=fun A _ _ _ r1 r2 h h'=>by
  rcases h with ⟨x,h1,e1⟩ | ⟨x,h1,e1⟩<;>rcases h' with ⟨y,h2,e2⟩ | ⟨y,h2,e2⟩<;>subst h1<;>subst h2<;>subst e1<;>subst e2<;>obtain ⟨t,rfl⟩:=r1<;>obtain ⟨t',rfl⟩:=r2
  ·rw [Kw];exact SeqAt.EqAt.str_str _ _ _ _
  ·rw [decide_eq_false (fun e=>by cases e)];exact SeqAt.EqAt.str_int _ _ _ _
  ·rw [decide_eq_false (fun e=>by cases e)];exact SeqAt.EqAt.int_str _ _ _ _
  ·rw [LD];exact SeqAt.EqAt.int_int _ _ _ _
 rc:=fun A _ _ _ r1 r2 h h'=>by
  rcases h with ⟨x,h1,e1⟩ | ⟨x,h1,e1⟩<;>rcases h' with ⟨y,h2,e2⟩ | ⟨y,h2,e2⟩<;>subst h1<;>subst h2<;>subst e1<;>subst e2<;>obtain ⟨t,rfl⟩:=r1<;>obtain ⟨t',rfl⟩:=r2
  ·rw [Kw];exact ⟨SeqAt.RcAt.str_str _ _ _ _,SeqAt.RcNeAt.str_str _ _ _ _⟩
  ·rw [decide_eq_false (fun e=>by cases e)];exact ⟨SeqAt.RcAt.str_int _ _ _ _,SeqAt.RcNeAt.str_int _ _ _ _⟩
  ·rw [decide_eq_false (fun e=>by cases e)];exact ⟨SeqAt.RcAt.int_str _ _ _ _,SeqAt.RcNeAt.int_str _ _ _ _⟩
  ·rw [LD];exact ⟨SeqAt.RcAt.int_int _ _ _ _,SeqAt.RcNeAt.int_int _ _ _ _⟩
theorem tups_dec {as bs:List Nt}{n m:Nat}(hn:n=as.length)(hm:m=bs.length):((List.range (min n m)).all (fun j=>decide (as[j]? = bs[j]?)) && n == m)=decide (Nt.tup as=Nt.tup bs):=by
 subst hn;subst hm;by_cases hl:as.length=bs.length
 ·rw [<- hl,Nat.min_self,beq_self_eq_true,Bool.and_true,Lb as bs hl];exact decide_eq_decide.mpr ⟨fun e=>by rw [e],fun e=>by cases e;rfl⟩
 ·have h:(as.length == bs.length)=false:=by simpa using hl
  have ne:Nt.tup as≠Nt.tup bs:=fun e=>by
   cases e;exact hl rfl
  rw [h,Bool.and_false,decide_eq_false ne]
theorem eqNu {K:FZ9}{k:Nat}{R:Hp->V->Nt->Prop}(E:EqTy K k R):EqTy K (k+1) (isU K R):=by
 have fn:∀ {X:Cx}{pins:List (Addr × Obj)}{σ:St}{H:Hp}{s:Shared}{x:V}{a b:Nt},X.K=K->Inv X pins σ H s->isU K R H x a->isU K R H x b->a=b:=by
  intro X pins σ H s x a b hK I ha hb;rcases ha with ha | ⟨t,xs,l,rfl,h1,rfl,p1⟩
  ·rcases hb with hb | ⟨t,xs,l,e,_⟩
   ·exact eqTxt.fn (K:=K) hK I ha hb
   ·subst e;rcases ha with ⟨z,e,_⟩ | ⟨z,e,_⟩<;>cases e
  ·rcases hb with hb | ⟨t',ys,l',e,h2,rfl,p2⟩
   ·rcases hb with ⟨z,e,_⟩ | ⟨z,e,_⟩<;>cases e
   ·cases e;subst hK;have:=I.tuple_inj h1 h2;subst this;rw [Fq (F:=R H) (fun _ _ _ p q=>E.fn rfl I p q) p1 p2]
 have rc:∀ {X:Cx}{pins:List (Addr × Obj)}{σ:St}{H:Hp}{s:Shared}{x y:V}{u v:Value}{a b:Nt}(A:Around),X.K=K->Inv X pins σ H s->A.units+(k+1)<cLine->RelV x u->RelV y v->isU K R H x a->isU K R H y b ->
   SeqAt.RcAt A s u v (decide (a=b))/\SeqAt.RcNeAt A s u v (!decide (a=b)):=by
  intro X pins σ H s x y u v a b A hK I hu r1 r2 ha hb;rcases ha with ha | ⟨t,xs,l,rfl,h1,rfl,p1⟩
  ·rcases hb with hb | ⟨t',ys,l',rfl,h2,rfl,p2⟩
   ·exact eqTxt.rc (K:=K) A hK I (by omega) r1 r2 ha hb
   ·subst hK;obtain ⟨vs,ry,ply,_⟩:=I.tuple h2;rcases ha with ⟨z,rfl,rfl⟩ | ⟨z,rfl,rfl⟩<;>obtain ⟨tk,rfl⟩:=r1<;>cases r2<;>rw [decide_eq_false (fun e=>by cases e)]
    ·exact ⟨SeqAt.RcAt.str_tuple _ _ ply (by omega),SeqAt.RcNeAt.str_tuple _ _ ply (by omega)⟩
    ·exact ⟨SeqAt.RcAt.int_tuple _ _ ply (by omega),SeqAt.RcNeAt.int_tuple _ _ ply (by omega)⟩
  ·rcases hb with hb | ⟨t',ys,l',rfl,h2,rfl,p2⟩
   ·subst hK;obtain ⟨us,rx,plx,_⟩:=I.tuple h1;rcases hb with ⟨z,rfl,rfl⟩ | ⟨z,rfl,rfl⟩<;>obtain ⟨tk,rfl⟩:=r2<;>cases r1<;>rw [decide_eq_false (fun e=>by cases e)]
    ·exact ⟨SeqAt.RcAt.tuple_str _ _ plx (by omega),SeqAt.RcNeAt.tuple_str _ _ plx (by omega)⟩
    ·exact ⟨SeqAt.RcAt.tuple_int _ _ plx (by omega),SeqAt.RcNeAt.tuple_int _ _ plx (by omega)⟩
   ·cases r1;cases r2;subst hK;obtain ⟨us,rx,plx,_⟩:=I.tuple h1;obtain ⟨vs,ry,ply,_⟩:=I.tuple h2;have lx:=rx.length;have ly:=ry.length;have lpx:=Paired.length p1;have lpy:=Paired.length p2;have it:=HB E rfl I hu rx ry p1 p2;rw [<- tups_dec (as:=l) (bs:=l') (n:=us.toArray.size) (m:=vs.toArray.size) (by simp;omega) (by simp;omega)];exact ⟨SeqAt.RcAt.tuples plx ply (by omega) it,SeqAt.RcNeAt.tuples plx ply (by omega) it⟩
 refine ⟨fn,?_,rc⟩;intro X pins σ H s x y u v a b A hK I hu r1 r2 ha hb;have h:=(rc A hK I hu r1 r2 ha hb).1;rcases id ha with ha' | ⟨t,xs,l,rfl,h1,rfl,p1⟩
 ·rcases id hb with hb' | ⟨t',ys,l',rfl,h2,rfl,p2⟩
  ·exact eqTxt.eq (K:=K) A hK I (by omega) r1 r2 ha' hb'
  ·subst hK;obtain ⟨vs,ry,ply,_⟩:=I.tuple h2;rcases ha' with ⟨z,rfl,rfl⟩ | ⟨z,rfl,rfl⟩<;>obtain ⟨tk,rfl⟩:=r1<;>cases r2<;>rw [decide_eq_false (fun e=>by cases e)]
   ·exact SeqAt.EqAt.str_tuple _ _ ply (by omega)
   ·exact SeqAt.EqAt.int_tuple _ _ ply (by omega)
 ·rcases id hb with hb' | ⟨t',ys,l',rfl,h2,rfl,p2⟩
  ·subst hK;obtain ⟨us,rx,plx,_⟩:=I.tuple h1;rcases hb' with ⟨z,rfl,rfl⟩ | ⟨z,rfl,rfl⟩<;>obtain ⟨tk,rfl⟩:=r2<;>cases r1<;>rw [decide_eq_false (fun e=>by cases e)]
   ·exact SeqAt.EqAt.tuple_str _ _ plx (by omega)
   ·exact SeqAt.EqAt.tuple_int _ _ plx (by omega)
  ·cases r1;cases r2;by_cases e:t=t'
   ·subst e;have:=fn hK I ha hb;rw [decide_eq_true this];exact SeqAt.EqAt.same _
   ·exact SeqAt.EqAt.of_refs e h
def isN (K:FZ9)(d:Nat):Hp->V->Nt->Prop:=fun H v a=>RelN K H v a/\a.dep<=d
theorem isNs {K:FZ9}{H:Hp}{d:Nat}:∀ {xs:List V}{l:List Nt},RelNs K H xs l->Nt.deps l<=d->Paired (isN K d H) xs l
 | _,_,.nil,_=>.nil
 | _,_,.cons h t,hd=>by
  unfold Nt.deps at hd;exact .cons ⟨h,by omega⟩ (isNs t (by omega))
theorem eqN {K:FZ9}:∀ d:Nat,EqTy K d (isN K d)
 | 0=>eqTxt.imp fun H v a ⟨h,hd⟩=>by
  cases h with
  | txt x z=>exact .inl ⟨x,rfl,rfl⟩
  | int n=>exact .inr ⟨n,rfl,rfl⟩
  | tup h z r l =>
   unfold Nt.dep at hd;omega
 | d+1=>(eqNu (eqN d)).imp fun H v a ⟨h,hd⟩=>by
  cases h with
  | txt x z=>exact .inl (.inl ⟨x,rfl,rfl⟩)
  | int n=>exact .inl (.inr ⟨n,rfl,rfl⟩)
  | tup h z r l =>
   unfold Nt.dep at hd;exact .inr ⟨_,_,_,rfl,h,rfl,isNs r (by omega)⟩
def rEqN (K:FZ9):R2:=fun x y H Q=>∃ a b:Nt,isN K 180 H x a/\isN K 180 H y b/\Q (.bl (decide (a=b))) H
def rNeN (K:FZ9):R2:=fun x y H Q=>∃ a b:Nt,isN K 180 H x a/\isN K 180 H y b/\Q (.bl (!decide (a=b))) H
theorem op_eqN {X:Cx}{K:FZ9}{j:Nat}(hK:X.K=K)(hr:Room j X.A):OpR X (compareOp .Eq) (rEqN K):=by
 intro pins s σ H x y v u Q I rx ry h;obtain ⟨a,b,h1,h2,q⟩:=h;exact ((eqN 180).rc X.A hK I (by have:=hr.un;omega) rx ry h1 h2).1 _ _ _ _ ⟨.bl _,H,I,rfl,q⟩
theorem op_neN {X:Cx}{K:FZ9}{j:Nat}(hK:X.K=K)(hr:Room j X.A):OpR X (compareOp .NotEq) (rNeN K):=by
 intro pins s σ H x y v u Q I rx ry h;obtain ⟨a,b,h1,h2,q⟩:=h;exact ((eqN 180).rc X.A hK I (by have:=hr.un;omega) rx ry h1 h2).2 _ _ _ _ ⟨.bl _,H,I,rfl,q⟩
def eqNO (a b:Nt):Option Bool:=if a.dep<=180/\b.dep<=180 then some (decide (a=b)) else none
def neNO (a b:Nt):Option Bool:=if a.dep<=180/\b.dep<=180 then some (!decide (a=b)) else none
section
variable {K:FZ9}{σ:St}{G:Hp}{ta tb te:TE}{m1 m2 md:Option Nt}
theorem ev_eqN (ea:EV K ta σ G m1)(eb:EV K tb σ G m2):EV K (tOp (rEqN K) ta tb) σ G (m1.bind fun a=>m2.bind fun b=>eqNO a b) :=
 Bd (fun s ra rb e Q k=>by
  obtain ⟨⟨h1,h2⟩,rfl⟩:=BD e
  exact ⟨_,_,⟨RelN.mono s ra,h1⟩,⟨RelN.mono s rb,h2⟩,k _ _ _ (.refl s) rfl⟩) ea eb
theorem ev_neN (ea:EV K ta σ G m1)(eb:EV K tb σ G m2):EV K (tOp (rNeN K) ta tb) σ G (m1.bind fun a=>m2.bind fun b=>neNO a b) :=
 Bd (fun s ra rb e Q k=>by
  obtain ⟨⟨h1,h2⟩,rfl⟩:=BD e
  exact ⟨_,_,⟨RelN.mono s ra,h1⟩,⟨RelN.mono s rb,h2⟩,k _ _ _ (.refl s) rfl⟩) ea eb
theorem Bl {m:Option Str}(e:EV K te σ G m):EV K te σ G (m.bind fun x=>some (Nt.txt x)):=by
 clear 7;obtain ⟨x,hx,hc⟩:=qaA.mp hc;cases hc;exact e G1 s1 x hx H sH Q fun v G2 H2 x2 ⟨e,z⟩=>k v G2 H2 x2 (by subst e;exact .txt _ z)
def DZ:Nt->Option Str
 | .txt x=>some x
 | _=>none
def C1:Nt->Option (Tp Nt)
 | .tup l=>some ⟨l⟩
 | _=>none
theorem ES (e:EV K te σ G md):EV K te σ G (md.bind fun d=>DZ d):=by
 clear 7;obtain ⟨d,hd,hc⟩:=qaA.mp hc;refine e G1 s1 d hd H sH Q fun v G2 H2 x r=>?_
 cases r with
 | txt y z =>
  cases hc;exact k _ _ _ x ⟨rfl,z⟩
 | int n=>cases hc
 | tup h z r l=>cases hc
theorem BO (e:EV K te σ G md):EV K te σ G (md.bind fun d=>C1 d):=by
 clear 7;obtain ⟨d,hd,hc⟩:=qaA.mp hc;refine e G1 s1 d hd H sH Q fun v G2 H2 x r=>?_
 cases r with
 | txt y z=>cases hc
 | int n=>cases hc
 | tup h z r l =>
  cases hc;exact k _ _ _ x ⟨_,_,rfl,h,z,Ji r⟩
end
section
variable {X:Cx}{K:FZ9}
theorem Kv (h:X.K=K):SlR X (rSlT K):=h ▸ sl_tup
theorem op_inK (h:X.K=K):OpR X (compareOp .In) (rIn K false):=h ▸ Ly
end
section
variable {K:FZ9}{σ:St}{G:Hp}{α:Type}[Rp α]{ta tb tc te:TE}{t1 t2:TO}{ia ib ic:Option Int}{m1 m2:Option (Option Int)}
def Jb {α:Type}(l:List α)(lo hi:Option Int):Option (Tp α):=if ¬ (HT.sIx l.length 0 lo=0/\HT.sIx l.length l.length hi=l.length) then some ⟨cutA l lo hi⟩ else none
theorem IT {ma:Option (Tp α)}(ea:EV K ta σ G ma)(e1:OV t1 σ G m1)(e2:OV t2 σ G m2):EV K (tSl (rSlT K) ta t1 t2) σ G (ma.bind fun a=>m1.bind fun lo=>m2.bind fun hi=>Jb a.l lo hi):=by
 clear 7;obtain ⟨a,ha,hc⟩:=qaA.mp hc;obtain ⟨lo,hlo,hc⟩:=qaA.mp hc;obtain ⟨hi,hhi,hc⟩:=qaA.mp hc;obtain ⟨hw,rfl⟩:=BD hc;clear 8 ea a ha;refine e1 G2 (s1.trans x2.gg) lo hlo H2 x2.gh _ fun G3 H3 x3=>?_;refine e2 G3 (s1.trans (x2.trans x3).gg) hi hhi H3 x3.gh _ fun G4 H4 x4=>?_;obtain ⟨l,xs,rfl,h,z,p⟩:=Rp.mono (x3.trans x4).gg r2;have hl:=Paired.length p;refine ⟨l,xs,rfl,x4.gh.tup h,by rw [hl];exact hw,fun q hq=>?_⟩;have hg:G4 q=none:=x4.gh.free hq;refine k _ (upd G4 q (.tup (Hy xs lo hi))) _ (((x2.trans x3).trans x4).trans ⟨Same.new hg,fun b o e=>?_,Same.new hq,fun b h1 h2=>?_⟩) ⟨q,_,rfl,.inl (.inl Af),qtA (ER _ _ _) z,Paired.imp' (fun _ _ r=>Rp.mono (Same.new hg) r) (Paired.cut p lo hi)⟩
 ·by_cases hb:b=q
  ·subst hb;rw [Af] at e ⊢;exact e
  ·rw [Am hb] at e ⊢;exact x4.gh b o e
 ·have hb:b≠q:=fun e=>h2 (by rw [e];exact hq);rw [Am hb];exact h1
class Flat (α:Type) [Rp α] [DecidableEq α]:Prop where
 fl:∀ {K:FZ9}{H:Hp}{v:V}{a:α},Rp.rel K H v a->F1 v=true
 eq:∀ {K:FZ9}{H H':Hp}{v u:V}{a b:α},Rp.rel K H v a->Rp.rel K H' u b->eqV v u=decide (a=b)
instance flStr:Flat Str:=⟨fun h=>by obtain ⟨rfl,_⟩:=h;rfl,fun h h'=>by obtain ⟨rfl,_⟩:=h;obtain ⟨rfl,_⟩:=h';exact Ge _ _⟩
theorem Ju [DecidableEq α][Flat α]{H:Hp}:∀ {xs:List V}{as:List α},Paired (Rp.rel K H) xs as->xs.all F1=true
 | _,_,.nil=>rfl
 | _,_,.cons h t=>by rw [List.all_cons,Flat.fl h,Ju t];rfl
theorem LI [DecidableEq α][Flat α]{H H':Hp}{v:V}{a:α}(hv:Rp.rel K H' v a):∀ {xs:List V}{as:List α},Paired (Rp.rel K H) xs as->inV v xs=decide (a∈as)
 | _,_,.nil=>by simp [inV]
 | _,_,.cons (b:=b) h t=>by
  have ih:=LI hv t;unfold inV at ih ⊢;rw [List.any_cons,ih,Flat.eq h hv];apply Bool.eq_iff_iff.mpr;simp only [Bool.or_eq_true,decide_eq_true_iff,qiA];exact ⟨fun h=>h.imp Eq.symm id,fun h=>h.imp Eq.symm id⟩
theorem ev_inT [DecidableEq α][Flat α]{ma:Option α}{ml:Option (Tp α)}(ea:EV K ta σ G ma)(eb:EV K tb σ G ml):EV K (tOp (rIn K false) ta tb) σ G (ma.bind fun a=>ml.bind fun l=>some (decide (a∈l.l))) :=
 Bd (fun s ra rb e Q k=>by
  cases e;obtain ⟨l,xs,rfl,h,z,p⟩:=rb
  exact ⟨l,xs,rfl,.inr (s.tup h),Flat.fl ra,Ju p,by rw [if_neg qeB,LI ra p];exact k _ _ _ (.refl s) rfl⟩) ea eb
end
mutual
def Nt.toD:Nt->D
 | .txt x=>.str x
 | .int n=>.int n
 | .tup l=>.tup (Nt.toDs l)
def Nt.toDs:List Nt->List D
 | []=>[]
 | a::l=>Nt.toD a::Nt.toDs l
end
mutual
theorem RelN.toD {K:FZ9}{H:Hp}:∀ {v:V}{a:Nt},RelN K H v a->RelD K H v a.toD
 | _,_,.txt x z=>by unfold Nt.toD;exact .str x z
 | _,_,.int n=>by unfold Nt.toD;exact .int n
 | _,_,.tup h z r _=>by unfold Nt.toD;exact .tup h z (RelNs.toD r)
theorem RelNs.toD {K:FZ9}{H:Hp}:∀ {xs:List V}{l:List Nt},RelNs K H xs l->RelDs K H xs (Nt.toDs l)
 | _,_,.nil=>by unfold Nt.toDs;exact .nil
 | _,_,.cons h t=>by unfold Nt.toDs;exact .cons (RelN.toD h) (RelNs.toD t)
end
instance tdN:ToD Nt:=⟨Nt.toD,fun h=>RelN.toD h⟩
theorem Gv {X:Cx}{x:Str}{a:Addr}{pos:Pos}(hg:Gl X x)(h:X.mg x=some (.ref a))(hd:(x == ("__debug__" : Str))=false:=by decide):PE X (.Name x pos) (tC (.ref a)) :=
 D3 (u:=.ref a) hg h rfl hd
section
variable {K:FZ9}{σ:St}{G:Hp}{ta:TE}
theorem Bu {t:TA}{n:Nat}{ml:Option (List Nt)}(e:LV K t σ G n ml)(z:n<=sizeLine:=by decide):EV K (Lw t) σ G (ml.bind fun l=>some (Nt.tup l)) :=
 fun G1 s1 c hc H sH Q k=>by
  obtain ⟨l,hl,hc⟩:=qaA.mp hc;cases hc;refine e G1 s1 l hl H sH _ fun vs G2 H2 x2 hl hp=>⟨by omega,fun p h=>?_⟩;exact k _ _ _ (x2.trans (.new x2.gh h)) (.tup (SqT.of Af) (by omega) (Hq (Paired.imp' (fun _ _ r=>Rp.mono (Same.new (x2.gh.free h)) r) hp)) fun _=>Af)
end
class NoN (α:Type) [Rp α]:Prop where
 no_non:∀ {K:FZ9}{H:Hp}{x:V}{a:α},Rp.rel K H x a->x ≠ .non
 ne:∀ {K:FZ9}{X:Cx}{pins:List (Addr × Obj)}{σ:St}{H:Hp}{s:Shared}{x:V}{u:Value}{a:α}(A:Around),X.K=K->Inv X pins σ H s->A.units<cLine->RelV x u->Rp.rel K H x a ->
  (SeqAt.EqAt A s .none u false/\SeqAt.RcAt A s .none u false/\SeqAt.RcNeAt A s .none u true)/\SeqAt.EqAt A s u .none false/\SeqAt.RcAt A s u .none false/\SeqAt.RcNeAt A s u .none true
class Fix (α:Type) [Rp α]:Prop where
 fx:∀ {K:FZ9}{G G':Hp}{v:V}{a:α},Rp.rel K G v a->Rp.rel K G' v a
end L2
namespace L3
open PySem
end L3
namespace L2
open PySem PySem.Spec PyProof.Rows
inductive SI where
 | s (x:Str)
 | i (n:Int)
 deriving DecidableEq
theorem bt_sum:bootBuiltins "sum" = some (.builtin "sum"):=by decide +kernel
theorem ints_atF {ns:List Int}{its:List Value}(r:Vals (ns.map V.int) its){i:Nat}{v:Value}(h:its.toArray[i]? = some v):∃ t,v = .int (ns.getD i 0) t:=by
 have h:its[i]? = some v:=by simpa using h
 have hl:=r.length;rw [qdA] at hl;obtain ⟨hi,_⟩:=qoA.mp h
 have e:(ns.map V.int)[i]? = some (V.int (ns.getD i 0)):=by
  have:i<ns.length:=by omega
  simp [this]
 obtain ⟨u,hu,ru⟩:=r.get e;rw [h] at hu;cases hu;exact ru
theorem GO (ns:List Int):∀ j,j<=ns.length->preSum (fun i=>ns.getD i 0) j=(ns.take j).sum
 | 0,_=>by simp [preSum]
 | j+1,h=>by
  have hj:j<ns.length:=by omega
  show preSum (fun i=>ns.getD i 0) j+ns.getD j 0=_;rw [GO ns j (by omega),List.take_succ,List.sum_append];simp [hj]
theorem FQ {K:FZ9}{H:Hp}:∀ {xs:List V}{ns:List Int},Paired (Rp.rel K H) xs ns->xs=ns.map V.int
 | _,_,.nil=>rfl
 | _,_,.cons h t=>by
  cases h;rw [List.map_cons,FQ t]
structure Mp (α:Type) where
 l:List (Int × α)
def Jl (K:FZ9):V->List V->Hp->VK->Prop:=fun x vs H Q=>∃ l b xs zs,x = .ref l/\vs=[.ref b]/\H l=some (.lst xs)/\SqT K H b zs/\xs.length+zs.length<=sizeLine/\Q .non (upd H l (.lst (xs++zs)))
theorem KS {X:Cx}{K:FZ9}(hK:X.K=K):MtM X "list.extend" (Jl K):=by
 subst hK;intro pins s σ H x vs v us Q I rx rv h;obtain ⟨l,b,xs,zs,rfl,rfl,hH,hB,hz,q⟩:=h;cases rx;obtain ⟨u,rfl,ru⟩:=rv.one;cases ru;obtain ⟨z,its,n,r,hl,e⟩:=I.lstM hH;obtain ⟨its2,r2,⟨o2,g2,c2,n2,d2⟩,_⟩:=I.tuple hB;have h1:=r.length;have h2:=r2.length;have hsz:its.toArray.size+its2.toArray.size<=sizeLine:=by rw [qfB,qfB];omega
 refine wpAny_call_entry F.slot_list_extend ⟨_,e,rfl⟩ F.entry_list_extend ?_ (F.args_list_extend_2 _ _);unfold Builtin.«list.extend»;refine qbA (qcA ?_);dsimp only;unfold Builtin.List.listExtendWith;refine qbA (wpAny_typeOf (T := "tuple") ⟨o2,g2,c2⟩ ?_);have ht:(Value.type "tuple" == Value.type "tuple")=true:=by rfl
 rw [if_pos (by rw [ht];simp)];refine qbA (listItems_at g2 d2 (qbA (listItems_at e rfl ?_)));rw [if_neg (by rw [Hd hsz,Bool.and_false];exact qeB)];refine qbA (listUpdate_at e rfl ?_ (by omega) (by rw [Array.size_append];omega));refine qcA ⟨_,rfl,.non,_,I.lset (its':=its++its2) (t':=s.toks) hH e (by simp) (r.append r2) ?_,rfl,q⟩;rw [qeA];omega
structure MpS (α:Type) where
 l:List (Str × α)
def Cf:List (Str × Int)->Str->Option Int
 | [],_=>none
 | (y,i)::r,x=>cond (decide (y=x)) (some i) (Cf r x)
def EntC:List DictEntry->List (Str × Int)->Prop
 | [],[]=>True
 | e::es,q::l=>(∃ t u,e.key = .str q.1 t/\e.val = .int q.2 u)/\EntC es l
 | _,_=>False
structure CDict (w:World)(K:FZ9)(a:Addr)(l:List (Str × Int)):Prop where
 lo:(a == sysModules)=false
 ex:∃ es n,K.lookup a=some ⟨.type "dict",none,.dict es n,#[]⟩/\PySem.W.KeysLit w.params es.toList/\EntC es.toList l
theorem KC:∀ {es:List DictEntry}{l:List (Str × Int)}(x:Str),EntC es l ->
  match Cf l x with
  | some i=>∃ u,(es.find? fun e=>Value.isStrOf x e.key).map (·.val)=some (.int i u)
  | none=>(es.find? fun e=>Value.isStrOf x e.key).map (·.val)=none
 | [],[],x,_=>rfl
 | e::es,(y,i)::l,x,⟨⟨t,u,h1,h2⟩,r⟩=>by
  have ih:=KC x r
  have hk:Value.isStrOf x e.key=decide (y=x):=by
   rw [h1];show Value.isStrOf x (.str y t)=_;by_cases q:y=x
   ·subst q;simp [Value.isStrOf]
   ·rw [decide_eq_false q];simp [Value.isStrOf,q]
  unfold Cf;rw [List.find?_cons,hk];by_cases q:y=x
  ·rw [decide_eq_true q];exact ⟨u,by rw [<- h2];rfl⟩
  ·rw [decide_eq_false q];exact ih
section
variable {X:Cx}{i o:Expr}{ty:TE}{pos:Pos}{a:Addr}{w:World}{K:FZ9}{l:List (Str × Int)}
theorem CDict.map {prog:Program}{h:Heap}(C:CDict w K a l)(X:K.In h):∃ f,h.MapOf (strKind prog w) a f/\∀ x,match Cf l x with
  | some i=>∃ u,f x=some (.int i u)
  | none=>f x=none:=by
 obtain ⟨es,n,hl,hk,he⟩:=C.ex;refine ⟨_,PySem.W.mapOf_K X hl hk,fun x=>?_⟩;have:=KC x he;obtain ⟨es⟩:=es
 show match Cf l x with
  | some i=>∃ u,findBy Value.isStrOf _ x=some (.int i u)
  | none=>findBy Value.isStrOf _ x=none
 unfold findBy;rw [List.find?_toArray];exact this
def tInC (l:List (Str × Int))(ty:TE):TE:=fun σ H Q=>ty σ H fun y H1=>∃ z,y = .str z/\Q (.bl (Cf l z).isSome) H1
def tGetC (l:List (Str × Int))(ty:TE):TE:=fun σ H Q=>ty σ H fun y H1=>∃ z v,y = .str z/\Cf l z=some v/\Q (.int v) H1
theorem pc_inC (hw:X.w=w)(hK:X.K=K)(C:CDict w K a l)(hi:PE X i ty)(ho:PE X o (tC (.ref a))):PC X .In i o (tInC l ty):=by
 subst hw hK;intro pins s σ H Q I h;refine thn (hi pins s σ H _ I h) fun iv s1 ⟨y,H1,I1,ry,z,ey,q1⟩=>thn (ho pins s1 σ H1 (fun v H'=>v = .ref a/\H'=H1) I1 ⟨rfl,rfl⟩) fun u s2 ⟨x,H2,I2,rx,e1,e2⟩=>?_;subst ey e1 e2;obtain ⟨t,rfl⟩:=ry;obtain rfl:u=Value.ref a:=rx;obtain ⟨f,hf,hx⟩:=C.map (prog:=X.prog) (fun b o e=>I2.kIn b o e);refine wpAny_in_of (strKind_is X.prog X.w z t) C.lo hf ⟨.bl (f z).isSome,H2,I2.tok _,rfl,?_⟩;have hz:=hx z
 cases e:Cf l z with
 | some i =>
  rw [e] at hz q1;obtain ⟨u,hz⟩:=hz;rw [hz];exact q1
 | none =>
  rw [e] at hz q1;rw [show f z=none from hz];exact q1
theorem pe_inC (hw:X.w=w)(hK:X.K=K)(C:CDict w K a l)(hi:PE X i ty)(ho:PE X o (tC (.ref a)))(hm:behindInMarks .In o=false):PE X (.Compare i [.In] [o] pos) (tInC l ty):=pe_cmp (pc_inC hw hK C hi ho) hm
theorem pe_getC (hw:X.w=w)(hK:X.K=K)(C:CDict w K a l)(ho:PE X o (tC (.ref a)))(hi:PE X i ty)(hs:NoSl i):PE X (.Subscript o i pos) (tGetC l ty):=by
 subst hw hK;intro pins s σ H Q I h;refine subD_of PySem.F.slot_dict_getitem.lookup hs (thn (ho pins s σ H (fun v H'=>v = .ref a/\H'=H) I ⟨rfl,rfl⟩) fun u s1 ⟨x,H1,I1,rx,e1,e2⟩=>?_);subst e1 e2;refine thn (hi pins s1 σ H1 _ I1 h) fun iv s2 ⟨y,H2,I2,ry,z,v,ey,g,q2⟩=>?_;subst ey;obtain ⟨t,rfl⟩:=ry;obtain rfl:u=Value.ref a:=rx;obtain ⟨f,hf,hx⟩:=C.map (prog:=X.prog) (fun b o e=>I2.kIn b o e);have hz:=hx z;rw [g] at hz;obtain ⟨u,hz⟩:=hz;exact ⟨hf.typeIs,wpAny_getItem_of (strKind_is X.prog X.w z t) hf hz ⟨.int v,H2,I2.tok _,⟨u,rfl⟩,q2⟩⟩
end
section
variable {K:FZ9}{σ:St}{G:Hp}{ty:TE}{l:List (Str × Int)}
theorem ev_inC {mx:Option Str}(e:EV K ty σ G mx):EV K (tInC l ty) σ G (mx.bind fun x=>some (Cf l x).isSome):=by
 clear 7;obtain ⟨x,hx,hc⟩:=qaA.mp hc;cases hc;clear 8 e x hx;exact ⟨x,r2.1,k _ G2 H2 x2 rfl⟩
theorem ev_getC {mx:Option Str}(e:EV K ty σ G mx):EV K (tGetC l ty) σ G (mx.bind fun x=>Cf l x):=by
 clear 7;obtain ⟨x,hx,hc⟩:=qaA.mp hc;clear 8 e x hx;exact ⟨x,c,r2.1,hc,k _ G2 H2 x2 rfl⟩
end
end L2
namespace HT
open PySem PySem.Spec PyProof.Rows
end HT
namespace L2
open PySem PySem.Spec PyProof.Rows
theorem se_int {i:Int}{j:Nat}{p:Pos}{es:List Expr}{env:Env}:starEach (.Constant (.int i) j p::es) env=(false,eval (.Constant (.int i) j p) env)::starEach es env:=by
 rw [starEach];intro _ _ h;cases h
theorem se_bin {a b:Expr}{p:Pos}{o:Operator}{es:List Expr}{env:Env}:starEach (.BinOp a o b p::es) env=(false,eval (.BinOp a o b p) env)::starEach es env:=by
 rw [starEach];intro _ _ h;cases h
section
variable {X:Cx}{es:List Expr}{t:TA}{te:TE}{p:Pos}
theorem pa_cI {i:Int}{j:Nat}(hr:PA X es t):PA X (.Constant (.int i) j p::es) (Aq (tC (.int i)) t):=A2 A5 hr se_int
theorem pa_cB {o:Operator}{a b:Expr}(h:PE X (.BinOp a o b p) te)(hr:PA X es t):PA X (.BinOp a o b p::es) (Aq te t):=A2 h hr se_bin
end
structure Rk where
 l:List SI
def Itv (K:FZ9)(a:Addr)(n:Nat):It :=
 ⟨fun i H=>∃ xs x,SqL K H a xs/\xs.length=n/\i<n/\xs[n - 1 - i]? = some x,fun i H x H'=>H'=H/\∀ xs,SqL K H a xs->xs[n - 1 - i]? = some x,fun i H=>i=n/\∃ xs,SqL K H a xs/\xs.length=n⟩
theorem turn_rev {P:Program}{w:World}{K:FZ9}{tg:Expr}(a it:Addr)(n:Nat):Turn P w K tg (Itv K a n) [it] it (fun i h=>h.IsRevIter it a ((n:Int) - 1 - (i:Int))) where
 mem:=by simp
 obj:=fun i h st b hb=>by
  have e:b=it:=by simpa using hb
  subst e;obtain ⟨o,e,c,d⟩:=st;exact ⟨o,e,fun v z=>by rw [d] at z;cases z⟩
 keep:=fun i h h' st k=>st.at fun o e=>k it (by simp) o e
 item:=by
  intro X hP hw hK hc i pins s σ H E I hf st hg;subst hP hw hK;obtain ⟨xs,x,hq,hn,hi,hx⟩:=hg;obtain ⟨its,rv,p,hz⟩:=I.list hq;obtain ⟨u,hu,ru⟩:=rv.get hx;obtain ⟨f0,f1,f2,f3,f4,f5⟩:=hf it (by simp);have e:(n:Int) - 1 - (i:Int)=((n - 1 - i:Nat):Int):=by omega
  rw [e] at st;refine wpAny_pyNext_rev_item st p.isList (x:=u) (by simpa using hu) fun h' st' sb=>?_;have I1:Inv X pins σ H { s with heap:=h' }:=I.turned (t':=s.toks) (fun b o hb e=>(sb.2 b hb).trans e) f0 f1 f3 f4 f5;have e2:((n - 1 - i:Nat):Int) - 1=(n:Int) - 1 - ((i+1:Nat):Int):=by omega
  rw [e2] at st';obtain ⟨o,e,c,d⟩:=id st';exact ⟨u,rfl,IN (s:={ s with heap:=h' }) e c d (by decide) ⟨x,H,I1,ru,⟨rfl,fun ys hy=>by rw [I.list_inj hy hq];exact hx⟩,st',fun b hb=>(hf b hb).1⟩⟩
 done:=by
  intro X hP hw hK hc i pins s σ H E I hf st hg;subst hP hw hK;obtain ⟨rfl,xs,hq,hn⟩:=hg;obtain ⟨f0,f1,f2,f3,f4,f5⟩:=hf it (by simp);have e:(i:Int) - 1 - (i:Int) = -1:=by omega
  rw [e] at st;exact wpAny_pyNext_rev_end (I.ok.hd hc) st fun h' eb=>⟨rfl,I.turned (t':=s.toks) (fun b o hb e=>eb b o hb e) f0 f1 f3 f4 f5⟩
 self:=fun _ _ _ _ _ st h=>wpAny_pyIter_revIter st h
def iRev (K:FZ9)(ta:TA):TI:=fun σ H R=>ta σ H fun vs H1=>∃ a xs,vs=[.ref a]/\SqL K H1 a xs/\R (Itv K a xs.length) H1
theorem Hu:bootBuiltins "reversed" = some (.type "reversed"):=by decide +kernel
section
variable {K:FZ9}{σ:St}{G:Hp}{α:Type}[Rp α]{ta:TE}
theorem Paired.rev {β:Type}{F:V->β->Prop}:∀ {xs:List V}{as:List β},Paired F xs as->Paired F xs.reverse as.reverse
 | _,_,.nil=>.nil
 | _,_,.cons r t=>by
  rw [List.reverse_cons,List.reverse_cons];exact Paired.app (Paired.rev t) (.cons r .nil)
theorem iw_rev {la:Option (List α)}(ea:EV K ta σ G la):IW K (iRev K (Aq ta CM)) σ G (la.bind fun a=>some a.reverse):=by
 intro G1 s1 a ha H sH R k;obtain ⟨b,hb,ha⟩:=qaA.mp ha;cases ha;clear 8 ea b hb;obtain ⟨l,xs,rfl,h,z,p⟩:=r2;refine ⟨l,xs,rfl,.inl (x2.gh.rd h),k _ xs.reverse G2 H2 x2 ⟨fun i H' s hi=>?_,fun H' s=>?_,fun i H' x H'' s hi hy=>?_⟩ (by rw [List.length_reverse];exact z) (Paired.rev p)⟩
 ·rw [List.length_reverse] at hi;exact ⟨xs,xs[xs.length - 1 - i]'(by omega),.inl (s.rd h),rfl,hi,qpA (by omega)⟩
 ·rw [List.length_reverse];exact ⟨rfl,xs,.inl (s.rd h),rfl⟩
 ·rw [List.length_reverse] at hi;refine ⟨hy.1,?_⟩;rw [List.getElem?_reverse (by omega)];exact hy.2 xs (.inl (s.rd h))
end
def Kf:D->Option (Tp D)
 | .tup l=>some ⟨l⟩
 | _=>none
def rSumG (K:FZ9):List V->Hp->VK->Prop:=fun vs H Q=>∃ (l:Addr) (ns:List Int),vs=[.ref l]/\SqL K H l (ns.map V.int)/\Q (.int ns.sum) H
theorem M7 {X:Cx}{K:FZ9}(hc:X.calm=true)(h:X.K=K):EF X (.builtin "sum") (rSumG K):=by
 subst h;intro pins s σ H vs us Q I r h;obtain ⟨l,ns,rfl,hl,q⟩:=h;obtain ⟨u,rfl,ru⟩:=IM r;cases ru;obtain ⟨its,rv,pl,_⟩:=I.list hl;have hL:=pl.isList;have hlt:l<s.heap.objs.size:=by obtain ⟨_,e,_⟩:=hL;exact qwA e
 have hlen:=rv.length;rw [qdA] at hlen;refine call_sum_walkG (wpAny_pyIter_list hL ?_);refine ⟨_,_,_,_,_,_,fun i=>ns.getD i 0,rfl,Walks.list (A:=X.A.in1) (I.ok.hd hc) _ l (qoB hlt) its.toArray,⟨⟨_,qyA _ rfl,rfl,rfl⟩,hL.push _⟩,?_,?_,fun h' tk' t' hk=>?_⟩
 ·intro b hb';have:b=s.heap.objs.size\/b=l:=by simpa using hb'
  rcases this with rfl|rfl
  ·exact qwA (qyA _ rfl)
  ·exact Nat.lt_trans hlt (qwA (qyA _ rfl))
 ·intro i v hP;exact ints_atF rv hP
 ·rw [GO ns _ (by rw [qfB];omega),List.take_of_length_le (by rw [qfB];omega)];refine ⟨.int _,H,I.kept fun b o eb=>?_,⟨t',rfl⟩,q⟩;refine hk b o (fun hm=>?_) (qxA _ eb);have:b=s.heap.objs.size:=by simpa using hm
  exact absurd (this ▸ qwA eb) (quA _)
section
variable {K:FZ9}{σ:St}{G:Hp}{te ta:TE}
theorem ev_sumG {lb:Option (List Int)}(ea:EV K ta σ G lb):EV K (tCB (rSumG K) (Aq ta CM)) σ G (lb.bind fun ns=>some ns.sum):=by
 clear 7;obtain ⟨ns,hns,hc⟩:=qaA.mp hc;cases hc;clear 8 ea ns hns;obtain ⟨l,xs,rfl,h,z,p⟩:=r2;cases FQ p;exact ⟨l,ns,rfl,.inl (x2.gh.rd h),k _ _ _ x2 rfl⟩
theorem M1 {md:Option D}(e:EV K te σ G md):EV K te σ G (md.bind fun d=>Kf d):=by
 clear 7;obtain ⟨d,hd,hc⟩:=qaA.mp hc;refine e G1 s1 d hd H sH Q fun v G2 H2 x r=>?_
 cases d with
 | tup l =>
  cases hc
  cases r with
  | tup h z r=>exact k _ _ _ x ⟨_,_,rfl,h,z,DQ r⟩
 | _=>cases hc
end
section
variable {K:FZ9}{σ:St}{G H:Hp}{α:Type}[Rp α]{tk:TE}{rest:TS}{D:Ends}{i:Nat}{b:Tp α}{as as':List α}{v:V}{p:Addr}{vs:List V}
local macro_rules | `(tactic| ac_rfl) => `(tactic| first | assumption | exact Ne.symm (by assumption))
local macro_rules
 | `(tactic| clear $n:num $rs*) => do
  let hm := Lean.mkIdent `hm
  let xt := Lean.mkIdent `xt
  let q := Lean.mkIdent `q
  let rf := Lean.mkIdent `rfl
  let w : Array Lean.Ident := rs.map fun r => ⟨r.raw⟩
  match n.getNat with
  | 2 =>
   let mut ts := #[]
   for k in [0:w.size/2] do
    let a := w[2*k]!
    let b := w[2*k+1]!
    ts := ts.push (← `(tactic| refine bE $hm fun $a $b $hm => ?_))
   `(tactic| ($[$ts:tactic];*))
  | 3 => `(tactic| (replace $hm := cT $hm; refine BR ?_))
  | 4 => `(tactic| (replace $hm := cF $hm; refine BQ ?_))
  | 5 => `(tactic| (rintro r' v' G' H' $rf:ident rl; cases $hm:ident; exact $q v' G' H' rl.1 rl.2))
  | 6 => let k := w[0]!; `(tactic| (rintro r' v' G' H' $rf:ident rl; cases $hm:ident; exact $k _ v' G' H' rfl rl))
  | 9 =>
   let x := w[0]!
   let ts ← (w.extract 1 w.size).mapM fun (i : Lean.Ident) => `(tactic| have $i := Rp.mono $x $i)
   `(tactic| ($[$ts:tactic];*))
  | z =>
   if z > 1 then Lean.Macro.throwUnsupported
   let x := w[0]!
   let mut m := 1
   let mut ts := #[]
   let mut hs := #[]
   for i in w.extract 1 w.size do
    if let some k := i.raw.isNatLit? then m := k
    else if m == 4 then hs := hs.push (← `(tactic| have $i := ($xt).hh.free $i))
    else ts := ts.push (← match m with
     | 1 => `(tactic| have $i := Rp.mono ($x).gg $i)
     | 2 => `(tactic| have $i := ($i).ext $x)
     | _ => `(tactic| have $i := ($i).trans ($x).gg))
   if z == 1 then hs := hs.push (← `(tactic| have $xt := ($xt).trans $x))
   let zs := hs ++ ts
   `(tactic| ($[$zs:tactic];*))
theorem KH {m:α × Unit->Option (Tp α)}{mi:Option Int}(hσ:σ[i]? = some (some v))(o:Own K G H v p vs as)(ek:EV K tk σ G mi)(hm:((mi.bind fun y=>atI as y).bind fun z=>m (z,()))=some b)(hp:extO as b.l=some as')(s:Same G H)
  (k:∀ G2 H2 ws,Ext G H G2 H2->Own K G2 (upd H2 p (.lst (vs++ws))) v p (vs++ws) as'->rest D σ (upd H2 p (.lst (vs++ws)))) :
  DS (Fe (tBM K "list" (Jl K) (Fa i) (Aq (FW (spM K m) [] E0 (Aq (tOp (rAt K) (Fa i) tk) CM)) CM))) rest D σ H:=by
 obtain ⟨hl,rfl⟩:=BD hp;have hlen:=Paired.length o.p;have ov:=o.v;subst ov;clear 2 a ha;obtain ⟨j,hj,ha⟩:=qaA.mp ha;refine ⟨_,hσ,.inl ⟨rfl,_,SqL.of o.h⟩,?_⟩;refine ⟨_,hσ,?_⟩;refine ek.run hj s fun u G1 H1 x1 r1=>?_;cases r1;have o1:=o.ext x1;obtain ⟨w,hw,rw⟩:=Cu o1.p ha;refine .inl ⟨vs,w,SqL.of o1.h,hw,?_⟩;refine ⟨G1,(a,()),b,x1.gh,⟨w,_,rfl,rw,rfl⟩,hm,fun u2 G2 H2 x2 r2=>?_⟩;have x:=x1.trans x2;have o2:=o.ext x;obtain ⟨q,ws,rfl,hq,hz,hpr⟩:=r2;have hlw:=Paired.length hpr;refine ⟨p,q,vs,ws,rfl,rfl,o2.h,x.gh.tup hq,by omega,?_⟩;refine k G2 H2 ws x ⟨rfl,o2.g,Af,?_,Paired.app o2.p hpr⟩;rw [qeA];omega
end
section
variable {κ:PyProof.Rows.KeyKind}
def ky (κ:PyProof.Rows.KeyKind)(p:Keyed):κ.α:=(κ.keyOf p.1).getD κ.dflt
variable {prog:Program}{w:World}{A:Around}{E:Value->Shared->Prop}{s:Shared}
end
section
variable {κ:PyProof.Rows.KeyKind}
def kl (κ:PyProof.Rows.KeyKind)(x y:Keyed):Prop:=κ.kle (ky κ x) (ky κ y)
end
def sg (st:SortSt)(g:Nat):SortSt:=SortSt.mk' (kindOf st) (arrOf st) (pendingOf st) g (failedOf st)
end L2
set_option maxHeartbeats 2000000
namespace L2
open PySem PySem.Spec PyProof.Rows
end L2
set_option maxHeartbeats 2000000
namespace L2
open PySem PySem.Spec PyProof.Rows
end L2
set_option maxHeartbeats 2000000
namespace L2
open PySem PySem.Spec PyProof.Rows
end L2
set_option maxHeartbeats 2000000
namespace L2
open PySem PySem.Spec PyProof.Rows
end L2
set_option maxHeartbeats 2000000
namespace L2
open PySem PySem.Spec PyProof.Rows
end L2
set_option maxHeartbeats 2000000
namespace L2
open PySem PySem.Spec PyProof.Rows
end L2
set_option maxHeartbeats 2000000
namespace L2
open PySem PySem.Spec PyProof.Rows
end L2
set_option maxHeartbeats 2000000
namespace L2
open PySem PySem.Spec PyProof.Rows
section
variable {κ:PyProof.Rows.KeyKind}{prog:Program}{w:World}{A:Around}{E:Value->Shared->Prop}{s:Shared}
abbrev mk (X:Array Keyed)(p:Array (Nat × Nat × Nat))(g:Nat):SortSt:=SortSt.mk' oneType' X p g none
end
end L2
set_option maxHeartbeats 2000000
namespace L2
open PySem PySem.Spec PyProof.Rows
end L2
set_option maxHeartbeats 2000000
namespace L2
open PySem PySem.Spec PyProof.Rows
structure MpR (α:Type) where
 l:List (Rk × α)
class RpC (γ:Type) [Rp γ] where
 P:FZ9->Hp->HO->γ->Prop
 mono:∀ {K:FZ9}{G G':Hp}{ho:HO}{a:γ},Same G G'->P K G ho a->P K G' ho a
 rel:∀ {K:FZ9}{G:Hp}{ho:HO}{a:γ}{q:Addr},P K G ho a->G q=some ho->Rp.rel K G (.ref q) a
section
variable {K:FZ9}{σ:St}{G H:Hp}{α β γ δ:Type}[Rp α][Rp β][Rp γ][Rp δ]{ta te:TE}
theorem nn_t3 {v:V}{a:T3 α β γ}(h:Rp.rel K G v a):v ≠ .non:=by obtain ⟨_,_,_,_,rfl,_⟩:=h;exact fun z=>nomatch z
end
structure MpRF (α:Type) where
 l:List (Rk × α)
structure DIn (K:FZ9)(mg:Str->Option Value)(x:Str)(st:Stmt):Prop where
 ex:∃ f fd,mg x=some (.ref f)/\Fun K x x st f fd
def BnO (x:Str)(st:Stmt)(ps:List Str):Prop:=∀ (kV doc pm:Value) (an:Option Addr) (cdv ct:Value) (us:List Value),us.length=ps.length->bindArgs (qkB x x (DX st) (Bo st) (AE st) .none kV doc pm an cdv ct) ⟨us,[]⟩=pure (ps.zip us)
abbrev Nn (K:FZ9)(x:Str):Prop:=qgB K mainGlobals x=some none
theorem scm {N ps:List Str}{sc:Scope}(a:sc.kind = .function:=by rfl)(b:sc.isCoroutine=false:=by rfl)(c:sc.isGenerator=false:=by rfl)(d:N.Nodup:=by decide +kernel)(e:N.take ps.length=ps:=by rfl)(f:∀ x∈ps,sc.names.lookup x=some .local \/ sc.names.lookup x=some .cell:=by decide +kernel)(g:∀ y∈sc.names,y.2 ≠ .free:=by decide +kernel):FnScope N ps sc:=⟨a,b,c,d,e,f,g⟩
theorem din {K:FZ9}{h:Heap}{mg:Str->Option Value}{x:Str}{st:Stmt}{f:Addr}{oc:Value}{od an:Option Addr}{osl:Array (Option Value)}{kV doc pm cdv ct:Value}(X:K.In h)(G:h.Ns mainGlobals mg)(a:qgB K mainGlobals x=some (some (.ref f)))
  (l:K.lookup f=some ⟨oc,od,.func (qkB x x (DX st) (Bo st) (AE st) .none kV doc pm an cdv ct),osl⟩) (c:qjB K cdv x=true) (k:qiB K (.ref f)=true):DIn K mg x st:=⟨f,_,qhB X G a,fun_mk l c k⟩
section
variable {P:Program}{w:World}{K:FZ9}{mg:Str->Option Value}{base:Heap}{x:Str}{st:Stmt}{N ps:List Str}{k:Nat}{sp:Sp}{ρ:Type}[Rp ρ]
theorem DIn.ok (Z:DIn K mg x st)(S:FnScope N ps (AE st))(b:BnO x st ps)(len:∀ vs H Q E,sp vs H Q E->vs.length=ps.length)
  (hbody:∀ (f:Addr) (cdv:Value) (A:Around) (outer:List Env) (s:Shared) (H:Hp) (vs:List V) (Q:VK) (E:XK),Room k (A.deeper (envOfC x (AE st) s.heap.objs.size f cdv))->sp vs H Q E ->
   ∃ t,PSs (DV CX0 P w K mg base N x (AE st) f cdv A outer s H E).nox (Bo st) t/\t { nx:=fun _ H'=>Q .non H',rt:=Q } (start N vs) H):DefOk P w K mg base x (k+1) ps sp:=by
 obtain ⟨f,fd,a,F⟩:=Z.ex;exact Dz F a (F.binds b) (F.ok S len fun cdv A outer s H vs Q E hr h=>hbody f cdv A outer s H vs Q E hr h)
theorem bn1 {p0:Str}(h:∀ (kV doc pm:Value) (an:Option Addr) (cdv ct:Value) (a0:Value),bindArgs (qkB x x (DX st) (Bo st) (AE st) .none kV doc pm an cdv ct) ⟨[a0],[]⟩=pure (List.zip [p0] [a0]):=by intros;rfl):BnO x st [p0]:=fun kV doc pm an cdv ct us hl=>match us,hl with | [a0],_=>h kV doc pm an cdv ct a0
theorem DIn.okM1 {α0:Type}[Rp α0]{p0:Str}{m:α0->Option ρ}(Z:DIn K mg x st)(S:FnScope N [p0] (AE st))
  (hbody:∀ (f:Addr) (cdv:Value) (A:Around) (outer:List Env) (s:Shared) (H:Hp) (Q:VK) (E:XK),Room k (A.deeper (envOfC x (AE st) s.heap.objs.size f cdv))->∀ G a0 res v0,Ext G H G H->Rp.rel K G v0 a0->m a0=some res->(∀ v G2 H2,Ext G H G2 H2->Rp.rel K G2 v res->Q v H2) ->
   ∃ t,PSs (DV CX0 P w K mg base N x (AE st) f cdv A outer s H E).nox (Bo st) t/\t { nx:=fun _ H'=>Q .non H',rt:=Q } (start N [v0]) H)
  (b:BnO x st [p0]:=by exact bn1):DefOk P w K mg base x (k+1) [p0] (spM K fun x:α0 × Unit=>m x.1) :=
 Z.ok S b (fun vs H Q E h=>(CV h).trans rfl) fun f cdv A outer s H vs Q E hr h=>by
  obtain ⟨G,⟨a0,⟨⟩⟩,res,sg,⟨v0,_,rfl,r0,rfl⟩,hm,q⟩:=h;exact hbody f cdv A outer s H Q E hr G a0 res v0 (Ext.refl sg) r0 hm q
theorem bn2 {p0 p1:Str}(h:∀ (kV doc pm:Value) (an:Option Addr) (cdv ct:Value) (a0 a1:Value),bindArgs (qkB x x (DX st) (Bo st) (AE st) .none kV doc pm an cdv ct) ⟨[a0,a1],[]⟩=pure (List.zip [p0,p1] [a0,a1]):=by intros;rfl):BnO x st [p0,p1]:=fun kV doc pm an cdv ct us hl=>match us,hl with | [a0,a1],_=>h kV doc pm an cdv ct a0 a1
theorem DIn.okM2 {α0 α1:Type}[Rp α0][Rp α1]{p0 p1:Str}{m:α0->α1->Option ρ}(Z:DIn K mg x st)(S:FnScope N [p0,p1] (AE st))
  (hbody:∀ (f:Addr) (cdv:Value) (A:Around) (outer:List Env) (s:Shared) (H:Hp) (Q:VK) (E:XK),Room k (A.deeper (envOfC x (AE st) s.heap.objs.size f cdv))->∀ G a0 a1 res v0 v1,Ext G H G H->Rp.rel K G v0 a0->Rp.rel K G v1 a1->m a0 a1=some res->(∀ v G2 H2,Ext G H G2 H2->Rp.rel K G2 v res->Q v H2) ->
   ∃ t,PSs (DV CX0 P w K mg base N x (AE st) f cdv A outer s H E).nox (Bo st) t/\t { nx:=fun _ H'=>Q .non H',rt:=Q } (start N [v0,v1]) H)
  (b:BnO x st [p0,p1]:=by exact bn2):DefOk P w K mg base x (k+1) [p0,p1] (spM K fun x:α0 × α1 × Unit=>m x.1 x.2.1) :=
 Z.ok S b (fun vs H Q E h=>(CV h).trans rfl) fun f cdv A outer s H vs Q E hr h=>by
  obtain ⟨G,⟨a0,a1,⟨⟩⟩,res,sg,⟨v0,_,rfl,r0,⟨v1,_,rfl,r1,rfl⟩⟩,hm,q⟩:=h;exact hbody f cdv A outer s H Q E hr G a0 a1 res v0 v1 (Ext.refl sg) r0 r1 hm q
end
section
variable {X:Cx}{K:FZ9}{N ps:List Str}{sc:Scope}{i:Nat}{x:Str}{e a b:Expr}{te ta tb:TE}{pos pos':Pos}{σ:St}{G:Hp}{α:Type}[Rp α]{v:V}{c:α}
theorem AL (S:FnScope N ps sc)(he:PE X e te)(hN:X.N=N:=by rfl)(hi:X.N[i]? = some x:=by rfl)(hx:Loc X.env.scope x:=by first|exact Or.inl rfl|exact Or.inr rfl)(hs:swapsWith e (some (.Name x pos')) pos.line X.env=pure false:=by rfl)(hf:X.fn x=true\/X.env.scope.names.lookup x=some .local := by first|exact .inl rfl|exact .inr rfl|assumption) :
  PS X (.Assign [.Name x pos'] e pos) (KW te (Es i)):=Gw (hN ▸ S.nd) hi hx he hs hf
theorem Cr (S:FnScope N ps sc)(hN:X.N=N:=by rfl)(hi:X.N[i]? = some x:=by rfl)(hx:Loc X.env.scope x:=by first|exact Or.inl rfl|exact Or.inr rfl)(hf:X.fn x=true\/X.env.scope.names.lookup x=some .local := by first|exact .inl rfl|exact .inr rfl|assumption):PG X (.Name x pos) (Es i):=pg_name (hN ▸ S.nd) hi hx hf
theorem AX (K:FZ9)(ha:PE X a ta)(hb:PE X b tb)(hs:LE b:=by exact fun _ _=>rfl)(h:X.K=K:=by rfl):PE X (.Subscript a b pos) (tOp (rAt K) ta tb):=pe_ix (ix_anyK h) ha hb hs
theorem AF (K:FZ9)(ha:PE X a ta)(hb:PE X b tb)(h:X.K=K:=by rfl):PE X (.BinOp a .Add b pos) (tOp (IP K) ta tb):=Ap (op_plusK h) ha hb
theorem B3 (K:FZ9)(hm:X.mg "len" = none)(ha:PE X e te)(hg:Gl X "len" := by rfl)(h:X.K=K:=by rfl)(he:starEach [e] X.env=(false,eval e X.env)::starEach [] X.env:=by rfl):PE X (.Call (.Name "len" pos') [e] [] pos) (tCB (K7 K) (Aq te CM)):=BH (M5 h) hg hm bt_len (A2 ha A9 he) (by decide) (by decide) he rfl
theorem Ce (K:FZ9)(ha:PE X a ta)(he:∀ whole,isTrue a X.env whole=(do let v <- whole;standAt a.pos;holding [v] (truthy v)):=by exact fun _=>rfl)(h:X.K=K:=by rfl):PT X a (fun σ H Q=>ta σ H fun x H'=>∃ k,TruV K x H' k/\Q k H'):=Lh h ha he
theorem Ca (K:FZ9)(ha:PE X a ta)(hb:PE X e te)(h:X.K=K:=by rfl)(hbase:attributeBase a "append" X.env (eval a X.env)=eval a X.env:=by rfl)
  (hfew:((backTo pos (starEach [e] X.env)).all (fun x=>!x.1) && (backToKw pos (keywordEach [] X.env)).all (fun x=>x.1.isSome) && decide ([e].length+([]:List Keyword).length+(if ([]:List Keyword).isEmpty then 0 else 1)<30))=true:=by rfl)
  (hline:(pos'.endLine == pos.line)=true:=by rfl) (hs:starEach [e] X.env=(false,eval e X.env)::starEach [] X.env:=by rfl) (hplain:(backTo pos (starEach [] X.env)).any (·.1)=false:=by rfl) :
  PE X (.Call (.Attribute a "append" pos') [e] [] pos) (tBM K "list" GZ ta (Aq te CM)):=pe_bmK h PySem.F.plainAttrs_list PySem.F.slot_list_append PySem.F.type_list_append IS ha (A2 hb A9 hs) hbase hfew hline hs hplain
theorem IQ (S:FnScope N ps sc):N.Nodup:=S.nd
theorem A6 (r:Rp.rel K G v c)(h:σ[i]? = some (some v):=by rfl):EV K (Fa i) σ G (some c):=ev_var h r
end
def n4 {α β γ δ:Type}(a:T4 (List α) (List β) (List γ) (List δ))(x y z u:V):List (V × Nat):=[(x,a.a.length),(y,a.b.length),(z,a.c.length),(u,a.d.length)]
open Builtin Builtin.Str
section
variable {prog:Program}{w:World}{A:Around}{E:Value->Shared->Prop}{s:Shared}{x y:Str}{t u:Tok}{Q:Value->Shared->Prop}
theorem Lx (hy:(y.length == 0)=false)
  (hq:∀ (l:List (Str × Tok)) (tk:Nat),l.map (·.1)=Txt.split x y->Q (.ref s.heap.objs.size) { s with toks:=tk,heap:=s.heap.push { cls:=.type "list",data:=.seq (strValues l).toArray } })
  (hsz:x.length<=sizeLine) (hsz2:(partsBetween x (occurrences x y 0 x.length (x.length+1)) y.length).length<=sizeLine) :
  wpAny (model prog w) A (call (.builtin "str.split") [.str x t,.str y u]) Q E s:=by
 cases h1:(decide (x.length<y.length) || decide (strKind x<strKind y))
 ·cases hf:(occurrences x y 0 x.length (x.length+1)).isEmpty
  ·refine call_meets PySem.F.slot_str_split (typeIs_str _ _ _) PySem.F.entry_str_split (PySem.F.args_str_split_2 _ _) (meets_str_split_sep x y t u h1 hy hf hsz hsz2) ?_;show wants Q E _ { s with toks:=_,heap:=s.heap.push { cls:=.type "list",data:=.seq (strsFrom s.toks (partsBetween x (occurrences x y 0 x.length (x.length+1)) y.length)).toArray } };rw [strsFrom_eq];exact hq (numbered s.toks _) _ ((numbered_texts _ _).trans ((if_neg (ne_true_of_eq_false h1)).trans (if_neg (ne_true_of_eq_false hf))).symm)
  ·exact call_meets PySem.F.slot_str_split (typeIs_str _ _ _) PySem.F.entry_str_split (PySem.F.args_str_split_2 _ _) (meets_str_split_not_found x y t u h1 hy hf)
    (hq [(x,t)] s.toks ((if_neg (ne_true_of_eq_false h1)).trans (if_pos hf)).symm)
 ·exact call_meets PySem.F.slot_str_split (typeIs_str _ _ _) PySem.F.entry_str_split (PySem.F.args_str_split_2 _ _) (meets_str_split_cannot_occur x y t u h1)
   (hq [(x,t)] s.toks (if_pos h1).symm)
end
def Jn (x y:Str):Option (List Str) :=
 if y.length≠0/\x.length<=sizeLine/\(partsBetween x (occurrences x y 0 x.length (x.length+1)) y.length).length<=sizeLine/\(Txt.split x y).length<=sizeLine/\((Txt.split x y).all fun z=>decide (z.length<=sizeLine))=true then some (Txt.split x y) else none
def rSplit:V->List V->Hp->VK->Prop:=fun v vs H Q=>∃ x y zs,v = .str x/\vs=[.str y]/\Jn x y=some zs/\∀ p,H p=none->Q (.ref p) (upd H p (.lst (zs.map V.str)))
theorem IJ:∀ {l:List (Str × Tok)},Vals ((l.map (·.1)).map V.str) (strValues l)
 | []=>.nil
 | p::l=>.cons ⟨p.2,rfl⟩ IJ
theorem mt_split {X:Cx}:MtR X "str.split" rSplit:=by
 intro pins s σ H v vs v' us Q I rx rv h;obtain ⟨x,y,zs,rfl,rfl,hz,q⟩:=h;obtain ⟨t,rfl⟩:=rx;obtain ⟨u,rfl,ru⟩:=IM rv;obtain ⟨t2,rfl⟩:=ru;obtain ⟨⟨h1,h2,h3,h4,h5⟩,rfl⟩:=BD hz;refine Lx (by simpa using h1) (fun l tk e=>?_) h2 h3;refine ⟨.ref s.heap.objs.size,_,I.laid (a:=s.heap.objs.size) (t':=tk) (o:=.lst ((Txt.split x y).map V.str)) (fun b ob q=>qxA _ q) (qsA _) ?_,rfl,q _ (I.hok.fresh (qsA _))⟩;refine ⟨by rw [qdA];exact h4,strValues l,0,?_,qyA _ rfl⟩;rw [<- e];exact IJ
section
variable {K:FZ9}{σ:St}{G:Hp}{ta tb:TE}
theorem fv_split {ma mb:Option Str}(ea:EV K ta σ G ma)(eb:EV K tb σ G mb):FV K (tBM K "str" rSplit ta (Aq tb CM)) σ G (ma.bind fun a=>mb.bind fun b=>Jn a b):=by
 clear 7;obtain ⟨a,ha,hc⟩:=qaA.mp hc;obtain ⟨b,hb,hc⟩:=qaA.mp hc;obtain ⟨⟨h1,h2,h3,h4,h5⟩,e⟩:=BD (show Jn a b=some c from hc);clear 8 ea a ha;obtain ⟨rfl,z2⟩:=r2;refine ⟨rfl,eb G2 (s1.trans x2.gg) b hb H2 x2.gh _ fun u G3 H3 x3 r3=>?_⟩;obtain ⟨rfl,z3⟩:=r3;refine ⟨a,b,c,rfl,rfl,hc,?_⟩;refine LN (x2.trans x3).gh ?_ ?_ (FV.mono (x2.trans x3) k)
 ·rw [qdA,<- e];exact h4
 ·have:∀ l:List Str,(∀ z∈l,z.length<=sizeLine)->Paired (Rp.rel K G3) (l.map V.str) l:=by
   intro l
   induction l with
   | nil=>intro _;exact .nil
   | cons z l ih=>intro h;exact .cons ⟨rfl,h z qkA⟩ (ih fun w hw=>h w (qmA _ hw))
  refine this c fun z hz=>?_;rw [<- e] at hz;exact of_decide_eq_true (List.all_eq_true.mp h5 z hz)
end
end L2
namespace PySem
open Sem (wp)
end PySem
namespace L2
open PySem PySem.Spec PyProof.Rows
def MB (h:Heap)(b:Addr):Prop:=∃ o vs,h.get? b=some o/\o.data = .fields vs
def Xo (h:Heap)(ea:Addr)(cls tb:Value):Prop:=∃ oe vs,h.get? ea=some oe/\oe.cls=cls/\oe.data = .fields vs/\vs[1]? = some tb/\oe.dict=none
def To (h:Heap)(T:Addr):Prop:=∃ oT ts,h.get? T=some oT/\oT.data = .fields ts/\3<ts.size
def ExB (Fre:Addr->Prop)(h:Heap)(ea:Addr)(cls:Value):Prop:=Fre ea/\∃ T,Fre T/\T≠ea/\Xo h ea cls (.ref T)/\To h T
def ExA (Fre:Addr->Prop)(h:Heap)(ea:Addr)(cls:Value):Prop:=(Fre ea/\Xo h ea cls .none)\/ExB Fre h ea cls
def Chg (fr c:List Addr)(h h':Heap):Prop:=(∀ b o,b ∉ c->b ∉ fr->h.get? b=some o->h'.get? b=some o)/\(∀ b o,b ∉ c->h.get? b=some o->∃ sl,h'.get? b=some { o with slots:=sl })
theorem dict_map (f:Array Value->Array Value)(o:Obj):(o.mapFields f).dict=o.dict:=by
 obtain ⟨c,d,dt,sl⟩:=o;cases dt<;>rfl
section
variable {M:Model}{A:Around}{E:Value->Shared->Prop}{s:Shared}{base:Heap}{env env':Env}{outer:List Env}{L e:Addr}{Q:Unit->Shared->Prop}{Fre:Addr->Prop}{cls:Value}
theorem IF {oe:Obj}{vs:Array Value}{head:Value}{hadNext:Bool}(hfr:A.frames=some (env::outer))(hl:s.heap.FunFrames base (env::outer))(hf:env.frame=some L)
  (he:s.heap.get? e=some oe) (hd:oe.data = .fields vs) (hsz:1<vs.size) (hdi:oe.dict=none)
  (h:∀ h' T,s.heap.objs.size<=T->T≠e->Xo h' e oe.cls (.ref T)->To h' T->Chg (frs (env::outer)) [e] s.heap h'->Q () { s with heap:=h' }) :
  wpAny M A (do let a <- PySem.frameOf env;let pl <- entryPlaceOf L hadNext;let b <- EntryCells.newEntry head a .none (rawInt L) .none pl;setField (.ref e) 1 b) Q E s:=by
 have hene:e ∉ (env::outer).filterMap (·.frame):=fun hm=>by
  obtain ⟨_,o,ho,hnf⟩:=hl.mem hm;rw [he] at ho;injection ho with ho;subst ho;exact hnf vs hd
 refine qbA (wpAny_frameOf_fun hfr hl hf fun h₁ hs₁=>?_);refine qbA (wpAny_entryPlaceOf fun pl hpl=>?_);unfold EntryCells.newEntry newFields;refine qbA (wpAny_newObj_type ?_ (hpl.sizeOk5 _ _ _ _ _));have he₁:h₁.get? e=some oe:=(hs₁.2.1 e hene).trans he;have he₂:=qxA (h:=h₁) { cls:=.type "traceback",dict:=none,data:=.fields ([head,.ref L,.none,rawInt L,.none]++(if pl.isEmpty then List.replicate 6 Value.none else pl)).toArray } he₁;refine wpAny_setField he₂ hd hsz ?_;have hTe:h₁.objs.size≠e:=Nat.ne_of_gt (qwA he₁);have hd₃:=Obj.data_mapFields hd (·.setIfInBounds 1 (Value.ref h₁.objs.size));have he₃:=Heap.get?_update_self (Obj.mapFields (·.setIfInBounds 1 (Value.ref h₁.objs.size))) he₂ (Obj.isFreed_of_fields hd₃)
 have hT₃:=(Heap.get?_update_other (h₁.push { cls:=.type "traceback",dict:=none,data:=.fields ([head,.ref L,.none,rawInt L,.none]++(if pl.isEmpty then List.replicate 6 Value.none else pl)).toArray })
  (Obj.mapFields (·.setIfInBounds 1 (Value.ref h₁.objs.size))) (Ne.symm hTe)).trans (qyA h₁ rfl)
 refine h _ h₁.objs.size (by rw [hs₁.1];exact qsA _) hTe ⟨_,_,he₃,Obj.cls_mapFields _ _,hd₃,by simp [hsz],(dict_map _ _).trans hdi⟩ ⟨_,_,hT₃,rfl,by simp only [qfB,qeA,qfA,List.length_nil]<;>omega⟩ ⟨fun b o hb hf e=>?_,fun b o hb e=>?_⟩
 ·rw [Heap.get?_update_other _ _ (fun z=>hb (by simp [z]))];exact qxA _ ((hs₁.2.1 b hf).trans e)
 ·obtain ⟨sl,q⟩:=hs₁.2.2 b o e;refine ⟨sl,?_⟩;rw [Heap.get?_update_other _ _ (fun z=>hb (by simp [z]))];exact qxA _ q
theorem HE (hfr:A.frames=some (env::outer))(hl:s.heap.FunFrames base (env::outer))(hf:env.frame=some L)(hf':env'.frame=some L)(hx:ExA Fre s.heap e cls)(hn:∀ b,s.heap.objs.size<=b->Fre b)
  (h:∀ h' c,(∀ b∈c,Fre b/\MB s.heap b)->Chg (frs (env::outer)) c s.heap h'->s.heap.objs.size<=h'.objs.size->ExB Fre h' e cls->Q () { s with heap:=h' }) :
  wpAny M A (noteFrame (.ref e) env') Q E s:=by
 have ef:PySem.frameOf env'=PySem.frameOf env:=by unfold PySem.frameOf;rw [hf,hf']
 unfold noteFrame;simp only [hf',ef];rcases hx with ⟨fe,oe,vs,he,rfl,hd,h1,hdi⟩ | ⟨fe,T,fT,hTe,⟨oe,vs,he,rfl,hd,h1,hdi⟩,oT,ts,hT,hdT,h3⟩
 ·refine qbA (wpAny_field he hd h1 ?_);rw [if_neg (by decide)];refine IF hfr hl hf he hd (Array.getElem?_eq_some_iff.mp h1).1 hdi fun h' T hT hTe hX hTo hc=>?_;refine h h' [e] (fun b hb=>?_) hc ?_ ⟨fe,T,hn T hT,hTe,hX,hTo⟩
  ·rw [qjA.mp hb];exact ⟨fe,oe,vs,he,hd⟩
  ·obtain ⟨oT,_,q,_⟩:=hTo;exact Nat.le_of_lt (Nat.lt_of_le_of_lt hT (qwA q))
 ·refine qbA (wpAny_field he hd h1 ?_);rw [if_pos (show (Value.ref T != Value.none)=true from by simp)];obtain ⟨fl,hfl⟩:∃ fl,ts[3]? = some fl:=⟨_,Array.getElem?_eq_getElem h3⟩;refine qbA (wpAny_field hT hdT hfl ?_)
  cases hq:(fl == rawInt L) with
  | true =>
   rw [if_pos rfl];exact qcA (h s.heap [] (fun b hb=>nomatch hb) ⟨fun _ _ _ _ q=>q,fun _ o _ q=>⟨o.slots,q⟩⟩ (qsA _) ⟨fe,T,fT,hTe,⟨oe,vs,he,rfl,hd,h1,hdi⟩,oT,ts,hT,hdT,h3⟩)
  | false =>
   rw [if_neg qeB];refine qbA (wpAny_setField hT hdT h3 ?_);have other:∀ b,b≠T->(s.heap.update T (Obj.mapFields (·.setIfInBounds 3 Value.none))).get? b=s.heap.get? b:=fun b hb=>Heap.get?_update_other _ _ (Ne.symm hb)
   have noRecord:∀ b o,s.heap.get? b=some o->(∀ vs,o.data ≠ .fields vs)->b≠T:=fun b o hb hnf q=>by
    rw [q,hT] at hb;injection hb with hb;subst hb;exact hnf ts hdT
   have hsz:(s.heap.update T (Obj.mapFields (·.setIfInBounds 3 Value.none))).objs.size=s.heap.objs.size:=by simp [Heap.update]
   refine IF (s:={ s with heap:=s.heap.update T (Obj.mapFields (·.setIfInBounds 3 Value.none)) }) hfr (hl.of_keeps fun b o hb hnf=>⟨o,(other b (noRecord b o hb hnf)).trans hb,rfl⟩) hf ((other e (Ne.symm hTe)).trans he) hd (Array.getElem?_eq_some_iff.mp h1).1 hdi fun h' T' hT' hTe' hX hTo hc=>?_;have hT'':s.heap.objs.size<=T':=by rw [<- hsz];exact hT'
   refine h h' [T,e] (fun b hb=>?_) ⟨fun b o hb hf q=>hc.1 b o (fun z=>hb (by simp [qjA.mp z])) hf ((other b (fun z=>hb (by simp [z]))).trans q),fun b o hb q=>hc.2 b o (fun z=>hb (by simp [qjA.mp z])) ((other b (fun z=>hb (by simp [z]))).trans q)⟩ ?_ ⟨fe,T',hn T' hT'',hTe',hX,hTo⟩
   ·rcases qiA.mp hb with rfl|hb
    ·exact ⟨fT,oT,ts,hT,hdT⟩
    ·rw [qjA.mp hb];exact ⟨fe,oe,vs,he,hd⟩
   ·obtain ⟨oT,_,q,_⟩:=hTo;exact Nat.le_of_lt (Nat.lt_of_le_of_lt hT'' (qwA q))
theorem DT {fr:List Addr}{f:Option Addr}(hx:ExB Fre s.heap e cls)
  (h:∀ h' c,(∀ b∈c,Fre b/\MB s.heap b)->Chg fr c s.heap h'->s.heap.objs.size<=h'.objs.size->ExB Fre h' e cls->Q () { s with heap:=h' }):wpAny M A (setFlight (.ref e) f) Q E s:=by
 obtain ⟨fe,T,fT,hTe,⟨oe,vs,he,rfl,hd,h1,hdi⟩,oT,ts,hT,hdT,h3⟩:=hx;have other:∀ g:Array Value->Array Value,∀ b,b≠T->(s.heap.update T (Obj.mapFields g)).get? b=s.heap.get? b:=fun g b hb=>Heap.get?_update_other _ _ (Ne.symm hb);unfold setFlight;refine qbA (wpAny_field he hd h1 ?_);rw [if_pos (show (Value.ref T != Value.none)=true from by simp)];refine wpAny_setField hT hdT h3 ?_;refine h _ [T] (fun b hb=>by rw [qjA.mp hb];exact ⟨fT,oT,ts,hT,hdT⟩) ⟨fun b o hb _ q=>(other _ b (fun z=>hb (by simp [z]))).trans q,fun b o hb q=>⟨o.slots,(other _ b (fun z=>hb (by simp [z]))).trans q⟩⟩ (by simp [Heap.update]) ⟨fe,T,fT,hTe,⟨oe,vs,(other _ e (Ne.symm hTe)).trans he,rfl,hd,h1,hdi⟩,?_⟩;exact ⟨_,_,Heap.get?_update_self _ hT (Obj.isFreed_of_fields (Obj.data_mapFields hdT _)),Obj.data_mapFields hdT _,by simp [h3]⟩
theorem Lf (hfr:A.frames=some (env::outer))(hl:s.heap.FunFrames base (env::outer))(hf:env.frame=some L)(hx:ExA Fre s.heap e cls)(hn:∀ b,s.heap.objs.size<=b->Fre b)
  (h:∀ h1 h2 c d,(∀ b∈c,Fre b/\MB s.heap b)->Chg (frs (env::outer)) c s.heap h1->(∀ b∈d,Fre b/\MB h1 b)->Chg (frs (env::outer)) d h1 h2->ExB Fre h2 e cls->Q () { s with heap:=h2 }) :
  wpAny M A (leaving env (.ref e)) Q E s:=by
 unfold leaving;refine qbA (HE hfr hl hf hf hx hn fun h1 c hc ch _ x1=>?_);exact DT (s:={ s with heap:=h1 }) x1 fun h2 d hd ch2 _ x2=>h h1 h2 c d hc ch hd ch2 x2
end
theorem ObjOk.get {P:Program}{w:World}{H:Hp}{h:Heap}{a:Addr}{o:HO}(x:ObjOk P w H h a o):∃ ob,h.get? a=some ob:=by
 cases o with
 | lst xs=>obtain ⟨_,_,_,_,e⟩:=x;exact ⟨_,e⟩
 | tup xs=>obtain ⟨_,_,_,o,e,_⟩:=x;exact ⟨_,e⟩
 | dK kvs=>obtain ⟨_,_,_,_,o,_,_,e,_⟩:=x;exact ⟨_,e⟩
 | dT kvs=>obtain ⟨_,_,_,_,o,_,_,e,_⟩:=x;exact ⟨_,e⟩
 | set S n=>obtain ⟨o,_,_,_,e,_⟩:=x;exact ⟨_,e⟩
 | ins C dx fs=>obtain ⟨_,_,_,e,_⟩:=x;exact ⟨_,e⟩
 | own y=>exact x
 | xd fs=>obtain ⟨_,⟨_,_,_,e,_⟩,_⟩:=x;exact ⟨_,e⟩
 | rng lo hi=>obtain ⟨_,_,_,e⟩:=x;exact ⟨_,e⟩
 | frz ob u=>obtain ⟨e,_⟩:=x;exact ⟨_,e⟩
 | tbl ps=>exact ⟨_,(show h.get? a=some _ from x)⟩
 | met f y=>exact ⟨_,(show h.get? a=some _ from x)⟩
 | ext φ=>obtain ⟨_,e,_⟩:=x;exact e
theorem HOk.none {P:Program}{w:World}{H:Hp}{h:Heap}{a:Addr}(x:HOk P w H h)(e:h.get? a = .none):H a = .none:=by
 cases q:H a with
 | none=>rfl
 | some u =>
  obtain ⟨ob,z⟩:=(x a u q).get;rw [e] at z;cases z
def Fr0 (X:Cx)(H:Hp)(b:Addr):Prop:=H b=none/\(∀ o,X.s₀.heap.get? b=some o->b∈X.ex)/\∀ p∈X.pn,p.1≠b
section
variable {X:Cx}{pins:List (Addr × Obj)}{σ:St}{H H':Hp}{s s':Shared}{E:St->XK}
theorem Inv.new0 (I:Inv X pins σ H s){b:Addr}(h:s.heap.get? b=none):Fr0 X H b:=by
 refine ⟨I.hok.none h,fun o e=>?_,fun p hp z=>?_⟩
 ·by_cases hx:b∈X.ex
  ·exact hx
  ·obtain ⟨o',q⟩:=I.base.there b o e hx;rw [h] at q;cases q
 ·have:=(I.pin p (List.mem_append_left _ hp)).1;rw [z,h] at this;cases this
theorem Inv.newS (I:Inv X pins σ H s){b:Addr}(h:s.heap.objs.size<=b):Fr0 X H b:=I.new0 (Heap.get?_none_of_le h)
theorem Inv.chg {c:List Addr}{h':Heap}(I:Inv X [] σ H s)(hc:∀ b∈c,Fr0 X H b/\MB s.heap b)(ch:Chg (frs X.stack) c s.heap h'):Inv X [] σ H { s with heap:=h' }:=by
 have nS:∀ b o,X.s₀.heap.get? b=some o->b ∉ X.ex->b ∉ c:=fun b o e hx hb=>hx ((hc b hb).1.2.1 o e)
 have nF:∀ b o,X.s₀.heap.get? b=some o->b ∉ X.fs->b ∉ frs X.stack:=fun b o e hf hb=>by
  rcases qiA.mp (I.stkSub b hb) with z|z
  ·exact absurd z (qoB (qqB (qwA e) I.ok.above))
  ·exact hf z
 have nL:X.env.locals ∉ c:=fun hb=>by
  obtain ⟨_,o,vs,e,hd⟩:=hc _ hb;obtain ⟨m,⟨o',es,ep,e',hd',_⟩,_⟩:=I.loc;rw [e] at e';cases e';rw [hd] at hd';cases hd'
 have nC:∀ x k,X.env.cells.lookup x=some k->k ∉ c:=fun x k q hb=>by
  obtain ⟨_,o,vs,e,hd⟩:=hc _ hb;obtain ⟨v,o',e',hd'⟩:=I.cell x k q;rw [e] at e';cases e';rw [hd] at hd';cases hd'
 have cK:∀ x k v,X.env.cells.lookup x=some k->s.heap.IsCell k v->h'.IsCell k v:=fun x k v q ⟨o,e,hd⟩=>by
  obtain ⟨sl,z⟩:=ch.2 k o (nC x k q) e;exact ⟨_,z,hd⟩
 refine ⟨I.ok,I.os,I.bare,⟨fun b o e n hb hx=>ch.1 b o (nS b o e hx) (nF b o e hb) (I.base.keep b o e n hb hx),fun b o e n hb hx=>?_,I.base.free,fun b o e hx=>?_,I.base.tups,I.base.frzs,I.base.tbls⟩,?_,fun x k q=>?_,I.free,I.freeC,fun p hp=>?_,fun a o e=>?_,I.len⟩
 ·obtain ⟨sl,e1⟩:=I.base.slot b o e n hb hx;obtain ⟨sl',e2⟩:=ch.2 b _ (nS b o e hx) e1;exact ⟨sl',e2⟩
 ·obtain ⟨o',e1⟩:=I.base.there b o e hx;obtain ⟨sl,e2⟩:=ch.2 b o' (nS b o e hx) e1;exact ⟨_,e2⟩
 ·obtain ⟨m,⟨o,es,ep,ho,r⟩,hl⟩:=I.loc;obtain ⟨sl,hL⟩:=ch.2 _ o nL ho;refine ⟨m,⟨_,es,ep,hL,r⟩,fun i x v e1 e2 e3=>?_⟩;obtain ⟨u,ru,l⟩:=hl i x v e1 e2 e3;refine ⟨u,ru,?_⟩;rcases l with l | ⟨k,c',q,z⟩
  ·exact .inl l
  ·exact .inr ⟨k,c',q,cK x c' _ q z⟩
 ·obtain ⟨v,z⟩:=I.cell x k q;exact ⟨v,cK x k v q z⟩
 ·obtain ⟨e,n,ne,nf,d⟩:=I.pin p hp;rw [qrA] at hp;exact ⟨ch.1 p.1 p.2 (fun z=>(hc _ z).1.2.2 p hp rfl) (fun z=>(qiA.mp (I.stkSub _ z)).elim ne nf) e,n,ne,nf,d⟩
 ·refine (I.hok a o e).stay (fun b u hb q=>ch.1 b u (fun z=>?_) (fun z=>?_) q) (fun _ q=>q) fun _ _ q=>q
  ·have:=(hc b z).1.1;rcases hb with rfl|hb
   ·rw [e] at this;cases this
   ·rw [hb] at this;cases this
  ·have:=I.stkFree b z;rcases hb with rfl|hb
   ·rw [e] at this;cases this
   ·rw [hb] at this;cases this
def CXE (P:Program)(w:World):CXT:=fun outer H s E e s'=>∃ ea cls H',e = .ref ea/\s'.os=s.os/\AllBare s'.gens/\Un (frs outer) [] H H' s.heap s'.heap/\HOk P w H' s'.heap /\
 ExB (fun b=>H' b=none/\s.heap.get? b=none) s'.heap ea cls/\E cls none H'
def Lets (X:Cx)(E:St->XK):Prop:=∀ σ H s ea cls,Inv X [] σ H s->ExA (Fr0 X H) s.heap ea cls->E σ cls none H->X.xe (.ref ea) s
theorem ExB.mono {F G:Addr->Prop}{h:Heap}{ea:Addr}{cls:Value}(x:ExB F h ea cls)(k:∀ b,F b->G b):ExB G h ea cls :=
 let ⟨a,T,b,r⟩:=x
 ⟨k _ a,T,k _ b,r⟩
theorem Lets.passes (L:Lets X E):∀ (pins:List (Addr × Obj)) (σ:St) (H:Hp) (s:Shared) (e:Value) (s':Shared),Inv X pins σ H s->CXE X.prog X.w X.stack H s (E σ) e s'->X.xe e s':=by
 rintro pins σ H s e s' I ⟨ea,cls,H',rfl,os,bare,un,hok,xb,q⟩;have I':Inv X pins σ H' s':=I.call' (ch:=[]) os un hok bare fun b z=>nomatch z;refine L σ H' s' ea cls (I'.pins_of (pins':=[]) fun p hp=>nomatch hp) (.inr (xb.mono fun b hb=>?_)) q;obtain ⟨h1,h2,h3⟩:=I.new0 hb.2;exact ⟨hb.1,h2,h3⟩
theorem CP {P:Program}{w:World}{K:FZ9}{mg:Str->Option Value}{base:Heap}{N:List Str}{qual:Str}{scope:Scope}{f:Addr}{cd:Value}{A:Around}{outer:List Env}{s:Shared}{H:Hp}{E:XK} :
  Lets (DV (CXE P w) P w K mg base N qual scope f cd A outer s H E) fun _=>E:=by
 intro σ H' s' ea cls I x q;show wpAny _ _ (leaving _ _) _ _ _;refine Lf I.ok.frames I.stack rfl x (fun b hb=>I.newS hb) fun h1 h2 c d hc ch1 hd ch2 xb=>?_;have I1:=I.chg hc ch1;have I2:=I1.chg hd ch2
 exact ⟨ea,cls,H',rfl,I2.os,I2.bare,I2.base,I2.hok,xb.mono fun b hb=>⟨hb.1,by
  cases z:s.heap.get? b with
  | none=>rfl
  | some o=>exact absurd (hb.2.1 o z) (fun y=>nomatch y)⟩,q⟩
end
abbrev bmV:List Value:=[.type "ValueError",.type "Exception",.type "BaseException",.type "object"]
def tRaise (E:St->XK)(C:Addr):TS:=fun _ σ H=>E σ (.ref C) none H
section
variable {X:Cx}{pins:List (Addr × Obj)}{σ:St}{H H':Hp}{s s':Shared}{E:St->XK}
theorem Hm {x:Str}{C:Addr}{e₀:Expr}{v:V}{np cpos pos:Pos}(O:OwnCls x C bmV "ValueError.__new__" X.mg X.base)(hc:X.calm=true)(hg:Gl X x)(L:Lets X E)(he:PE X e₀ (tC v))
  (hs:starEach [e₀] X.env=(false,eval e₀ X.env)::starEach [] X.env:=by rfl) (hd:(x == ("__debug__" : Str))=false:=by decide) :
  PS X (.Raise (some (.Call (.Name x np) [e₀] [] cpos)) none pos) (tRaise E C):=by
 intro pins s σ H D I h;obtain ⟨tl,N,nm,q,bs,hdct,sn,sub,ab,col,dd,k0,k1,k2,k3,k5,mN,hC,hN,hni,T⟩:=O.obj
 refine wpAny_Raise_call_subU (C:=C) (nm:=nm) (q:=q) (N:=N) (bs:=bs) (bm:=tl) (hdct:=hdct) (sn:=sn) (sub:=sub) (ab:=ab) (col:=col) (dd:=dd) (k0:=k0) (k1:=k1) (k2:=k2) (k3:=k3) (k5:=k5)
  (Bn := "ValueError") PySem.F.excBase_ValueError (by decide +kernel) PySem.F.excBase_ValueError (mN:=mN) (T.hasType (by decide +kernel)) (I.ok.hd hc) ?_ hni (D4 I hg O.bound ⟨rfl,?_⟩ hd)
 ·rw [hs];rfl
 ·have h2:=A2 he A9 hs cpos pins s σ H (fun vs H1=>vs.length=1/\E σ (.ref C) none H1) I ⟨rfl,h⟩;rw [hs] at h2 ⊢;refine Calls.evalArgs_plain (wpAny_mono h2 (fun us s2 ⟨vs,H1,I1,rv,hl,hq⟩=>?_) fun _ _ y=>y);refine ⟨rfl,?_,I1.bk _ _ hC,hN.keeps I1.bk,T.keeps I1.bk,fun h' e hm=>?_⟩
  ·show us.length<=_;rw [<- rv.length,hl]
   decide
  ·obtain ⟨t,ht,_,_⟩:=hm.there;obtain ⟨n1,n2,n3⟩:=I1.new0 hm.new;exact L σ H1 _ e (.ref C) ((I1.kept (t':=s2.toks) hm.keeps).pins_of (pins':=[]) fun p hp=>nomatch hp) (.inl ⟨⟨n1,n2,n3⟩,_,_,ht,rfl,rfl,rfl,rfl⟩) hq
end
abbrev Cx.tr (X:Cx)(pn:List (Addr × Obj))(xe:Value->Shared->Prop):Cx:={ X with pn:=pn,xe:=xe }
abbrev Cx.han (X:Cx)(pn:List (Addr × Obj))(ea:Addr):Cx:={ X with pn:=pn,xe:=fun _ _=>False,A:=X.A.mark (some (.ref ea)),calm:=false }
def Exo (ea:Addr)(cls:Value):HO:=.ext fun h=>∃ oe vs,h.get? ea=some oe/\oe.cls=cls/\oe.dict=none/\oe.data = .fields vs
def gone (i:Nat)(D:Ends):Ends:={ nx:=fun σ H=>D.nx (σ.set i none) H,rt:=D.rt,bk:=fun σ H=>D.bk (σ.set i none) H,ct:=fun σ H=>D.ct (σ.set i none) H }
def tTry (K:FZ9)(C0:Addr)(i:Nat)(tb:(St->XK)->TS)(th:TS):TS:=fun D σ H =>
 tb (fun σ' cls _ H'=>PySem.W.exmOne K cls (.ref C0)=some true/\∀ ea,H' ea=none->th (gone i D) (σ'.set i (some (.ref ea))) (upd H' ea (Exo ea cls))) D σ H
section
variable {X:Cx}{pins:List (Addr × Obj)}{σ:St}{H:Hp}{s:Shared}{xe:Value->Shared->Prop}{ea:Addr}
theorem Inv.toTr (I:Inv X pins σ H s):Inv (X.tr (X.pn++pins) xe) [] σ H s :=
 ⟨⟨I.ok.mod,I.ok.kind,I.ok.glob,I.ok.blt,I.ok.above,I.ok.inj,I.ok.has,I.ok.cab,I.ok.hd,I.ok.frames,I.ok.stk,I.ok.exf,I.ok.bs,I.ok.bsz,I.ok.noex,I.ok.exfs,I.ok.funs,I.ok.frf⟩,I.os,I.bare,I.base,I.loc,I.cell,I.free,I.freeC,fun p hp=>I.pin p (by rw [qrA] at hp;exact hp),I.hok,I.len⟩
theorem Inv.ofTr {p2:List (Addr × Obj)}(I:Inv (X.tr (X.pn++pins) xe) p2 σ H s):Inv X pins σ H s :=
 ⟨⟨I.ok.mod,I.ok.kind,I.ok.glob,I.ok.blt,I.ok.above,I.ok.inj,I.ok.has,I.ok.cab,I.ok.hd,I.ok.frames,I.ok.stk,I.ok.exf,I.ok.bs,I.ok.bsz,I.ok.noex,I.ok.exfs,I.ok.funs,I.ok.frf⟩,I.os,I.bare,I.base,I.loc,I.cell,I.free,I.freeC,fun p hp=>I.pin p (List.mem_append_left _ hp),I.hok,I.len⟩
theorem Inv.toHan (I:Inv X pins σ H s):Inv (X.han (X.pn++pins) ea) [] σ H s :=
 ⟨⟨I.ok.mod,I.ok.kind,I.ok.glob,I.ok.blt,I.ok.above,I.ok.inj,I.ok.has,I.ok.cab,fun z=>(nomatch z),I.ok.frames,I.ok.stk,I.ok.exf,I.ok.bs,I.ok.bsz,I.ok.noex,I.ok.exfs,I.ok.funs,I.ok.frf⟩,I.os,I.bare,I.base,I.loc,I.cell,I.free,I.freeC,fun p hp=>I.pin p (by rw [qrA] at hp;exact hp),I.hok,I.len⟩
theorem Inv.ofHan {p2:List (Addr × Obj)}(ok:X.Ok)(I:Inv (X.han (X.pn++pins) ea) p2 σ H s):Inv X pins σ H s :=
 ⟨ok,I.os,I.bare,I.base,I.loc,I.cell,I.free,I.freeC,fun p hp=>I.pin p (List.mem_append_left _ hp),I.hok,I.len⟩
theorem SP.ofTr {D:Ends}{f:Flow}{s':Shared}(h:SP (X.tr (X.pn++pins) xe) [] D f s'):SP X pins D f s':=by
 cases f with
 | next=>obtain ⟨σ',H',I,q⟩:=h;exact ⟨σ',H',I.ofTr,q⟩
 | brk=>obtain ⟨σ',H',I,q⟩:=h;exact ⟨σ',H',I.ofTr,q⟩
 | cont=>obtain ⟨σ',H',I,q⟩:=h;exact ⟨σ',H',I.ofTr,q⟩
 | ret u=>obtain ⟨v,σ',H',I,r,q⟩:=h;exact ⟨v,σ',H',I.ofTr,r,q⟩
theorem Inv.gone {M:Model}{A:Around}{E:Value->Shared->Prop}{i:Nat}{n:Str}{pos:Pos}{Q:Unit->Shared->Prop}(I:Inv X pins σ H s)(hN:X.N.Nodup)(hi:X.N[i]? = some n)(hl:X.env.scope.names.lookup n=some .local)
  (h:∀ s',Inv X pins (σ.set i none) H s'->Q () s'):wpAny M A (do bindName X.env n .none;unbindBehindTheSuite X.env n pos) Q E s:=by
 obtain ⟨m,hn,hlk⟩:=id I.loc;refine wpAny_nameGoes_keeps hl hn (by rw [I.ok.kind];rfl) fun h' v hn' sb=>h _ ?_
 have I1:=I.weak (σ':=σ.set i none) (by simp) fun j w e=>by
  by_cases hj:i=j
  ·subst hj;rw [List.getElem?_set] at e;simp at e
  ·rwa [List.getElem?_set_ne hj] at e
 obtain ⟨oL,_,_,hoL,_⟩:=id hn;have nL:∀ b o,X.s₀.heap.get? b=some o->b≠X.env.locals:=fun b o e=>qoB (qqB (qwA e) I.ok.above);refine ⟨I.ok,I.os,I.bare,⟨fun b o e n hb hx=>(sb.2 b (nL b o e)).trans (I.base.keep b o e n hb hx),fun b o e n hb hx=>?_,I.base.free,fun b o e hx=>?_,I.base.tups,I.base.frzs,I.base.tbls⟩,⟨_,hn',fun j y w e1 e2 e3=>?_⟩,fun y c e=>?_,I.free,I.freeC,fun p hp=>?_,fun a o e=>?_,I1.len⟩
 ·obtain ⟨sl,e1⟩:=I.base.slot b o e n hb hx;exact ⟨sl,(sb.2 b (nL b o e)).trans e1⟩
 ·obtain ⟨o',e1⟩:=I.base.there b o e hx;exact ⟨o',(sb.2 b (nL b o e)).trans e1⟩
 ·have hj:j≠i:=fun z=>by
   subst z;rw [List.getElem?_set] at e2;simp at e2
  rw [List.getElem?_set_ne (Ne.symm hj)] at e2;obtain ⟨u,r,l⟩:=hlk j y w e1 e2 e3;refine ⟨u,r,?_⟩;rcases l with ⟨k,q⟩ | ⟨k,c,q,z⟩
  ·refine .inl ⟨k,?_⟩;have:y≠n:=fun z=>hj (HM hN e1 (z ▸ hi));simp [this,q]
  ·exact .inr ⟨k,c,q,z.sameBut sb (I.cne y c q)⟩
 ·obtain ⟨w,z⟩:=I.cell y c e;exact ⟨w,z.sameBut sb (I.cne y c e)⟩
 ·obtain ⟨e,n,ne,nf,d⟩:=I.pin p hp;exact ⟨(sb.2 p.1 ne).trans e,n,ne,nf,d⟩
 ·refine (I.hok a o e).stay (fun b u hb q=>(sb.2 b ?_).trans q) (fun _ q=>q) fun _ _ q=>q;rintro rfl;have:=I.free;rcases hb with z|hb
  ·rw [z,e] at this;cases this
  ·rw [hb] at this;cases this
theorem Inv.track {a:Addr}{o:HO}(I:Inv X [] σ H s)(f:Fr0 X H a)(fl:MB s.heap a)(new:ObjOk X.prog X.w (upd H a o) s.heap a o):Inv X [] σ (upd H a o) s:=by
 have ne:∀ b u,H b=some u->b≠a:=fun b u e z=>by rw [z,f.1] at e;cases e
 have nL:X.env.locals≠a:=fun z=>by
  obtain ⟨ob,vs,e,hd⟩:=fl;obtain ⟨m,⟨o',es,ep,e',hd',_⟩,_⟩:=I.loc;rw [z,e] at e';cases e';rw [hd] at hd';cases hd'
 have nC:∀ x k,X.env.cells.lookup x=some k->k≠a:=fun x k q z=>by
  obtain ⟨ob,vs,e,hd⟩:=fl;obtain ⟨v,o',e',hd'⟩:=I.cell x k q;rw [z,e] at e';cases e';rw [hd] at hd';cases hd'
 refine ⟨I.ok,I.os,I.bare,⟨I.base.keep,I.base.slot,fun b ob e n hx=>?_,I.base.there,fun b xs e=>?_,fun b ob u e=>?_,fun b ps e=>?_⟩,I.loc,I.cell,?_,fun x k q=>?_,fun p hp=>?_,fun b u e=>?_,I.len⟩
 ·have hb:b≠a:=fun z=>by
   subst z;exact hx (f.2.1 ob e)
  rw [Am hb];exact I.base.free b ob e n hx
 ·have:=I.base.tups b xs e;rw [Am (ne b _ this)];exact this
 ·have:=I.base.frzs b ob u e;rw [Am (ne b _ this)];exact this
 ·obtain ⟨m,z⟩:=I.base.tbls b ps e;exact ⟨m,by rw [Am (ne b _ z)];exact z⟩
 ·rw [Am nL];exact I.free
 ·rw [Am (nC x k q)];exact I.freeC x k q
 ·obtain ⟨e,n,n2,nf,d⟩:=I.pin p hp;rw [qrA] at hp;exact ⟨e,by rw [Am (f.2.2 p hp)];exact n,n2,nf,d⟩
 ·by_cases hb:b=a
  ·subst hb;rw [Af] at e;cases e;exact new
  ·rw [Am hb] at e;exact (I.hok b u e).stay (fun c v _ q=>q) (fun c q=>by rw [Am (ne c _ q)];exact q) fun c xs q=>by rw [Am (ne c _ q)];exact q
end
end L2
namespace L2
open PySem PySem.Spec PyProof.Rows PySem.W
structure XKit (K:Frag)(D:Addr):Prop where
 cl:(clsIn K D).isSome=true
 ga:findIn K (.ref D) "__getattribute__" = some (some (.builtin "BaseException.__getattribute__"))
 gn:findIn K (.ref D) "__getattr__" = some none
 ca:findIn K (.ref D) "__class__" = some (some (.builtin "object.__class__"))
 hn:specialIn K (.builtin "object.__class__") "__get__" = some (some (.builtin "getset_descriptor.__get__"))
 tk:takesIn K (.builtin "object.__class__")=some true
 mo:mroIn K D (.type "object")=some true
 mb:mroIn K D (.type "BaseException")=some true
section
variable {prog:Program}{w:World}{K:Frag}{A:Around}{E:Value->Shared->Prop}{s:Shared}{x D:Addr}{ox:Obj}
theorem Lv {nameV:Value}{Q:Unit->Shared->Prop}(Z:XKit K D)(X:K.In s.heap)(I:InstAt s.heap x ox D none)(hq:Q () s) :
  wpAny (model prog w) A (checkBuiltinCall "BaseException.__getattribute__" ⟨[.ref x,nameV],[]⟩) Q E s:=by
 have hk:builtinKind "BaseException.__getattribute__" = some .slot:=by decide +kernel
 have hsplit:splitId "BaseException.__getattribute__" = some ("BaseException","__getattribute__"):=by decide +kernel
 have ha:=F.args_bexc_ga (.ref x) nameV;obtain ⟨hh,g,d,t,os⟩:=s;have L0:=I.type (M:=model prog w);have L1:=looks_mroIn (M:=model prog w) X Z.mb;simp only [checkBuiltinCall,hk,hsplit];refine qbA ?_;unfold isInstance
 repeat (any_goals (first|assumption|lk|wp_step))
theorem exc_ca {Q:Option Value->Shared->Prop}(Z:XKit K D)(X:K.In s.heap)(I:InstAt s.heap x ox D none)(h:Q (some (.ref D)) { s with toks:=s.toks+1 }):wpAny (model prog w) A (getAttr? (.ref x) "__class__") Q E s:=by
 have hf:findObj K D none "__class__" = some (.bind (.builtin "getset_descriptor.__get__") (.builtin "object.__class__")):=by
  obtain ⟨cd,hc⟩:=Option.isSome_iff_exists.mp Z.cl;unfold findObj;rw [hc,Option.bind_some,Z.ca,Option.bind_some];simp [Z.hn,Z.tk]
 obtain ⟨hh,g,d,t,os⟩:=s;have L0:=I.type (M:=model prog w);have L1:=looks_findIn (M:=model prog w) X Z.ga;have L2:=looks_findIn (M:=model prog w) X Z.gn;unfold getAttr? getAttrBy? getAttrBy;refine qbA (wpAny_mkText (qbA (wpAny_attempt (wpAny_holding (qbA (L0.at (qbA (L1.at ?_))))))));show wpAny _ _ (getAttrByItsOwn _ _ _ _ _ _) _ _ _;unfold getAttrByItsOwn;refine qbA (L2.at ?_);refine qbA (wpAny_attempt (wpAny_holding ?_));show wpAny _ _ (boundAndCalled _ _ _) _ _ _;unfold boundAndCalled;refine qbA (wpAny_of_eq (F.excAttr_ValueError.ga.bind (.ref x)) ?_);show wpAny _ _ (call (.builtin "BaseException.__getattribute__") [.ref x,.str "__class__" t]) _ _ _;refine wpAny_call (codeAny_call_builtin F.excAttr_ValueError.ga.plain F.entry_bexc_ga (Lv Z X I ?_));have X':K.In (⟨hh,g,d,t+1,os⟩:Shared).heap:=X;have I':InstAt (⟨hh,g,d,t+1,os⟩:Shared).heap x ox D none:=I;have L3:=looks_find (M:=model prog w) X I hf;unfold Builtin.«object.__getattribute__»
 repeat (any_goals (first|assumption|lk|wp_step))
 refine wpAny_run ?_;refine class_get (s:=⟨hh,g,d,t+1,os⟩) (od:=none) X' I' Z.mo ?_;exact qcA (qcA (handed_on rfl (qcA h)))
end
section
variable {K:FZ9}{x D:Addr}
def ExAt (x D:Addr)(h:Heap):Prop:=∃ ox vs,h.get? x=some ox/\ox.cls = .ref D/\ox.dict=none/\ox.data = .fields vs
theorem ExAt.inst {h:Heap}(e:ExAt x D h):∃ ox,PySem.W.InstAt h x ox D none:=by
 obtain ⟨⟨c,d,dt,sl⟩,vs,e1,e2,e3,e4⟩:=e;dsimp only at e2 e3 e4;subst e2 e3 e4;exact ⟨_,e1,rfl,rfl,trivial⟩
theorem kitx_exc (Z:XKit K D):PySem.W.KitX K (.ref x) (.ref D) (ExAt x D) where
 ty:=fun _ _ _ p=>by
  obtain ⟨ox,I⟩:=p.inst;exact I.type
 it:=fun _ _ X _=>by
  obtain ⟨cd,hc⟩:=Option.isSome_iff_exists.mp Z.cl;unfold PySem.W.clsIn at hc;split at hc
  ·rename_i c' d' cd' sl' ho;intro A' Q' E' s' k q;unfold isType loadHead;exact qbA (wpAny_loadPart (k _ _ (X _ _ ho)) (qcA q))
  ·cases hc
 ne:=fun h tp dd its n sl X htp=>by
  obtain ⟨cd,hc⟩:=Option.isSome_iff_exists.mp Z.cl;refine Bool.eq_false_iff.mpr fun q=>?_;have e:D=tp:=Value.ref.inj (beq_iff_eq.mp q);subst e;unfold PySem.W.clsIn at hc;split at hc
  ·rename_i c' d' cd' sl' ho;have z:=(X _ _ ho).symm.trans htp;cases z
  ·cases hc
 ca:=fun X p k=>by
  obtain ⟨ox,I⟩:=p.inst;exact exc_ca Z X I k
end
def rInstX (K:FZ9):List V->Hp->VK->Prop:=fun vs H Q=>∃ ea D b c u,vs=[.ref ea,c]/\H ea=some (Exo ea (.ref D))/\XKit K D/\(∀ z,RelV c z->z=u)/\PySem.W.kitOne K (.ref D) u=some b/\Q (.bl b) H
theorem C3 {X:Cx}{K:FZ9}(h:X.K=K):EF X (.builtin "isinstance") (rInstX K):=by
 subst h;intro pins s σ H xs us Q I rv q;obtain ⟨ea,D,b,c,u,rfl,he,Z,hc,hk,q⟩:=q
 cases rv with
 | cons r1 rv=>cases rv with
  | cons r2 rv=>cases rv with
   | nil =>
    obtain rfl:=hc _ r2;rename_i w1 _;have e1:w1=Value.ref ea:=r1;subst e1;obtain ⟨p,_⟩:=I.hok ea _ he;exact PySem.W.kia_one (kitx_exc Z) I.kIn p hk (fun z=>nomatch z) fun tk=>⟨.bl b,H,I.tok tk,rfl,q⟩
structure DefE (P:Program)(w:World)(K:FZ9)(mg:Str->Option Value)(base:Heap)(x:Str)(k:Nat)(ps:List Str)(sp:Sp):Prop where
 ex:∃ f fd,FnOk P w K mg base (CXE P w) k f fd ps sp/\mg x=some (.ref f)/\qiB K (.ref f)=true/\Binds K fd ps []
def FF (sp:Sp)(E:St->XK)(t:TA):TE:=fun σ H Q=>t σ H fun vs H1=>sp vs H1 Q (E σ)
section
variable {X:Cx}{x:Str}{k j:Nat}{ps:List Str}{sp:Sp}{e:Expr}{es:List Expr}{t:TA}{p pos:Pos}{E:St->XK}
theorem E5 (F:DefE X.prog X.w X.K X.mg X.base x k ps sp)(hr:Room j X.A)(hj:k<=j)(hg:Gl X x)(L:Lets X E)(ha:PA X (e::es) t)(hdb:(x == ("__debug__" : Str))=false:=by decide)
  (he:starEach (e::es) X.env=(false,eval e X.env)::starEach es X.env:=by rfl) (hpl:(backTo pos (starEach es X.env)).any (·.1)=false:=by rfl) :
  PE X (.Call (.Name x p) (e::es) [] pos) (FF sp E t):=by
 obtain ⟨f,fd,G,m,kp,b⟩:=F.ex;intro pins s σ H Q I h;refine wpAny_Call_Name_kw (D4 I hg m ?_ hdb);refine PySem.W.callWith_K (h₀:=X.base) I.ok.mod.kin kp (thn (ha pos pins s σ H _ I h) fun us s1 ⟨vs,H1,I1,r,q⟩=>⟨I1.kIn,?_⟩) he hpl;have hl:us.length=ps.length:=by rw [<- r.length];exact G.len _ _ _ _ q
 have bb:=b s1 us I1.kIn (by rw [qrA];exact hl);rw [qrA] at bb;refine wpAny_call (codeAny_mono (G.run X.A X.stack s1 H1 ⟨us,[]⟩ us vs Q (E σ) (hr.mono hj) I1.env0 bb r q) fun r' s' hq=>?_)
 cases r' with
 | error e=>exact L.passes pins σ H1 s1 e s' I1 hq
 | ok fl =>
  cases fl with
  | ret u=>exact I1.after hq
  | next=>exact False.elim hq
  | brk=>exact False.elim hq
  | cont=>exact False.elim hq
end
theorem DIn.okE {P:Program}{w:World}{K:FZ9}{mg:Str->Option Value}{base:Heap}{x:Str}{st:Stmt}{N ps:List Str}{k:Nat}{sp:Sp}(Z:DIn K mg x st)(S:FnScope N ps (AE st))(b:BnO x st ps)(len:∀ vs H Q E,sp vs H Q E->vs.length=ps.length)
  (hbody:∀ (f:Addr) (cdv:Value) (A:Around) (outer:List Env) (s:Shared) (H:Hp) (vs:List V) (Q:VK) (E:XK),Room k (A.deeper (envOfC x (AE st) s.heap.objs.size f cdv))->sp vs H Q E ->
   ∃ t,PSs (DV (CXE P w) P w K mg base N x (AE st) f cdv A outer s H E) (Bo st) t/\t { nx:=fun _ H'=>Q .non H',rt:=Q } (start N vs) H):DefE P w K mg base x (k+1) ps sp:=by
 obtain ⟨f,fd,a,F⟩:=Z.ex;have bb:=F.binds b;obtain ⟨oc,od,kV,doc,pm,an,cdv,ct,osl,rfl,lk,hcd⟩:=F.ex;exact ⟨f,_,fn_of lk hcd S len fun A outer s H vs Q E hr hsp=>hbody f cdv A outer s H vs Q E hr hsp,a,F.kp,bb⟩
def FL {ρ:Type}(r:Except Str ρ)(P:ρ->Prop)(R:Str->Prop):Prop:=match r with
 | .ok b=>P b
 | .error n=>R n
section
variable {K:FZ9}{mg:Str->Option Value}{σ:St}{G H:Hp}{α β:Type}[Rp α][Rp β]{te t0:TE}{E:St->XK}
def Raises (mg:Str->Option Value)(E:XK)(nm:Str)(G H:Hp):Prop:=∀ D G2 H2,mg nm=some (.ref D)->Ext G H G2 H2->E (.ref D) none H2
def spX (K:FZ9)(mg:Str->Option Value){A:Type}[RpA A]{ρ:Type}[Rp ρ](m:A->Option (Except Str ρ)):Sp:=fun vs H Q E =>
 ∃ G a r,Same G H/\RpA.rel K G vs a/\m a=some r/\FL r (fun b=>∀ v G2 H2,Ext G H G2 H2->Rp.rel K G2 v b->Q v H2) fun nm=>Raises mg E nm G H
theorem L8 {A:Type}[RpA A]{ρ:Type}[Rp ρ]{m:A->Option (Except Str ρ)}{vs:List V}{H:Hp}{Q:VK}{E:XK}(h:spX K mg m vs H Q E):vs.length=RpA.n A:=by
 obtain ⟨G,a,r,_,h,_⟩:=h;exact RpA.len h
def EVX (K:FZ9)(mg:Str->Option Value)(E:St->XK){α:Type}[Rp α](te:TE)(σ:St)(G:Hp)(m:Option (Except Str α)):Prop :=
 ∀ G1,Same G G1->∀ r,m=some r->∀ H,Same G1 H->∀ Q:VK,FL r (fun a=>∀ v G2 H2,Ext G1 H G2 H2->Rp.rel K G2 v a->Q v H2) (fun nm=>Raises mg (E σ) nm G1 H)->te σ H Q
theorem Raises.pre {E:XK}{nm:Str}{G1 H1:Hp}(r:Raises mg E nm G H)(x:Ext G H G1 H1):Raises mg E nm G1 H1:=fun D G2 H2 h y=>r D G2 H2 h (x.trans y)
theorem evx_def1 {A0:Type}[Rp A0]{m0:Option A0}{m:A0 × Unit->Option (Except Str α)}(e0:EV K t0 σ G m0):EVX K mg E (FF (spX K mg m) E (Aq t0 CM)) σ G (m0.bind fun a0=>m (a0,())):=by
 clear 7;obtain ⟨a0,ha0,hc⟩:=qaA.mp hc;refine e0 G1 s1 a0 ha0 H sH _ fun v0 G2 H2 x0 r0=>?_;refine ⟨G2,_,c,x0.gh,⟨v0,_,rfl,r0,rfl⟩,hc,?_⟩
 cases c with
 | ok b=>exact fun v G9 H9 x9 r=>k v G9 H9 (x0.trans x9) r
 | error nm=>exact Raises.pre k x0
theorem sx_drop {m:Option (Except Str α)}{r:Except Str α}{rest:TS}{D:Ends}(e:EVX K mg E te σ G m)(hm:m=some r)(s:Same G H)(k:FL r (fun _=>∀ G2 H2,Ext G H G2 H2->rest D σ H2) fun nm=>Raises mg (E σ) nm G H):DS (Fe te) rest D σ H:=by
 refine e G (.refl G) r hm H s _ ?_
 cases r with
 | ok b=>exact fun v G2 H2 x _=>k G2 H2 x
 | error nm=>exact k
end
structure RoomH (k:Nat)(A:Around):Prop where
 dp:A.depth+3 * k+5<recursionLimit
 un:A.units+16 * k+200<cLine
theorem Room.han {k:Nat}{A:Around}(r:Room k A)(h:Option Value):RoomH k (A.mark h):=⟨r.dp,r.un⟩
structure FnOkH (P:Program)(w:World)(K:FZ9)(mg:Str->Option Value)(base:Heap)(k:Nat)(f:Addr)(fd:FuncData)(ps:List Str)(sp:Sp):Prop where
 len:∀ vs H Q E,sp vs H Q E->vs.length=ps.length
 run:∀ (A:Around) (outer:List Env) (s:Shared) (H:Hp) (args:Args) (us:List Value) (vs:List V) (Q:VK),RoomH k A->Env0 P w K mg base A outer s H->BindsTo s fd args (ps.zip us)->Vals vs us->sp vs H Q E0 ->
  codeAny (model P w) A (.call (.ref f) args) (CR CX0 outer P w H s Q E0) s
abbrev cxH (P:Program)(w:World)(K:FZ9)(mg:Str->Option Value)(base:Heap)(N:List Str)(qual:Str)(scope:Scope)(f:Addr)(cd:Value)(A:Around)(outer:List Env)(s:Shared)(H:Hp):Cx :=
 { DV CX0 P w K mg base N qual scope f cd A outer s H E0 with xe:=fun _ _=>False,calm:=false }
structure DefH (P:Program)(w:World)(K:FZ9)(mg:Str->Option Value)(base:Heap)(x:Str)(k:Nat)(ps:List Str)(sp:Sp):Prop where
 ex:∃ f fd,FnOkH P w K mg base k f fd ps sp/\mg x=some (.ref f)/\qiB K (.ref f)=true/\Binds K fd ps []
theorem DIn.okH {P:Program}{w:World}{K:FZ9}{mg:Str->Option Value}{base:Heap}{x:Str}{st:Stmt}{N ps:List Str}{k:Nat}{sp:Sp}(Z:DIn K mg x st)(S:FnScope N ps (AE st))(b:BnO x st ps)(len:∀ vs H Q E,sp vs H Q E->vs.length=ps.length)
  (hbody:∀ (f:Addr) (cdv:Value) (A:Around) (outer:List Env) (s:Shared) (H:Hp) (vs:List V) (Q:VK),sp vs H Q E0 ->
   ∃ t,PSs (cxH P w K mg base N x (AE st) f cdv A outer s H) (Bo st) t/\t { nx:=fun _ H'=>Q .non H',rt:=Q } (start N vs) H):DefH P w K mg base x (k+1) ps sp:=by
 obtain ⟨f,fd,a,F⟩:=Z.ex;have bb:=F.binds b;obtain ⟨oc,od,kV,doc,pm,an,cdv,ct,osl,rfl,lk,hcd⟩:=F.ex;refine ⟨f,_,⟨len,fun A outer s H args us vs Q hr e0 hb r hsp=>?_⟩,a,F.kp,bb⟩;have hl:=len _ _ _ _ hsp;have KX:K.In s.heap:=e0.mod.kin.keeps fun b o e=>(e0.bs b o e).1;have lim:s.heap.NoLimit:=e0.mod.nolimit.keeps fun b o e=>(e0.bs b o e).1
 have hkind:∀ y∈ps.zip us,(AE st).names.lookup y.1=some .local \/ ((AE st).names.lookup y.1=some .cell/\((cellsFrom (s.heap.objs.size+1) (AE st).names []).lookup y.1).isSome=true):=fun ⟨n,v⟩ hy=>by
  rcases S.par n (List.of_mem_zip hy).1 with q|q
  ·exact .inl q
  ·exact .inr ⟨q,PySem.W.cellsFrom_some _ _ _ (.inl q)⟩
 refine codeAny_call_function (by have:=hr.dp;omega) (KX _ _ lk) rfl S.co S.gen rfl (PySem.W.codeRec_of KX hcd) (hb _ _ _ _ ?_);refine wpAny_newFunctionEnv_cells S.kind hkind fun env he s1 x1=>?_;subst he;refine ⟨lim.keeps x1.toInCall.keep,codeAny_func ?_⟩;obtain ⟨t,ht,hq⟩:=hbody f cdv A outer s H vs Q hsp;have I0:Inv (DV CX0 P w K mg base N x (AE st) f cdv { A with handled:=none } outer s H E0) [] (start N vs) H s1:=Ek S rfl ⟨e0.frames,e0.mod,e0.bs,e0.bsz,e0.funs,e0.frf,e0.hok,e0.bare⟩ hl r x1
 have I:Inv (cxH P w K mg base N x (AE st) f cdv A outer s H) [] (start N vs) H s1 :=
  ⟨⟨I0.ok.mod,I0.ok.kind,I0.ok.glob,I0.ok.blt,I0.ok.above,I0.ok.inj,I0.ok.has,I0.ok.cab,fun z=>(nomatch z),I0.ok.frames,I0.ok.stk,I0.ok.exf,I0.ok.bs,I0.ok.bsz,I0.ok.noex,I0.ok.exfs,I0.ok.funs,I0.ok.frf⟩,I0.os,I0.bare,I0.base,I0.loc,I0.cell,I0.free,I0.freeC,I0.pin,I0.hok,I0.len⟩
 refine wpAny_mono (ht [] s1 (start N vs) H _ I hq) (fun fl s' hs=>?_) fun e s' hs=>False.elim hs
 have fin:∀ {σ':St}{H':Hp}{v:V}{u:Value},Inv (cxH P w K mg base N x (AE st) f cdv A outer s H) [] σ' H' s'->RelV v u->Q v H'->CE outer P w H s Q u s' :=
  fun {σ' H' v u} J rv q=>⟨v,H',J.os,J.bare,J.base,J.hok,rv,q⟩
 cases fl with
 | ret u =>
  obtain ⟨v,σ',H',J,rv,q⟩:=hs;exact fin J rv q
 | next =>
  obtain ⟨σ',H',J,q⟩:=hs;exact fin (v:=V.non) (u:=Value.none) J rfl q
 | brk =>
  obtain ⟨_,_,_,q⟩:=hs;exact False.elim q
 | cont =>
  obtain ⟨_,_,_,q⟩:=hs;exact False.elim q
section
variable {X:Cx}{x:Str}{k j:Nat}{ps:List Str}{sp:Sp}{e:Expr}{es:List Expr}{t:TA}{p pos:Pos}
theorem pe_defH (F:DefH X.prog X.w X.K X.mg X.base x k ps sp)(hr:RoomH k X.A)(hg:Gl X x)(ha:PA X (e::es) t)(hdb:(x == ("__debug__" : Str))=false:=by decide)
  (he:starEach (e::es) X.env=(false,eval e X.env)::starEach es X.env:=by rfl) (hpl:(backTo pos (starEach es X.env)).any (·.1)=false:=by rfl) :
  PE X (.Call (.Name x p) (e::es) [] pos) (FW sp [] E0 t):=by
 obtain ⟨f,fd,G,m,kp,b⟩:=F.ex;intro pins s σ H Q I h;refine wpAny_Call_Name_kw (D4 I hg m ?_ hdb);refine PySem.W.callWith_K (h₀:=X.base) I.ok.mod.kin kp (thn (ha pos pins s σ H _ I h) fun us s1 ⟨vs,H1,I1,r,q⟩=>⟨I1.kIn,?_⟩) he hpl;have q:sp (vs++[]) H1 Q E0:=q;rw [qrA] at q;have hl:us.length=ps.length:=by rw [<- r.length];exact G.len _ _ _ _ q
 have bb:=b s1 us I1.kIn (by rw [qrA];exact hl);rw [qrA] at bb;refine wpAny_call (codeAny_mono (G.run X.A X.stack s1 H1 ⟨us,[]⟩ us vs Q hr I1.env0 bb r q) fun r' s' hq=>?_)
 cases r' with
 | error e=>exact False.elim hq
 | ok fl =>
  cases fl with
  | ret u=>exact I1.after hq
  | next=>exact False.elim hq
  | brk=>exact False.elim hq
  | cont=>exact False.elim hq
end
def rAbs:List V->Hp->VK->Prop:=fun xs H Q=>∃ i:Int,xs=[.int i]/\Q (.int (if i<0 then -i else i)) H
theorem Ll {X:Cx}:EF X (.builtin "abs") rAbs:=by
 intro pins s σ H vs us Q I r h;obtain ⟨i,rfl,q⟩:=h;obtain ⟨u,rfl,ru⟩:=IM r;obtain ⟨t,rfl⟩:=ru;exact call_abs_int fun u tk=>⟨.int _,H,I.tok _,⟨_,rfl⟩,q⟩
theorem bt_abs:bootBuiltins "abs" = some (.builtin "abs"):=by decide +kernel
def KF (x:Str)(n:Int):Option Str:=if 2<=n/\n<=10000/\1<=x.length/\x.length<=8 then some ⟨(List.replicate n.toNat x.cps).foldl (·++·) #[]⟩ else none
theorem Gr (a:Array Nat):∀ (k:Nat) (acc:Array Nat),((List.replicate k a).foldl (·++·) acc).toList=acc.toList++(List.replicate k a.toList).flatten
 | 0,acc=>by simp
 | k+1,acc=>by
  rw [List.replicate_succ,List.foldl_cons,Gr a k,List.replicate_succ,List.flatten_cons,Array.toList_append,qqA]
theorem J6 {x z:Str}{n:Int}(h:KF x n=some z):PySem.MulOk x n/\Txt.mul x n=z/\z.length<=sizeLine/\z.cps.toList=(List.replicate n.toNat x.cps.toList).flatten:=by
 have hs:sizeLine=16777216:=qzA;obtain ⟨⟨h1,h2,h3,h4⟩,rfl⟩:=BD h
 have hl:(⟨(List.replicate n.toNat x.cps).foldl (·++·) #[]⟩:Str).cps.toList=(List.replicate n.toNat x.cps.toList).flatten:=by
  show ((List.replicate n.toNat x.cps).foldl (·++·) #[]).toList=_;rw [Gr]
  rfl
 have hk:n.toNat<=10000:=by omega
 have hm:x.length * n.toNat<=8 * 10000:=Nat.mul_le_mul h4 hk;refine ⟨⟨?_,fun _ _=>?_,fun _ _=>?_⟩,?_,?_,hl⟩
 ·rw [Bool.or_eq_false_iff,decide_eq_false_iff_not,decide_eq_false_iff_not];omega
 ·have h8:(8:Int)<=(2 ^ 63 - 1) / n:=(Int.le_ediv_iff_mul_le (by omega)).mpr (by omega);omega
 ·unfold Builtin.Str.tooLong;exact decide_eq_false (by omega)
 ·unfold Txt.mul;rw [if_neg (by omega),if_neg];rw [Bool.or_eq_true,beq_iff_eq,beq_iff_eq];omega
 ·show Array.size _<=_;rw [<- qnB,hl,List.length_flatten,List.map_replicate,List.sum_replicate_nat];have e:x.cps.toList.length=x.length:=qnB;rw [e];rw [Nat.mul_comm];omega
def rMulT:V->V->Hp->VK->Prop:=fun x y H Q=>∃ a n z,x = .str a/\y = .int n/\KF a n=some z/\Q (.str z) H
theorem LW {X:Cx}:OpR X (binaryOp .Mult) rMulT:=by
 intro pins s σ H x y v u Q I rx ry h;obtain ⟨a,n,z,rfl,rfl,hz,q⟩:=h;obtain ⟨t,rfl⟩:=rx;obtain ⟨t',rfl⟩:=ry;obtain ⟨h1,h2,_,_⟩:=J6 hz;exact SB.mul h1 fun t2 k=>⟨.str z,H,I.tok _,⟨_,by rw [h2]⟩,q⟩
section
variable {K:FZ9}{σ:St}{G H G1 H1 G0 H0:Hp}{α β γ:Type}[Rp α][Rp β][Rp γ][RpC γ]{ta te:TE}{rest:TS}{D:Ends}{i:Nat}{v:V}{p:Addr}{cs:List (Option Addr)}
theorem ev_abs {ma:Option Int}(ea:EV K ta σ G ma):EV K (tCB rAbs (Aq ta CM)) σ G (ma.bind fun a=>some (if a<0 then -a else a)):=by
 clear 7;obtain ⟨a,ha,hc⟩:=qaA.mp hc;cases hc;refine ea G1 s1 a ha H sH _ fun v G2 H2 x r=>?_;obtain rfl:=r;exact ⟨a,rfl,k _ G2 H2 x rfl⟩
theorem Ku {tb:TE}{ma:Option Str}{mb:Option Int}(ea:EV K ta σ G ma)(eb:EV K tb σ G mb):EV K (tOp rMulT ta tb) σ G (ma.bind fun a=>mb.bind fun b=>KF a b):=by
 clear 7;obtain ⟨a,ha,hc⟩:=qaA.mp hc;obtain ⟨b,hb,hc⟩:=qaA.mp hc;clear 8 ea a ha;refine eb G2 (s1.trans x2.gg) b hb H2 x2.gh _ fun u G3 H3 x3 r3=>?_;obtain ⟨rfl,_⟩:=r2;obtain rfl:=r3;exact ⟨a,b,c,rfl,rfl,hc,k _ G3 H3 (x2.trans x3) ⟨rfl,(J6 hc).2.2.1⟩⟩
end
structure Exn where
 D:Addr
instance rpExn:Rp Exn:=⟨fun _ H v e=>∃ ea,v = .ref ea/\H ea=some (Exo ea (.ref e.D)),fun s ⟨ea,e,h⟩=>⟨ea,e,s _ _ h⟩⟩
section
variable {K:FZ9}{σ:St}{G H:Hp}{ta:TE}
theorem Cj {D:Addr}{c:V}{u:Value}{b:Bool}(Z:XKit K D)(hk:PySem.W.kitOne K (.ref D) u=some b)(hc:∀ z,RelV c z->z=u)(ea:EV K ta σ G (some (Exn.mk D))):EV K (tCB (rInstX K) (Aq ta (Aq (tC c) CM))) σ G (some b):=by
 intro G1 s1 a ha H sH Q k;cases ha;refine ea G1 s1 _ rfl H sH _ fun v G2 H2 x r=>?_;obtain ⟨ex,rfl,he⟩:=r;exact ⟨ex,D,b,c,u,rfl,x.gh _ _ he,Z,hc,hk,k _ G2 H2 x rfl⟩
end
theorem Db {a:Addr}:∀ z,RelV (.ref a) z->z = .ref a:=fun _ h=>h
theorem rel_ty {T:String}:∀ z,RelV (.ty T) z->z = .type T:=fun _ h=>h
theorem own_in {K:FZ9}{h:Heap}{mg:Str->Option Value}{x:Str}{C:Addr}{bm:List Value}{newId:String}(X:K.In h)(G:h.Ns mainGlobals mg)(e:qgB K mainGlobals x=some (some (.ref C)))(q:PySem.W.excIn K C bm newId=true):OwnCls x C bm newId mg h:=by
 refine ⟨qhB X G e,?_⟩;unfold PySem.W.excIn at q;split at q
 case h_2=>cases q
 rename_i dd cd sl ho;split at q
 case h_2=>cases q
 rename_i C' tl k0 k1 k2 k3 n k5 hm hs;simp only [qtB,beq_iff_eq,Bool.not_eq_true'] at q;obtain ⟨⟨⟨⟨⟨rfl,rfl⟩,hdel⟩,ht⟩,hok⟩,hni⟩:=q;obtain ⟨nm,bs,mro,ns,qn,hd,sn,sub,ab,col,del⟩:=cd;dsimp only at hm hdel hok hni;subst hm hdel;obtain ⟨l⟩:=sl;simp only at hs;subst hs;exact ⟨tl,ns,nm,qn,bs,hd,sn,sub,ab,col,dd,k0,k1,k2,k3,k5,_,X _ _ ho,.of_isNs (PySem.W.isNs_of_in X hok),PySem.W.nsMap_none_of_in X hok hni,PySem.W.tail_of_in X ht⟩
theorem Hs:bootBuiltins "ValueError" = some (.type "ValueError"):=by decide +kernel
def XKits (K:FZ9)(D:Addr):Prop:=(∃ cd,PySem.W.clsIn K D=some cd)/\PySem.W.findIn K (.ref D) "__getattribute__" = some (some (.builtin "BaseException.__getattribute__"))/\PySem.W.findIn K (.ref D) "__getattr__" = some none /\
 PySem.W.findIn K (.ref D) "__class__" = some (some (.builtin "object.__class__"))/\PySem.W.specialIn K (.builtin "object.__class__") "__get__" = some (some (.builtin "getset_descriptor.__get__"))/\PySem.W.takesIn K (.builtin "object.__class__")=some true /\
 PySem.W.mroIn K D (.type "object")=some true/\PySem.W.mroIn K D (.type "BaseException")=some true
theorem XKits.to {K:FZ9}{D:Addr}(h:XKits K D):XKit K D :=
 let ⟨⟨cd,h1⟩,h2,h3,h4,h5,h6,h7,h8⟩:=h
 ⟨by rw [h1];rfl,h2,h3,h4,h5,h6,h7,h8⟩
theorem thnT {α:Type}{t:Sem α}{Q Q':α->Shared->Prop}{M:Model}{A:Around}{E:Value->Shared->Prop}{s:Shared}(hn:0<s.toks)(h:wpAny M A t Q E s)(hQ:∀ a s,0<s.toks->Q a s->Q' a s):wpAny M A t Q' E s :=
 wpAny_mono (wpAny_toks_of (n:=1) hn h) (fun a s x=>hQ a s x.1 x.2) fun _ _ x=>x.2
def PEp (X:Cx)(e:Expr)(t:TE):Prop :=
 ∀ (pins:List (Addr × Obj)) (s:Shared) (σ:St) (H:Hp) (Q:VK),Inv X pins σ H s->0<s.toks->t σ H Q->wpAny (model X.prog X.w) X.A (eval e X.env) (EP X pins σ Q) X.xe s
def PTp (X:Cx)(e:Expr)(t:TT):Prop :=
 ∀ (pins:List (Addr × Obj)) (s:Shared) (σ:St) (H:Hp) (Q:Bool->Hp->Prop),Inv X pins σ H s->0<s.toks->t σ H Q->wpAny (model X.prog X.w) X.A (isTrue e X.env (eval e X.env)) (TP X pins σ Q) X.xe s
def PSp (X:Cx)(st:Stmt)(t:TS):Prop :=
 ∀ (pins:List (Addr × Obj)) (s:Shared) (σ:St) (H:Hp) (D:Ends),Inv X pins σ H s->0<s.toks->t D σ H->wpAny (model X.prog X.w) X.A (exec st X.env) (SP X pins D) X.xe s
def PSsp (X:Cx)(st:List Stmt)(t:TS):Prop :=
 ∀ (pins:List (Addr × Obj)) (s:Shared) (σ:St) (H:Hp) (D:Ends),Inv X pins σ H s->0<s.toks->t D σ H->wpAny (model X.prog X.w) X.A (execs st X.env) (SP X pins D) X.xe s
def PIt (X:Cx)(tg iter:Expr)(wi:TI):Prop :=
 ∀ (pins:List (Addr × Obj)) (s:Shared) (σ:St) (H:Hp) (R:It->Hp->Prop),Inv X pins σ H s->0<s.toks->wi σ H R ->
  wpAny (model X.prog X.w) X.A (eval iter X.env) (fun v s1=>wpAny (model X.prog X.w) X.A (pyIter v) (PIE X pins σ tg R) X.xe s1) X.xe s
section
variable {X:Cx}{e a b:Expr}{rest:List Expr}{te ta:TE}{tA tB':TT}{st:Stmt}{sts:List Stmt}{t u:TS}{pos:Pos}
theorem PE.p (h:PE X e te):PEp X e te:=fun pins s σ H Q I _ q=>h pins s σ H Q I q
theorem PT.p (h:PT X e tA):PTp X e tA:=fun pins s σ H Q I _ q=>h pins s σ H Q I q
theorem PS.p (h:PS X st t):PSp X st t:=fun pins s σ H D I _ q=>h pins s σ H D I q
theorem PSs.p (h:PSs X sts t):PSsp X sts t:=fun pins s σ H D I _ q=>h pins s σ H D I q
theorem Ak (h1:PSp X st t)(h2:PSsp X sts u):PSsp X (st::sts) (DS t u):=by
 intro pins s σ H D I hn h;refine wpAny_execs_cons (thnT hn (h1 pins s σ H { D with nx:=u D } I hn h) fun f s1 hn q=>?_)
 cases f with
 | next =>
  obtain ⟨σ',H',I',q⟩:=q;exact h2 pins s1 σ' H' D I' hn q
 | ret v=>exact q
 | brk=>exact q
 | cont=>exact q
theorem ptP_not (ha:PTp X a tA):PTp X (.UnaryOp .Not a pos) (tNot tA):=by
 intro pins s σ H Q I hn h;exact isTrue_not (ha pins s σ H (fun c H1=>Q (!c) H1) I hn h)
theorem KD (K:FZ9)(ha:PEp X a ta)(he:∀ whole,isTrue a X.env whole=(do let v <- whole;standAt a.pos;holding [v] (truthy v)):=by exact fun _=>rfl)(h:X.K=K:=by rfl):PTp X a (fun σ H Q=>ta σ H fun x H'=>∃ k,TruV K x H' k/\Q k H'):=by
 subst h;intro pins s σ H Q I hn h;exact isTrue_plain (thn (ha pins s σ H _ I hn h) fun v s1 ⟨x,H1,I1,r1,q1⟩=>tru_ok pins s1 σ H1 x v Q I1 r1 q1) (he _)
end
structure FnOkP (P:Program)(w:World)(K:FZ9)(mg:Str->Option Value)(base:Heap)(k:Nat)(f:Addr)(fd:FuncData)(ps:List Str)(sp:Sp):Prop where
 len:∀ vs H Q E,sp vs H Q E->vs.length=ps.length
 run:∀ (A:Around) (outer:List Env) (s:Shared) (H:Hp) (args:Args) (us:List Value) (vs:List V) (Q:VK) (E:XK),Room k A->Env0 P w K mg base A outer s H->0<s.toks->BindsTo s fd args (ps.zip us)->Vals vs us->sp vs H Q E ->
  codeAny (model P w) A (.call (.ref f) args) (CR CX0 outer P w H s Q E) s
structure DefP (P:Program)(w:World)(K:FZ9)(mg:Str->Option Value)(base:Heap)(x:Str)(k:Nat)(ps:List Str)(sp:Sp):Prop where
 ex:∃ f fd,FnOkP P w K mg base k f fd ps sp/\mg x=some (.ref f)/\qiB K (.ref f)=true/\Binds K fd ps []
theorem J9 {X:Cx}{x:Str}{k j:Nat}{ps:List Str}{sp:Sp}{e:Expr}{es:List Expr}{t:TA}{p pos:Pos}(F:DefP X.prog X.w X.K X.mg X.base x k ps sp)(hr:Room j X.A)(hj:k<=j)(hg:Gl X x)(ha:PA X (e::es) t)(hdb:(x == ("__debug__" : Str))=false:=by decide)
  (he:starEach (e::es) X.env=(false,eval e X.env)::starEach es X.env:=by rfl) (hpl:(backTo pos (starEach es X.env)).any (·.1)=false:=by rfl) :
  PEp X (.Call (.Name x p) (e::es) [] pos) (FW sp [] E0 t):=by
 obtain ⟨f,fd,G,m,kp,b⟩:=F.ex;intro pins s σ H Q I hn h;refine wpAny_Call_Name_kw (D4 I hg m ?_ hdb);refine PySem.W.callWith_K (h₀:=X.base) I.ok.mod.kin kp (thnT hn (ha pos pins s σ H _ I h) fun us s1 hn ⟨vs,H1,I1,r,q⟩=>⟨I1.kIn,?_⟩) he hpl;have r2:Vals (vs++[]) (us++[]):=r.append .nil;have hl:(us++[]).length=ps.length:=by rw [<- r2.length];exact G.len _ _ _ _ q
 refine wpAny_call (codeAny_mono (G.run X.A X.stack s1 H1 ⟨us,[]⟩ (us++[]) (vs++[]) Q E0 (hr.mono hj) I1.env0 hn (b s1 us I1.kIn hl) r2 q) fun r s' hq=>?_)
 cases r with
 | error e=>exact (pass0 pins σ H1 s1 e s' I1 hq)
 | ok fl =>
  cases fl with
  | ret u=>exact I1.after hq
  | next=>exact False.elim hq
  | brk=>exact False.elim hq
  | cont=>exact False.elim hq
theorem fnP_of {P:Program}{w:World}{K:FZ9}{mg:Str->Option Value}{base:Heap}{k:Nat}{f:Addr}{name qual:Str}{params:Arguments}{body:List Stmt}{scope:Scope}{dV kV doc pm cdv ct oc:Value}{an od:Option Addr}
  {osl:Array (Option Value)}{N ps:List Str}{sp:Sp}(lk:K.lookup f=some ⟨oc,od,.func (qkB name qual params body scope dV kV doc pm an cdv ct),osl⟩) (hcd:qjB K cdv qual=true) (S:FnScope N ps scope)
  (len:∀ vs H Q E,sp vs H Q E->vs.length=ps.length)
  (hbody:∀ (A:Around) (outer:List Env) (s:Shared) (H:Hp) (vs:List V) (Q:VK) (E:XK),Room k (A.deeper (envOfC qual scope s.heap.objs.size f cdv))->sp vs H Q E ->
   ∃ t,PSsp (DV CX0 P w K mg base N qual scope f cdv A outer s H E) body t/\t { nx:=fun _ H'=>Q .non H',rt:=Q } (start N vs) H) :
  FnOkP P w K mg base (k+1) f (qkB name qual params body scope dV kV doc pm an cdv ct) ps sp:=by
 refine ⟨len,fun A outer s H args us vs Q E hr e0 hn hb r hsp=>?_⟩;have hl:=len _ _ _ _ hsp;have KX:K.In s.heap:=e0.mod.kin.keeps fun b o e=>(e0.bs b o e).1;have lim:s.heap.NoLimit:=e0.mod.nolimit.keeps fun b o e=>(e0.bs b o e).1
 have hkind:∀ y∈ps.zip us,scope.names.lookup y.1=some .local \/ (scope.names.lookup y.1=some .cell/\((cellsFrom (s.heap.objs.size+1) scope.names []).lookup y.1).isSome=true):=fun ⟨n,v⟩ hy=>by
  rcases S.par n (List.of_mem_zip hy).1 with q|q
  ·exact .inl q
  ·exact .inr ⟨q,PySem.W.cellsFrom_some _ _ _ (.inl q)⟩
 refine codeAny_call_function hr.depth (KX _ _ lk) rfl S.co S.gen rfl (PySem.W.codeRec_of KX hcd) (hb _ _ _ _ ?_);refine wpAny_with_toks (n:=1) hn (wpAny_newFunctionEnv_cells S.kind hkind fun env he s1 x hn=>?_);subst he;refine ⟨lim.keeps x.toInCall.keep,codeAny_func ?_⟩;obtain ⟨t,ht,hq⟩:=hbody A outer s H vs Q E (hr.deeper _) hsp;have I:Inv (DV CX0 P w K mg base N qual scope f cdv A outer s H E) [] (start N vs) H s1:=Ek S hr.hd e0 hl r x;refine wpAny_mono (ht [] s1 (start N vs) H _ I hn hq) (fun fl s' hs=>?_) fun e s' hs=>hs
 have fin:∀ {σ':St}{H':Hp}{v:V}{u:Value},Inv (DV CX0 P w K mg base N qual scope f cdv A outer s H E) [] σ' H' s'->RelV v u->Q v H'->CE outer P w H s Q u s' :=
  fun {σ' H' v u} J rv q=>⟨v,H',J.os,J.bare,J.base,J.hok,rv,q⟩
 cases fl with
 | ret u =>
  obtain ⟨v,σ',H',J,rv,q⟩:=hs;exact fin J rv q
 | next =>
  obtain ⟨σ',H',J,q⟩:=hs;exact fin (v:=V.non) (u:=Value.none) J rfl q
 | brk =>
  obtain ⟨_,_,_,q⟩:=hs;exact False.elim q
 | cont =>
  obtain ⟨_,_,_,q⟩:=hs;exact False.elim q
theorem PSsp.nox {X:Cx}{st:List Stmt}{t:TS}(h:PSsp X.nox st t):PSsp X st t:=fun pins s σ H D I hn hw =>
 wpAny_mono (h pins s σ H D (I.wish _) hn hw) (fun _ _ q=>q.unwish) fun _ _ z=>False.elim z
section
variable {P:Program}{w:World}{K:FZ9}{mg:Str->Option Value}{base:Heap}{x:Str}{st:Stmt}{N ps:List Str}{k:Nat}{sp:Sp}
theorem DIn.okP (Z:DIn K mg x st)(S:FnScope N ps (AE st))(b:BnO x st ps)(len:∀ vs H Q E,sp vs H Q E->vs.length=ps.length)
  (hbody:∀ (f:Addr) (cdv:Value) (A:Around) (outer:List Env) (s:Shared) (H:Hp) (vs:List V) (Q:VK) (E:XK),Room k (A.deeper (envOfC x (AE st) s.heap.objs.size f cdv))->sp vs H Q E ->
   ∃ t,PSsp (DV CX0 P w K mg base N x (AE st) f cdv A outer s H E).nox (Bo st) t/\t { nx:=fun _ H'=>Q .non H',rt:=Q } (start N vs) H):DefP P w K mg base x (k+1) ps sp:=by
 obtain ⟨f,fd,a,F⟩:=Z.ex;have hb:=F.binds b;obtain ⟨oc,od,kV,doc,pm,an,cdv,ct,osl,rfl,lk,hcd⟩:=F.ex;refine ⟨f,_,fnP_of lk hcd S len fun A outer s H vs Q E hr hsp=>?_,a,F.kp,hb⟩;obtain ⟨t,h,q⟩:=hbody f cdv A outer s H vs Q E hr hsp;exact ⟨t,h.nox,q⟩
end
def tRepl (y z:Str)(to:TE):TE:=fun σ H Q=>to σ H fun v H1=>∃ x:Str,v = .str x/\x.length+(x.length+1) * z.length<=16777216/\Q (.str (Txt.replace x y z)) H1
theorem GK {X:Cx}{o:Expr}{to:TE}{y z:Str}{k1 k2:Nat}{p1 p2 apos cpos:Pos}(ho:PEp X o to)(hyz:(y == z)=false:=by decide)
  (hbase:attributeBase o "replace" X.env (eval o X.env)=eval o X.env:=by rfl)
  (hfew:((backTo cpos (starEach [.Constant (.str y) k1 p1,.Constant (.str z) k2 p2] X.env)).all (fun x=>!x.1) && (backToKw cpos (keywordEach [] X.env)).all (fun x=>x.1.isSome)
   && decide (([.Constant (.str y) k1 p1,.Constant (.str z) k2 p2]:List Expr).length+([]:List Keyword).length+(if ([]:List Keyword).isEmpty then 0 else 1)<30))=true:=by rfl)
  (hline:(apos.endLine == cpos.line)=true:=by rfl) (hs:starEach [.Constant (.str y) k1 p1,.Constant (.str z) k2 p2] X.env=[(false,eval (.Constant (.str y) k1 p1) X.env),(false,eval (.Constant (.str z) k2 p2) X.env)]:=by rfl) :
  PEp X (.Call (.Attribute o "replace" apos) [.Constant (.str y) k1 p1,.Constant (.str z) k2 p2] [] cpos) (tRepl y z to):=by
 intro pins s σ H Q I hn h;refine wpAny_Call_method_late hbase hfew hline rfl (thnT hn (ho pins s σ H _ I hn h) fun v s1 hn ⟨x,H1,I1,r1,x',e,hb,q1⟩=>?_);subst e;obtain ⟨t,rfl⟩:=r1;refine ⟨"str","str.replace",PySem.F.plainAttrs_str,PySem.F.slot_str_replace,PySem.F.type_str_replace,rfl,(fun a z=>nomatch z),?_⟩;rw [hs];refine Calls.callWith_builtin rfl (Calls.evalArgs_plain ?_);show wpAny _ _ (spliced [(false,eval (.Constant (.str y) k1 p1) X.env),(false,eval (.Constant (.str z) k2 p2) X.env)]) _ _ s1;refine Calls.spliced_cons (Calls.Constant_str (Calls.spliced_cons (Calls.Constant_str (Calls.spliced_nil ?_))));exact SC.replace (by show s1.toks≠0;omega) (by show s1.toks+1≠0;omega) (by show s1.toks≠s1.toks+1;omega) hyz hb fun t' k=>⟨.str (Txt.replace x' y z),H1,I1.tok _,⟨_,rfl⟩,q1⟩
section
variable {X:Cx}{o e:Expr}{es:List Expr}{to te:TE}{t:TA}{name:Str}{apos cpos pos:Pos}{T id:String}{r:V->List V->Hp->VK->Prop}
theorem peP_bmK {K:FZ9}(h:X.K=K)(pa:PlainAttrs T)(slot:Slot T name id)(hty:typeOf (.builtin id)=pure (.type "method_descriptor"))(hm:MtR X id r)(ho:PEp X o to)(ha:PA X (e::es) t)
  (hbase:attributeBase o name X.env (eval o X.env)=eval o X.env:=by rfl)
  (hfew:((backTo cpos (starEach (e::es) X.env)).all (fun x=>!x.1) && (backToKw cpos (keywordEach [] X.env)).all (fun x=>x.1.isSome)
   && decide ((e::es).length+([]:List Keyword).length+(if ([]:List Keyword).isEmpty then 0 else 1)<30))=true:=by rfl)
  (hline:(apos.endLine == cpos.line)=true:=by rfl) (hs:starEach (e::es) X.env=(false,eval e X.env)::starEach es X.env:=by rfl) (hplain:(backTo cpos (starEach es X.env)).any (·.1)=false:=by rfl) :
  PEp X (.Call (.Attribute o name apos) (e::es) [] cpos) (tBM K T r to t):=by
 subst h;intro pins s σ H Q I hn h;refine wpAny_Call_method_late hbase hfew hline rfl (thn (ho pins s σ H _ I hn h) fun v s1 ⟨x,H1,I1,r1,ty,q1⟩=>?_);obtain ⟨h1,h2⟩:=KM I1 r1 ty;refine ⟨T,id,pa,slot,hty,h1,h2,?_⟩;have hA:=ha cpos pins s1 σ H1 _ I1 q1;rw [hs] at hA ⊢;refine Calls.callWith_builtin (by show (false || (backTo cpos (starEach es X.env)).any (·.1))=false;rw [hplain]<;>rfl) (Calls.evalArgs_plain ?_);exact thn hA fun us s2 ⟨vs,H2,I2,r2,q2⟩=>hm pins s2 σ H2 x vs v us Q I2 r1 r2 q2
theorem piP_rev {K:FZ9}{tg a:Expr}{ta:TE}{p:Pos}(hK:X.K=K)(hg:Gl X "reversed")(hm:X.mg "reversed" = none)(ha:PEp X a ta)(hs:starEach [a] X.env=[(false,eval a X.env)]:=by rfl) :
  PIt X tg (.Call (.Name "reversed" p) [a] [] pos) (iRev K (Aq ta CM)):=by
 subst hK;intro pins s σ H R I hn h
 have hA:wpAny (model X.prog X.w) X.A (spliced (backTo pos (starEach [a] X.env))) (AP X pins σ fun vs H1=>∃ a xs,vs=[.ref a]/\SqL X.K H1 a xs/\R (Itv X.K a xs.length) H1) X.xe s:=by
  rw [hs];exact Calls.spliced_cons (thn (ha pins s σ H _ I hn h) fun u s1 ⟨x,H1,I1,r1,q1⟩=>Calls.spliced_nil ⟨[x],H1,I1,.cons r1 .nil,q1⟩)
 refine Call_ (JM I hg hm Hu (PyProof.Rows.callWith_type1 (thn hA fun us s1 ⟨vs,H1,I1,r1,q1⟩=>?_) (by rw [hs];rfl) (by rfl)));obtain ⟨l,xs,e,hq,q⟩:=q1;subst e;obtain ⟨u1,rfl,r1q⟩:=IM r1;obtain rfl:u1=Value.ref l:=r1q;obtain ⟨its,rv,pl,_⟩:=I1.list hq;have hl:=rv.length;refine call_reversed_list pl.isList ?_
 have st:(s1.heap.push (revObj l ((its.toArray.size:Int) - 1))).IsRevIter s1.heap.objs.size l ((xs.length:Int) - 1 - ((0:Nat):Int)):=⟨_,qyA _ rfl,rfl,by
  rw [qfB,<- hl];have e:((xs.length:Int) - 1 - ((0:Nat):Int))=(xs.length:Int) - 1:=by omega
  rw [e]
  rfl⟩
 refine wpAny_pyIter_revIter (s:={ s1 with heap:=s1.heap.push (revObj l ((its.toArray.size:Int) - 1)) }) st ?_;have I2:Inv X pins σ H1 { s1 with heap:=s1.heap.push (revObj l ((its.toArray.size:Int) - 1)) }:=I1.kept (t':=s1.toks) fun b o e=>qxA _ e;refine ⟨s1.heap.objs.size,[s1.heap.objs.size],_,_,H1,rfl,I2,turn_rev l s1.heap.objs.size xs.length,st,fun b hb=>?_,q⟩;rw [qjA.mp hb];exact I1.fpOk (qsA _) (I1.hok.fresh (qsA _))
end
section
variable {X:Cx}{tg:Expr}
theorem psP_for {iter:Expr}{body:List Stmt}{wi:TI}{g:TG}{tb:TS}{pos:Pos}(hp:PassesOwn (model X.prog X.w) X.A X.env X.xe)(hc:X.calm=true)(hi:PIt X tg iter wi)(hg:PG X tg g)(hb:PSs X body tb)
  (hs:∀ x,foldedSetIterable iter X.env x=pure x:=by intro _;rfl):PSp X (.For tg iter body [] pos) (tFor wi g tb):=by
 intro pins s σ H D I hn h;refine wpAny_For (thn (hi pins s σ H _ I hn h) fun v s1 h1=>thn h1 fun itv s2 h2=>?_) hs;obtain ⟨it,fp,tn,J,H2,e,I2,T,st2,f2,W,⟨m0,w0⟩,turn⟩:=h2;subst e;have stat:∀ {H':Hp},(∀ b∈fp,H' b=none)->∀ b∈fp,GW X pins H' b:=fun hn b hb=>⟨hn b hb,(f2 b hb).2⟩;refine codeAny_forLoop_any (fun n s'=>∃ i σ' H',Inv X pins σ' H' s'/\tn i s'.heap/\(∀ b∈fp,H' b=none)/\W i n σ' H') ?_ m0 ⟨0,σ,H2,I2,st2,fun b hb=>(f2 b hb).1,w0⟩;rintro n s3 ⟨i,σ3,H3,I3,st3,fr3,w3⟩;rcases turn i n σ3 H3 w3 with ⟨stop,qn⟩ | ⟨go,N,hN,step⟩
 ·refine wpAny_passesOwn hp (thn (T.done X rfl rfl rfl hc i pins s3 σ3 H3 X.xe I3 (stat fr3) st3 stop) fun r s4 ⟨hr,I4⟩=>?_);subst hr;exact wpAny_execs_nil ⟨σ3,H3,I4,qn⟩
 ·refine wpAny_passesOwn hp (thn (T.item X rfl rfl rfl hc i pins s3 σ3 H3 X.xe I3 (stat fr3) st3 go) fun r s4 ⟨u,hr,h4⟩=>?_);subst hr;refine wpAny_passesOwn hp (thn h4 fun _ s5 ⟨x,H5,I5,r5,y5,st5,fr5⟩=>?_);have I5':=I5.pinned (stat fr5) (T.obj _ _ st5);refine wpAny_passesOwn hp (thn (hg _ s5 σ3 H5 x u _ I5' r5 (step x H5 y5)) fun _ s6 ⟨σ6,H6,I6,q6⟩=>?_);refine wpAny_passesOwn hp (thn (hb _ s6 σ6 H6 _ I6 q6) fun f s7 q7=>?_)
  have again:∀ {σ7:St}{H7:Hp},Inv X (pins++GD fp s5.heap) σ7 H7 s7->N σ7 H7->∃ m,m<n/\∃ i σ' H',Inv X pins σ' H' s7/\tn i s7.heap/\(∀ b∈fp,H' b=none)/\W i m σ' H':=fun {σ7 H7} I7 n7=>by
   obtain ⟨m',hm,w7⟩:=hN σ7 H7 n7;refine ⟨m',hm,i+1,σ7,H7,I7.unpinned,T.keep _ _ _ st5 fun b hb o e=>(I7.pin (b,o) (qrB _ (qrB _ (Cs hb e)))).1,fun b hb=>?_,w7⟩;obtain ⟨o,e,d⟩:=T.obj _ _ st5 b hb;exact (I7.pin (b,o) (qrB _ (qrB _ (Cs hb e)))).2.1
  cases f with
  | next=>obtain ⟨σ7,H7,I7,n7⟩:=q7;exact again I7 n7
  | cont=>obtain ⟨σ7,H7,I7,n7⟩:=q7;exact again I7 n7
  | brk=>obtain ⟨σ7,H7,I7,q7⟩:=q7;exact ⟨σ7,H7,I7.unpinned,q7⟩
  | ret v=>obtain ⟨x7,σ7,H7,I7,r7,q7⟩:=q7;exact ⟨x7,σ7,H7,I7.unpinned,r7,q7⟩
end
def PEq (X:Cx)(e:Expr)(t:TE):Prop :=
 ∀ (pins:List (Addr × Obj)) (s:Shared) (σ:St) (H:Hp) (Q:VK),Inv X pins σ H s->t σ H Q->wpAny (model X.prog X.w) X.A (eval e X.env) (fun v s'=>0<s'.toks/\EP X pins σ Q v s') X.xe s
def PSq (X:Cx)(st:Stmt)(t:TS):Prop :=
 ∀ (pins:List (Addr × Obj)) (s:Shared) (σ:St) (H:Hp) (D:Ends),Inv X pins σ H s->t D σ H->wpAny (model X.prog X.w) X.A (exec st X.env) (fun f s'=>0<s'.toks/\SP X pins D f s') X.xe s
section
variable {X:Cx}{e:Expr}{es:List Expr}{te:TE}{st:Stmt}{sts:List Stmt}{t u:TS}{ta:TA}{pos p:Pos}
theorem Li (h1:PSq X st t)(h2:PSsp X sts u):PSs X (st::sts) (DS t u):=by
 intro pins s σ H D I h;refine wpAny_execs_cons (thn (h1 pins s σ H { D with nx:=u D } I h) fun f s1 ⟨hn,q⟩=>?_)
 cases f with
 | next =>
  obtain ⟨σ',H',I',q⟩:=q;exact h2 pins s1 σ' H' D I' hn q
 | ret v=>exact q
 | brk=>exact q
 | cont=>exact q
theorem psQ_set {i:Nat}{x:Str}{pos':Pos}(hN:X.N.Nodup)(hi:X.N[i]? = some x)(hx:Loc X.env.scope x)(he:PEq X e te)(hs:swapsWith e (some (.Name x pos')) pos.line X.env=pure false:=by rfl)(hf:X.fn x=true\/X.env.scope.names.lookup x=some .local := by first|exact .inl rfl|exact .inr rfl|assumption) :
  PSq X (.Assign [.Name x pos'] e pos) (KW te (Es i)):=by
 intro pins s σ H D I h;refine wpAny_Assign_Name (thn (he pins s σ H _ I h) fun v s1 ⟨hn,y,H1,I1,r1,q1⟩=>?_) hs;exact wpAny_with_toks (n:=1) hn (ET I1 hN hi hx r1 (fun s2 I2 hn=>⟨hn,_,H1,I2,q1⟩) hf)
theorem peQ_def {x:Str}{k j:Nat}{ps:List Str}{sp:Sp}{i:Int}{c:Nat}{pc:Pos}(F:DefOk X.prog X.w X.K X.mg X.base x k ps sp)(hr:Room j X.A)(hj:k<=j)(hg:Gl X x)(ha:PE X e te)(hdb:(x == ("__debug__" : Str))=false:=by decide)
  (he:starEach [e,.Constant (.int i) c pc] X.env=(false,eval e X.env)::starEach [.Constant (.int i) c pc] X.env:=by rfl) (hpl:(backTo pos (starEach [.Constant (.int i) c pc] X.env)).any (·.1)=false:=by rfl) :
  PEq X (.Call (.Name x p) [e,.Constant (.int i) c pc] [] pos) (FW sp [] E0 (Aq te (Aq (tC (.int i)) CM))):=by
 obtain ⟨f,fd,G,m,kp,b⟩:=F.ex;intro pins s σ H Q I h;refine wpAny_Call_Name_kw (D4 I hg m ?_ hdb);refine PySem.W.callWith_K (h₀:=X.base) I.ok.mod.kin kp ?_ he hpl;rw [he];show wpAny _ _ (spliced [(false,eval e X.env),(false,eval (.Constant (.int i) c pc) X.env)]) _ _ s;refine Calls.spliced_cons (thn (ha pins s σ H _ I h) fun u s1 ⟨y,H1,I1,r1,q1⟩=>?_);refine Calls.spliced_cons (wpAny_Constant_int (Calls.spliced_nil ?_));have I2:Inv X pins σ H1 { s1 with toks:=s1.toks+1 }:=I1.tok _;refine ⟨I2.kIn,?_⟩;refine wpAny_with_toks (n:=1) (by show 1<=s1.toks+1;omega) (wpAny_mono (run_fn (vs:=[y,.int i]) G (hr.mono hj) b .nil pass0 I2 (.cons r1 (.cons ⟨_,rfl⟩ .nil)) q1) (fun v s2 z hn=>⟨hn,z⟩) fun _ _ z _=>z)
end
def tDgC (l:List (Str × Int))(ty:TE):TE:=fun σ H Q=>ty σ H fun y H1=>∃ z,y = .str z/\Q (match Cf l z with|some i=>.int i|none=>.non) H1
theorem pe_dgC {X:Cx}{i o:Expr}{ty:TE}{apos cpos:Pos}{a:Addr}{w:World}{K:FZ9}{l:List (Str × Int)}(hw:X.w=w)(hK:X.K=K)(C:CDict w K a l)(ho:PE X o (tC (.ref a)))(hi:PE X i ty)
  (hbase:attributeBase o "get" X.env (eval o X.env)=eval o X.env:=by rfl)
  (hfew:((backTo cpos (starEach [i] X.env)).all (fun x=>!x.1) && (backToKw cpos (keywordEach [] X.env)).all (fun x=>x.1.isSome)
   && decide (([i]:List Expr).length+([]:List Keyword).length+(if ([]:List Keyword).isEmpty then 0 else 1)<30))=true:=by rfl)
  (hline:(apos.endLine == cpos.line)=true:=by rfl) (hs:starEach [i] X.env=[(false,eval i X.env)]:=by rfl):PE X (.Call (.Attribute o "get" apos) [i] [] cpos) (tDgC l ty):=by
 subst hw hK;intro pins s σ H Q I h;refine wpAny_Call_method_late hbase hfew hline rfl (thn (ho pins s σ H (fun v H'=>v = .ref a/\H'=H) I ⟨rfl,rfl⟩) fun u s1 ⟨x,H1,I1,rx,e1,e2⟩=>?_);subst e1 e2;obtain rfl:u=Value.ref a:=rx;obtain ⟨f,hf,hx⟩:=C.map (prog:=X.prog) (fun b o e=>I1.kIn b o e);obtain ⟨es,n,hl,_,_⟩:=C.ex;refine ⟨"dict","dict.get",PySem.F.plainAttrs_dict,PySem.F.slot_dict_get,PySem.F.type_dict_get,hf.typeIs,(fun b z=>by cases z;exact ⟨_,I1.kIn _ _ hl,rfl⟩),?_⟩;rw [hs];refine Calls.callWith_builtin rfl (Calls.evalArgs_plain ?_);show wpAny _ _ (spliced [(false,eval i X.env)]) _ _ s1;refine Calls.spliced_cons (thn (hi pins s1 σ H1 _ I1 h) fun iv s2 ⟨y,H2,I2,ry,z,ey,q2⟩=>Calls.spliced_nil ?_);subst ey;obtain ⟨t,rfl⟩:=ry;obtain ⟨f,hf,hx⟩:=C.map (prog:=X.prog) (fun b o e=>I2.kIn b o e);refine call_meetsIn PySem.F.slot_dict_get hf.typeIs PySem.F.entry_dict_get (PySem.F.args_dict_get_2 _ _) (meets_dict_get (strKind X.prog X.w) a (strKind_is X.prog X.w z t) C.lo) ⟨f,hf,?_⟩;have hz:=hx z
 cases e:Cf l z with
 | some i =>
  rw [e] at hz q2;obtain ⟨u,hz⟩:=hz;rw [hz];exact ⟨.int i,H2,I2.tok _,⟨u,rfl⟩,q2⟩
 | none =>
  rw [e] at hz q2;rw [show f z=none from hz];exact ⟨.non,H2,I2.tok _,rfl,q2⟩
section
variable {K:FZ9}{σ:St}{G H:Hp}{α β γ δ:Type}[Rp α][Rp β][Rp γ][Rp δ]{rest:TS}{D:Ends}{i j:Nat}{v:V}{p:Addr}{vs:List V}{as as':List α}{a:α}{ty to:TE}{ta:TA}
theorem ev_dgC {l:List (Str × Int)}{mx:Option Str}(e:EV K ty σ G mx):EV K (tDgC l ty) σ G (mx.bind fun x=>some (Cf l x)):=by
 clear 7;obtain ⟨x,hx,hc⟩:=qaA.mp hc;cases hc;clear 8 e x hx;refine ⟨x,r2.1,k _ G2 H2 x2 ?_⟩
 cases Cf l x with
 | some i=>rfl
 | none=>rfl
def Hj (y z x:Str):Option Str:=if x.length+(x.length+1) * z.length<=16777216/\(Txt.replace x y z).length<=sizeLine then some (Txt.replace x y z) else none
theorem LO {y z:Str}{mx:Option Str}(e:EV K to σ G mx):EV K (tRepl y z to) σ G (mx.bind fun x=>Hj y z x):=by
 clear 7;obtain ⟨x,hx,hc⟩:=qaA.mp hc;obtain ⟨⟨h1,h2⟩,rfl⟩:=BD hc;clear 8 e x hx;exact ⟨x,r2.1,h1,k _ G2 H2 x2 ⟨rfl,h2⟩⟩
theorem Lm (hσ:σ[i]? = some (some v))(o:Own K G H v p vs as)(hp:Fv as=some (a,as'))
  (k:∀ w,Rp.rel K G w a->Own K G (upd H p (.lst vs.dropLast)) v p vs.dropLast as'->D.rt w (upd H p (.lst vs.dropLast))):DS (tRet (tBM0 K "list" rPop (Fa i))) rest D σ H:=by
 obtain ⟨rfl,og,oh,oz,op⟩:=o;obtain ⟨w,hw,r,pr⟩:=Paired.last op hp;refine ⟨_,hσ,.inl ⟨rfl,_,SqL.of oh⟩,p,vs,w,rfl,rfl,oh,hw,?_⟩;exact k w r ⟨rfl,og,Af,by rw [List.length_dropLast];omega,pr⟩
end
section
variable {P:Program}{w:World}{K:FZ9}{mg:Str->Option Value}{base:Heap}{x:Str}{st:Stmt}{N:List Str}{k:Nat}{ρ:Type}[Rp ρ]
theorem DIn.okMP1 {α0:Type}[Rp α0]{p0:Str}{m:α0->Option ρ}(Z:DIn K mg x st)(S:FnScope N [p0] (AE st))
  (hbody:∀ (f:Addr) (cdv:Value) (A:Around) (outer:List Env) (s:Shared) (H:Hp) (Q:VK) (E:XK),Room k (A.deeper (envOfC x (AE st) s.heap.objs.size f cdv))->∀ G a0 res v0,Ext G H G H->Rp.rel K G v0 a0->m a0=some res->(∀ v G2 H2,Ext G H G2 H2->Rp.rel K G2 v res->Q v H2) ->
   ∃ t,PSsp (DV CX0 P w K mg base N x (AE st) f cdv A outer s H E).nox (Bo st) t/\t { nx:=fun _ H'=>Q .non H',rt:=Q } (start N [v0]) H)
  (b:BnO x st [p0]:=by exact bn1):DefP P w K mg base x (k+1) [p0] (spM K fun x:α0 × Unit=>m x.1) :=
 Z.okP S b (fun vs H Q E h=>(CV h).trans rfl) fun f cdv A outer s H vs Q E hr h=>by
  obtain ⟨G,⟨a0,⟨⟩⟩,res,sg,⟨v0,_,rfl,r0,rfl⟩,hm,q⟩:=h;exact hbody f cdv A outer s H Q E hr G a0 res v0 (Ext.refl sg) r0 hm q
end
section
variable {K:FZ9}{σ:St}{G H:Hp}{α:Type}[Rp α]{rest:TS}{D:Ends}
structure LoopObX (K:FZ9){α S ρ:Type}[Rp α](RR:ρ->V->Hp->Hp->Prop)(f:α->S->Option (Fl S ρ))(g:TG)(tb:TS)(D:Ends)(σ:St)(G2 H2:Hp)(as:List α)(s0:S)(res:Fl S ρ)(RS:S->St->Hp->Hp->Prop):Prop where
 start:RS s0 σ G2 H2
 keep:∀ s σ' G' H',RS s σ' G' H'->Same G2 G'/\Same G' H'
 step:∀ (x:V) (a:α) (s:S) (σ1:St) (G1 H1:Hp) (fl:Fl S ρ),a∈as->RS s σ1 G1 H1->Rp.rel K G1 x a->f a s=some fl->(∀ r,fl = .rt r->res = .rt r)->∀ D':Ends,(∀ s' σ' G' H',fl = .nx s'->RS s' σ' G' H'->D'.nx σ' H')->(∀ s' σ' G' H',fl = .nx s'->RS s' σ' G' H'->D'.ct σ' H') ->
  (∀ s' σ' G' H',fl = .bk s'->RS s' σ' G' H'->D'.bk σ' H')->(∀ r v G' H',fl = .rt r->RR r v G' H'->D'.rt v H')->g x σ1 H1 fun σ2 H2=>tb D' σ2 H2
 nxt:∀ s σ' G' H',res = .nx s->RS s σ' G' H'->D.nx σ' H'
 rtn:∀ r v G' H',res = .rt r->RR r v G' H'->D.rt v H'
theorem sv_forX {S ρ:Type}{RR:ρ->V->Hp->Hp->Prop}{f:α->S->Option (Fl S ρ)}{wi:TI}{g:TG}{tb:TS}{mi:Option (List α)}{as:List α}{s0:S}{res:Fl S ρ}(ei:IW K wi σ G mi)(hm:mi=some as)(hf:Bt f as s0=some res)(sg:Same G H)
  (k:∀ G2 H2,Ext G H G2 H2->∃ RS,LoopObX K RR f g tb { D with nx:=rest D } σ G2 H2 as s0 res RS):DS (tFor wi g tb) rest D σ H:=by
 refine ei G (.refl G) as hm H sg _ fun J vs G2 H2 x2 Y hz pr=>?_;obtain ⟨RS,L⟩:=k G2 H2 x2;have hla:=Paired.length pr;refine ⟨fun i m σ' H'=>m=vs.length - i/\i<=vs.length/\∃ s G',RS s σ' G' H'/\Bt f (as.drop i) s=some res,⟨vs.length,by simp,qsB _,s0,G2,L.start,hf⟩,?_⟩;rintro i m σ' H' ⟨rfl,hi,s,G',rs,hfo⟩;obtain ⟨k1,k2⟩:=L.keep _ _ _ _ rs;by_cases hlt:i<vs.length
 ·refine .inr ⟨Y.go i _ (k1.trans k2) hlt,fun σ'' H''=>∃ s' G'',RS s' σ'' G'' H''/\Bt f (as.drop (i+1)) s'=some res,fun σ'' H'' ⟨s',G'',h⟩=>⟨vs.length - (i+1),by omega,rfl,hlt,s',G'',h⟩,fun x H3 y=>?_⟩;obtain ⟨rfl,hx⟩:=Y.yld i _ x H3 (k1.trans k2) hlt y;obtain ⟨a,hai,ra⟩:=Paired.getR pr hx
  have hd:as.drop i=a::as.drop (i+1):=by
   obtain ⟨h1,h2⟩:=qoA.mp hai;rw [List.drop_eq_getElem_cons h1,h2]
  rw [hd] at hfo;obtain ⟨fl,hfl,hfo⟩:=qaA.mp hfo;refine L.step x a s σ' G' _ fl (qnA hai) rs (Rp.mono k1 ra) hfl (fun r e=>by subst e;exact (qvA hfo).symm) _ ?_ ?_ ?_ ?_
  ·intro s' σ'' G'' H'' e r;subst e;exact ⟨s',G'',r,hfo⟩
  ·intro s' σ'' G'' H'' e r;subst e;exact ⟨s',G'',r,hfo⟩
  ·intro s' σ'' G'' H'' e r;subst e;exact L.nxt s' σ'' G'' H'' (qvA hfo).symm r
  ·intro r v G'' H'' e rl;subst e;exact L.rtn r v G'' H'' (qvA hfo).symm rl
 ·have e:i=vs.length:=by omega
  subst e;have hd:as.drop vs.length=[]:=List.drop_eq_nil_of_le (by omega);rw [hd] at hfo;exact .inl ⟨Y.stop _ (k1.trans k2),L.nxt s σ' G' H' (qvA hfo).symm rs⟩
end
section
variable {K:FZ9}{mg:Str->Option Value}{σ:St}{G H:Hp}{α β:Type}[Rp α][Rp β]{rest:TS}{D:Ends}{i j:Nat}{v:V}{p:Addr}{vs:List V}{as:List α}{ta:TA}{te:TE}{E:St->XK}
def spYX (K:FZ9)(mg:Str->Option Value){A:Type}[RpA A]{α β:Type}[Rp α][Rp β](m:List α->A->Option (Except Str (List α × β))):Sp:=fun vs H Q E =>
 ∃ G p xs us as a r,vs = .ref p::us/\Same G H/\Own K G H (.ref p) p xs as/\RpA.rel K G us a/\m as a=some r /\
  FL r (fun r=>∀ w G2 H2 xs',Ext G (era H [p]) G2 H2->Own K G2 H2 (.ref p) p xs' r.1->Rp.rel K G2 w r.2->Q w H2) fun nm=>Raises mg E nm G (era H [p])
def spWX (K:FZ9)(mg:Str->Option Value){A:Type}[RpA A]{α:Type}[Rp α](m:List α->A->Option (Except Str (List α))):Sp:=fun vs H Q E =>
 ∃ G p xs us as a r,vs = .ref p::us/\Same G H/\Own K G H (.ref p) p xs as/\RpA.rel K G us a/\m as a=some r /\
  FL r (fun r=>∀ G2 H2 xs',Ext G (era H [p]) G2 H2->Own K G2 H2 (.ref p) p xs' r->Q .non H2) fun nm=>Raises mg E nm G (era H [p])
theorem spYX_len {A:Type}[RpA A]{m:List α->A->Option (Except Str (List α × β))}{vs:List V}{Q:VK}{E:XK}(h:spYX K mg m vs H Q E):vs.length=RpA.n A+1:=by
 obtain ⟨G,p,xs,us,as,a,r,rfl,_,_,h,_⟩:=h;rw [qfA,RpA.len h]
theorem spWX_len {A:Type}[RpA A]{m:List α->A->Option (Except Str (List α))}{vs:List V}{Q:VK}{E:XK}(h:spWX K mg m vs H Q E):vs.length=RpA.n A+1:=by
 obtain ⟨G,p,xs,us,as,a,r,rfl,_,_,h,_⟩:=h;rw [qfA,RpA.len h]
theorem HA {m:List α->Unit->Option (Except Str (List α × β))}{r:Except Str (List α × β)}(hσ:σ[i]? = some (some v))(o:Own K G H v p vs as)(hm:m as ()=some r)(s:Same G H)
  (k:FL r (fun r=>∀ w G2 H2 vs',Ext G (era H [p]) G2 H2->Own K G2 H2 v p vs' r.1->Rp.rel K G2 w r.2->rest D (σ.set j (some w)) H2) fun nm=>Raises mg (E σ) nm G (era H [p])):DS (KW (FF (spYX K mg m) E (Aq (Fa i) CM)) (Es j)) rest D σ H:=by
 have ov:=o.v;subst ov;refine ⟨_,hσ,G,p,vs,[],as,(),r,rfl,s,o,rfl,hm,?_⟩
 cases r with
 | ok b=>exact fun w G2 H2 xs' y o' rw_=>k w G2 H2 xs' y o' rw_
 | error nm=>exact k
theorem Lz {m:List α->Unit->Option (Except Str (List α × β))}{r:Except Str (List α × β)}(hσ:σ[i]? = some (some v))(o:Own K G H v p vs as)(hm:m as ()=some r)(s:Same G H)
  (k:FL r (fun r=>∀ G2 H2 vs',Ext G (era H [p]) G2 H2->Own K G2 H2 v p vs' r.1->rest D σ H2) fun nm=>Raises mg (E σ) nm G (era H [p])):DS (Fe (FF (spYX K mg m) E (Aq (Fa i) CM))) rest D σ H:=by
 have ov:=o.v;subst ov;refine ⟨_,hσ,G,p,vs,[],as,(),r,rfl,s,o,rfl,hm,?_⟩
 cases r with
 | ok b=>exact fun w G2 H2 xs' y o' rw_=>k G2 H2 xs' y o'
 | error nm=>exact k
theorem Lq {A:Type}[RpA A]{mA:Option A}{c:A}{m:List α->A->Option (Except Str (List α))}{r:Except Str (List α)}(hσ:σ[i]? = some (some v))(o:Own K G H v p vs as)(ea:AV K ta σ G mA)(ha:mA=some c)(hm:m as c=some r)(s:Same G H)
  (k:FL r (fun r=>∀ G1 H1 G2 H2 vs',Ext G H G1 H1->Ext G1 (era H1 [p]) G2 H2->Own K G2 H2 v p vs' r->rest D σ H2) fun nm=>∀ G1 H1,Ext G H G1 H1->Raises mg (E σ) nm G1 (era H1 [p])):DS (Fe (FF (spWX K mg m) E (Aq (Fa i) ta))) rest D σ H:=by
 have ov:=o.v;subst ov;refine ⟨_,hσ,?_⟩;refine ea G (.refl G) c ha H s _ fun us G1 H1 x h=>?_;refine ⟨G1,p,vs,us,as,c,r,rfl,x.gh,o.ext x,h,hm,?_⟩
 cases r with
 | ok b=>exact fun G2 H2 xs' y o'=>k G1 H1 G2 H2 xs' x y o'
 | error nm=>exact k G1 H1 x
end
section
variable {K:FZ9}{mg:Str->Option Value}{σ:St}{G H:Hp}{rest:TS}{D:Ends}{i:Nat}{v:V}{p:Addr}{vs:List V}{as:List Nt}{te:TE}{E:St->XK}
theorem sx_appT {ma:Option Nt}{a:Nt}{m:List Nt->Unit->Option (Except Str (List Nt × Nt))}{r:Except Str (List Nt × Nt)}{as':List Nt}(hσ:σ[i]? = some (some v))(o:Own K G H v p vs as)(ea:EV K te σ G ma)(ha:ma=some a)(hm:m as ()=some r)(s:Same G H)
  (k:FL r (fun r=>∃ as',Da r.1 (Nt.tup [a,r.2])=some as'/\∀ G1 H1 G2 H2 vs' w,Ext G H G1 H1->Ext G1 (era H1 [p]) G2 H2->Own K G2 (upd H2 p (.lst (vs'++[w]))) v p (vs'++[w]) as'->rest D σ (upd H2 p (.lst (vs'++[w])))) fun nm=>∀ G1 H1,Ext G H G1 H1->Raises mg (E σ) nm G1 (era H1 [p])) :
  DS (Fe (tBM K "list" GZ (Fa i) (Aq (Lw (Aq te (Aq (FF (spYX K mg m) E (Aq (Fa i) CM)) CM))) CM))) rest D σ H:=by
 have ov:=o.v;subst ov;refine ⟨_,hσ,.inl ⟨rfl,_,SqL.of o.h⟩,?_⟩;refine ea G (.refl G) a ha H s _ fun w G1 H1 x1 r1=>?_;refine ⟨_,hσ,G1,p,vs,[],as,(),r,rfl,x1.gh,o.ext x1,rfl,hm,?_⟩
 cases r with
 | error nm=>exact k G1 H1 x1
 | ok r =>
  obtain ⟨as',hp,k⟩:=k;obtain ⟨hl,rfl⟩:=BD hp;intro w2 G2 H2 xs' y o2 r2;refine ⟨by rw [qzA];show 2<=_;decide,fun q hq=>?_⟩;have x3:Ext G2 H2 (upd G2 q (.tup [w,w2])) (upd H2 q (.tup [w,w2])):=.new y.gh hq;have o3:=o2.ext x3;have hlen:=Paired.length o3.p;refine ⟨p,_,.ref q,rfl,rfl,o3.h,by omega,?_⟩;have rN:Rp.rel K (upd G2 q (.tup [w,w2])) (.ref q) (Nt.tup [a,r.2]):=.tup (SqT.of Af) (by rw [qzA];show 2<=_;decide) (Hq (.cons (Rp.mono (y.trans x3).gg r1) (.cons (Rp.mono x3.gg r2) .nil))) fun _=>Af;refine k G1 H1 _ _ xs' (.ref q) x1 (y.trans x3) ⟨rfl,o3.g,Af,?_,Paired.app o3.p (.cons rN .nil)⟩;rw [qeA,qgA];omega
end
section
variable {X:Cx}
theorem psP_try {x n:Str}{C0:Addr}{i:Nat}{body:List Stmt}{b₀:Stmt}{suite:List Stmt}{tb:(St->XK)->TS}{th:TS}{np hpos pos:Pos}
  (hst:X.stack=X.env::X.outer) (hfm:X.env.frame=some X.env.locals) (hx:Gl X x) (hm:X.mg x=some (.ref C0)) (hN:X.N.Nodup) (hi:X.N[i]? = some n) (hl:X.env.scope.names.lookup n=some .local)
  (hb:∀ pn' xe' E,Lets (X.tr pn' xe') E->PSsp (X.tr pn' xe') body (tb E)) (hh:∀ pn' ea,PSs (X.han pn' ea) (b₀::suite) th) (hd:(x == ("__debug__" : Str))=false:=by decide) :
  PSp X (.Try body [.ExceptHandler (some (.Name x np)) (some n) (b₀::suite) hpos] [] [] pos) (tTry X.K C0 i tb th):=by
 intro pins s σ H D I hn h;refine wpAny_Try_except ?_
 let Eh:St->XK:=fun σ' cls _ H'=>PySem.W.exmOne X.K cls (.ref C0)=some true/\∀ ea,H' ea=none->th (gone i D) (σ'.set i (some (.ref ea))) (upd H' ea (Exo ea cls))
 let xt:Value->Shared->Prop:=fun ev s'=>∃ σ' H' ea cls,ev = .ref ea/\Inv X pins σ' H' s'/\ExA (Fr0 (X.tr (X.pn++pins) fun _ _=>False) H') s'.heap ea cls/\Eh σ' cls none H'
 have hL:Lets (X.tr (X.pn++pins) xt) Eh:=fun σ' H' s' ea cls I' xa q=>⟨σ',H',ea,cls,rfl,I'.ofTr,xa,q⟩;refine wpAny_mono (hb (X.pn++pins) xt Eh hL [] s σ H D I.toTr hn h) (fun f s1 hs=>?_) fun ev s1 hx1=>?_
 ·have hs:=hs.ofTr
  cases f with
  | next =>
   obtain ⟨σ',H',I',q⟩:=hs;exact wpAny_execs_nil ⟨σ',H',I',q⟩
  | brk=>exact hs
  | cont=>exact hs
  | ret u=>exact hs
 ·obtain ⟨σ',H',ea,cls,rfl,I1,xa,hm1,hq⟩:=hx1;have J1:Inv (X.tr (X.pn++pins) fun _ _=>False) [] σ' H' s1:=I1.toTr;refine HE (env:=X.env) (outer:=X.outer) (base:=X.base) (by rw [I1.ok.frames,hst]) (by have:=I1.stack;rwa [hst] at this) hfm hfm xa (fun b hb=>J1.newS hb) fun h2 c hc ch _ x2=>?_;rw [<- hst] at ch;have J2:=J1.chg hc ch;refine DT (fr:=frs X.stack) (s:={ s1 with heap:=h2 }) x2 fun h3 d hd3 ch3 _ x3=>?_;have J3:=J2.chg hd3 ch3;have I3:Inv X pins σ' H' { s1 with heap:=h3 }:=J3.ofTr;have G3:Inv (X.han (X.pn++pins) ea) [] σ' H' { s1 with heap:=h3 }:=I3.toHan;refine wpAny_handleBy_cons (codeAny_handlers_test (D4 G3 hx hm ?_ hd)) (by intro q;cases q);obtain ⟨oe,vs,he,hcls,_⟩:=x3.2.choose_spec.2.2.1;have LT:PySem.W.Looks (model X.prog X.w) h3 (typeOf (.ref ea)) cls:=hcls ▸ (PySem.W.Looks.ld he).andThen .now;refine (PySem.W.exm_one (M:=model X.prog X.w) (h:=h3) I3.kIn LT hm1).here ?_;rw [if_pos rfl];refine codeAny_handlers_suite_as ?_;refine DT (fr:=frs X.stack) (s:={ s1 with heap:=h3 }) x3 fun h4 d4 hd4 ch4 _ x4=>?_;have J4:=J3.chg hd4 ch4;have I4:Inv X pins σ' H' { s1 with heap:=h4 }:=J4.ofTr;have G4:Inv (X.han (X.pn++pins) ea) [] σ' H' { s1 with heap:=h4 }:=I4.toHan;obtain ⟨oe4,vs4,he4,hcls4,hd4',_,hdi4⟩:=x4.2.choose_spec.2.2.1;have G4:Inv (X.han (X.pn++pins) ea) [] σ' (upd H' ea (Exo ea cls)) { s1 with heap:=h4 }:=G4.track x4.1 ⟨_,_,he4,hd4'⟩ ⟨⟨_,_,he4,hcls4,hdi4,hd4'⟩,⟨_,he4⟩,fun h1 h2 ⟨ob,vs,e1,e2⟩ k=>⟨ob,vs,k ob e1,e2⟩⟩;refine ET (X:=X.han (X.pn++pins) ea) (v:=V.ref ea) G4 (i:=i) hN hi (.inl hl) rfl (fun s5 G5=>?_) (.inr hl);refine wpAny_mono (hh (X.pn++pins) ea [] s5 _ _ (gone i D) G5 (hq ea x4.1.1)) (fun f s6 h6=>?_) fun _ _ z=>False.elim z;show wpAny _ X.A (do bindName X.env n .none;unbindBehindTheSuite X.env n hpos) (fun _ s₃=>SP X pins D f s₃) X.xe s6
  cases f with
  | next =>
   obtain ⟨σ6,H6,G6,q6⟩:=h6;exact (G6.ofHan I.ok).gone hN hi hl fun s7 I7=>⟨_,H6,I7,q6⟩
  | brk =>
   obtain ⟨σ6,H6,G6,q6⟩:=h6;exact (G6.ofHan I.ok).gone hN hi hl fun s7 I7=>⟨_,H6,I7,q6⟩
  | cont =>
   obtain ⟨σ6,H6,G6,q6⟩:=h6;exact (G6.ofHan I.ok).gone hN hi hl fun s7 I7=>⟨_,H6,I7,q6⟩
  | ret u =>
   obtain ⟨v,σ6,H6,G6,r6,q6⟩:=h6;exact (G6.ofHan I.ok).gone hN hi hl fun s7 I7=>⟨v,_,H6,I7,r6,q6⟩
end
theorem Jj {K:FZ9}{G:Hp}{v:V}{a:Nt}(h:Rp.rel K G v a):v ≠ .non:=by
 cases (show RelN K G v a from h)<;>exact fun z=>nomatch z
structure FnOkQ (P:Program)(w:World)(K:FZ9)(mg:Str->Option Value)(base:Heap)(k:Nat)(f:Addr)(fd:FuncData)(ps:List Str)(sp:Sp):Prop where
 len:∀ vs H Q E,sp vs H Q E->vs.length=ps.length
 run:∀ (A:Around) (outer:List Env) (s:Shared) (H:Hp) (args:Args) (us:List Value) (vs:List V) (Q:VK) (E:XK),Room k A->Env0 P w K mg base A outer s H->0<s.toks->BindsTo s fd args (ps.zip us)->Vals vs us->sp vs H Q E ->
  codeAny (model P w) A (.call (.ref f) args) (CR (CXE P w) outer P w H s Q E) s
structure DefQ (P:Program)(w:World)(K:FZ9)(mg:Str->Option Value)(base:Heap)(x:Str)(k:Nat)(ps:List Str)(sp:Sp):Prop where
 ex:∃ f fd,FnOkQ P w K mg base k f fd ps sp/\mg x=some (.ref f)/\qiB K (.ref f)=true/\Binds K fd ps []
theorem fnQ_of {P:Program}{w:World}{K:FZ9}{mg:Str->Option Value}{base:Heap}{k:Nat}{f:Addr}{name qual:Str}{params:Arguments}{body:List Stmt}{scope:Scope}{dV kV doc pm cdv ct oc:Value}{an od:Option Addr}
  {osl:Array (Option Value)}{N ps:List Str}{sp:Sp}(lk:K.lookup f=some ⟨oc,od,.func (qkB name qual params body scope dV kV doc pm an cdv ct),osl⟩) (hcd:qjB K cdv qual=true) (S:FnScope N ps scope)
  (len:∀ vs H Q E,sp vs H Q E->vs.length=ps.length)
  (hbody:∀ (A:Around) (outer:List Env) (s:Shared) (H:Hp) (vs:List V) (Q:VK) (E:XK),Room k (A.deeper (envOfC qual scope s.heap.objs.size f cdv))->sp vs H Q E ->
   ∃ t,PSsp (DV (CXE P w) P w K mg base N qual scope f cdv A outer s H E) body t/\t { nx:=fun _ H'=>Q .non H',rt:=Q } (start N vs) H) :
  FnOkQ P w K mg base (k+1) f (qkB name qual params body scope dV kV doc pm an cdv ct) ps sp:=by
 refine ⟨len,fun A outer s H args us vs Q E hr e0 hn hb r hsp=>?_⟩;have hl:=len _ _ _ _ hsp;have KX:K.In s.heap:=e0.mod.kin.keeps fun b o e=>(e0.bs b o e).1;have lim:s.heap.NoLimit:=e0.mod.nolimit.keeps fun b o e=>(e0.bs b o e).1
 have hkind:∀ y∈ps.zip us,scope.names.lookup y.1=some .local \/ (scope.names.lookup y.1=some .cell/\((cellsFrom (s.heap.objs.size+1) scope.names []).lookup y.1).isSome=true):=fun ⟨n,v⟩ hy=>by
  rcases S.par n (List.of_mem_zip hy).1 with q|q
  ·exact .inl q
  ·exact .inr ⟨q,PySem.W.cellsFrom_some _ _ _ (.inl q)⟩
 refine codeAny_call_function hr.depth (KX _ _ lk) rfl S.co S.gen rfl (PySem.W.codeRec_of KX hcd) (hb _ _ _ _ ?_);refine wpAny_with_toks (n:=1) hn (wpAny_newFunctionEnv_cells S.kind hkind fun env he s1 x hn=>?_);subst he;refine ⟨lim.keeps x.toInCall.keep,codeAny_func ?_⟩;obtain ⟨t,ht,hq⟩:=hbody A outer s H vs Q E (hr.deeper _) hsp;have I:Inv (DV (CXE P w) P w K mg base N qual scope f cdv A outer s H E) [] (start N vs) H s1:=Ek S hr.hd e0 hl r x;refine wpAny_mono (ht [] s1 (start N vs) H _ I hn hq) (fun fl s' hs=>?_) fun e s' hs=>hs
 have fin:∀ {σ':St}{H':Hp}{v:V}{u:Value},Inv (DV (CXE P w) P w K mg base N qual scope f cdv A outer s H E) [] σ' H' s'->RelV v u->Q v H'->CE outer P w H s Q u s' :=
  fun {σ' H' v u} J rv q=>⟨v,H',J.os,J.bare,J.base,J.hok,rv,q⟩
 cases fl with
 | ret u =>
  obtain ⟨v,σ',H',J,rv,q⟩:=hs;exact fin J rv q
 | next =>
  obtain ⟨σ',H',J,q⟩:=hs;exact fin (v:=V.non) (u:=Value.none) J rfl q
 | brk =>
  obtain ⟨_,_,_,q⟩:=hs;exact False.elim q
 | cont =>
  obtain ⟨_,_,_,q⟩:=hs;exact False.elim q
section
variable {P:Program}{w:World}{K:FZ9}{mg:Str->Option Value}{base:Heap}{x:Str}{st:Stmt}{N ps:List Str}{k:Nat}{sp:Sp}
theorem DIn.okQ (Z:DIn K mg x st)(S:FnScope N ps (AE st))(b:BnO x st ps)(len:∀ vs H Q E,sp vs H Q E->vs.length=ps.length)
  (hbody:∀ (f:Addr) (cdv:Value) (A:Around) (outer:List Env) (s:Shared) (H:Hp) (vs:List V) (Q:VK) (E:XK),Room k (A.deeper (envOfC x (AE st) s.heap.objs.size f cdv))->sp vs H Q E ->
   ∃ t,PSsp (DV (CXE P w) P w K mg base N x (AE st) f cdv A outer s H E) (Bo st) t/\t { nx:=fun _ H'=>Q .non H',rt:=Q } (start N vs) H):DefQ P w K mg base x (k+1) ps sp:=by
 obtain ⟨f,fd,a,F⟩:=Z.ex;have hb:=F.binds b;obtain ⟨oc,od,kV,doc,pm,an,cdv,ct,osl,rfl,lk,hcd⟩:=F.ex;refine ⟨f,_,fnQ_of lk hcd S len fun A outer s H vs Q E hr hsp=>?_,a,F.kp,hb⟩;obtain ⟨t,h,q⟩:=hbody f cdv A outer s H vs Q E hr hsp;exact ⟨t,h,q⟩
theorem DefQ.to0 {sp':Sp}(D:DefQ P w K mg base x k ps sp)(h:∀ vs H Q E,sp' vs H Q E->sp vs H Q E0):DefP P w K mg base x k ps sp':=by
 obtain ⟨f,fd,G,m,kp,b⟩:=D.ex;refine ⟨f,fd,⟨fun vs H Q E q=>G.len _ _ _ _ (h _ _ _ _ q),fun A outer s H args us vs Q E hr he hn hb hv hs=>codeAny_mono (G.run A outer s H args us vs Q E0 hr he hn hb hv (h _ _ _ _ hs)) fun r s' hq=>?_⟩,m,kp,b⟩
 cases r with
 | error e =>
  obtain ⟨_,_,_,_,_,_,_,_,_,z⟩:=hq;exact z.elim
 | ok fl=>cases fl<;>exact hq
end
section
variable {X:Cx}{x:Str}{k j:Nat}{ps:List Str}{sp:Sp}{e:Expr}{es:List Expr}{t:TA}{p pos:Pos}{E:St->XK}
theorem Jq (F:DefQ X.prog X.w X.K X.mg X.base x k ps sp)(hr:Room j X.A)(hj:k<=j)(hg:Gl X x)(L:Lets X E)(ha:PA X (e::es) t)(hdb:(x == ("__debug__" : Str))=false:=by decide)
  (he:starEach (e::es) X.env=(false,eval e X.env)::starEach es X.env:=by rfl) (hpl:(backTo pos (starEach es X.env)).any (·.1)=false:=by rfl) :
  PEp X (.Call (.Name x p) (e::es) [] pos) (FF sp E t):=by
 obtain ⟨f,fd,G,m,kp,b⟩:=F.ex;intro pins s σ H Q I hn h;refine wpAny_Call_Name_kw (D4 I hg m ?_ hdb);refine PySem.W.callWith_K (h₀:=X.base) I.ok.mod.kin kp (thnT hn (ha pos pins s σ H _ I h) fun us s1 hn ⟨vs,H1,I1,r,q⟩=>⟨I1.kIn,?_⟩) he hpl;have hl:us.length=ps.length:=by rw [<- r.length];exact G.len _ _ _ _ q
 have bb:=b s1 us I1.kIn (by rw [qrA];exact hl);rw [qrA] at bb;refine wpAny_call (codeAny_mono (G.run X.A X.stack s1 H1 ⟨us,[]⟩ us vs Q (E σ) (hr.mono hj) I1.env0 hn bb r q) fun r' s' hq=>?_)
 cases r' with
 | error e=>exact L.passes pins σ H1 s1 e s' I1 hq
 | ok fl =>
  cases fl with
  | ret u=>exact I1.after hq
  | next=>exact False.elim hq
  | brk=>exact False.elim hq
  | cont=>exact False.elim hq
end
section
variable {X:Cx}{e a b:Expr}{te ta tb:TE}{t u:TS}{pos:Pos}
theorem Ja (he:PEp X e te)(hs:swapsWith e none pos.line X.env=pure false:=by rfl):PSp X (.Expr e pos) (Fe te):=by
 intro pins s σ H D I hn h;exact wpAny_Expr_any (thn (he pins s σ H _ I hn h) fun v s1 ⟨x,H1,I1,r1,q1⟩=>⟨σ,H1,I1,q1⟩) I.quiet hs
theorem psP_ret (he:PEp X e te):PSp X (.Return (some e) pos) (tRet te):=by
 intro pins s σ H D I hn h;exact wpAny_Return_some (thn (he pins s σ H _ I hn h) fun v s1 ⟨x,H1,I1,r1,q1⟩=>⟨x,σ,H1,I1,r1,q1⟩)
theorem Ix {c:Expr}{a b:List Stmt}{tc:TT}(hc:PTp X c tc)(ha:PSsp X a t)(hb:PSsp X b u):PSp X (.If c a b pos) (Ff tc t u):=by
 intro pins s σ H D I hn h;refine wpAny_If (thnT hn (hc pins s σ H _ I hn h) fun d s1 hn ⟨H1,I1,q1⟩=>?_)
 cases d with
 | true=>exact ha pins s1 σ H1 D I1 hn q1
 | false=>exact hb pins s1 σ H1 D I1 hn q1
theorem peP_cmpR {op:CmpOp}{r:R2}(ho:OpR X (compareOp op) r)(ha:PEp X a ta)(hb:PE X b tb)(hm:behindInMarks op b=false):PEp X (.Compare a [op] [b] pos) (tOp r ta tb):=by
 intro pins s σ H Q I hn h;exact wpAny_Compare1 (thn (ha pins s σ H _ I hn h) fun v s1 ⟨x,H1,I1,r1,q1⟩=>thn (hb pins s1 σ H1 _ I1 q1) fun u s2 ⟨y,H2,I2,r2,q2⟩=>ho pins s2 σ H2 x y v u Q I2 r1 r2 q2) hm
theorem ptP_cmpR {op:CmpOp}{r:R2}(ho:OpR X (compareOp op) r)(ha:PEp X a ta)(hb:PE X b tb)(hm:behindInMarks op b=false):PTp X (.Compare a [op] [b] pos) (tTest (tOp r ta tb)):=by
 intro pins s σ H Q I hn h
 refine wpAny_isTrue_Compare1 (thn (ha pins s σ H _ I hn h) fun v s1 ⟨x,H1,I1,r1,q1⟩=>thn (hb pins s1 σ H1 _ I1 q1) fun u s2 ⟨y,H2,I2,r2,q2⟩ =>
  thn (ho pins s2 σ H2 x y v u _ I2 r1 r2 q2) fun c s3 ⟨z,H3,I3,r3,k,e,q3⟩=>?_) hm
 subst e;cases r3;exact wpAny_truthy_bool ⟨H3,I3,q3⟩
end
def tTryN (K:FZ9)(C0:Addr)(tb:(St->XK)->TS)(th:TS):TS:=fun D σ H =>
 tb (fun σ' cls _ H'=>PySem.W.exmOne K cls (.ref C0)=some true/\th D σ' H') D σ H
section
variable {X:Cx}
theorem psP_tryN {x:Str}{C0:Addr}{body:List Stmt}{b₀:Stmt}{suite:List Stmt}{tb:(St->XK)->TS}{th:TS}{np hpos pos:Pos}
  (hst:X.stack=X.env::X.outer) (hfm:X.env.frame=some X.env.locals) (hx:Gl X x) (hm:X.mg x=some (.ref C0))
  (hb:∀ pn' xe' E,Lets (X.tr pn' xe') E->PSsp (X.tr pn' xe') body (tb E)) (hh:∀ pn' ea,PSs (X.han pn' ea) (b₀::suite) th) (hd:(x == ("__debug__" : Str))=false:=by decide) :
  PSp X (.Try body [.ExceptHandler (some (.Name x np)) none (b₀::suite) hpos] [] [] pos) (tTryN X.K C0 tb th):=by
 intro pins s σ H D I hn h;refine wpAny_Try_except ?_
 let Eh:St->XK:=fun σ' cls _ H'=>PySem.W.exmOne X.K cls (.ref C0)=some true/\th D σ' H'
 let xt:Value->Shared->Prop:=fun ev s'=>∃ σ' H' ea cls,ev = .ref ea/\Inv X pins σ' H' s'/\ExA (Fr0 (X.tr (X.pn++pins) fun _ _=>False) H') s'.heap ea cls/\Eh σ' cls none H'
 have hL:Lets (X.tr (X.pn++pins) xt) Eh:=fun σ' H' s' ea cls I' xa q=>⟨σ',H',ea,cls,rfl,I'.ofTr,xa,q⟩;refine wpAny_mono (hb (X.pn++pins) xt Eh hL [] s σ H D I.toTr hn h) (fun f s1 hs=>?_) fun ev s1 hx1=>?_
 ·have hs:=hs.ofTr
  cases f with
  | next =>
   obtain ⟨σ',H',I',q⟩:=hs;exact wpAny_execs_nil ⟨σ',H',I',q⟩
  | brk=>exact hs
  | cont=>exact hs
  | ret u=>exact hs
 ·obtain ⟨σ',H',ea,cls,rfl,I1,xa,hm1,hq⟩:=hx1;have J1:Inv (X.tr (X.pn++pins) fun _ _=>False) [] σ' H' s1:=I1.toTr;refine HE (env:=X.env) (outer:=X.outer) (base:=X.base) (by rw [I1.ok.frames,hst]) (by have:=I1.stack;rwa [hst] at this) hfm hfm xa (fun b hb=>J1.newS hb) fun h2 c hc ch _ x2=>?_;rw [<- hst] at ch;have J2:=J1.chg hc ch;refine DT (fr:=frs X.stack) (s:={ s1 with heap:=h2 }) x2 fun h3 d hd3 ch3 _ x3=>?_;have J3:=J2.chg hd3 ch3;have I3:Inv X pins σ' H' { s1 with heap:=h3 }:=J3.ofTr;have G3:Inv (X.han (X.pn++pins) ea) [] σ' H' { s1 with heap:=h3 }:=I3.toHan;refine wpAny_handleBy_cons (codeAny_handlers_test (D4 G3 hx hm ?_ hd)) (by intro q;cases q);obtain ⟨oe,vs,he,hcls,_⟩:=x3.2.choose_spec.2.2.1;have LT:PySem.W.Looks (model X.prog X.w) h3 (typeOf (.ref ea)) cls:=hcls ▸ (PySem.W.Looks.ld he).andThen .now;refine (PySem.W.exm_one (M:=model X.prog X.w) (h:=h3) I3.kIn LT hm1).here ?_;rw [if_pos rfl];refine codeAny_handlers_suite ?_;refine DT (fr:=frs X.stack) (s:={ s1 with heap:=h3 }) x3 fun h4 d4 hd4 ch4 _ x4=>?_;have J4:=J3.chg hd4 ch4;have I4:Inv X pins σ' H' { s1 with heap:=h4 }:=J4.ofTr;have G4:Inv (X.han (X.pn++pins) ea) [] σ' H' { s1 with heap:=h4 }:=I4.toHan;refine wpAny_mono (hh (X.pn++pins) ea [] _ _ _ D G4 hq) (fun f s6 h6=>?_) fun _ _ z=>False.elim z;show SP X pins D f s6
  cases f with
  | next =>
   obtain ⟨σ6,H6,G6,q6⟩:=h6;exact ⟨σ6,H6,G6.ofHan I.ok,q6⟩
  | brk =>
   obtain ⟨σ6,H6,G6,q6⟩:=h6;exact ⟨σ6,H6,G6.ofHan I.ok,q6⟩
  | cont =>
   obtain ⟨σ6,H6,G6,q6⟩:=h6;exact ⟨σ6,H6,G6.ofHan I.ok,q6⟩
  | ret u =>
   obtain ⟨v,σ6,H6,G6,r6,q6⟩:=h6;exact ⟨v,σ6,H6,G6.ofHan I.ok,r6,q6⟩
end
end L2
namespace My
open PySem PySem.Spec PyProof.Rows L2
local macro_rules | `(tactic| ac_rfl) => `(tactic| first | assumption | exact Ne.symm (by assumption))
local macro_rules
 | `(tactic| clear $n:num $rs*) => do
  let hm := Lean.mkIdent `hm
  let xt := Lean.mkIdent `xt
  let q := Lean.mkIdent `q
  let rf := Lean.mkIdent `rfl
  let w : Array Lean.Ident := rs.map fun r => ⟨r.raw⟩
  match n.getNat with
  | 2 =>
   let mut ts := #[]
   for k in [0:w.size/2] do
    let a := w[2*k]!
    let b := w[2*k+1]!
    ts := ts.push (← `(tactic| refine bE $hm fun $a $b $hm => ?_))
   `(tactic| ($[$ts:tactic];*))
  | 3 => `(tactic| (replace $hm := cT $hm; refine BR ?_))
  | 4 => `(tactic| (replace $hm := cF $hm; refine BQ ?_))
  | 5 => `(tactic| (rintro r' v' G' H' $rf:ident rl; cases $hm:ident; exact $q v' G' H' rl.1 rl.2))
  | 6 => let k := w[0]!; `(tactic| (rintro r' v' G' H' $rf:ident rl; cases $hm:ident; exact $k _ v' G' H' rfl rl))
  | 9 =>
   let x := w[0]!
   let ts ← (w.extract 1 w.size).mapM fun (i : Lean.Ident) => `(tactic| have $i := Rp.mono $x $i)
   `(tactic| ($[$ts:tactic];*))
  | z =>
   if z > 1 then Lean.Macro.throwUnsupported
   let x := w[0]!
   let mut m := 1
   let mut ts := #[]
   let mut hs := #[]
   for i in w.extract 1 w.size do
    if let some k := i.raw.isNatLit? then m := k
    else if m == 4 then hs := hs.push (← `(tactic| have $i := ($xt).hh.free $i))
    else ts := ts.push (← match m with
     | 1 => `(tactic| have $i := Rp.mono ($x).gg $i)
     | 2 => `(tactic| have $i := ($i).ext $x)
     | _ => `(tactic| have $i := ($i).trans ($x).gg))
   if z == 1 then hs := hs.push (← `(tactic| have $xt := ($xt).trans $x))
   let zs := hs ++ ts
   `(tactic| ($[$zs:tactic];*))
abbrev Bh:List (Str × Int):=[("yes",0),("no",0),("not",1),("next",1),("atlast",1),("always",1),("again",1),("settles",1),("and",2),("or",2),("then",2),("until",2),("frees",2)]
def Bf (script_:Scr)(k_:Int):Option Int :=
 (some (decide (k_<(script_.l.length:Int)))).bind fun b1=>cond b1
  (((some script_).bind fun t6=>(some k_).bind fun t7=>atI t6.l t7))
  ((some ((k_ * (7919:Int))+(5:Int))).bind fun FT =>
  (some (decide ((0:Int)<(script_.l.length:Int)))).bind fun b19=>(cond b19
   ((((((some script_).bind fun t32=>((some (k_ * (7:Int))).bind fun t30=>(some (script_.l.length:Int)).bind fun t31=>Il t30 t31).bind fun t33=>atI t32.l t33).bind fun t34=>(some (t34 * (48271:Int)))).bind fun t35=>(some (t35+(k_ * (7919:Int))))).bind fun t36=>(some (t36 % (2147483647:Int)))).bind fun FT =>
   some FT)
   (some FT)).bind fun s24 =>
  (((some s24).bind fun t46=>(some s24).bind fun t47=>Ln t46 t47).bind fun t48=>(some (t48 % (2147483629:Int)))))
abbrev CA (x:Scr × Int × Unit):Option Int:=Bf x.1 x.2.1
def CB (pool_:(List (Nt × Int)))(Ao:Int):Option (List (Nt × Int)) :=
 (some [("not" : Str),("next" : Str),("atlast" : Str),("always" : Str),("again" : Str),("settles" : Str),("and" : Str),("or" : Str),("then" : Str),("until" : Str),("frees" : Str)]).bind fun JL =>
 (some (Ao % (11:Int))).bind fun at_ =>
 ((some pool_).bind fun t21=>(((some (Ao / (11:Int))).bind fun t18=>(some (if (pool_.length:Int)<(3:Int) then (pool_.length:Int) else (3:Int))).bind fun t19=>Il t18 t19).bind fun t20=>(some ((-(1:Int)) - t20))).bind fun t22=>atI t21 t22).bind fun left_ =>
 ((some pool_).bind fun t35=>((some (((Ao / (33:Int)) * (48271:Int)) % (2147483647:Int))).bind fun t33=>(some (pool_.length:Int)).bind fun t34=>Il t33 t34).bind fun t36=>atI t35 t36).bind fun right_ =>
 (some ((1:Int)+left_.2)).bind fun CY =>
 (((((some JL).bind fun t49=>(some at_).bind fun t50=>atI t49 t50).bind fun t51=>(some (Nt.txt t51))).bind fun t52=>(some [t52,left_.1])).bind fun t53=>(some (Nt.tup t53))).bind fun new_ =>
 (some (decide ((5:Int)<at_))).bind fun b60=>(cond b60
  ((some (CY+right_.2)).bind fun CY =>
  (((((some JL).bind fun t79=>(some at_).bind fun t80=>atI t79 t80).bind fun t81=>(some (Nt.txt t81))).bind fun t82=>(some [t82,left_.1,right_.1])).bind fun t83=>(some (Nt.tup t83))).bind fun new_ =>
  (some (decide (((Ao / (363:Int)) % (2:Int))=(1:Int)))).bind fun b90=>cond b90
   ((((((some JL).bind fun t95=>(some at_).bind fun t96=>atI t95 t96).bind fun t97=>(some (Nt.txt t97))).bind fun t98=>(some [t98,right_.1,left_.1])).bind fun t99=>(some (Nt.tup t99))).bind fun new_ =>
   some (CY,new_))
   (some (CY,new_)))
  (some (CY,new_))).bind fun s65 =>
 (some (decide (s65.1<(25:Int)))).bind fun b109=>(cond b109
  ((some (s65.2,s65.1)).bind fun a118=>(Da pool_ a118).bind fun z126 =>
  some z126)
  (some pool_)).bind fun s114 =>
 some s114
abbrev E1 (pool_:(List (Nt × Int)))(x:Int × Unit):Option (List (Nt × Int)):=CB pool_ x.1
def Bz (script_:Scr)(at_:Int):Option Nt :=
 ((some script_).bind fun t1=>(some at_).bind fun t2=>Bf t1 t2).bind fun Ao =>
 (some ("abcdefghijklmnopqrstuvwxyz" : Str)).bind fun row_ =>
 (some [((Nt.tup [(Nt.txt ("no" : Str))]),(1:Int)),((Nt.tup [(Nt.txt ("yes" : Str))]),(1:Int))]).bind fun pool_ =>
 ((some (4:Int)).bind fun t23=>Ij 0 t23).bind fun as24=>(Bt (S:=((List (Nt × Int)))) (ρ:=Nt) (fun (k_:Int) s31 =>
   (((((((some row_).bind fun t47=>(((some script_).bind fun t44=>(some ((at_+(1:Int))+k_)).bind fun t45=>Bf t44 t45).bind fun t46=>(some (t46 % (26:Int)))).bind fun t48=>(atI t47.cps.toList t48).bind fun z=>some (⟨#[z]⟩:Str)).bind fun t49=>(some (Nt.txt t49))).bind fun t50=>(some [t50])).bind fun t51=>(some ((Nt.txt ("lamp" : Str))::t51))).bind fun t52=>(some (Nt.tup t52))).bind fun t53=>(some (t53,(1:Int)))).bind fun a54=>(Da s31 a54).bind fun z62 =>
   some (Fl.nx z62)) as24 pool_).bind fun fl26=>match fl26 with
  | .nx s31 =>
   (some (decide ((Ao % (9:Int))=(8:Int)))).bind fun b67=>(cond b67
    (((some (23:Int)).bind fun t78=>Ij 0 t78).bind fun as79=>(Bt (S:=((List (Nt × Int)))) (ρ:=Nt) (fun (k_:Int) s86 =>
      (((((some script_).bind fun t99=>(some ((at_+(5:Int))+(k_ % (12:Int)))).bind fun t100=>Bf t99 t100).bind fun t101=>(some (k_+(1:Int))).bind fun t102=>ME t101 t102).bind fun t103=>(some (t103 % (6:Int)))).bind fun t104=>(some ()).bind fun t105=>some (t104,t105)).bind fun ca106=>(CB s86 ca106.1).bind fun rz108 =>
      some (Fl.nx rz108)) as79 s31).bind fun fl81=>match fl81 with
     | .nx s86 =>
      some s86
     | .rt r=>none
     | .bk _=>none)
    (((some ((Ao / (9:Int)) % (13:Int))).bind fun t122=>Ij 0 t122).bind fun as123=>(Bt (S:=((List (Nt × Int)))) (ρ:=Nt) (fun (k_:Int) s130 =>
      (((some script_).bind fun t143=>(some ((at_+(5:Int))+k_)).bind fun t144=>Bf t143 t144).bind fun t145=>(some ()).bind fun t146=>some (t145,t146)).bind fun ca147=>(CB s130 ca147.1).bind fun rz149 =>
      some (Fl.nx rz149)) as123 s31).bind fun fl125=>match fl125 with
     | .nx s130 =>
      some s130
     | .rt r=>none
     | .bk _=>none)).bind fun s72 =>
   (((some s72).bind fun t170=>(some (-(1:Int))).bind fun t171=>atI t170 t171).bind fun t172=>(some t172.1))
  | .rt r=>some r
  | .bk _=>none
abbrev E9 (x:Scr × Int × Unit):Option Nt:=Bz x.1 x.2.1
def CT (C2:Nt->Option Str)(AI:Nt):Option Str :=
 ((((some AI).bind fun t1=>C1 t1).bind fun t2=>(some (0:Int)).bind fun t3=>atI t2.l t3).bind fun t4=>DZ t4).bind fun word_ =>
 (some (decide (word_=("lamp" : Str)))).bind fun b11=>cond b11
  (((((some AI).bind fun t16=>C1 t16).bind fun t17=>(some (1:Int)).bind fun t18=>atI t17.l t18).bind fun t19=>DZ t19))
  (((((some AI).bind fun t25=>C1 t25).bind fun t26=>(some (t26.l.length:Int))).bind fun t27=>(some (decide (t27=(1:Int))))).bind fun b28=>cond b28
   ((some word_))
   (((((some AI).bind fun t38=>C1 t38).bind fun t39=>(some (t39.l.length:Int))).bind fun t40=>(some (decide (t40=(2:Int))))).bind fun b41=>cond b41
    ((((some word_).bind fun t46=>(some (" " : Str)).bind fun t47=>C4 t46 t47).bind fun t52=>((((some AI).bind fun t48=>C1 t48).bind fun t49=>(some (1:Int)).bind fun t50=>atI t49.l t50).bind fun t51=>C2 t51).bind fun t53=>C4 t52 t53))
    ((((((((some ("(" : Str)).bind fun t63=>((((some AI).bind fun t59=>C1 t59).bind fun t60=>(some (1:Int)).bind fun t61=>atI t60.l t61).bind fun t62=>C2 t62).bind fun t64=>C4 t63 t64).bind fun t65=>(some (" " : Str)).bind fun t66=>C4 t65 t66).bind fun t67=>(some word_).bind fun t68=>C4 t67 t68).bind fun t69=>(some (" " : Str)).bind fun t70=>C4 t69 t70).bind fun t75=>((((some AI).bind fun t71=>C1 t71).bind fun t72=>(some (2:Int)).bind fun t73=>atI t72.l t73).bind fun t74=>C2 t74).bind fun t76=>C4 t75 t76).bind fun t77=>(some (")" : Str)).bind fun t78=>C4 t77 t78))))
def Ba:Nat->Nt->Option Str
 | 0=>fun _=>none
 | n+1=>fun AI=>CT (Ba n) AI
abbrev BE (B4:Nat)(x:Nt × Unit):Option Str:=Ba B4 x.1
def B8 (inside_:Str):Option (Option (T3 Str Str Str)) :=
 (some (0:Int)).bind fun Cm =>
 ((some (inside_.length:Int)).bind fun t7=>Ij 0 t7).bind fun as8=>(Bt (S:=(Int)) (ρ:=(Option (T3 Str Str Str))) (fun (at_:Int) s15 =>
   (((some inside_).bind fun t32=>(some at_).bind fun t33=>(atI t32.cps.toList t33).bind fun z=>some (⟨#[z]⟩:Str)).bind fun t34=>(some (decide (t34=("(" : Str))))).bind fun b35=>(cond b35
    ((some (s15+(1:Int))).bind fun Cm =>
    some Cm)
    (some s15)).bind fun s40 =>
   (((some inside_).bind fun t55=>(some at_).bind fun t56=>(atI t55.cps.toList t56).bind fun z=>some (⟨#[z]⟩:Str)).bind fun t57=>(some (decide (t57=(")" : Str))))).bind fun b58=>(cond b58
    ((some (s40 - (1:Int))).bind fun Cm =>
    some Cm)
    (some s40)).bind fun s63 =>
   ((((some inside_).bind fun t78=>(some at_).bind fun t79=>(atI t78.cps.toList t79).bind fun z=>some (⟨#[z]⟩:Str)).bind fun t80=>(some (decide (t80=(" " : Str))))).bind fun t81=>cond t81 (some (decide (s63=(0:Int)))) (some false)).bind fun b82=>cond b82
    ((some [("and" : Str),("or" : Str),("then" : Str),("until" : Str),("frees" : Str)]).bind fun as87=>(Bt (S:=Unit) (ρ:=(Option (T3 Str Str Str))) (fun (word_:Str) s94 =>
      (some ((at_+(word_.length:Int))+(2:Int))).bind fun Em =>
      ((some (Txt.slice inside_ (some at_) (some Em))).bind fun t122=>(((some (" " : Str)).bind fun t118=>(some word_).bind fun t119=>C4 t118 t119).bind fun t120=>(some (" " : Str)).bind fun t121=>C4 t120 t121).bind fun t123=>some (decide (t122=t123))).bind fun b124=>cond b124
       ((some (some (T3.mk word_ (Txt.slice inside_ none (some at_)) (Txt.slice inside_ (some Em) none)))).bind fun rr134=>some (Fl.rt rr134))
       (some (Fl.nx ()))) as87 ()).bind fun fl89=>match fl89 with
     | .nx s94 =>
      some (Fl.nx s63)
     | .rt r=>some (Fl.rt r)
     | .bk _=>none)
    (some (Fl.nx s63))) as8 Cm).bind fun fl10=>match fl10 with
  | .nx s15 =>
   (some none)
  | .rt r=>some r
  | .bk _=>none
abbrev EY (x:Str × Unit):Option (Option (T3 Str Str Str)):=B8 x.1
def B2 (C2:Str->Option (Option Nt))(text_:Str):Option (Option Nt) :=
 (some ((decide ((text_.length:Int)=(1:Int))) && (inS text_ ("abcdefghijklmnopqrstuvwxyz" : Str)))).bind fun b1=>cond b1
  ((some (some (Nt.tup [(Nt.txt ("lamp" : Str)),(Nt.txt text_)]))))
  ((some (decide (text_∈(Tp.mk [("yes" : Str),("no" : Str)]).l))).bind fun b11=>cond b11
   ((some (some (Nt.tup [(Nt.txt text_)]))))
   ((some [("not" : Str),("next" : Str),("atlast" : Str),("always" : Str),("again" : Str),("settles" : Str)]).bind fun as21=>(Bt (S:=Unit) (ρ:=(Option Nt)) (fun (word_:Str) s28 =>
     ((some (Txt.slice text_ none (some ((word_.length:Int)+(1:Int))))).bind fun t46=>((some word_).bind fun t44=>(some (" " : Str)).bind fun t45=>C4 t44 t45).bind fun t47=>some (decide (t46=t47))).bind fun b48=>cond b48
      (((some (Txt.slice text_ (some ((word_.length:Int)+(1:Int))) none)).bind fun t53=>C2 t53).bind fun inner_ =>
      ((some inner_.isNone).bind fun t65=>cond t65 (some none) ((((((some inner_).bind fun t60=>t60).bind fun t61=>(some [t61])).bind fun t62=>(some ((Nt.txt word_)::t62))).bind fun t63=>(some (Nt.tup t63))).bind fun t64=>(some (some t64)))).bind fun rr71=>some (Fl.rt rr71))
      (some (Fl.nx ()))) as21 ()).bind fun fl23=>match fl23 with
    | .nx s28 =>
     (some none).bind fun E7 =>
     (some ((decide ((Txt.slice text_ none (some (1:Int)))=("(" : Str))) && (decide ((Txt.slice text_ (some (-(1:Int))) none)=(")" : Str))))).bind fun b84=>(cond b84
      (((some (Txt.slice text_ (some (1:Int)) (some (-(1:Int))))).bind fun t95=>B8 t95).bind fun E7 =>
      some E7)
      (some E7)).bind fun s89 =>
     (some s89.isNone).bind fun b105=>cond b105
      ((some none))
      (((((some s89).bind fun t115=>t115).bind fun t116=>(some t116.b)).bind fun t117=>C2 t117).bind fun one_ =>
      ((((some s89).bind fun t124=>t124).bind fun t125=>(some t125.c)).bind fun t126=>C2 t126).bind fun other_ =>
      (some (one_.isNone || other_.isNone)).bind fun b133=>cond b133
       ((some none))
       ((((((((some s89).bind fun t143=>t143).bind fun t144=>(some t144.a)).bind fun t145=>(some (Nt.txt t145))).bind fun t151=>(((some one_).bind fun t146=>t146).bind fun t149=>(((some other_).bind fun t147=>t147).bind fun t148=>(some [t148])).bind fun t150=>(some (t149::t150))).bind fun t152=>(some (t151::t152))).bind fun t153=>(some (Nt.tup t153))).bind fun t154=>(some (some t154)))))
    | .rt r=>some r
    | .bk _=>none))
def BM:Nat->Str->Option (Option Nt)
 | 0=>fun _=>none
 | n+1=>fun text_=>B2 (BM n) text_
abbrev BF (B4:Nat)(x:Str × Unit):Option (Option Nt):=BM B4 x.1
def Ct (d_:D):Option (Except Str Unit):=((some d_).bind fun d=>some (isK "str" d)).bind fun t1=>(some (!t1)).bind fun b1=>cond b1 (some (.error "NoText")) (some (.ok ()))
abbrev HS (x:D × Unit):Option (Except Str Unit):=Ct x.1
def AW (pile_:List Nt)(x:Unit):Option (Except Str (List Nt × Nt)):=match Fv pile_ with
 | some p=>some (.ok (p.2,p.1))
 | none=>some (.error "NoText")
def BN (word_:Str):Option (Option Int) :=
 (some word_).bind fun t1=>some (Cf Bh t1)
abbrev Do (x:Str × Unit):Option (Option Int):=BN x.1
def Cc (B7:D):Option Bool :=
 (some (!(isK "str" B7))).bind fun b1=>cond b1
  ((some false))
  ((some ("" : Str)).bind fun Jd =>
  ((some B7).bind fun t17=>iterD t17).bind fun as18=>(Bt (S:=(Str)) (ρ:=Bool) (fun (LM:D) s25 =>
    ((((some LM).bind fun t40=>Bw t40).bind fun t41=>(some (decide (t41.cps.toList<("a" : Str).cps.toList)))).bind fun t47=>cond t47 (some true) ((((some LM).bind fun t42=>Bw t42).bind fun t43=>(some (decide (("z" : Str).cps.toList<t43.cps.toList)))).bind fun t46=>cond t46 (some true) (((some LM).bind fun t44=>Bw t44).bind fun t45=>(some (!decide (s25.cps.toList<t45.cps.toList)))))).bind fun b48=>cond b48
     ((some false).bind fun rr58=>some (Fl.rt rr58))
     (((some LM).bind fun t60=>Bw t60).bind fun Jd =>
     some (Fl.nx Jd))) as18 Jd).bind fun fl20=>match fl20 with
   | .nx s25 =>
    (some true)
   | .rt r=>some r
   | .bk _=>none)
abbrev FP (x:D × Unit):Option Bool:=Cc x.1
def Az (B7:D):Option Bool :=
 (((some B7).bind fun t1=>Cc t1).bind fun t4=>cond t4 (((some B7).bind fun t2=>F7 t2).bind fun t3=>(some (decide (t3=(1:Int))))) (some false))
abbrev F4 (x:D × Unit):Option Bool:=Az x.1
def Ae (pile_:List Nt)(word_:Str):Option (Except Str (List Nt)) :=
 (some (decide (word_=("(" : Str)))).bind fun b1=>cond b1
  ((AW pile_ ()).bind fun r18=>match r18 with
  | .error n=>some (.error n)
  | .ok pr18=>(AW pr18.1 ()).bind fun r23=>match r23 with
  | .error n=>some (.error n)
  | .ok pr23=>(AW pr23.1 ()).bind fun r28=>match r28 with
  | .error n=>some (.error n)
  | .ok pr28=>(AW pr28.1 ()).bind fun r33=>match r33 with
  | .error n=>some (.error n)
  | .ok pr33=>(some (Nt.tup [pr23.2,pr18.2,pr28.2])).bind fun a38=>(Da pr33.1 a38).bind fun z46=>some (.ok z46))
  ((((some word_).bind fun t47=>BN t47).bind fun t48=>(some (decide (t48=(some (1:Int)))))).bind fun b49=>cond b49
   ((AW pile_ ()).bind fun r54=>match r54 with
  | .error n=>some (.error n)
  | .ok pr54=>(Da pr54.1 (Nt.tup [(Nt.txt word_),pr54.2])).bind fun z58=>some (.ok z58))
   ((((some word_).bind fun t65=>BN t65).bind fun t66=>(some (decide (t66=(some (0:Int)))))).bind fun b67=>cond b67
    ((some (Nt.tup [(Nt.txt word_)])).bind fun a72=>(Da pile_ a72).bind fun z80=>some (.ok z80))
    ((((some word_).bind fun a=>some (ToD.to a)).bind fun t81=>Az t81).bind fun b82=>cond b82
     ((some (Nt.tup [(Nt.txt ("lamp" : Str)),(Nt.txt word_)])).bind fun a87=>(Da pile_ a87).bind fun z95=>some (.ok z95))
     ((some (Nt.txt word_)).bind fun a96=>(Da pile_ a96).bind fun z104=>some (.ok z104)))))
abbrev FK (pile_:List Nt)(x:Str × Unit):Option (Except Str (List Nt)):=Ae pile_ x.1
def B5 (BG:D):Option (Tp D) :=
 ((((some BG).bind fun t3=>(some (0:Int)).bind fun t4=>atD t3 t4).bind fun t5=>Bw t5).bind fun t6=>(some (decide (t6=("lamp" : Str))))).bind fun b7=>cond b7
  ((some (Tp.mk ([]:List D))))
  ((((some BG).bind fun t17=>Kf t17).bind fun t18=>(some (some (1:Int))).bind fun t19=>(some none).bind fun t20=>Jb t18.l t19 t20))
abbrev GP (x:D × Unit):Option (Tp D):=B5 x.1
def AQ (B7:D):Option Bool :=
 ((some (!(isK "tuple" B7))).bind fun t8=>cond t8 (some true) ((((some B7).bind fun t1=>F7 t1).bind fun t2=>(some (decide (t2=(0:Int))))).bind fun t7=>cond t7 (some true) ((((some B7).bind fun t3=>(some (0:Int)).bind fun t4=>atD t3 t4).bind fun t5=>(some (isK "str" t5))).bind fun t6=>(some (!t6))))).bind fun b9=>cond b9
  ((some false))
  (((((some B7).bind fun t21=>(some (0:Int)).bind fun t22=>atD t21 t22).bind fun t23=>Bw t23).bind fun t24=>(some (decide (t24=("lamp" : Str))))).bind fun b25=>cond b25
   (((((some B7).bind fun t30=>F7 t30).bind fun t31=>(some (decide (t31=(2:Int))))).bind fun t35=>cond t35 (((some B7).bind fun t32=>(some (1:Int)).bind fun t33=>atD t32 t33).bind fun t34=>Az t34) (some false)))
   ((((((some B7).bind fun t41=>(some (0:Int)).bind fun t42=>atD t41 t42).bind fun t43=>Bw t43).bind fun t44=>(some ((Cf Bh t44).isSome))).bind fun t58=>cond t58 (((some B7).bind fun t45=>F7 t45).bind fun t56=>(((((some B7).bind fun t51=>(some (0:Int)).bind fun t52=>atD t51 t52).bind fun t53=>Bw t53).bind fun t54=>Cf Bh t54).bind fun t55=>(some ((1:Int)+t55))).bind fun t57=>(some (decide (t56=t57)))) (some false))))
abbrev GJ (x:D × Unit):Option Bool:=AQ x.1
def B9 (B7:D):Option Bool :=
 (some [B7]).bind fun found_ =>
 (some (0:Int)).bind fun HQ =>
 (FG (S:=((List D) × Int)) (ρ:=Bool) (fun s17=>(some (decide (s17.2<(s17.1.length:Int))))) (fun s17 =>
   ((some (decide ((24:Int)<(s17.1.length:Int)))).bind fun t42=>cond t42 (some true) ((((some s17.1).bind fun t38=>(some s17.2).bind fun t39=>atI t38 t39).bind fun t40=>AQ t40).bind fun t41=>(some (!t41)))).bind fun b43=>cond b43
    ((some false).bind fun rr53=>some (Fl.rt rr53))
    ((((some s17.1).bind fun t55=>(some s17.2).bind fun t56=>atI t55 t56).bind fun t57=>B5 t57).bind fun a58=>(extO s17.1 a58.l).bind fun z66 =>
    (some (s17.2+(1:Int))).bind fun HQ =>
    some (Fl.nx (z66,HQ)))) Ky (found_,HQ)).bind fun fl15=>match fl15 with
  | .nx s17 =>
   (some true)
  | .rt r=>some r
  | .bk _=>none
abbrev EW (x:D × Unit):Option Bool:=B9 x.1
def AZ (C2:Nt->Option Str)(BG:Nt):Option Str :=
 ((((some BG).bind fun t1=>C1 t1).bind fun t2=>(some (0:Int)).bind fun t3=>atI t2.l t3).bind fun t4=>DZ t4).bind fun word_ =>
 (some (decide (word_=("lamp" : Str)))).bind fun b11=>cond b11
  (((((some BG).bind fun t16=>C1 t16).bind fun t17=>(some (1:Int)).bind fun t18=>atI t17.l t18).bind fun t19=>DZ t19))
  (((((some BG).bind fun t25=>C1 t25).bind fun t26=>(some (t26.l.length:Int))).bind fun t27=>(some (decide (t27=(1:Int))))).bind fun b28=>cond b28
   ((some word_))
   (((((some BG).bind fun t38=>C1 t38).bind fun t39=>(some (t39.l.length:Int))).bind fun t40=>(some (decide (t40=(2:Int))))).bind fun b41=>cond b41
    ((((some word_).bind fun t46=>(some (" " : Str)).bind fun t47=>C4 t46 t47).bind fun t52=>((((some BG).bind fun t48=>C1 t48).bind fun t49=>(some (1:Int)).bind fun t50=>atI t49.l t50).bind fun t51=>C2 t51).bind fun t53=>C4 t52 t53))
    ((((((((some ("(" : Str)).bind fun t63=>((((some BG).bind fun t59=>C1 t59).bind fun t60=>(some (1:Int)).bind fun t61=>atI t60.l t61).bind fun t62=>C2 t62).bind fun t64=>C4 t63 t64).bind fun t65=>(some (" " : Str)).bind fun t66=>C4 t65 t66).bind fun t67=>(some word_).bind fun t68=>C4 t67 t68).bind fun t69=>(some (" " : Str)).bind fun t70=>C4 t69 t70).bind fun t75=>((((some BG).bind fun t71=>C1 t71).bind fun t72=>(some (2:Int)).bind fun t73=>atI t72.l t73).bind fun t74=>C2 t74).bind fun t76=>C4 t75 t76).bind fun t77=>(some (")" : Str)).bind fun t78=>C4 t77 t78))))
def AN:Nat->Nt->Option Str
 | 0=>fun _=>none
 | n+1=>fun BG=>AZ (AN n) BG
abbrev As (B4:Nat)(x:Nt × Unit):Option Str:=AN B4 x.1
def lfx (word_:Str)(s25:List Nt):Option (Fl (List Nt) Str):=(Ae s25 word_).bind fun r=>match r with
 | .error n=>some (.rt n)
 | .ok z=>some (.nx z)
def AR (d_:D):Option (Except Str Nt) :=
 ((some d_).bind fun d=>Ct d).bind fun r0=>match r0 with
 | .error n=>some (.error n)
 | .ok _=>((((((some d_).bind fun d=>Bw d).bind fun x=>Hj "(" "( " x).bind fun x=>Hj ")" " )" x).bind fun t15=>(some (" " : Str)).bind fun t16=>Jn t15 t16).bind fun t17=>(some t17.reverse)).bind fun as18=>(Bt (S:=List Nt) (ρ:=Str) lfx as18 []).bind fun fl20=>match fl20 with
  | .rt n=>some (.error n)
  | .bk _=>none
  | .nx s25 =>
   ((some (!decide ((s25.length:Int)=(1:Int)))).bind fun t76=>cond t76 (some true) ((((((some s25).bind fun t67=>(some (0:Int)).bind fun t68=>atI t67 t68).bind fun a=>some (ToD.to a)).bind fun t69=>B9 t69).bind fun t70=>(some (!t70))).bind fun t75=>cond t75 (some true) ((((some s25).bind fun t71=>(some (0:Int)).bind fun t72=>atI t71 t72).bind fun t73=>AN 26 t73).bind fun t74=>((some d_).bind fun d=>Bw d).bind fun t9=>(some (!decide (t74=t9)))))).bind fun b77=>cond b77
    (some (.error "NoText"))
    (((some s25).bind fun t82=>(some (0:Int)).bind fun t83=>atI t82 t83).bind fun x=>some (.ok x))
abbrev FO (x:D × Unit):Option (Except Str Nt):=AR x.1
def BV (text_:Str):Option Nt:=(AR (.str text_)).bind fun r=>match r with
 | .ok b=>some b
 | .error _=>none
abbrev CI (x:Str × Unit):Option Nt:=BV x.1
def C5 (text_:Str)(Ao:Int):Option Str :=
 (some ("abcdefghijklmnopqrstuvwxyz  ()()ABYZ0-/;,~!_" : Str)).bind fun signs_ =>
 ((some signs_).bind fun t7=>(some ((Ao / (7:Int)) % (44:Int))).bind fun t8=>(atI t7.cps.toList t8).bind fun z=>some (⟨#[z]⟩:Str)).bind fun new_ =>
 ((some (((Ao / (308:Int)) * (48271:Int)) % (2147483647:Int))).bind fun t15=>(some ((text_.length:Int)+(1:Int))).bind fun t16=>Il t15 t16).bind fun at_ =>
 (some (Ao % (7:Int))).bind fun way_ =>
 (some (decide (way_=(0:Int)))).bind fun b29=>cond b29
  ((((some (Txt.slice text_ none (some at_))).bind fun t34=>(some new_).bind fun t35=>C4 t34 t35).bind fun t36=>(some (Txt.slice text_ (some (at_+(1:Int))) none)).bind fun t37=>C4 t36 t37))
  ((some (decide (way_=(1:Int)))).bind fun b43=>cond b43
   ((((some (Txt.slice text_ none (some at_))).bind fun t48=>(some new_).bind fun t49=>C4 t48 t49).bind fun t50=>(some (Txt.slice text_ (some at_) none)).bind fun t51=>C4 t50 t51))
   ((some (decide (way_=(2:Int)))).bind fun b57=>cond b57
    (((some (Txt.slice text_ none (some at_))).bind fun t62=>(some (Txt.slice text_ (some (at_+(1:Int))) none)).bind fun t63=>C4 t62 t63))
    ((some (decide (way_=(3:Int)))).bind fun b69=>cond b69
     (((some (Txt.slice text_ (some (at_+(1:Int))) (some (at_+(2:Int))))).bind fun t74=>(some (Txt.slice text_ (some at_) (some (at_+(1:Int))))).bind fun t75=>C4 t74 t75).bind fun LZ =>
     (((some (Txt.slice text_ none (some at_))).bind fun t82=>(some LZ).bind fun t83=>C4 t82 t83).bind fun t84=>(some (Txt.slice text_ (some (at_+(2:Int))) none)).bind fun t85=>C4 t84 t85))
     ((some (decide (way_=(4:Int)))).bind fun b91=>cond b91
      ((((some (Txt.slice text_ none (some at_))).bind fun t98=>((some [(" and" : Str),("not " : Str),(" or " : Str),("yes" : Str),(" until a" : Str)]).bind fun t96=>(some ((Ao / (7:Int)) % (5:Int))).bind fun t97=>atI t96 t97).bind fun t99=>C4 t98 t99).bind fun t100=>(some (Txt.slice text_ (some at_) none)).bind fun t101=>C4 t100 t101))
      ((some text_))))))
abbrev EX (x:Str × Int × Unit):Option Str:=C5 x.1 x.2.1
def BC (C2:Nt->Option Int)(AI:Nt):Option Int :=
 ((((((some AI).bind fun t4=>C1 t4).bind fun t5=>(some (0:Int)).bind fun t6=>atI t5.l t6).bind fun t7=>DZ t7).bind fun t8=>(some (decide (t8=("lamp" : Str))))).bind fun t12=>cond t12 (some true) ((((some AI).bind fun t9=>C1 t9).bind fun t10=>(some (t10.l.length:Int))).bind fun t11=>(some (decide (t11=(1:Int)))))).bind fun b13=>cond b13
  ((some (1:Int)))
  ((((((((some AI).bind fun t23=>C1 t23).bind fun t24=>(some (some (1:Int))).bind fun t25=>(some none).bind fun t26=>Jb t24.l t25 t26).bind fun t27=>(some t27.l)).bind fun t33=>KN (fun (LC:Nt)=>((some LC).bind fun t32=>C2 t32)) t33).bind fun t34=>(some t34.sum)).bind fun t35=>(some ((1:Int)+t35))))
def Cb:Nat->Nt->Option Int
 | 0=>fun _=>none
 | n+1=>fun AI=>BC (Cb n) AI
abbrev CG (B4:Nat)(x:Nt × Unit):Option Int:=Cb B4 x.1
def C6 (B7:D):Option Bool:=(AR B7).bind fun r=>match r with
 | .error n=>if n=("NoText" : Str) then some true else none
 | .ok _=>none
abbrev Ec (x:D × Unit):Option Bool:=C6 x.1
def Jr (script_:Scr):Option Bool :=
 ((some script_).bind fun t1=>(some (0:Int)).bind fun t2=>Bz t1 t2).bind fun AI =>
 ((some AI).bind fun t9=>Ba 26 t9).bind fun text_ =>
 ((some script_).bind fun t16=>(some (20:Int)).bind fun t17=>Bf t16 t17).bind fun way_ =>
 (some (ToD.to text_)).bind fun D8 =>
 ((some ((way_ / (6:Int)) % (4:Int))).bind fun t30=>Ij 0 t30).bind fun as31=>(Bt (S:=(D)) (ρ:=Bool) (fun (k_:Int) s38 =>
   (((((some s38).bind fun t53=>Bw t53).bind fun t57=>(((some script_).bind fun t54=>(some ((21:Int)+k_)).bind fun t55=>Bf t54 t55).bind fun t56=>(some (if t56<0 then -t56 else t56))).bind fun t58=>C5 t57 t58).bind fun t59=>(some (Txt.slice t59 none (some (200:Int))))).bind fun t60=>(some (ToD.to t60))).bind fun D8 =>
   some (Fl.nx D8)) as31 D8).bind fun fl33=>match fl33 with
  | .nx s38 =>
   (some (decide ((way_ % (6:Int))=(5:Int)))).bind fun b73=>(cond b73
    (((some [("not " : Str),("next " : Str),("settles " : Str),("again " : Str)]).bind fun t88=>(some ((way_ / (24:Int)) % (4:Int))).bind fun t89=>atI t88 t89).bind fun head_ =>
    (((((((((((some head_).bind fun t96=>(some (23:Int)).bind fun t97=>KF t96 t97).bind fun t98=>(some ("a" : Str)).bind fun t99=>C4 t98 t99).bind fun t100=>(some (ToD.to t100))).bind fun t107=>(((((some head_).bind fun t101=>(some (24:Int)).bind fun t102=>KF t101 t102).bind fun t103=>(some ("a" : Str)).bind fun t104=>C4 t103 t104).bind fun t105=>(some (ToD.to t105))).bind fun t106=>(some [t106,(ToD.to ("" : Str)),(ToD.to (" " : Str))])).bind fun t108=>(some (t107::t108))).bind fun t109=>(some (D.dic::t109))).bind fun t110=>(some ((ToD.to true)::t110))).bind fun t111=>(some ((ToD.to (Tp.mk [(ToD.to ("lamp" : Str)),(ToD.to ("a" : Str))]))::t111))).bind fun t112=>(some ((ToD.to [(ToD.to ("a" : Str))])::t112))).bind fun t113=>(some ((ToD.to (7:Int))::t113))).bind fun t114=>(some ((ToD.to ())::t114))).bind fun menu_ =>
    ((some menu_).bind fun t121=>(some ((way_ / (96:Int)) % (10:Int))).bind fun t122=>atI t121 t122).bind fun D8 =>
    some D8)
    (some s38)).bind fun s78 =>
   (some none).bind fun due_ =>
   ((some (isK "str" s78)).bind fun t140=>cond t140 (((some s78).bind fun t138=>F7 t138).bind fun t139=>(some (decide ((0:Int)<t139)))) (some false)).bind fun b141=>(cond b141
    ((((some s78).bind fun t152=>Bw t152).bind fun t153=>BM 60 t153).bind fun due_ =>
    some due_)
    (some due_)).bind fun s146 =>
   ((some s146.isSome).bind fun t166=>cond t166 ((((some s146).bind fun t163=>t163).bind fun t164=>Cb 60 t164).bind fun t165=>(some (decide ((24:Int)<t165)))) (some false)).bind fun b167=>(cond b167
    ((some none).bind fun due_ =>
    some due_)
    (some s146)).bind fun s172 =>
   (some s172.isNone).bind fun b187=>cond b187
    ((((some s78).bind fun t192=>C6 t192).bind fun t193=>(some (!t193))).bind fun b194=>cond b194
     ((some false))
     ((((some text_).bind fun t204=>BV t204).bind fun t205=>(some AI).bind fun t206=>eqNO t205 t206)))
    (((((some s78).bind fun t212=>Bw t212).bind fun t213=>BV t213).bind fun t215=>((some s172).bind fun t214=>t214).bind fun t216=>neNO t215 t216).bind fun b217=>cond b217
     ((some false))
     ((((some text_).bind fun t227=>BV t227).bind fun t228=>(some AI).bind fun t229=>eqNO t228 t229)))
  | .rt r=>some r
  | .bk _=>none
abbrev mm_law (x:Scr × Unit):Option Bool:=Jr x.1
def top (i:Nat):Stmt:=PySem.Challenge.pw_lassoscribe_k86_sentences_read.main.body.getD i (.Pass ⟨0,0,0,0⟩)
abbrev Ee:Stmt:=top 11
abbrev Dx:Stmt:=top 15
abbrev FB:Stmt:=top 16
abbrev Fn:Stmt:=top 17
abbrev FA:Stmt:=top 18
abbrev Dm:Stmt:=top 19
abbrev CS:Stmt:=top 21
abbrev C9:Stmt:=top 22
abbrev EL:Stmt:=top 23
abbrev F3:Stmt:=top 24
abbrev D9:Stmt:=top 25
abbrev F8:Stmt:=top 27
abbrev EE:Stmt:=top 28
abbrev DU:Stmt:=top 29
abbrev Cz:Stmt:=top 30
abbrev Dj:Stmt:=top 31
abbrev D1:Stmt:=top 32
abbrev E2:Stmt:=top 33
abbrev Dd:Stmt:=top 34
abbrev Di:Stmt:=top 35
abbrev Dk:Stmt:=top 36
abbrev s_law:Stmt:=top 37
structure Txt (w:World)(K:FZ9)(mg:Str->Option Value):Prop where
 ValueError_:mg "ValueError" = none
 abs_:mg "abs" = none
 isinstance_:mg "isinstance" = none
 len_:mg "len" = none
 min_:mg "min" = none
 range_:mg "range" = none
 reversed_:mg "reversed" = none
 str_:mg "str" = none
 sum_:mg "sum" = none
 tuple_:mg "tuple" = none
 MOST_WORDS:∃ t,mg "MOST_WORDS" = some (.int 24 t)
 PARTS:∃ a,mg "PARTS" = some (.ref a)/\CDict w K a Bh
theorem DD:FnScope ["thing","last","lamp"] ["thing"] (AE Ee):=scm
theorem Ht:FnScope ["word"] ["word"] (AE Dx):=scm
theorem K1:FnScope ["sentence"] ["sentence"] (AE FB):=scm
theorem KL:FnScope ["thing"] ["thing"] (AE Fn):=scm
theorem K4:FnScope ["thing"] ["thing"] (AE FA):=scm
theorem Co:FnScope ["thing","found","place"] ["thing"] (AE Dm):=scm
theorem Cy:FnScope ["sentence","word"] ["sentence"] (AE CS):=scm
theorem EC:FnScope ["thing"] ["thing"] (AE C9):=scm
theorem JA:FnScope ["pile"] ["pile"] (AE EL):=scm
theorem DW:FnScope ["pile","word","left","middle","right"] ["pile","word"] (AE F3):=scm
theorem Cv:FnScope ["text","pile","word"] ["text"] (AE D9):=scm
theorem Ea:FnScope ["_law_script","_law_k","_law_number"] ["_law_script","_law_k"] (AE F8):=scm
theorem BK:FnScope ["_law_pool","_law_cell_here","_law_heads","_law_at","_law_left","_law_right","_law_size_here","_law_new"] ["_law_pool","_law_cell_here"] (AE EE):=scm
theorem BX:FnScope ["_law_script","_law_at","_law_cell_here","_law_row","_law_pool","_law_k"] ["_law_script","_law_at"] (AE DU):=scm
theorem DK:FnScope ["_law_sentence_here","_law_word"] ["_law_sentence_here"] (AE Cz):=scm
theorem Be:FnScope ["_law_inside","_law_depth","_law_at","_law_word","_law_behind"] ["_law_inside"] (AE Dj):=scm
theorem BP:FnScope ["_law_text","_law_word","_law_inner","_law_parts","_law_one","_law_other"] ["_law_text"] (AE D1):=scm
theorem GG:FnScope ["_law_sentence_here"] ["_law_sentence_here"] (AE E2):=scm
theorem Bx:FnScope ["_law_text","_law_cell_here","_law_signs","_law_new","_law_at","_law_way","_law_turned"] ["_law_text","_law_cell_here"] (AE Dd):=scm
theorem Bv:FnScope ["_law_thing","_law_told","_law_error","_law_name"] ["_law_thing"] (AE Di):=scm
theorem DL:FnScope ["_law_error","_law_some"] ["_law_error"] (AE Dk):=scm
theorem Cw:FnScope ["_law_script","_law_sentence_here","_law_text","_law_way","_law_spoiled","_law_k","_law_head","_law_menu","_law_due"] ["_law_script"] (AE s_law):=scm
def JN (K:FZ9):Sp:=fun vs H Q _=>∃ (a:Addr) (ns:List Int),vs=[.ref a]/\SqL K H a (ns.map V.int)/\ns.length<=63/\∀ H',Q (.bl true) H'
structure XT (K:FZ9)(mg:Str->Option Value)(aS aT aR aW aM aE aC aX aN:Addr):Prop where
 naS:mg "ScribeError" = some (.ref aS)
 naT:mg "NoText" = some (.ref aT)
 naR:mg "NoRun" = some (.ref aR)
 naW:mg "NoRow" = some (.ref aW)
 naM:mg "NoMoment" = some (.ref aM)
 naE:mg "NoSentence" = some (.ref aE)
 naC:mg "NoMachine" = some (.ref aC)
 naX:mg "TooMuch" = some (.ref aX)
 naN:mg "NoName" = some (.ref aN)
 kit:XKit K aT
 ex:PySem.W.exmOne K (.ref aT) (.ref aS)=some true
 ex2:PySem.W.exmOne K (.ref aT) (.ref aT)=some true
 kT:PySem.W.kitOne K (.ref aT) (.ref aT)=some true
 kV:PySem.W.kitOne K (.ref aT) (.type "ValueError")=some true
 kR:PySem.W.kitOne K (.ref aT) (.ref aR)=some false
 kW:PySem.W.kitOne K (.ref aT) (.ref aW)=some false
 kM:PySem.W.kitOne K (.ref aT) (.ref aM)=some false
 kE:PySem.W.kitOne K (.ref aT) (.ref aE)=some false
 kC:PySem.W.kitOne K (.ref aT) (.ref aC)=some false
 kX:PySem.W.kitOne K (.ref aT) (.ref aX)=some false
 kN:PySem.W.kitOne K (.ref aT) (.ref aN)=some false
def XC (K:FZ9):Prop:=∃ aS aT aR aW aM aE aC aX aN:Addr,(qgB K mainGlobals "ScribeError" = some (some (.ref aS))/\qgB K mainGlobals "NoText" = some (some (.ref aT))/\qgB K mainGlobals "NoRun" = some (some (.ref aR))/\qgB K mainGlobals "NoRow" = some (some (.ref aW))/\qgB K mainGlobals "NoMoment" = some (some (.ref aM))/\qgB K mainGlobals "NoSentence" = some (some (.ref aE))/\qgB K mainGlobals "NoMachine" = some (some (.ref aC))/\qgB K mainGlobals "TooMuch" = some (some (.ref aX))/\qgB K mainGlobals "NoName" = some (some (.ref aN)))/\PySem.W.excIn K aT bmV "ValueError.__new__" = true/\XKits K aT/\PySem.W.exmOne K (.ref aT) (.ref aS)=some true/\PySem.W.exmOne K (.ref aT) (.ref aT)=some true/\PySem.W.kitOne K (.ref aT) (.ref aT)=some true/\PySem.W.kitOne K (.ref aT) (.type "ValueError")=some true/\PySem.W.kitOne K (.ref aT) (.ref aR)=some false/\PySem.W.kitOne K (.ref aT) (.ref aW)=some false/\PySem.W.kitOne K (.ref aT) (.ref aM)=some false/\PySem.W.kitOne K (.ref aT) (.ref aE)=some false/\PySem.W.kitOne K (.ref aT) (.ref aC)=some false/\PySem.W.kitOne K (.ref aT) (.ref aX)=some false/\PySem.W.kitOne K (.ref aT) (.ref aN)=some false
def clsL:List Bool:=[true,true,false,false,false,false,false,false,false]
def spC (K:FZ9)(aT:Addr):Sp:=fun vs H Q _=>∃ G v,vs=[v]/\Same G H/\Rp.rel K G v (Exn.mk aT)/\∀ v G2 H2,Ext G H G2 H2->Rp.rel K G2 v clsL->Q v H2
theorem xc_mk {K:FZ9}{aS aT aR aW aM aE aC aX aN:Addr}{cd:ClassData}(n1:qgB K mainGlobals "ScribeError" = some (some (.ref aS)))(n2:qgB K mainGlobals "NoText" = some (some (.ref aT)))(n3:qgB K mainGlobals "NoRun" = some (some (.ref aR)))(n4:qgB K mainGlobals "NoRow" = some (some (.ref aW)))(n5:qgB K mainGlobals "NoMoment" = some (some (.ref aM)))(n6:qgB K mainGlobals "NoSentence" = some (some (.ref aE)))(n7:qgB K mainGlobals "NoMachine" = some (some (.ref aC)))(n8:qgB K mainGlobals "TooMuch" = some (some (.ref aX)))(n9:qgB K mainGlobals "NoName" = some (some (.ref aN)))(xe:PySem.W.excIn K aT bmV "ValueError.__new__" = true)(c1:PySem.W.clsIn K aT=some cd)
  (c2:PySem.W.findIn K (.ref aT) "__getattribute__" = some (some (.builtin "BaseException.__getattribute__"))) (c3:PySem.W.findIn K (.ref aT) "__getattr__" = some none) (c4:PySem.W.findIn K (.ref aT) "__class__" = some (some (.builtin "object.__class__")))
  (c5:PySem.W.specialIn K (.builtin "object.__class__") "__get__" = some (some (.builtin "getset_descriptor.__get__"))) (c6:PySem.W.takesIn K (.builtin "object.__class__")=some true) (c7:PySem.W.mroIn K aT (.type "object")=some true) (c8:PySem.W.mroIn K aT (.type "BaseException")=some true)
  (xm:PySem.W.exmOne K (.ref aT) (.ref aS)=some true) (xm2:PySem.W.exmOne K (.ref aT) (.ref aT)=some true) (k1:PySem.W.kitOne K (.ref aT) (.ref aT)=some true) (k2:PySem.W.kitOne K (.ref aT) (.type "ValueError")=some true) (k3:PySem.W.kitOne K (.ref aT) (.ref aR)=some false) (k4:PySem.W.kitOne K (.ref aT) (.ref aW)=some false) (k5:PySem.W.kitOne K (.ref aT) (.ref aM)=some false) (k6:PySem.W.kitOne K (.ref aT) (.ref aE)=some false) (k7:PySem.W.kitOne K (.ref aT) (.ref aC)=some false) (k8:PySem.W.kitOne K (.ref aT) (.ref aX)=some false) (k9:PySem.W.kitOne K (.ref aT) (.ref aN)=some false):XC K :=
 ⟨aS,aT,aR,aW,aM,aE,aC,aX,aN,⟨n1,n2,n3,n4,n5,n6,n7,n8,n9⟩,xe,⟨⟨cd,c1⟩,c2,c3,c4,c5,c6,c7,c8⟩,xm,xm2,k1,k2,k3,k4,k5,k6,k7,k8,k9⟩
theorem K9:∀ {l:List Nt},Fv l=none->l=[]
 | [],_=>rfl
 | [a],h=>by cases h
 | a::b::r,h=>by
  have h:((Fv (b::r)).bind fun p=>some (p.1,a::p.2))=none:=h
  cases e:Fv (b::r) with
  | none=>cases K9 e
  | some p=>rw [e] at h;cases h
section
variable (P:Program)(w:World)(K:FZ9)(mg:Str->Option Value)(base:Heap)
abbrev F9:Prop:=DefOk P w K mg base "_law_cell" 1 ["_law_script","_law_k"] (spM K CA)
abbrev GR:Prop:=DefOk P w K mg base "_law_grown" 1 ["_law_pool","_law_cell_here"] (spW1 K E1)
abbrev EN:Prop:=DefOk P w K mg base "_law_sentence" 2 ["_law_script","_law_at"] (spM K E9)
abbrev F2:Prop:=DefOk P w K mg base "_law_written" 27 ["_law_sentence_here"] (spM K (BE 26))
abbrev Ev:Prop:=DefOk P w K mg base "_law_between" 1 ["_law_inside"] (spM K EY)
abbrev Eu:Prop:=DefOk P w K mg base "_law_read_of" 62 ["_law_text"] (spM K (BF 60))
abbrev D7:Prop:=DefE P w K mg base "refuse_other_kinds" 1 ["thing"] (spX K mg HS)
abbrev GF:Prop:=DefE P w K mg base "taken_off" 1 ["pile"] (spYX K mg AW)
abbrev FN:Prop:=DefOk P w K mg base "many_parts" 1 ["word"] (spM K Do)
abbrev GQ:Prop:=DefOk P w K mg base "is_moment" 1 ["thing"] (spM K FP)
abbrev Fz:Prop:=DefOk P w K mg base "is_lamp" 2 ["thing"] (spM K F4)
abbrev Gi:Prop:=DefE P w K mg base "lay_word" 3 ["pile","word"] (spWX K mg FK)
abbrev Gj:Prop:=DefOk P w K mg base "parts_of" 1 ["sentence"] (spM K GP)
abbrev HF:Prop:=DefOk P w K mg base "has_form" 3 ["thing"] (spM K GJ)
abbrev Ex:Prop:=DefOk P w K mg base "is_sentence" 4 ["thing"] (spM K EW)
abbrev EB:Prop:=DefOk P w K mg base "show_sentence" 27 ["sentence"] (spM K (As 26))
abbrev EA:Prop:=DefP P w K mg base "read_sentence" 30 ["text"] (spM K CI)
abbrev DA:Prop:=DefQ P w K mg base "read_sentence" 30 ["text"] (spX K mg FO)
abbrev Ez:Prop:=DefOk P w K mg base "_law_changed" 1 ["_law_text","_law_cell_here"] (spM K EX)
abbrev Gh:Prop:=DefOk P w K mg base "_law_size" 61 ["_law_sentence_here"] (spM K (CG 60))
abbrev Ey (aT:Addr):Prop:=DefH P w K mg base "_law_classes" 1 ["_law_error"] (spC K aT)
abbrev Ew:Prop:=DefP P w K mg base "_law_no_text" 31 ["_law_thing"] (spM K Ec)
end
section
variable {P:Program}{w:World}{K:FZ9}{mg:Str->Option Value}{base:Heap}
theorem Je (F:DIn K mg "_law_cell" F8)(T:Txt w K mg):F9 P w K mg base:=by
 refine F.okM2 (m:=Bf) Ea fun _ _ _ _ _ H0 _ _ hr G0 script_ k_ res BU v_k_ xt AC HU hm q=>?_;unfold Bf at hm
 refine ⟨_,(A3 (Ay (AK JK (pv 1) (B3 K T.len_ (pv 0)) (AS _)) (A3 (Ab (AX K (pv 0) (pv 1)))
   A4) A4)
   (A3 (AL (i:=2) Ea (AF K (Ap (E4 (K:=K) rfl) (pv 1) A5) A5))
   (A3 (Ay (AK Fk (B3 K T.len_ (pv 0)) A5 (AS _)) (A3 (AL (i:=2) Ea (Ap Bk (AF K (Ap (E4 (K:=K) rfl) (AX K (pv 0) (Ap Bk (Ap (E4 (K:=K) rfl) (pv 1) A5) (B3 K T.len_ (pv 0)))) A5) (Ap (E4 (K:=K) rfl) (pv 1) A5)) A5))
   A4) A4)
   (A3 (Ab (Ap Bk (Ap (E4 (K:=K) rfl) (pv 2) (pv 2)) A5))
   A4)))),?_⟩
 clear 2 b1 h2;refine Av (AJ (K:=K) (EK (A6 HU) (J7 (A6 AC)))) h2 xt.gh fun G3 H4 x5=>?_;clear 1 x5 AC HU
 cases b1 with
 | true =>
  clear 3;exact Aa (K:=K) (ev_atX (A6 AC) (A6 HU)) hm xt.gh fun v8 G9 H10 x11 r12=>q v8 G9 H10 (xt.trans x11) r12
 | false =>
  clear 4;clear 2 FT h18;refine Ac (K:=K) (BI (Ej (A6 HU)) AY) h18 xt.gh fun v13 G14 H15 x16 r17=>?_;clear 1 x16 AC HU;clear 2 b19 h20 s24 h25
  try (with_reducible refine nxt_ ?_;dsimp only)
  refine D5 (t:=Ff _ _ _) (fun S45 H44=>∃ (G43:Hp) (v27:V),Ext G0 H0 G43 H44/\Same G14 G43/\S45=[some BU,some v_k_,some v27]/\Rp.rel K G43 v27 (s24:Int)) (fun nx kn29=>?_) ?_
  ·refine Av (AJ (K:=K) (EK (J7 (A6 AC)) AY)) h20 xt.gh fun G21 H22 x23=>?_;clear 1 x23 AC HU r17;have mk26:Same G14 G21:=x23.gg;have hm:=h25
   cases b19 with
   | true =>
    clear 3;clear 2 FT h42;refine Ac (K:=K) (Bg (BI (Ej (ev_atX (A6 AC) (Hi (Ej (A6 HU)) (J7 (A6 AC))))) (Ej (A6 HU)))) h42 xt.gh fun v37 G38 H39 x40 r41=>?_;clear 1 x40 3 mk26;cases hm;exact kn29 _ _ ⟨G38,v37,xt,mk26,rfl,r41⟩
   | false =>
    clear 4;cases hm;exact kn29 _ _ ⟨G21,v13,xt,mk26,rfl,r17⟩
  ·rintro _ H44 ⟨G43,v27,xt,mk26,rfl,r28⟩;exact Aa (K:=K) (Bg (ev_mul (A6 r28) (A6 r28))) hm xt.gh fun v49 G50 H51 x52 r53=>q v49 G50 H51 (xt.trans x52) r53
seal eval in
theorem JJ (F:DIn K mg "_law_grown" EE)(T:Txt w K mg):GR P w K mg base:=by
 refine F.ok BK bn2 (fun vs H Q E h=>(spW1_len h).trans rfl) (fun _ cdv A outer s H9 vs Q E hr h=>?_);obtain ⟨G0,Ck,Hl,_,pool_,⟨Ao,⟨⟩⟩,res,rfl,sg0,o_pool_,⟨DE,_,rfl,A7,rfl⟩,hm,q⟩:=h;have xt:Ext G0 (era H9 [Ck]) G0 H9:=Ext.begin sg0;have Jt:era H9 [Ck] Ck=none:=Ir (by simp);generalize era H9 [Ck]=H0 at xt q Jt;replace A7:Rp.rel K G0 DE Ao:=A7;replace hm:CB pool_ Ao=some res:=hm;unfold CB at hm
 refine ⟨_,(A3 (AL (i:=2) BK (CO (A2 AH (A2 AH (A2 AH (A2 AH (A2 AH (A2 AH (A2 AH (A2 AH (A2 AH (A2 AH (A2 AH A9)))))))))))))
   (A3 (AL (i:=3) BK (Ap Bk (pv 1) A5))
   (A3 (AL (i:=4) BK (AX K (pv 0) (Ap op_sub (LS Ip A5) (Ap Bk (Ap Cg (pv 1) A5) (BH (M8 rfl) (by rfl) T.min_ bt_min (A2 A5 (A2 (B3 K T.len_ (pv 0)) A9)))))))
   (A3 (AL (i:=5) BK (AX K (pv 0) (Ap Bk (Ap Bk (Ap (E4 (K:=K) rfl) (Ap Cg (pv 1) A5) A5) A5) (B3 K T.len_ (pv 0)))))
   (A3 (AL (i:=6) BK (AF K A5 (AX K (pv 4) A5)))
   (A3 (AL (i:=7) BK (Bj (A2 (AX K (pv 2) (pv 3)) (A2 (AX K (pv 4) A5) A9))))
   (A3 (Ay (AK Fk (pv 3) A5 (AS _)) (A3 (AL (i:=6) BK (AF K (pv 6) (AX K (pv 5) A5)))
   (A3 (AL (i:=7) BK (Bj (A2 (AX K (pv 2) (pv 3)) (A2 (AX K (pv 4) A5) (A2 (AX K (pv 5) A5) A9)))))
   (A3 (Ay (AK BJ (Ap Bk (Ap Cg (pv 1) A5) A5) A5 (AS _)) (A3 (AL (i:=7) BK (Bj (A2 (AX K (pv 2) (pv 3)) (A2 (AX K (pv 5) A5) (A2 (AX K (pv 4) A5) A9)))))
   A4) A4)
   A4))) A4)
   (A3 (Ay (AK JK (pv 6) A5 (AS _)) (A3 (CJ (Ca K (pv 0) (Bj (A2 (pv 7) (A2 (pv 6) A9)))))
   A4) A4)
   A4)))))))),?_⟩
 clear 2 JL h6;refine Ac (K:=K) (FV.ev (CL (AA Aj (AA Aj (AA Aj (AA Aj (AA Aj (AA Aj (AA Aj (AA Aj (AA Aj (AA Aj (AA Aj (B0 (α:=Str))))))))))))))) h6 xt.gh fun v1 G2 H3 x4 r5=>?_;clear 1 x4 A7 2 o_pool_;clear 2 at_ h12;refine Ac (K:=K) (Bg (A6 A7)) h12 xt.gh fun v7 G8 H9 x10 r11=>?_;clear 1 x10 A7 r5 2 o_pool_;clear 2 left_ h28;refine L4 (K:=K) o_pool_ (Du (A6 o_pool_.tell) (ev_sub (Iv AY) (Hi (D0 (A6 (Rp.mono (Same.new o_pool_.g) A7))) (ev_min AY (FD (A6 o_pool_.tell)))))) h28 xt.gh fun v23 G24 H25 x26 r27=>?_;clear 1 x26 A7 r5 r11 2 o_pool_;clear 2 right_ h42;refine L4 (K:=K) o_pool_ (Du (A6 o_pool_.tell) (Hi (Bg (Ej (D0 (A6 (Rp.mono (Same.new o_pool_.g) A7))))) (FD (A6 o_pool_.tell)))) h42 xt.gh fun v37 G38 H39 x40 r41=>?_;clear 1 x40 A7 r5 r11 r27 2 o_pool_;clear 2 CY h48;refine Ac (K:=K) (BI AY (ev_snd (A6 r27))) h48 xt.gh fun v43 G44 H45 x46 r47=>?_;clear 1 x46 A7 r5 r11 r27 r41 2 o_pool_;clear 2 new_ h59;refine Ac (K:=K) (Bu (AA (Bl (Du (A6 r5) (A6 r11))) (AA (Fp (A6 r27)) (B0 (α:=Nt))))) h59 xt.gh fun v54 G55 H56 x57 r58=>?_;clear 1 x57 A7 r5 r11 r27 r41 r47 2 o_pool_;clear 2 b60 h61 s65 h66
 try (with_reducible refine nxt_ ?_;dsimp only)
 refine D5 (t:=Ff _ _ _) (fun S108 H107=>∃ (G106:Hp) (v68:V) (v70:V),Ext G0 H0 G106 H107/\Same G55 G106/\S108=[some (V.ref Ck),some DE,some v1,some v7,some v23,some v37,some v68,some v70]/\Rp.rel K G106 v68 (s65.1:Int)/\Rp.rel K G106 v70 (s65.2:Nt)/\Own K G106 H107 (V.ref Ck) Ck Hl pool_) (fun nx kn72=>?_) ?_
 ·refine Av (AJ (K:=K) (EK (A6 r11) AY)) h61 xt.gh fun G62 H63 x64=>?_;clear 1 x64 A7 r5 r11 r27 r41 r47 r58 2 o_pool_;have mk67:Same G55 G62:=x64.gg;have hm:=h66
  cases b60 with
  | true =>
   clear 3;clear 2 CY h78;refine Ac (K:=K) (BI (A6 r47) (ev_snd (A6 r41))) h78 xt.gh fun v73 G74 H75 x76 r77=>?_;clear 1 x76 A7 r5 r11 r27 r41 2 o_pool_ 3 mk67;clear 2 new_ h89;refine Ac (K:=K) (Bu (AA (Bl (Du (A6 r5) (A6 r11))) (AA (Fp (A6 r27)) (AA (Fp (A6 r41)) (B0 (α:=Nt)))))) h89 xt.gh fun v84 G85 H86 x87 r88=>?_;clear 1 x87 A7 r5 r11 r27 r41 r77 2 o_pool_ 3 mk67;clear 2 b90 h91;refine Av (AJ (K:=K) (Bq (Bg (D0 (A6 A7))) AY)) h91 xt.gh fun G92 H93 x94=>?_;clear 1 x94 r5 r11 r27 r41 r77 r88 2 o_pool_ 3 mk67
   cases b90 with
   | true =>
    clear 3;clear 2 new_ h105;refine Ac (K:=K) (Bu (AA (Bl (Du (A6 r5) (A6 r11))) (AA (Fp (A6 r41)) (AA (Fp (A6 r27)) (B0 (α:=Nt)))))) h105 xt.gh fun v100 G101 H102 x103 r104=>?_;clear 1 x103 r77 2 o_pool_ 3 mk67;cases hm;exact kn72 _ _ ⟨G101,v73,v100,xt,mk67,rfl,r77,r104,o_pool_⟩
   | false =>
    clear 4;cases hm;exact kn72 _ _ ⟨G92,v73,v84,xt,mk67,rfl,r77,r88,o_pool_⟩
  | false =>
   clear 4;cases hm;exact kn72 _ _ ⟨G62,v43,v54,xt,mk67,rfl,r47,r58,o_pool_⟩
 ·rintro _ H107 ⟨G106,v68,v70,xt,mk67,rfl,r69,r71,o_pool_⟩;clear 9 mk67 A7 r5 r11 r27 r41;clear 2 b109 h110 s114 h115
  try (with_reducible refine nxt_ ?_;dsimp only)
  refine D5 (t:=Ff _ _ _) (fun S129 H128=>∃ (G127:Hp) ,Ext G0 H0 G127 H128/\Same G106 G127/\S129=[some (V.ref Ck),some DE,some v1,some v7,some v23,some v37,some v68,some v70]/\(∃ vs,Own K G127 H128 (V.ref Ck) Ck vs s114)) (fun nx kn117=>?_) ?_
  ·refine Av (AJ (K:=K) (EK (A6 r69) AY)) h110 xt.gh fun G111 H112 x113=>?_;clear 1 x113 r69 r71 2 o_pool_;have mk116:Same G106 G111:=x113.gg;have hm:=h115
   cases b109 with
   | true =>
    clear 3;clear 2 a118 h119 z126 h120;refine DI (K:=K) rfl o_pool_ (Gg (A6 r71) (A6 r69)) h119 h120 xt.gh fun G121 H122 w123 x124 o125=>?_;have xt:Ext G0 H0 G121 (upd H122 Ck (.lst (Hl++[w123]))):=(xt.trans x124).put Jt o125.g;clear 0 x124 3 mk116;cases hm;exact kn117 _ _ ⟨G121,xt,mk116,rfl,⟨_,o125⟩⟩
   | false =>
    clear 4;cases hm;exact kn117 _ _ ⟨G111,xt,mk116,rfl,⟨_,o_pool_⟩⟩
  ·rintro _ H128 ⟨G127,xt,mk116,rfl,⟨Hl,o_pool_⟩⟩;cases hm;exact q _ _ _ xt o_pool_
theorem GX (F:DIn K mg "_law_sentence" DU)(T:Txt w K mg)(Bs:F9 P w K mg base)(Dc:GR P w K mg base):EN P w K mg base:=by
 refine F.okM2 (m:=Bz) BX fun _ _ _ _ _ H0 _ _ hr G0 script_ at_ res BU Kt xt AC Cd hm q=>?_;unfold Bz at hm
 refine ⟨_,(A3 (AL (i:=2) BX (B1 Bs hr (by decide) rfl (A2 (pv 0) (A2 (pv 1) A9))))
   (A3 (AL (i:=3) BX AH)
   (A3 (AL (i:=4) BX (CO (A2 (Bj (A2 (Bj (A2 AH A9)) (A2 A5 A9))) (A2 (Bj (A2 (Bj (A2 AH A9)) (A2 A5 A9))) A9))))
   (A3 (EZ PassesOwn.never rfl (Dp rfl T.range_ (A2 A5 A9)) (Cr (i:=5) BX) (A3 (CJ (Ca K (pv 4) (Bj (A2 (Bj (A2 AH (A2 (AX K (pv 3) (Ap Bk (B1 Bs hr (by decide) rfl (A2 (pv 0) (A2 (AF K (AF K (pv 1) A5) (pv 5)) A9))) A5)) A9))) (A2 A5 A9)))))
   A4))
   (A3 (Ay (AK BJ (Ap Bk (pv 2) A5) A5 (AS _)) (A3 (EZ PassesOwn.never rfl (Dp rfl T.range_ (A2 A5 A9)) (Cr (i:=5) BX) (A3 (CJ (B1 Dc hr (by decide) rfl (A2 (pv 4) (A2 (Ap Bk (Ap Cg (B1 Bs hr (by decide) rfl (A2 (pv 0) (A2 (AF K (AF K (pv 1) A5) (Ap Bk (pv 5) A5)) A9))) (AF K (pv 5) A5)) A5) A9))))
   A4))
   A4) (A3 (EZ PassesOwn.never rfl (Dp rfl T.range_ (A2 (Ap Bk (Ap Cg (pv 2) A5) A5) A9)) (Cr (i:=5) BX) (A3 (CJ (B1 Dc hr (by decide) rfl (A2 (pv 4) (A2 (B1 Bs hr (by decide) rfl (A2 (pv 0) (A2 (AF K (AF K (pv 1) A5) (pv 5)) A9))) A9))))
   A4))
   A4))
   (A3 (Ab (AX K (AX K (pv 4) (LS Ip A5)) A5))
   A4)))))),?_⟩
 clear 2 Ao h8;refine Ac (K:=K) (DY (m:=CA) (A6 AC) (A6 Cd)) h8 xt.gh fun v3 G4 H5 x6 r7=>?_;clear 1 x6 AC Cd;clear 2 row_ h14;refine Ac (K:=K) Aj h14 xt.gh fun v9 G10 H11 x12 r13=>?_;clear 1 x12 AC Cd r7;clear 2 pool_ h22;refine Kl (K:=K) (CL (AA (Gg (Bu (AA (Bl Aj) (B0 (α:=Nt)))) AY) (AA (Gg (Bu (AA (Bl Aj) (B0 (α:=Nt)))) AY) (B0 (α:=(Nt × Int)))))) h22 xt.gh fun p15 vs16 G17 H18 x19 hz20 o21=>?_;clear 1 x19 AC Cd r7 r13 4 hz20;clear 2 as24 h25 fl26 h27;refine EI (K:=K) (RR:=fun r v G' H'=>Ext G0 H0 G' H'/\Rp.rel K G' v r) (FU AY) h25 h27 xt.gh fun G28 H29 x30=>⟨fun s31 S' G' H'=>∃ (v32:Option V),Ext G0 H0 G' H'/\Same G28 G'/\S'=[some BU,some Kt,some v3,some v9,some (V.ref p15),v32]/\(∃ vs,Own K G' H' (V.ref p15) p15 vs s31),?_,?_,?_,?_,?_⟩
 ·clear 1 x30 2 o21;exact ⟨_,xt,(Same.refl _),rfl,⟨_,o21⟩⟩
 ·rintro _ S' G' H' ⟨v32,xt,mk33,rfl,⟨vs16,o21⟩⟩;exact ⟨mk33,xt.gh⟩
 ·rintro xv34 a35 s31 _ G38 H39 fl36 - ⟨v32,xt,mk33,rfl,⟨vs16,o21⟩⟩ rx37 hm D' kN40 kC41 kB42 kR43;have AC:=Rp.mono (x30.gg.trans mk33) AC;have Cd:=Rp.mono (x30.gg.trans mk33) Cd;have r13:=Rp.mono (x30.gg.trans mk33) r13;refine DH ?_;clear 2 a54 h55 z62 h56;refine DI (K:=K) rfl o21 (Gg (Bu (AA (Bl Aj) (AA (Bl (HI (A6 r13) (Bg (DY (m:=CA) (A6 AC) (BI (BI (A6 Cd) AY) (A6 rx37)))))) (B0 (α:=Nt))))) AY) h55 h56 xt.gh fun G57 H58 w59 x60 o61=>?_;have xt:Ext G0 H0 G57 (upd H58 p15 (.lst (vs16++[w59]))):=(xt.trans x60).put hz20 o61.g;clear 0 x60 3 mk33;cases hm;exact kN40 _ _ _ _ rfl ⟨_,xt,mk33,rfl,⟨_,o61⟩⟩
 ·rintro s31 _ G65 H66 rfl ⟨v63,xt,mk64,rfl,⟨vs16,o21⟩⟩;refine Er ?_;have AC:=Rp.mono (x30.gg.trans mk64) AC;have Cd:=Rp.mono (x30.gg.trans mk64) Cd;have r7:=Rp.mono (x30.gg.trans mk64) r7;have r13:=Rp.mono (x30.gg.trans mk64) r13;clear 2 b67 h68 s72 h73
  try (with_reducible refine nxt_ ?_;dsimp only)
  refine D5 (t:=Ff _ _ _) (fun S165 H164=>∃ (G163:Hp) (v75:Option V),Ext G0 H0 G163 H164/\Same G65 G163/\S165=[some BU,some Kt,some v3,some v9,some (V.ref p15),v75]/\(∃ vs,Own K G163 H164 (V.ref p15) p15 vs s72)) (fun nx kn77=>?_) ?_
  ·refine Av (AJ (K:=K) (Bq (Bg (A6 r7)) AY)) h68 xt.gh fun G69 H70 x71=>?_;clear 1 x71 AC Cd r7 r13 2 o21;have mk74:Same G65 G69:=x71.gg;have hm:=h73
   cases b67 with
   | true =>
    clear 3;clear 2 as79 h80 fl81 h82;refine EI (K:=K) (RR:=fun _ _ _ _=>False) (FU AY) h80 h82 xt.gh fun G83 H84 x85=>⟨fun s86 S' G' H'=>∃ (v87:Option V),Ext G0 H0 G' H'/\Same G83 G'/\S'=[some BU,some Kt,some v3,some v9,some (V.ref p15),v87]/\(∃ vs,Own K G' H' (V.ref p15) p15 vs s86),?_,?_,?_,?_,?_⟩
    ·clear 1 x85 2 o21;exact ⟨_,xt,(Same.refl _),rfl,⟨_,o21⟩⟩
    ·rintro _ S' G' H' ⟨v87,xt,mk88,rfl,⟨vs16,o21⟩⟩;exact ⟨mk88,xt.gh⟩
    ·rintro xv89 a90 s86 _ G93 H94 fl91 - ⟨v87,xt,mk88,rfl,⟨vs16,o21⟩⟩ rx92 hm D' kN95 kC96 kB97 kR98;have mk74:=(mk74.trans x85.gg).trans mk88;have AC:=Rp.mono (x85.gg.trans mk88) AC;have Cd:=Rp.mono (x85.gg.trans mk88) Cd;have r7:=Rp.mono (x85.gg.trans mk88) r7;have r13:=Rp.mono (x85.gg.trans mk88) r13;refine DH ?_;clear 2 ca106 h107 rz108 h109;refine IU (K:=K) (m:=E1) rfl o21 (JQ (Bg (ev_div (DY (m:=CA) (A6 AC) (BI (BI (A6 Cd) AY) (Bg (A6 rx92)))) (BI (A6 rx92) AY))) Ki) h107 h109 xt.gh fun G110 H111 G112 H113 vs116 x114 y115 o117=>?_;have xt:=(xt.trans x114).past (C:=[p15]) (fun b hb=>by simp only [qiA,qpB,or_false] at hb;(first | (rcases hb with e|e<;>(rw [e];assumption)) | (rw [hb];assumption))) y115;have mk88:=mk88.trans (x114.gg.trans y115.gg);cases hm;exact kN95 _ _ _ _ rfl ⟨_,xt,mk88,rfl,⟨_,o117⟩⟩
    ·rintro s86 _ G120 H121 rfl ⟨v118,xt,mk119,rfl,⟨vs16,o21⟩⟩;refine Er ?_;have mk74:=(mk74.trans x85.gg).trans mk119;cases hm;exact kn77 _ _ ⟨G120,_,xt,mk74,rfl,⟨_,o21⟩⟩
    ·rintro r' v' G' H' rfl rl;exact rl.elim
   | false =>
    clear 4;clear 2 as123 h124 fl125 h126;refine EI (K:=K) (RR:=fun _ _ _ _=>False) (FU (Bg (D0 (A6 r7)))) h124 h126 xt.gh fun G127 H128 x129=>⟨fun s130 S' G' H'=>∃ (v131:Option V),Ext G0 H0 G' H'/\Same G127 G'/\S'=[some BU,some Kt,some v3,some v9,some (V.ref p15),v131]/\(∃ vs,Own K G' H' (V.ref p15) p15 vs s130),?_,?_,?_,?_,?_⟩
    ·clear 1 x129 2 o21;exact ⟨_,xt,(Same.refl _),rfl,⟨_,o21⟩⟩
    ·rintro _ S' G' H' ⟨v131,xt,mk132,rfl,⟨vs16,o21⟩⟩;exact ⟨mk132,xt.gh⟩
    ·rintro xv133 a134 s130 _ G137 H138 fl135 - ⟨v131,xt,mk132,rfl,⟨vs16,o21⟩⟩ rx136 hm D' kN139 kC140 kB141 kR142;have mk74:=(mk74.trans x129.gg).trans mk132;have AC:=Rp.mono (x129.gg.trans mk132) AC;have Cd:=Rp.mono (x129.gg.trans mk132) Cd;have r7:=Rp.mono (x129.gg.trans mk132) r7;have r13:=Rp.mono (x129.gg.trans mk132) r13;refine DH ?_;clear 2 ca147 h148 rz149 h150;refine IU (K:=K) (m:=E1) rfl o21 (JQ (DY (m:=CA) (A6 AC) (BI (BI (A6 Cd) AY) (A6 rx136))) Ki) h148 h150 xt.gh fun G151 H152 G153 H154 vs157 x155 y156 o158=>?_;have xt:=(xt.trans x155).past (C:=[p15]) (fun b hb=>by simp only [qiA,qpB,or_false] at hb;(first | (rcases hb with e|e<;>(rw [e];assumption)) | (rw [hb];assumption))) y156;have mk132:=mk132.trans (x155.gg.trans y156.gg);cases hm;exact kN139 _ _ _ _ rfl ⟨_,xt,mk132,rfl,⟨_,o158⟩⟩
    ·rintro s130 _ G161 H162 rfl ⟨v159,xt,mk160,rfl,⟨vs16,o21⟩⟩;refine Er ?_;have mk74:=(mk74.trans x129.gg).trans mk160;cases hm;exact kn77 _ _ ⟨G161,_,xt,mk74,rfl,⟨_,o21⟩⟩
    ·rintro r' v' G' H' rfl rl;exact rl.elim
  ·rintro _ H164 ⟨G163,v75,xt,mk74,rfl,⟨vs16,o21⟩⟩;have sf:=Same.new (o:=.lst vs16) o21.g;have xt:=xt.frz hz20 o21.g o21.h;have r169:=o21.tell;exact Aa (K:=K) (Fp (Du (A6 r169) (Iv AY))) hm xt.gh fun v173 G174 H175 x176 r177=>q v173 G174 H175 (xt.trans x176) r177
 ·clear 5
theorem GV {f:Addr}{fd:FuncData}(F:Fun K "_law_written" "_law_written" Cz f fd):FnOk P w K mg base CX0 1 f fd ["_law_sentence_here"] (spM K (BE 0)):=by
 refine F.ok DK (fun vs H Q E h=>(CV h).trans rfl) (fun cdv A outer s H0 vs Q E hr h=>?_);obtain ⟨_,_,_,_,_,hm,_⟩:=h;exact nomatch (hm:none=some _)
theorem HZ {f:Addr}{fd:FuncData}(F:Fun K "_law_written" "_law_written" Cz f fd)(T:Txt w K mg)(B4:Nat)(Br:DefOk P w K mg base "_law_written" (1+B4) ["_law_sentence_here"] (spM K (BE B4))):FnOk P w K mg base CX0 (1+B4+1) f fd ["_law_sentence_here"] (spM K (BE (B4+1))):=by
 refine F.ok DK (fun vs H Q E h=>(CV h).trans rfl) (fun cdv A outer s H0 vs Q E hr h=>?_);obtain ⟨G0,⟨AI,⟨⟩⟩,res,sg0,⟨CK,_,rfl,AG,rfl⟩,hm,q⟩:=h;replace AG:Rp.rel K G0 CK AI:=AG;replace hm:CT (Ba B4) AI=some res:=hm;unfold CT at hm;have xt:Ext G0 H0 G0 H0:=Ext.refl sg0
 refine ⟨_,(A3 (AL (i:=1) DK (AX K (pv 0) A5))
   (A3 (Ay (AK BJ (pv 1) AH (AS _)) (A3 (Ab (AX K (pv 0) A5))
   A4) A4)
   (A3 (Ay (AK BJ (B3 K T.len_ (pv 0)) A5 (AS _)) (A3 (Ab (pv 1))
   A4) A4)
   (A3 (Ay (AK BJ (B3 K T.len_ (pv 0)) A5 (AS _)) (A3 (Ab (AF K (AF K (pv 1) AH) (B1 Br hr (by omega) rfl (A2 (AX K (pv 0) A5) A9))))
   A4) A4)
   (A3 (Ab (AF K (AF K (AF K (AF K (AF K (AF K AH (B1 Br hr (by omega) rfl (A2 (AX K (pv 0) A5) A9))) AH) (pv 1)) AH) (B1 Br hr (by omega) rfl (A2 (AX K (pv 0) A5) A9))) AH))
   A4))))),?_⟩
 clear 2 word_ h10;refine Ac (K:=K) (ES (DP (BO (A6 AG)) AY)) h10 xt.gh fun v5 G6 H7 x8 r9=>?_;clear 1 x8 AG;clear 2 b11 h12;refine Av (AJ (K:=K) (Ci (A6 r9) Aj)) h12 xt.gh fun G13 H14 x15=>?_;clear 1 x15 AG r9
 cases b11 with
 | true =>
  clear 3;exact Aa (K:=K) (ES (DP (BO (A6 AG)) AY)) hm xt.gh fun v20 G21 H22 x23 r24=>q v20 G21 H22 (xt.trans x23) r24
 | false =>
  clear 4;clear 2 b28 h29;refine Av (AJ (K:=K) (Bq (FR (BO (A6 AG))) AY)) h29 xt.gh fun G30 H31 x32=>?_;clear 1 x32 AG r9
  cases b28 with
  | true =>
   clear 3;exact Aa (K:=K) (A6 r9) hm xt.gh fun v33 G34 H35 x36 r37=>q v33 G34 H35 (xt.trans x36) r37
  | false =>
   clear 4;clear 2 b41 h42;refine Av (AJ (K:=K) (Bq (FR (BO (A6 AG))) AY)) h42 xt.gh fun G43 H44 x45=>?_;clear 1 x45 AG r9
   cases b41 with
   | true =>
    clear 3;exact Aa (K:=K) (Ai (Ai (A6 r9) Aj) (Ax (m:=BE B4) (DP (BO (A6 AG)) AY))) hm xt.gh fun v54 G55 H56 x57 r58=>q v54 G55 H56 (xt.trans x57) r58
   | false =>
    clear 4;exact Aa (K:=K) (Ai (Ai (Ai (Ai (Ai (Ai Aj (Ax (m:=BE B4) (DP (BO (A6 AG)) AY))) Aj) (A6 r9)) Aj) (Ax (m:=BE B4) (DP (BO (A6 AG)) AY))) Aj) hm xt.gh fun v79 G80 H81 x82 r83=>q v79 G80 H81 (xt.trans x82) r83
theorem Hn (F:DIn K mg "_law_between" Dj)(T:Txt w K mg):Ev P w K mg base:=by
 refine F.okM1 (m:=B8) Be fun _ _ _ _ _ H0 _ _ hr G0 inside_ res Dv xt Ag hm q=>?_;unfold B8 at hm
 refine ⟨_,(A3 (AL (i:=1) Be A5)
   (A3 (EZ PassesOwn.never rfl (Dp rfl T.range_ (A2 (B3 K T.len_ (pv 0)) A9)) (Cr (i:=2) Be) (A3 (Ay (AK BJ (AX K (pv 0) (pv 2)) AH (AS _)) (A3 (AL (i:=1) Be (AF K (pv 1) A5))
   A4) A4)
   (A3 (Ay (AK BJ (AX K (pv 0) (pv 2)) AH (AS _)) (A3 (AL (i:=1) Be (Ap op_sub (pv 1) A5))
   A4) A4)
   (A3 (Ay (PW.pt (HH (AK BJ (AX K (pv 0) (pv 2)) AH (AS _)) (FZ (AK BJ (pv 1) A5 (AS _))))) (A3 (EZ PassesOwn.never rfl (Gc (K:=K) rfl (CO (A2 AH (A2 AH (A2 AH (A2 AH (A2 AH A9))))))) (Cr (i:=3) Be) (A3 (AL (i:=4) Be (AF K (AF K (pv 2) (B3 K T.len_ (pv 3))) A5))
   (A3 (Ay (AK BJ (An (BL (K:=K) rfl) (pv 0) (Au (pv 2)) (Au (pv 4))) (AF K (AF K AH (pv 3)) AH) (AS _)) (A3 (Ab (Bj (A2 (pv 3) (A2 (An (BL (K:=K) rfl) (pv 0) BZ (Au (pv 2))) (A2 (An (BL (K:=K) rfl) (pv 0) (Au (pv 4)) BZ) A9)))))
   A4) A4)
   A4)))
   A4) A4)
   A4))))
   (A3 (Ab Cq)
   A4))),?_⟩
 clear 2 Cm h6;refine Ac (K:=K) AY h6 xt.gh fun v1 G2 H3 x4 r5=>?_;clear 1 x4 Ag;clear 2 as8 h9 fl10 h11;refine EI (K:=K) (RR:=fun r v G' H'=>Ext G0 H0 G' H'/\Rp.rel K G' v r) (FU (Eg (A6 Ag))) h9 h11 xt.gh fun G12 H13 x14=>⟨fun s15 S' G' H'=>∃ (v16:V) (v17:Option V) (v18:Option V) (v19:Option V),Ext G0 H0 G' H'/\Same G12 G'/\S'=[some Dv,some v16,v17,v18,v19]/\Rp.rel K G' v16 (s15:Int),?_,?_,?_,?_,?_⟩
 ·clear 1 x14 r5;exact ⟨v1,_,_,_,xt,(Same.refl _),rfl,r5⟩
 ·rintro _ S' G' H' ⟨v16,v17,v18,v19,xt,mk20,rfl,r21⟩;exact ⟨mk20,xt.gh⟩
 ·rintro xv22 a23 s15 _ G26 H27 fl24 - ⟨v16,v17,v18,v19,xt,mk20,rfl,r21⟩ rx25 hm D' kN28 kC29 kB30 kR31;have Ag:=Rp.mono (x14.gg.trans mk20) Ag;refine DH ?_;clear 2 b35 h36 s40 h41
  try (with_reducible refine nxt_ ?_;dsimp only)
  refine D5 (t:=Ff _ _ _) (fun S54 H53=>∃ (G52:Hp) (v43:V),Ext G0 H0 G52 H53/\Same G26 G52/\S54=[some Dv,some v43,some xv22,v18,v19]/\Rp.rel K G52 v43 (s40:Int)) (fun nx kn45=>?_) ?_
  ·refine Av (AJ (K:=K) (Ci (HI (A6 Ag) (A6 rx25)) Aj)) h36 xt.gh fun G37 H38 x39=>?_;clear 1 x39 r21;have mk42:Same G26 G37:=x39.gg;have hm:=h41
   cases b35 with
   | true =>
    clear 3;clear 2 Cm h51;refine Ac (K:=K) (BI (A6 r21) AY) h51 xt.gh fun v46 G47 H48 x49 r50=>?_;clear 1 x49 3 mk42;cases hm;exact kn45 _ _ ⟨G47,v46,xt,mk42,rfl,r50⟩
   | false =>
    clear 4;cases hm;exact kn45 _ _ ⟨G37,v16,xt,mk42,rfl,r21⟩
  ·rintro _ H53 ⟨G52,v43,xt,mk42,rfl,r44⟩;have mk20:=mk20.trans mk42;clear 9 mk42 Ag rx25;clear 2 b58 h59 s63 h64
   try (with_reducible refine nxt_ ?_;dsimp only)
   refine D5 (t:=Ff _ _ _) (fun S77 H76=>∃ (G75:Hp) (v66:V),Ext G0 H0 G75 H76/\Same G52 G75/\S77=[some Dv,some v66,some xv22,v18,v19]/\Rp.rel K G75 v66 (s63:Int)) (fun nx kn68=>?_) ?_
   ·refine Av (AJ (K:=K) (Ci (HI (A6 Ag) (A6 rx25)) Aj)) h59 xt.gh fun G60 H61 x62=>?_;clear 1 x62 r44;have mk65:Same G52 G60:=x62.gg;have hm:=h64
    cases b58 with
    | true =>
     clear 3;clear 2 Cm h74;refine Ac (K:=K) (ev_sub (A6 r44) AY) h74 xt.gh fun v69 G70 H71 x72 r73=>?_;clear 1 x72 3 mk65;cases hm;exact kn68 _ _ ⟨G70,v69,xt,mk65,rfl,r73⟩
    | false =>
     clear 4;cases hm;exact kn68 _ _ ⟨G60,v43,xt,mk65,rfl,r44⟩
   ·rintro _ H76 ⟨G75,v66,xt,mk65,rfl,r67⟩;have mk20:=mk20.trans mk65;clear 9 mk65 Ag rx25;clear 2 b82 h83;refine Av (JE (AJ (K:=K) (Ci (HI (A6 Ag) (A6 rx25)) Aj)) (AJ (K:=K) (Bq (A6 r67) AY))) h83 xt.gh fun G84 H85 x86=>?_;clear 1 x86 Ag r67 rx25 3 mk20
    cases b82 with
    | true =>
     clear 3;clear 2 as87 h88 fl89 h90;refine EI (K:=K) (RR:=fun r v G' H'=>Ext G0 H0 G' H'/\Rp.rel K G' v r) (L9 (FV.ev (CL (AA Aj (AA Aj (AA Aj (AA Aj (AA Aj (B0 (α:=Str)))))))))) h88 h90 xt.gh fun G91 H92 x93=>⟨fun s94 S' G' H'=>∃ (v95:Option V) (v96:Option V),Ext G0 H0 G' H'/\Same G91 G'/\S'=[some Dv,some v66,some xv22,v95,v96],?_,?_,?_,?_,?_⟩
     ·clear 1 x93;exact ⟨_,_,xt,(Same.refl _),rfl⟩
     ·rintro _ S' G' H' ⟨v95,v96,xt,mk97,rfl⟩;exact ⟨mk97,xt.gh⟩
     ·rintro xv98 a99 s94 _ G102 H103 fl100 - ⟨v95,v96,xt,mk97,rfl⟩ rx101 hm D' kN104 kC105 kB106 kR107;have Ag:=Rp.mono (x93.gg.trans mk97) Ag;have rx25:=Rp.mono (x93.gg.trans mk97) rx25;refine DH ?_;clear 2 Em h113;refine Ac (K:=K) (BI (BI (A6 rx25) (Eg (A6 rx101))) AY) h113 xt.gh fun v108 G109 H110 x111 r112=>?_;clear 1 x111 Ag rx25 rx101 3 mk97;clear 2 b124 h125;refine Av (AJ (K:=K) (Ci (Al (A6 Ag) (Ar (K:=K) (A6 rx25)) (Ar (K:=K) (A6 r112))) (Ai (Ai Aj (A6 rx101)) Aj))) h125 xt.gh fun G126 H127 x128=>?_;clear 1 x128 Ag rx25 rx101 r112 3 mk97
      cases b124 with
      | true =>
       clear 3;clear 2 rr134 h135;cases hm;exact Aa (K:=K) (E6 (ev_tup3 (A6 rx101) (Al (A6 Ag) BY (Ar (K:=K) (A6 rx25))) (Al (A6 Ag) (Ar (K:=K) (A6 r112)) BY))) h135 xt.gh fun v129 G130 H131 x132 r133=>kR107 _ v129 G130 H131 rfl ⟨xt.trans x132,r133⟩
      | false =>
       clear 4;cases hm;exact kN104 _ _ _ _ rfl ⟨_,_,xt,mk97,rfl⟩
     ·rintro s94 _ G139 H140 rfl ⟨v136,v137,xt,mk138,rfl⟩;refine Er ?_;have mk20:=(mk20.trans x93.gg).trans mk138;have r67:=Rp.mono (x93.gg.trans mk138) r67;cases hm;exact kN28 _ _ _ _ rfl ⟨v66,_,_,_,xt,mk20,rfl,r67⟩
     ·clear 6 kR31
    | false =>
     clear 4;cases hm;exact kN28 _ _ _ _ rfl ⟨v66,_,_,_,xt,mk20,rfl,r67⟩
 ·rintro s15 _ G147 H148 rfl ⟨v141,v142,v143,v144,xt,mk145,rfl,r146⟩;refine Er ?_;exact Aa (K:=K) (rest:=DC) (σ:=[some Dv,some v141,v142,v143,v144]) (Dw (α:=(T3 Str Str Str))) hm xt.gh fun v149 G150 H151 x152 r153=>q v149 G150 H151 (xt.trans x152) r153
 ·clear 5
theorem GS {f:Addr}{fd:FuncData}(F:Fun K "_law_read_of" "_law_read_of" D1 f fd):FnOk P w K mg base CX0 2 f fd ["_law_text"] (spM K (BF 0)):=by
 refine F.ok BP (fun vs H Q E h=>(CV h).trans rfl) (fun cdv A outer s H0 vs Q E hr h=>?_);obtain ⟨_,_,_,_,_,hm,_⟩:=h;exact nomatch (hm:none=some _)
theorem HD {f:Addr}{fd:FuncData}(F:Fun K "_law_read_of" "_law_read_of" D1 f fd)(T:Txt w K mg)(Df:Ev P w K mg base)(B4:Nat)(Bp:DefOk P w K mg base "_law_read_of" (2+B4) ["_law_text"] (spM K (BF B4))):FnOk P w K mg base CX0 (2+B4+1) f fd ["_law_text"] (spM K (BF (B4+1))):=by
 refine F.ok BP (fun vs H Q E h=>(CV h).trans rfl) (fun cdv A outer s H0 vs Q E hr h=>?_);obtain ⟨G0,⟨text_,⟨⟩⟩,res,sg0,⟨DG,_,rfl,AD,rfl⟩,hm,q⟩:=h;replace AD:Rp.rel K G0 DG text_:=AD;replace hm:B2 (BM B4) text_=some res:=hm;unfold B2 at hm;have xt:Ext G0 H0 G0 H0:=Ext.refl sg0
 refine ⟨_,(A3 (Ay (PW.pt (HH (AK BJ (B3 K T.len_ (pv 0)) A5 (AS _)) (FZ (AK M4 (pv 0) AH rfl)))) (A3 (Ab (Bj (A2 AH (A2 (pv 0) A9))))
   A4) A4)
   (A3 (Ay (AK (op_inK (K:=K) rfl) (pv 0) (Bj (A2 AH (A2 AH A9))) rfl) (A3 (Ab (Bj (A2 (pv 0) A9)))
   A4) A4)
   (A3 (EZ PassesOwn.never rfl (Gc (K:=K) rfl (CO (A2 AH (A2 AH (A2 AH (A2 AH (A2 AH (A2 AH A9)))))))) (Cr (i:=1) BP) (A3 (Ay (AK BJ (An (BL (K:=K) rfl) (pv 0) BZ (Au (AF K (B3 K T.len_ (pv 1)) A5))) (AF K (pv 1) AH) (AS _)) (A3 (AL (i:=2) BP (B1 Bp hr (by omega) rfl (A2 (An (BL (K:=K) rfl) (pv 0) (Au (AF K (B3 K T.len_ (pv 1)) A5)) BZ) A9)))
   (A3 (Ab (pe_ifExp (AK HX (pv 2) Cq (AS _)) Cq (Bj (A2 (pv 1) (A2 (pv 2) A9)))))
   A4)) A4)
   A4))
   (A3 (AL (i:=3) BP Cq)
   (A3 (Ay (PW.pt (HH (AK BJ (An (BL (K:=K) rfl) (pv 0) BZ (Au A5)) AH (AS _)) (FZ (AK BJ (An (BL (K:=K) rfl) (pv 0) (Au (LS Ip A5)) BZ) AH (AS _))))) (A3 (AL (i:=3) BP (B1 Df hr (by omega) rfl (A2 (An (BL (K:=K) rfl) (pv 0) (Au A5) (Au (LS Ip A5))) A9)))
   A4) A4)
   (A3 (Ay (AK HX (pv 3) Cq (AS _)) (A3 (Ab Cq)
   A4) A4)
   (A3 (AL (i:=4) BP (B1 Bp hr (by omega) rfl (A2 (AX K (pv 3) A5) A9)))
   (A3 (AL (i:=5) BP (B1 Bp hr (by omega) rfl (A2 (AX K (pv 3) A5) A9)))
   (A3 (Ay (PW.pt (FM (AK HX (pv 4) Cq (AS _)) (Fs (AK HX (pv 5) Cq (AS _))))) (A3 (Ab Cq)
   A4) A4)
   (A3 (Ab (Bj (A2 (AX K (pv 3) A5) (A2 (pv 4) (A2 (pv 5) A9)))))
   A4)))))))))),?_⟩
 clear 2 b1 h2;refine Av (LF (AJ (K:=K) (Bq (Eg (A6 AD)) AY)) (AJ (K:=K) (ev_inS (A6 AD) Aj))) h2 xt.gh fun G3 H4 x5=>?_;clear 1 x5 AD
 cases b1 with
 | true =>
  clear 3;exact Aa (K:=K) (E6 (Bu (AA (Bl Aj) (AA (Bl (A6 AD)) (B0 (α:=Nt)))))) hm xt.gh fun v6 G7 H8 x9 r10=>q v6 G7 H8 (xt.trans x9) r10
 | false =>
  clear 4;clear 2 b11 h12;refine Av (AJ (K:=K) (ev_inT (A6 AD) (J5 (AA Aj (AA Aj (B0 (α:=Str))))))) h12 xt.gh fun G13 H14 x15=>?_;clear 1 x15 AD
  cases b11 with
  | true =>
   clear 3;exact Aa (K:=K) (E6 (Bu (AA (Bl (A6 AD)) (B0 (α:=Nt))))) hm xt.gh fun v16 G17 H18 x19 r20=>q v16 G17 H18 (xt.trans x19) r20
  | false =>
   clear 4;clear 2 as21 h22 fl23 h24;refine EI (K:=K) (RR:=fun r v G' H'=>Ext G0 H0 G' H'/\Rp.rel K G' v r) (L9 (FV.ev (CL (AA Aj (AA Aj (AA Aj (AA Aj (AA Aj (AA Aj (B0 (α:=Str))))))))))) h22 h24 xt.gh fun G25 H26 x27=>⟨fun s28 S' G' H'=>∃ (v29:Option V) (v30:Option V),Ext G0 H0 G' H'/\Same G25 G'/\S'=[some DG,v29,v30,none,none,none],?_,?_,?_,?_,?_⟩
   ·clear 1 x27;exact ⟨_,_,xt,(Same.refl _),rfl⟩
   ·rintro _ S' G' H' ⟨v29,v30,xt,mk31,rfl⟩;exact ⟨mk31,xt.gh⟩
   ·rintro xv32 a33 s28 _ G36 H37 fl34 - ⟨v29,v30,xt,mk31,rfl⟩ rx35 hm D' kN38 kC39 kB40 kR41;have AD:=Rp.mono (x27.gg.trans mk31) AD;refine DH ?_;clear 2 b48 h49;refine Av (AJ (K:=K) (Ci (Al (A6 AD) BY (Ar (K:=K) (BI (Eg (A6 rx35)) AY))) (Ai (A6 rx35) Aj))) h49 xt.gh fun G50 H51 x52=>?_;clear 1 x52 AD rx35 3 mk31
    cases b48 with
    | true =>
     clear 3;clear 2 inner_ h59;refine Ac (K:=K) (Ax (m:=BF B4) (Al (A6 AD) (Ar (K:=K) (BI (Eg (A6 rx35)) AY)) BY)) h59 xt.gh fun v54 G55 H56 x57 r58=>?_;clear 1 x57 rx35;clear 2 rr71 h72;cases hm;exact Aa (K:=K) (ev_ifx (AJ (K:=K) (HV Jj (A6 r58))) (Dw (α:=Nt)) (E6 (Bu (AA (Bl (A6 rx35)) (AA (Eb (A6 r58)) (B0 (α:=Nt))))))) h72 xt.gh fun v66 G67 H68 x69 r70=>kR41 _ v66 G67 H68 rfl ⟨xt.trans x69,r70⟩
    | false =>
     clear 4;cases hm;exact kN38 _ _ _ _ rfl ⟨_,_,xt,mk31,rfl⟩
   ·rintro s28 _ G76 H77 rfl ⟨v73,v74,xt,mk75,rfl⟩;refine Er ?_;have AD:=Rp.mono (x27.gg.trans mk75) AD;clear 2 E7 h83;refine Ac (K:=K) (Dw (α:=(T3 Str Str Str))) h83 xt.gh fun v78 G79 H80 x81 r82=>?_;clear 1 x81 AD;clear 2 b84 h85 s89 h90
    try (with_reducible refine nxt_ ?_;dsimp only)
    refine D5 (t:=Ff _ _ _) (fun S104 H103=>∃ (G102:Hp) (v92:V),Ext G0 H0 G102 H103/\Same G79 G102/\S104=[some DG,v73,v74,some v92,none,none]/\Rp.rel K G102 v92 (s89:(Option (T3 Str Str Str)))) (fun nx kn94=>?_) ?_
    ·refine Av (LF (AJ (K:=K) (Ci (Al (A6 AD) BY (Ar (K:=K) AY)) Aj)) (AJ (K:=K) (Ci (Al (A6 AD) (Ar (K:=K) (Iv AY)) BY) Aj))) h85 xt.gh fun G86 H87 x88=>?_;clear 1 x88 AD r82;have mk91:Same G79 G86:=x88.gg;have hm:=h90
     cases b84 with
     | true =>
      clear 3;clear 2 E7 h101;refine Ac (K:=K) (Ax (m:=EY) (Al (A6 AD) (Ar (K:=K) AY) (Ar (K:=K) (Iv AY)))) h101 xt.gh fun v96 G97 H98 x99 r100=>?_;clear 1 x99 3 mk91;cases hm;exact kn94 _ _ ⟨G97,v96,xt,mk91,rfl,r100⟩
     | false =>
      clear 4;cases hm;exact kn94 _ _ ⟨G86,v78,xt,mk91,rfl,r82⟩
    ·rintro _ H103 ⟨G102,v92,xt,mk91,rfl,r93⟩;clear 2 b105 h106;refine Av (AJ (K:=K) (HV nn_t3 (A6 r93))) h106 xt.gh fun G107 H108 x109=>?_;clear 1 x109 r93
     cases b105 with
     | true =>
      clear 3;exact Aa (K:=K) (rest:=DC) (σ:=[some DG,v73,v74,some v92,none,none]) (Dw (α:=Nt)) hm xt.gh fun v110 G111 H112 x113 r114=>q v110 G111 H112 (xt.trans x113) r114
     | false =>
      clear 4;clear 2 one_ h123;refine Ac (K:=K) (Ax (m:=BF B4) (ev_p32 (Eb (A6 r93)))) h123 xt.gh fun v118 G119 H120 x121 r122=>?_;clear 1 x121 r93;clear 2 other_ h132;refine Ac (K:=K) (Ax (m:=BF B4) (ev_p33 (Eb (A6 r93)))) h132 xt.gh fun v127 G128 H129 x130 r131=>?_;clear 1 x130 r93 r122;clear 2 b133 h134;refine Av (tv_orP (AJ (K:=K) (HV Jj (A6 r122))) (AJ (K:=K) (HV Jj (A6 r131)))) h134 xt.gh fun G135 H136 x137=>?_;clear 1 x137 r93 r122 r131
      cases b133 with
      | true =>
       clear 3;exact Aa (K:=K) (rest:=DC) (σ:=[some DG,v73,v74,some v92,some v118,some v127]) (Dw (α:=Nt)) hm xt.gh fun v138 G139 H140 x141 r142=>q v138 G139 H140 (xt.trans x141) r142
      | false =>
       clear 4;exact Aa (K:=K) (E6 (Bu (AA (Bl (ev_p31 (Eb (A6 r93)))) (AA (Eb (A6 r122)) (AA (Eb (A6 r131)) (B0 (α:=Nt))))))) hm xt.gh fun v155 G156 H157 x158 r159=>q v155 G156 H157 (xt.trans x158) r159
   ·clear 5
theorem ED (F:DIn K mg "refuse_other_kinds" C9)(T:Txt w K mg){aT:Addr}(O:OwnCls "NoText" aT bmV "ValueError.__new__" mg base):D7 P w K mg base:=by
 refine F.okE EC bn1 (fun vs H Q E h=>(L8 h).trans rfl) (fun _ cdv A outer s H0 vs Q E hr h=>?_);obtain ⟨G0,⟨B7,⟨⟩⟩,res,sg0,⟨BB,_,rfl,AT,rfl⟩,hm,q⟩:=h;replace AT:Rp.rel K G0 BB B7:=AT;replace hm:Ct B7=some res:=hm;unfold Ct at hm;have xt:Ext G0 H0 G0 H0:=Ext.refl sg0
 refine ⟨_,(A3 (Ay (Fy (Ce K (BH (DM (K:=K) rfl) (by rfl) T.isinstance_ Ah (A2 (pv 0) (A2 (Ef (v:=.ty "str") rfl T.str_ J8 rfl) A9))))) (A3 (Hm O rfl rfl CP AH)
   A4) A4)
   A4),?_⟩
 clear 2 t1 h1 b1 h2;refine Av (F6 (Ig (K:=K) (EU (T := "str") (by decide) (A6 AT)))) (show ((some B7).bind fun d=>some (isK "str" d)).bind (fun b=>some (!b))=some b1 by rw [h1];exact h2) xt.gh fun G3 H4 x5=>?_;clear 1 x5
 cases b1 with
 | true =>
  clear 3;cases hm;exact q aT G3 H4 O.bound xt
 | false =>
  clear 4;cases hm;exact q _ _ _ xt rfl
theorem JP (F:DIn K mg "taken_off" EL)(T:Txt w K mg){aT:Addr}(O:OwnCls "NoText" aT bmV "ValueError.__new__" mg base):GF P w K mg base:=by
 refine F.okE JA bn1 (fun vs H Q E h=>(spYX_len h).trans rfl) (fun _ cdv A outer s H9 vs Q E hr h=>?_);obtain ⟨G0,B6,FS,_,pile_,⟨⟩,res,rfl,sg0,o_pile_,rfl,hm,q⟩:=h;have xt:Ext G0 (era H9 [B6]) G0 H9:=Ext.begin sg0;have BA:era H9 [B6] B6=none:=Ir (by simp);generalize era H9 [B6]=H0 at xt q BA;unfold AW at hm
 refine ⟨_,(A3 (Ay (AK BJ (B3 K T.len_ (pv 0)) A5 (AS _)) (A3 (Hm O rfl rfl CP AH) A4) A4)
   (A3 (Ab (pe_bm0K (K:=K) rfl PySem.F.plainAttrs_list PySem.F.slot_list_pop PySem.F.type_list_pop mt_pop (pv 0)))
   A4)),?_⟩
 cases hp:Fv pile_ with
 | none =>
  rw [hp] at hm;cases hm;obtain rfl:=K9 hp;refine KO o_pile_ (AJ (K:=K) (Bq (FD (A6 o_pile_.tell)) AY)) rfl xt.gh fun G3 H4 x5=>?_;refine BR ?_;exact q aT G3 H4 O.bound (xt.trans x5)
 | some pr =>
  rw [hp] at hm;cases hm
  have hb:(some (decide ((pile_.length:Int)=(0:Int))))=some false:=by
   cases pile_ with
   | nil=>cases hp
   | cons a l=>exact congrArg some (decide_eq_false (by rw [qfA];omega))
  refine KO o_pile_ (AJ (K:=K) (Bq (FD (A6 o_pile_.tell)) AY)) hb xt.gh fun G3 H4 x5=>?_;clear 1 x5 2 o_pile_;refine BQ ?_;exact Lm (K:=K) rfl o_pile_ hp fun w r o=>q w _ _ _ (xt.put BA o.g) o r
theorem Hv (F:DIn K mg "many_parts" Dx)(T:Txt w K mg):FN P w K mg base:=by
 refine F.okM1 (m:=BN) Ht fun _ _ _ _ _ H0 _ _ hr G0 word_ res L5 xt BS hm q=>?_;unfold BN at hm;obtain ⟨a_PARTS,e_PARTS,q_PARTS⟩:=T.PARTS
 refine ⟨_,(A3 (Ab (pe_dgC rfl rfl q_PARTS (Gv rfl e_PARTS) (pv 0)))
   A4),?_⟩
 exact Aa (K:=K) (ev_dgC (A6 BS)) hm xt.gh fun v3 G4 H5 x6 r7=>q v3 G4 H5 (xt.trans x6) r7
theorem Iz (F:DIn K mg "is_moment" Ee)(T:Txt w K mg):GQ P w K mg base:=by
 refine F.okM1 (m:=Cc) DD fun _ _ _ _ _ H0 _ _ hr G0 B7 res BB xt AT hm q=>?_;unfold Cc at hm
 refine ⟨_,(A3 (Ay (Fy (Ce K (BH (DM (K:=K) rfl) (by rfl) T.isinstance_ Ah (A2 (pv 0) (A2 (Ef (v:=.ty "str") rfl T.str_ J8 rfl) A9))))) (A3 (Ab E8)
   A4) A4)
   (A3 (AL (i:=1) DD AH)
   (A3 (EZ PassesOwn.never rfl (Gc (K:=K) rfl (pv 0)) (Cr (i:=2) DD) (A3 (Ay (PW.pt (FM (AK JK (pv 2) AH (AS _)) (FM (AK Fk (pv 2) AH (AS _)) (Fs (AK op_leU (pv 2) (pv 1) (AS _)))))) (A3 (Ab E8)
   A4) A4)
   (A3 (AL (i:=1) DD (pv 2))
   A4)))
   (A3 (Ab E8)
   A4)))),?_⟩
 clear 2 b1 h2;refine Av (F6 (Ig (K:=K) (EU (by decide) (A6 AT)))) h2 xt.gh fun G3 H4 x5=>?_;clear 1 x5 AT
 cases b1 with
 | true =>
  clear 3;exact Aa (K:=K) (rest:=DC) (σ:=[some BB,none,none]) GT hm xt.gh fun v6 G7 H8 x9 r10=>q v6 G7 H8 (xt.trans x9) r10
 | false =>
  clear 4;clear 2 Jd h16;refine Ac (K:=K) Aj h16 xt.gh fun v11 G12 H13 x14 r15=>?_;clear 1 x14 AT;clear 2 as18 h19 fl20 h21;refine EI (K:=K) (RR:=fun r v G' H'=>Ext G0 H0 G' H'/\Rp.rel K G' v r) (iw_any (A6 AT)) h19 h21 xt.gh fun G22 H23 x24=>⟨fun s25 S' G' H'=>∃ (v26:V) (v27:Option V),Ext G0 H0 G' H'/\Same G22 G'/\S'=[some BB,some v26,v27]/\Rp.rel K G' v26 (s25:Str),?_,?_,?_,?_,?_⟩
  ·clear 1 x24 r15;exact ⟨v11,_,xt,(Same.refl _),rfl,r15⟩
  ·rintro _ S' G' H' ⟨v26,v27,xt,mk28,rfl,r29⟩;exact ⟨mk28,xt.gh⟩
  ·rintro xv30 a31 s25 _ G34 H35 fl32 - ⟨v26,v27,xt,mk28,rfl,r29⟩ rx33 hm D' kN36 kC37 kB38 kR39;refine DH ?_;clear 2 b48 h49;refine Av (FX (AJ (K:=K) (JU (By (A6 rx33)) Aj)) (FX (AJ (K:=K) (JU (By (A6 rx33)) Aj)) (AJ (K:=K) (JU (By (A6 rx33)) (A6 r29))))) h49 xt.gh fun G50 H51 x52=>?_;clear 1 x52 rx33 3 mk28
   cases b48 with
   | true =>
    clear 3;clear 2 rr58 h59;cases hm;exact Aa (K:=K) (rest:=DC) (σ:=[some BB,some v26,some xv30]) GT h59 xt.gh fun v53 G54 H55 x56 r57=>kR39 _ v53 G54 H55 rfl ⟨xt.trans x56,r57⟩
   | false =>
    clear 4;clear 2 Jd h66;refine Ac (K:=K) (By (A6 rx33)) h66 xt.gh fun v61 G62 H63 x64 r65=>?_;clear 1 x64 3 mk28;cases hm;exact kN36 _ _ _ _ rfl ⟨v61,_,xt,mk28,rfl,r65⟩
  ·rintro s25 _ G71 H72 rfl ⟨v67,v68,xt,mk69,rfl,r70⟩;refine Er ?_;exact Aa (K:=K) (rest:=DC) (σ:=[some BB,some v67,v68]) GT hm xt.gh fun v73 G74 H75 x76 r77=>q v73 G74 H75 (xt.trans x76) r77
  ·clear 5
theorem Kj (F:DIn K mg "is_lamp" Fn)(T:Txt w K mg)(EG:GQ P w K mg base):Fz P w K mg base:=by
 refine F.okM1 (m:=Az) KL fun _ _ _ _ _ H0 _ _ hr G0 B7 res BB xt AT hm q=>?_;unfold Az at hm
 refine ⟨_,(A3 (Ab (Ie (B1 EG hr (by decide) rfl (A2 (pv 0) A9)) (JS (Fg BJ (B3 K T.len_ (pv 0)) A5 (AS _)))))
   A4),?_⟩
 exact Aa (K:=K) (JB (Ax (m:=FP) (A6 AT)) (Bq (Fd (A6 AT)) AY)) hm xt.gh fun v5 G6 H7 x8 r9=>q v5 G6 H7 (xt.trans x8) r9
theorem K5 (F:DIn K mg "lay_word" F3)(T:Txt w K mg)(CF:GF P w K mg base)(DF:FN P w K mg base)(DJ:Fz P w K mg base):Gi P w K mg base:=by
 refine F.okE DW bn2 (fun vs H Q E h=>(spWX_len h).trans rfl) (fun _ cdv A outer s H9 vs Q E hr h=>?_);obtain ⟨G0,B6,FS,_,pile_,⟨word_,⟨⟩⟩,res,rfl,sg0,o_pile_,⟨L5,_,rfl,BS,rfl⟩,hm,q⟩:=h;have xt:Ext G0 (era H9 [B6]) G0 H9:=Ext.begin sg0;have BA:era H9 [B6] B6=none:=Ir (by simp);generalize era H9 [B6]=H0 at xt q BA;replace BS:Rp.rel K G0 L5 word_:=BS;replace hm:Ae pile_ word_=some res:=hm;unfold Ae at hm
 refine ⟨_,(A3 (Ay (AK BJ (pv 1) AH (AS _)) (A3 (AL (i:=2) DW (E5 CF hr (by decide) rfl CP (A2 (pv 0) A9)))
   (A3 (AL (i:=3) DW (E5 CF hr (by decide) rfl CP (A2 (pv 0) A9)))
   (A3 (AL (i:=4) DW (E5 CF hr (by decide) rfl CP (A2 (pv 0) A9)))
   (A3 (CJ (E5 CF hr (by decide) rfl CP (A2 (pv 0) A9)))
   (A3 (CJ (Ca K (pv 0) (Bj (A2 (pv 3) (A2 (pv 2) (A2 (pv 4) A9))))))
   A4))))) (A3 (Ay (AK BJ (B1 DF hr (by decide) rfl (A2 (pv 1) A9)) A5 (AS _)) (A3 (CJ (Ca K (pv 0) (Bj (A2 (pv 1) (A2 (E5 CF hr (by decide) rfl CP (A2 (pv 0) A9)) A9)))))
   A4) (A3 (Ay (AK BJ (B1 DF hr (by decide) rfl (A2 (pv 1) A9)) A5 (AS _)) (A3 (CJ (Ca K (pv 0) (Bj (A2 (pv 1) A9))))
   A4) (A3 (Ay (Ce K (B1 DJ hr (by decide) rfl (A2 (pv 1) A9))) (A3 (CJ (Ca K (pv 0) (Bj (A2 AH (A2 (pv 1) A9)))))
   A4) (A3 (CJ (Ca K (pv 0) (pv 1)))
   A4))
   A4))
   A4))
   A4))
   A4),?_⟩
 clear 2 b1 h2;refine Av (AJ (K:=K) (Ci (A6 BS) Aj)) h2 xt.gh fun G3 H4 x5=>?_;clear 1 x5 BS 2 o_pile_
 cases b1 with
 | true =>
  clear 3;clear 2 rr18 h18;refine HA (K:=K) (mg:=mg) (m:=AW) rfl o_pile_ h18 xt.gh ?_
  cases rr18 with
  | error n =>
   cases hm;exact fun D G2 H2 hD y=>q D G2 H2 hD (xt.past (C:=[B6]) (fun b hb=>by rw [qjA.mp hb];exact BA) y)
  | ok pr18 =>
  intro w18 G18 H18 vs18 y18 o_pile_ r18;have xt:=xt.past (C:=[B6]) (fun b hb=>by rw [qjA.mp hb];exact BA) y18;clear 2 rr23 h23;refine HA (K:=K) (mg:=mg) (m:=AW) rfl o_pile_ h23 xt.gh ?_
  cases rr23 with
  | error n =>
   cases hm;exact fun D G2 H2 hD y=>q D G2 H2 hD (xt.past (C:=[B6]) (fun b hb=>by rw [qjA.mp hb];exact BA) y)
  | ok pr23 =>
  intro w23 G23 H23 vs23 y23 o_pile_ r23;have xt:=xt.past (C:=[B6]) (fun b hb=>by rw [qjA.mp hb];exact BA) y23;clear 0 y23 r18;clear 2 rr28 h28;refine HA (K:=K) (mg:=mg) (m:=AW) rfl o_pile_ h28 xt.gh ?_
  cases rr28 with
  | error n =>
   cases hm;exact fun D G2 H2 hD y=>q D G2 H2 hD (xt.past (C:=[B6]) (fun b hb=>by rw [qjA.mp hb];exact BA) y)
  | ok pr28 =>
  intro w28 G28 H28 vs28 y28 o_pile_ r28;have xt:=xt.past (C:=[B6]) (fun b hb=>by rw [qjA.mp hb];exact BA) y28;clear 0 y28 r18 r23;clear 2 rr33 h33;refine Lz (K:=K) (mg:=mg) (m:=AW) rfl o_pile_ h33 xt.gh ?_
  cases rr33 with
  | error n =>
   cases hm;exact fun D G2 H2 hD y=>q D G2 H2 hD (xt.past (C:=[B6]) (fun b hb=>by rw [qjA.mp hb];exact BA) y)
  | ok pr33 =>
  intro G33 H33 vs33 y33 o_pile_;have xt:=xt.past (C:=[B6]) (fun b hb=>by rw [qjA.mp hb];exact BA) y33;clear 0 y33 r18 r23 r28;clear 2 a38 h39 z46 h40;cases hm;refine DI (K:=K) rfl o_pile_ (Bu (AA (A6 r23) (AA (A6 r18) (AA (A6 r28) (B0 (α:=Nt)))))) h39 h40 xt.gh fun G41 H42 w43 x44 o45=>?_;have xt:Ext G0 H0 G41 (upd H42 B6 (.lst (vs33++[w43]))):=(xt.trans x44).put BA o45.g;exact q _ _ _ xt o45
 | false =>
  clear 4;clear 2 b49 h50;refine Av (AJ (K:=K) (LX (Ax (m:=Do) (A6 BS)) (E6 AY))) h50 xt.gh fun G51 H52 x53=>?_;clear 1 x53 BS 2 o_pile_
  cases b49 with
  | true =>
   clear 3;clear 2 rr54 h55;refine sx_appT (K:=K) (mg:=mg) (m:=AW) (r:=rr54) (as':=[]) rfl o_pile_ (Bl (A6 BS)) rfl h55 xt.gh ?_
   cases rr54 with
   | error n =>
    cases hm;exact fun G1 H1 x1 D G2 H2 hD y=>q D G2 H2 hD ((xt.trans x1).past (C:=[B6]) (fun b hb=>by rw [qjA.mp hb];exact BA) y)
   | ok pr54 =>
   clear 2 z58 h59;cases hm;refine ⟨z58,h59,fun G1 H1 G60 H61 vs61 w62 x62 y63 o64=>?_⟩;have xt:Ext G0 H0 G60 (upd H61 B6 (.lst (vs61++[w62]))):=((xt.trans x62).past (C:=[B6]) (fun b hb=>by rw [qjA.mp hb];exact BA) y63).put BA o64.g;exact q _ _ _ xt o64
  | false =>
   clear 4;clear 2 b67 h68;refine Av (AJ (K:=K) (LX (Ax (m:=Do) (A6 BS)) (E6 AY))) h68 xt.gh fun G69 H70 x71=>?_;clear 1 x71 BS 2 o_pile_
   cases b67 with
   | true =>
    clear 3;clear 2 a38 h39 z46 h40;cases hm;refine DI (K:=K) rfl o_pile_ (Bu (AA (Bl (A6 BS)) (B0 (α:=Nt)))) h39 h40 xt.gh fun G41 H42 w43 x44 o45=>?_;have xt:Ext G0 H0 G41 (upd H42 B6 (.lst (FS++[w43]))):=(xt.trans x44).put BA o45.g;exact q _ _ _ xt o45
   | false =>
    clear 4;clear 2 b82 h83;refine Av (Ig (K:=K) (Ax (m:=F4) (CN (A6 BS)))) h83 xt.gh fun G84 H85 x86=>?_;clear 1 x86 BS 2 o_pile_
    cases b82 with
    | true =>
     clear 3;clear 2 a38 h39 z46 h40;cases hm;refine DI (K:=K) rfl o_pile_ (Bu (AA (Bl Aj) (AA (Bl (A6 BS)) (B0 (α:=Nt))))) h39 h40 xt.gh fun G41 H42 w43 x44 o45=>?_;have xt:Ext G0 H0 G41 (upd H42 B6 (.lst (FS++[w43]))):=(xt.trans x44).put BA o45.g;exact q _ _ _ xt o45
    | false =>
     clear 4;clear 2 a38 h39 z46 h40;cases hm;refine DI (K:=K) rfl o_pile_ (Bl (A6 BS)) h39 h40 xt.gh fun G41 H42 w43 x44 o45=>?_;have xt:Ext G0 H0 G41 (upd H42 B6 (.lst (FS++[w43]))):=(xt.trans x44).put BA o45.g;exact q _ _ _ xt o45
theorem KA (F:DIn K mg "parts_of" FB)(T:Txt w K mg):Gj P w K mg base:=by
 refine F.okM1 (m:=B5) K1 fun _ _ _ _ _ H0 _ _ hr G0 BG res EQ xt AU hm q=>?_;unfold B5 at hm
 refine ⟨_,(A3 (Ay (AK BJ (AX K (pv 0) A5) AH (AS _)) (A3 (Ab (Bj A9))
   A4) A4)
   (A3 (Ab (An (Kv (K:=K) rfl) (pv 0) (Au A5) BZ))
   A4)),?_⟩
 clear 2 b7 h8;refine Av (AJ (K:=K) (Ci (By (Fu (A6 AU) AY)) Aj)) h8 xt.gh fun G9 H10 x11=>?_;clear 1 x11 AU
 cases b7 with
 | true =>
  clear 3;exact Aa (K:=K) (rest:=DC) (σ:=[some EQ]) (J5 (B0 (α:=D))) hm xt.gh fun v12 G13 H14 x15 r16=>q v12 G13 H14 (xt.trans x15) r16
 | false =>
  clear 4;exact Aa (K:=K) (IT (M1 (A6 AU)) (Ar (K:=K) AY) BY) hm xt.gh fun v21 G22 H23 x24 r25=>q v21 G22 H23 (xt.trans x24) r25
theorem Jg (F:DIn K mg "has_form" FA)(T:Txt w K mg)(DJ:Fz P w K mg base):HF P w K mg base:=by
 refine F.okM1 (m:=AQ) K4 fun _ _ _ _ _ H0 _ _ hr G0 B7 res BB xt AT hm q=>?_;unfold AQ at hm;obtain ⟨a_PARTS,e_PARTS,q_PARTS⟩:=T.PARTS
 refine ⟨_,(A3 (Ay (PW.pt (FM (Fy (Ce K (BH (DM (K:=K) rfl) (by rfl) T.isinstance_ Ah (A2 (pv 0) (A2 (Ef (v:=.ty "tuple") rfl T.tuple_ bt_tuple rfl) A9))))) (FM (AK BJ (B3 K T.len_ (pv 0)) A5 (AS _)) (Fs (Fy (Ce K (BH (DM (K:=K) rfl) (by rfl) T.isinstance_ Ah (A2 (AX K (pv 0) A5) (A2 (Ef (v:=.ty "str") rfl T.str_ J8 rfl) A9))))))))) (A3 (Ab E8)
   A4) A4)
   (A3 (Ay (AK BJ (AX K (pv 0) A5) AH (AS _)) (A3 (Ab (Ie (Fg BJ (B3 K T.len_ (pv 0)) A5 (AS _)) (JS (B1 DJ hr (by decide) rfl (A2 (AX K (pv 0) A5) A9)))))
   A4) A4)
   (A3 (Ab (Ie (pe_inC rfl rfl q_PARTS (AX K (pv 0) A5) (Gv rfl e_PARTS) rfl) (JS (Fg BJ (B3 K T.len_ (pv 0)) (AF K A5 (pe_getC rfl rfl q_PARTS (Gv rfl e_PARTS) (AX K (pv 0) A5) (fun _ _=>rfl))) (AS _)))))
   A4))),?_⟩
 clear 2 b9 h10;refine Av (FX (F6 (Ig (K:=K) (EU (by decide) (A6 AT)))) (FX (AJ (K:=K) (Bq (Fd (A6 AT)) AY)) (F6 (Ig (K:=K) (EU (by decide) (Fu (A6 AT) AY)))))) h10 xt.gh fun G11 H12 x13=>?_;clear 1 x13 AT
 cases b9 with
 | true =>
  clear 3;exact Aa (K:=K) (rest:=DC) (σ:=[some BB]) GT hm xt.gh fun v14 G15 H16 x17 r18=>q v14 G15 H16 (xt.trans x17) r18
 | false =>
  clear 4;clear 2 b25 h26;refine Av (AJ (K:=K) (Ci (By (Fu (A6 AT) AY)) Aj)) h26 xt.gh fun G27 H28 x29=>?_;clear 1 x29 AT
  cases b25 with
  | true =>
   clear 3;exact Aa (K:=K) (JB (Bq (Fd (A6 AT)) AY) (Ax (m:=F4) (Fu (A6 AT) AY))) hm xt.gh fun v36 G37 H38 x39 r40=>q v36 G37 H38 (xt.trans x39) r40
  | false =>
   clear 4;exact Aa (K:=K) (JB (ev_inC (By (Fu (A6 AT) AY))) (Bq (Fd (A6 AT)) (BI AY (ev_getC (By (Fu (A6 AT) AY)))))) hm xt.gh fun v59 G60 H61 x62 r63=>q v59 G60 H61 (xt.trans x62) r63
theorem Gn (F:DIn K mg "is_sentence" Dm)(T:Txt w K mg)(FH:Gj P w K mg base)(FC:HF P w K mg base):Ex P w K mg base:=by
 refine F.okM1 (m:=B9) Co fun _ _ _ _ _ H0 _ _ hr G0 B7 res BB xt AT hm q=>?_;unfold B9 at hm
 refine ⟨_,(A3 (AL (i:=1) Co (CO (A2 (pv 0) A9)))
   (A3 (AL (i:=2) Co A5)
   (A3 (ps_while PassesOwn.never (AK JK (pv 2) (B3 K T.len_ (pv 1)) (AS _)) (A3 (Ay (PW.pt (FM (AK Fk (B3 K T.len_ (pv 1)) (pe_globI rfl T.MOST_WORDS) (AS _)) (Fs (Fy (Ce K (B1 FC hr (by decide) rfl (A2 (AX K (pv 1) (pv 2)) A9))))))) (A3 (Ab E8)
   A4) A4)
   (A3 (CJ (pe_bmK (K:=K) rfl PySem.F.plainAttrs_list PySem.F.slot_list_extend PySem.F.type_list_extend (KS (K:=K) rfl) (pv 1) (A2 (B1 FH hr (by decide) rfl (A2 (AX K (pv 1) (pv 2)) A9)) A9)))
   (A3 (AL (i:=2) Co (AF K (pv 2) A5))
   A4))))
   (A3 (Ab E8)
   A4)))),?_⟩
 clear 2 found_ h8;refine Kl (K:=K) (CL (AA (A6 AT) (B0 (α:=D)))) h8 xt.gh fun p1 vs2 G3 H4 x5 hz6 o7=>?_;clear 1 x5 4 hz6;clear 2 HQ h14;refine Ac (K:=K) AY h14 xt.gh fun v9 G10 H11 x12 r13=>?_;clear 1 x12 2 o7;clear 2 fl15 h16;refine sv_while (K:=K) (G:=G10) (RR:=fun r v G' H'=>Ext G0 H0 G' H'/\Rp.rel K G' v r) h16 (fun s17 S' G' H'=>∃ (v18:V),Ext G0 H0 G' H'/\Same G10 G'/\S'=[some BB,some (V.ref p1),some v18]/\(∃ vs,Own K G' H' (V.ref p1) p1 vs s17.1)/\Rp.rel K G' v18 (s17.2:Int)) ⟨?_,?_,?_,?_,?_,?_⟩
 ·exact ⟨v9,xt,(Same.refl _),rfl,⟨_,o7⟩,r13⟩
 ·rintro _ S' G' H' ⟨v18,xt,mk19,rfl,⟨vs2,o7⟩,r20⟩;exact xt.gh
 ·rintro s17 _ G21 H22 b' ⟨v18,xt,mk19,rfl,⟨vs2,o7⟩,r20⟩ hc Q' k';refine TV.runB o7 (AJ (K:=K) (EK (A6 (Rp.mono (Same.new o7.g) r20)) (FD (A6 o7.tell)))) hc xt.gh fun G23 H24 x25=>?_;clear 1 x25 r20 2 o7 3 mk19;exact k' _ _ ⟨v18,xt,mk19,rfl,⟨_,o7⟩,r20⟩
 ·rintro s17 _ G27 H28 fl26 ⟨v18,xt,mk19,rfl,⟨vs2,o7⟩,r20⟩ hm - D' kN29 kC30 kB31 kR32;clear 2 b43 h44;refine KO o7 (FX (AJ (K:=K) (EK (FD (A6 o7.tell)) AY)) (F6 (Ig (K:=K) (Ax (m:=GJ) (Du (A6 o7.tell) (A6 (Rp.mono (Same.new o7.g) r20))))))) h44 xt.gh fun G45 H46 x47=>?_;clear 1 x47 r20 2 o7 3 mk19
  cases b43 with
  | true =>
   clear 3;clear 2 rr53 h54;cases hm;exact Aa (K:=K) (rest:=DC) (σ:=[some BB,some (V.ref p1),some v18]) GT h54 xt.gh fun v48 G49 H50 x51 r52=>kR32 _ v48 G49 H50 rfl ⟨xt.trans x51,r52⟩
  | false =>
   clear 4;clear 2 a58 h59 z66 h60;refine KH (K:=K) (m:=GP) rfl o7 (A6 r20) h59 h60 xt.gh fun G61 H62 w63 x64 o65=>?_;have xt:Ext G0 H0 G61 (upd H62 p1 (.lst (vs2++w63))):=(xt.trans x64).put hz6 o65.g;clear 0 x64 r20 3 mk19;clear 2 HQ h72;refine Ac (K:=K) (BI (A6 r20) AY) h72 xt.gh fun v67 G68 H69 x70 r71=>?_;clear 1 x70 2 o65 3 mk19;cases hm;exact kN29 _ _ _ _ rfl ⟨v67,xt,mk19,rfl,⟨_,o65⟩,r71⟩
 ·rintro s17 _ G76 H77 rfl ⟨v73,xt,mk74,rfl,⟨vs2,o7⟩,r75⟩;refine Er ?_;exact Aa (K:=K) (rest:=DC) (σ:=[some BB,some (V.ref p1),some v73]) GT hm xt.gh fun v78 G79 H80 x81 r82=>q v78 G79 H80 (xt.trans x81) r82
 ·clear 5
theorem FJ {f:Addr}{fd:FuncData}(F:Fun K "show_sentence" "show_sentence" CS f fd):FnOk P w K mg base CX0 1 f fd ["sentence"] (spM K (As 0)):=by
 refine F.ok Cy (fun vs H Q E h=>(CV h).trans rfl) (fun cdv A outer s H0 vs Q E hr h=>?_);obtain ⟨_,_,_,_,_,hm,_⟩:=h;exact nomatch (hm:none=some _)
theorem GE {f:Addr}{fd:FuncData}(F:Fun K "show_sentence" "show_sentence" CS f fd)(T:Txt w K mg)(B4:Nat)(BW:DefOk P w K mg base "show_sentence" (1+B4) ["sentence"] (spM K (As B4))):FnOk P w K mg base CX0 (1+B4+1) f fd ["sentence"] (spM K (As (B4+1))):=by
 refine F.ok Cy (fun vs H Q E h=>(CV h).trans rfl) (fun cdv A outer s H0 vs Q E hr h=>?_);obtain ⟨G0,⟨BG,⟨⟩⟩,res,sg0,⟨EQ,_,rfl,AU,rfl⟩,hm,q⟩:=h;replace AU:Rp.rel K G0 EQ BG:=AU;replace hm:AZ (AN B4) BG=some res:=hm;unfold AZ at hm;have xt:Ext G0 H0 G0 H0:=Ext.refl sg0
 refine ⟨_,(A3 (AL (i:=1) Cy (AX K (pv 0) A5))
   (A3 (Ay (AK BJ (pv 1) AH (AS _)) (A3 (Ab (AX K (pv 0) A5))
   A4) A4)
   (A3 (Ay (AK BJ (B3 K T.len_ (pv 0)) A5 (AS _)) (A3 (Ab (pv 1))
   A4) A4)
   (A3 (Ay (AK BJ (B3 K T.len_ (pv 0)) A5 (AS _)) (A3 (Ab (AF K (AF K (pv 1) AH) (B1 BW hr (by omega) rfl (A2 (AX K (pv 0) A5) A9))))
   A4) A4)
   (A3 (Ab (AF K (AF K (AF K (AF K (AF K (AF K AH (B1 BW hr (by omega) rfl (A2 (AX K (pv 0) A5) A9))) AH) (pv 1)) AH) (B1 BW hr (by omega) rfl (A2 (AX K (pv 0) A5) A9))) AH))
   A4))))),?_⟩
 clear 2 word_ h10;refine Ac (K:=K) (ES (DP (BO (A6 AU)) AY)) h10 xt.gh fun v5 G6 H7 x8 r9=>?_;clear 1 x8 AU;clear 2 b11 h12;refine Av (AJ (K:=K) (Ci (A6 r9) Aj)) h12 xt.gh fun G13 H14 x15=>?_;clear 1 x15 AU r9
 cases b11 with
 | true =>
  clear 3;exact Aa (K:=K) (ES (DP (BO (A6 AU)) AY)) hm xt.gh fun v20 G21 H22 x23 r24=>q v20 G21 H22 (xt.trans x23) r24
 | false =>
  clear 4;clear 2 b28 h29;refine Av (AJ (K:=K) (Bq (FR (BO (A6 AU))) AY)) h29 xt.gh fun G30 H31 x32=>?_;clear 1 x32 AU r9
  cases b28 with
  | true =>
   clear 3;exact Aa (K:=K) (A6 r9) hm xt.gh fun v33 G34 H35 x36 r37=>q v33 G34 H35 (xt.trans x36) r37
  | false =>
   clear 4;clear 2 b41 h42;refine Av (AJ (K:=K) (Bq (FR (BO (A6 AU))) AY)) h42 xt.gh fun G43 H44 x45=>?_;clear 1 x45 AU r9
   cases b41 with
   | true =>
    clear 3;exact Aa (K:=K) (Ai (Ai (A6 r9) Aj) (Ax (m:=As B4) (DP (BO (A6 AU)) AY))) hm xt.gh fun v54 G55 H56 x57 r58=>q v54 G55 H56 (xt.trans x57) r58
   | false =>
    clear 4;exact Aa (K:=K) (Ai (Ai (Ai (Ai (Ai (Ai Aj (Ax (m:=As B4) (DP (BO (A6 AU)) AY))) Aj) (A6 r9)) Aj) (Ax (m:=As B4) (DP (BO (A6 AU)) AY))) Aj) hm xt.gh fun v79 G80 H81 x82 r83=>q v79 G80 H81 (xt.trans x82) r83
theorem Fx (F:DIn K mg "read_sentence" D9)(T:Txt w K mg){aT:Addr}(O:OwnCls "NoText" aT bmV "ValueError.__new__" mg base)(CD:D7 P w K mg base)(FE:Gi P w K mg base)(De:Ex P w K mg base)(BW:EB P w K mg base):DA P w K mg base:=by
 refine F.okQ Cv bn1 (fun vs H Q E h=>(L8 h).trans rfl) (fun _ cdv A outer s H0 vs Q E hr h=>?_);obtain ⟨G0,⟨text_,⟨⟩⟩,res,sg0,⟨DG,_,rfl,AD,rfl⟩,hm,q⟩:=h;replace AD:Rp.rel K G0 DG text_:=AD;replace hm:AR text_=some res:=hm;unfold AR at hm;have xt:Ext G0 H0 G0 H0:=Ext.refl sg0
 refine ⟨_,(Ak (PS.p (CJ (E5 CD hr (by decide) rfl CP (A2 (pv 0) A9))))
   (Ak (PS.p (AL (i:=1) Cv (CO A9)))
   (Ak (psP_for PassesOwn.leaving rfl (piP_rev (K:=K) rfl (by rfl) T.reversed_ (peP_bmK (K:=K) rfl PySem.F.plainAttrs_str PySem.F.slot_str_split PySem.F.type_str_split mt_split (GK (GK (PE.p (pv 0)))) (A2 AH A9))) (Cr (i:=2) Cv) (A3 (CJ (E5 FE hr (by decide) rfl CP (A2 (pv 1) (A2 (pv 2) A9))))
   A4))
   (PSs.p (A3 (Ay (PW.pt (FM (AK op_ne (B3 K T.len_ (pv 1)) A5 (AS _)) (FM (Fy (Ce K (B1 De hr (by decide) rfl (A2 (AX K (pv 1) A5) A9)))) (Fs (AK op_ne (B1 BW hr (by decide) rfl (A2 (AX K (pv 1) A5) A9)) (pv 0) (AS _)))))) (A3 (Hm O rfl rfl CP AH)
   A4) A4)
   (A3 (Ab (AX K (pv 1) A5))
   A4)))))),?_⟩
 clear 2 r0 h3;refine sx_drop (K:=K) (mg:=mg) (evx_def1 (m:=HS) (A6 AD)) h3 xt.gh ?_
 cases r0 with
 | error n =>
  cases hm;exact q
 | ok u0 =>
 intro G4 H5 x6;clear 1 x6 AD;refine Kl (K:=K) (CL (B0 (α:=Nt))) rfl xt.gh fun p7 vs8 G9 H10 x11 hz12 o13=>?_;clear 1 x11 AD 4 hz12;clear 2 as18 h19 fl20 h21;refine sv_forX (K:=K) (RR:=fun r v G' H'=>False) (iw_rev (FV.ev (fv_split (LO (LO (By (A6 AD)))) Aj))) h19 h21 xt.gh fun G22 H23 x24=>⟨fun s25 S' G' H'=>∃ (v26:Option V),Ext G0 H0 G' H'/\Same G22 G'/\S'=[some DG,some (V.ref p7),v26]/\(∃ vs,Own K G' H' (V.ref p7) p7 vs s25),?_,?_,?_,?_,?_⟩
 ·clear 1 x24 2 o13;exact ⟨_,xt,(Same.refl _),rfl,⟨_,o13⟩⟩
 ·rintro _ S' G' H' ⟨v26,xt,mk27,rfl,⟨vs8,o13⟩⟩;exact ⟨mk27,xt.gh⟩
 ·rintro xv28 a29 s25 _ G32 H33 fl30 - ⟨v26,xt,mk27,rfl,⟨vs8,o13⟩⟩ rx31 hm1 hres D' kN34 kC35 kB36 kR37;refine DH ?_;obtain ⟨rz42,h43,hm1⟩:=qaA.mp hm1;refine Lq (K:=K) (mg:=mg) (m:=FK) rfl o13 (JQ (A6 rx31) Ki) rfl h43 xt.gh ?_
  cases rz42 with
  | error n =>
   cases hm1;have e:=hres n rfl;subst e;cases hm;exact fun G44 H45 x48 D G2 H2 hD y=>q D G2 H2 hD ((xt.trans x48).past (C:=[p7]) (fun b hb=>by rw [qjA.mp hb];exact hz12) y)
  | ok z =>
  cases hm1;intro G44 H45 G46 H47 vs50 x48 y49 o51;have xt:=(xt.trans x48).past (C:=[p7]) (fun b hb=>by rw [qjA.mp hb];exact hz12) y49;have mk27:=mk27.trans (x48.gg.trans y49.gg);exact kN34 _ _ _ _ rfl ⟨_,xt,mk27,rfl,⟨_,o51⟩⟩
 ·rintro s25 _ G54 H55 rfl ⟨v52,xt,mk53,rfl,⟨vs8,o13⟩⟩;refine Er ?_;have AD:=Rp.mono (x24.gg.trans mk53) AD;have sf:=Same.new (o:=.lst vs8) o13.g;have xt:=xt.frz hz12 o13.g o13.h;have r66:=o13.tell;clear 9 sf AD;clear 2 b77 h78;refine Av (FX (AJ (K:=K) (ev_neI (FD (A6 r66)) AY)) (FX (F6 (Ig (K:=K) (Ax (m:=EW) (CN (Du (A6 r66) AY))))) (AJ (K:=K) (ev_neS (Ax (m:=As 26) (Du (A6 r66) AY)) (By (A6 AD)))))) h78 xt.gh fun G79 H80 x81=>?_;clear 1 x81 r66
  cases b77 with
  | true =>
   clear 3;cases hm;exact q aT _ _ O.bound xt
  | false =>
   clear 4;clear 2 x90 h91;cases hm;exact Aa (K:=K) (Du (A6 r66) AY) h91 xt.gh fun v84 G85 H86 x87 r88=>q v84 G85 H86 (xt.trans x87) r88
 ·rintro r' v' G' H' rfl rl;exact rl.elim
theorem HG (D_:DA P w K mg base):EA P w K mg base:=D_.to0 fun vs H Q E h=>by
 obtain ⟨G,⟨t,⟨⟩⟩,r,sg,⟨v,_,rfl,rv,rfl⟩,hm,q⟩:=h;clear 2 x hx
 cases x with
 | error n=>cases hm
 | ok b =>
  cases hm;exact ⟨G,(D.str t,()),.ok _,sg,⟨v,_,rfl,ToD.rel (α:=Str) rv,rfl⟩,hx,q⟩
theorem HC (F:DIn K mg "_law_changed" Dd)(T:Txt w K mg):Ez P w K mg base:=by
 refine F.okM2 (m:=C5) Bx fun _ _ _ _ _ H0 _ _ hr G0 text_ Ao res DG DE xt AD A7 hm q=>?_;unfold C5 at hm
 refine ⟨_,(A3 (AL (i:=2) Bx AH)
   (A3 (AL (i:=3) Bx (AX K (pv 2) (Ap Bk (Ap Cg (pv 1) A5) A5)))
   (A3 (AL (i:=4) Bx (Ap Bk (Ap Bk (Ap (E4 (K:=K) rfl) (Ap Cg (pv 1) A5) A5) A5) (AF K (B3 K T.len_ (pv 0)) A5)))
   (A3 (AL (i:=5) Bx (Ap Bk (pv 1) A5))
   (A3 (Ay (AK BJ (pv 5) A5 (AS _)) (A3 (Ab (AF K (AF K (An (BL (K:=K) rfl) (pv 0) BZ (Au (pv 4))) (pv 3)) (An (BL (K:=K) rfl) (pv 0) (Au (AF K (pv 4) A5)) BZ)))
   A4) A4)
   (A3 (Ay (AK BJ (pv 5) A5 (AS _)) (A3 (Ab (AF K (AF K (An (BL (K:=K) rfl) (pv 0) BZ (Au (pv 4))) (pv 3)) (An (BL (K:=K) rfl) (pv 0) (Au (pv 4)) BZ)))
   A4) A4)
   (A3 (Ay (AK BJ (pv 5) A5 (AS _)) (A3 (Ab (AF K (An (BL (K:=K) rfl) (pv 0) BZ (Au (pv 4))) (An (BL (K:=K) rfl) (pv 0) (Au (AF K (pv 4) A5)) BZ)))
   A4) A4)
   (A3 (Ay (AK BJ (pv 5) A5 (AS _)) (A3 (AL (i:=6) Bx (AF K (An (BL (K:=K) rfl) (pv 0) (Au (AF K (pv 4) A5)) (Au (AF K (pv 4) A5))) (An (BL (K:=K) rfl) (pv 0) (Au (pv 4)) (Au (AF K (pv 4) A5)))))
   (A3 (Ab (AF K (AF K (An (BL (K:=K) rfl) (pv 0) BZ (Au (pv 4))) (pv 6)) (An (BL (K:=K) rfl) (pv 0) (Au (AF K (pv 4) A5)) BZ)))
   A4)) A4)
   (A3 (Ay (AK BJ (pv 5) A5 (AS _)) (A3 (Ab (AF K (AF K (An (BL (K:=K) rfl) (pv 0) BZ (Au (pv 4))) (AX K (CO (A2 AH (A2 AH (A2 AH (A2 AH (A2 AH A9)))))) (Ap Bk (Ap Cg (pv 1) A5) A5))) (An (BL (K:=K) rfl) (pv 0) (Au (pv 4)) BZ)))
   A4) A4)
   (A3 (Ab (pv 0))
   A4)))))))))),?_⟩
 clear 2 signs_ h6;refine Ac (K:=K) Aj h6 xt.gh fun v1 G2 H3 x4 r5=>?_;clear 1 x4 AD A7;clear 2 new_ h14;refine Ac (K:=K) (HI (A6 r5) (Bg (D0 (A6 A7)))) h14 xt.gh fun v9 G10 H11 x12 r13=>?_;clear 1 x12 AD A7;clear 2 at_ h22;refine Ac (K:=K) (Hi (Bg (Ej (D0 (A6 A7)))) (BI (Eg (A6 AD)) AY)) h22 xt.gh fun v17 G18 H19 x20 r21=>?_;clear 1 x20 AD A7 r13;clear 2 way_ h28;refine Ac (K:=K) (Bg (A6 A7)) h28 xt.gh fun v23 G24 H25 x26 r27=>?_;clear 1 x26 AD A7 r13 r21;clear 2 b29 h30;refine Av (AJ (K:=K) (Bq (A6 r27) AY)) h30 xt.gh fun G31 H32 x33=>?_;clear 1 x33 AD A7 r13 r21 r27
 cases b29 with
 | true =>
  clear 3;exact Aa (K:=K) (Ai (Ai (Al (A6 AD) BY (Ar (K:=K) (A6 r21))) (A6 r13)) (Al (A6 AD) (Ar (K:=K) (BI (A6 r21) AY)) BY)) hm xt.gh fun v38 G39 H40 x41 r42=>q v38 G39 H40 (xt.trans x41) r42
 | false =>
  clear 4;clear 2 b43 h44;refine Av (AJ (K:=K) (Bq (A6 r27) AY)) h44 xt.gh fun G45 H46 x47=>?_;clear 1 x47 AD A7 r13 r21 r27
  cases b43 with
  | true =>
   clear 3;exact Aa (K:=K) (Ai (Ai (Al (A6 AD) BY (Ar (K:=K) (A6 r21))) (A6 r13)) (Al (A6 AD) (Ar (K:=K) (A6 r21)) BY)) hm xt.gh fun v52 G53 H54 x55 r56=>q v52 G53 H54 (xt.trans x55) r56
  | false =>
   clear 4;clear 2 b57 h58;refine Av (AJ (K:=K) (Bq (A6 r27) AY)) h58 xt.gh fun G59 H60 x61=>?_;clear 1 x61 AD A7 r21 r27
   cases b57 with
   | true =>
    clear 3;exact Aa (K:=K) (Ai (Al (A6 AD) BY (Ar (K:=K) (A6 r21))) (Al (A6 AD) (Ar (K:=K) (BI (A6 r21) AY)) BY)) hm xt.gh fun v64 G65 H66 x67 r68=>q v64 G65 H66 (xt.trans x67) r68
   | false =>
    clear 4;clear 2 b69 h70;refine Av (AJ (K:=K) (Bq (A6 r27) AY)) h70 xt.gh fun G71 H72 x73=>?_;clear 1 x73 AD A7 r21 r27
    cases b69 with
    | true =>
     clear 3;clear 2 LZ h81;refine Ac (K:=K) (Ai (Al (A6 AD) (Ar (K:=K) (BI (A6 r21) AY)) (Ar (K:=K) (BI (A6 r21) AY))) (Al (A6 AD) (Ar (K:=K) (A6 r21)) (Ar (K:=K) (BI (A6 r21) AY)))) h81 xt.gh fun v76 G77 H78 x79 r80=>?_;clear 1 x79 AD r21;exact Aa (K:=K) (Ai (Ai (Al (A6 AD) BY (Ar (K:=K) (A6 r21))) (A6 r80)) (Al (A6 AD) (Ar (K:=K) (BI (A6 r21) AY)) BY)) hm xt.gh fun v86 G87 H88 x89 r90=>q v86 G87 H88 (xt.trans x89) r90
    | false =>
     clear 4;clear 2 b91 h92;refine Av (AJ (K:=K) (Bq (A6 r27) AY)) h92 xt.gh fun G93 H94 x95=>?_;clear 1 x95 AD A7 r21
     cases b91 with
     | true =>
      clear 3;exact Aa (K:=K) (Ai (Ai (Al (A6 AD) BY (Ar (K:=K) (A6 r21))) (Du (FV.ev (CL (AA Aj (AA Aj (AA Aj (AA Aj (AA Aj (B0 (α:=Str))))))))) (Bg (D0 (A6 A7))))) (Al (A6 AD) (Ar (K:=K) (A6 r21)) BY)) hm xt.gh fun v102 G103 H104 x105 r106=>q v102 G103 H104 (xt.trans x105) r106
     | false =>
      clear 4;exact Aa (K:=K) (A6 AD) hm xt.gh fun v107 G108 H109 x110 r111=>q v107 G108 H109 (xt.trans x110) r111
theorem Iq {f:Addr}{fd:FuncData}(F:Fun K "_law_size" "_law_size" E2 f fd):FnOk P w K mg base CX0 1 f fd ["_law_sentence_here"] (spM K (CG 0)):=by
 refine F.ok GG (fun vs H Q E h=>(CV h).trans rfl) (fun cdv A outer s H0 vs Q E hr h=>?_);obtain ⟨_,_,_,_,_,hm,_⟩:=h;exact nomatch (hm:none=some _)
theorem Jc {f:Addr}{fd:FuncData}(F:Fun K "_law_size" "_law_size" E2 f fd)(T:Txt w K mg)(B4:Nat)(DR:DefOk P w K mg base "_law_size" (1+B4) ["_law_sentence_here"] (spM K (CG B4))):FnOk P w K mg base CX0 (1+B4+1) f fd ["_law_sentence_here"] (spM K (CG (B4+1))):=by
 refine F.ok GG (fun vs H Q E h=>(CV h).trans rfl) (fun cdv A outer s H0 vs Q E hr h=>?_);obtain ⟨G0,⟨AI,⟨⟩⟩,res,sg0,⟨CK,_,rfl,AG,rfl⟩,hm,q⟩:=h;replace AG:Rp.rel K G0 CK AI:=AG;replace hm:BC (Cb B4) AI=some res:=hm;unfold BC at hm;have xt:Ext G0 H0 G0 H0:=Ext.refl sg0
 refine ⟨_,(A3 (Ay (PW.pt (FM (AK BJ (AX K (pv 0) A5) AH (AS _)) (Fs (AK BJ (B3 K T.len_ (pv 0)) A5 (AS _))))) (A3 (Ab A5)
   A4) A4)
   (A3 (Ab (AF K A5 (BH (M7 (K:=K) rfl rfl) (by rfl) T.sum_ bt_sum (A2 (pe_comp (cn:=[]) (cap:=[]) rfl ⟨by decide +kernel,rfl,by decide +kernel,free_of rfl⟩ rfl (by decide +kernel) trivial (Gc (K:=K) rfl (An (Kv (K:=K) rfl) (pv 0) (Au A5) BZ)) (fun C s0 H0 fp=>⟨pts_nil,(B1 DR hr (by omega) rfl (A2 (pv 0) A9))⟩)) A9))))
   A4)),?_⟩
 clear 2 b13 h14;refine Av (FX (AJ (K:=K) (Ci (ES (DP (BO (A6 AG)) AY)) Aj)) (AJ (K:=K) (Bq (FR (BO (A6 AG))) AY))) h14 xt.gh fun G15 H16 x17=>?_;clear 1 x17 AG
 cases b13 with
 | true =>
  clear 3;exact Aa (K:=K) (rest:=DC) (σ:=[some CK]) AY hm xt.gh fun v18 G19 H20 x21 r22=>q v18 G19 H20 (xt.trans x21) r22
 | false =>
  clear 4;exact Aa (K:=K) (BI AY (ev_sumG (FV.ev (fv_map (cap:=[]) (fe:=fun (LC:Nt)=>((some LC).bind fun t32=>(Cb B4) t32)) (iw_tup (IT (BO (A6 AG)) (Ar (K:=K) AY) BY)) fun xc31 LC Gc28 sc29 rc30=>(Ax (m:=CG B4) (A6 rc30)))))) hm xt.gh fun v36 G37 H38 x39 r40=>q v36 G37 H38 (xt.trans x39) r40
theorem Go (F:DIn K mg "_law_classes" Dk)(T:Txt w K mg){aS aT aR aW aM aE aC aX aN:Addr}(W:XT K mg aS aT aR aW aM aE aC aX aN):Ey P w K mg base aT:=by
 refine F.okH DL bn1 (fun vs H Q E h=>by obtain ⟨_,_,rfl,_⟩:=h;rfl) (fun _ cdv A outer s H0 vs Q h=>?_);obtain ⟨G0,v0,rfl,sg0,r0,q⟩:=h;have xt:Ext G0 H0 G0 H0:=Ext.refl sg0
 refine ⟨_,(A3 (Gw (i:=1) (IQ DL) rfl (Or.inl rfl) (CO (A2 (BH (C3 (K:=K) rfl) (by rfl) T.isinstance_ Ah (A2 (pv 0) (A2 (D3 (v:=.ref aT) rfl W.naT rfl) A9))) (A2 (BH (C3 (K:=K) rfl) (by rfl) T.isinstance_ Ah (A2 (pv 0) (A2 (Ef (v:=.ty "ValueError") rfl T.ValueError_ Hs rfl) A9))) (A2 (BH (C3 (K:=K) rfl) (by rfl) T.isinstance_ Ah (A2 (pv 0) (A2 (D3 (v:=.ref aR) rfl W.naR rfl) A9))) A9)))))
   (A3 (Gw (i:=1) (IQ DL) rfl (Or.inl rfl) (AF K (pv 1) (CO (A2 (BH (C3 (K:=K) rfl) (by rfl) T.isinstance_ Ah (A2 (pv 0) (A2 (D3 (v:=.ref aW) rfl W.naW rfl) A9))) (A2 (BH (C3 (K:=K) rfl) (by rfl) T.isinstance_ Ah (A2 (pv 0) (A2 (D3 (v:=.ref aM) rfl W.naM rfl) A9))) (A2 (BH (C3 (K:=K) rfl) (by rfl) T.isinstance_ Ah (A2 (pv 0) (A2 (D3 (v:=.ref aE) rfl W.naE rfl) A9))) A9))))))
   (A3 (Ab (AF K (pv 1) (CO (A2 (BH (C3 (K:=K) rfl) (by rfl) T.isinstance_ Ah (A2 (pv 0) (A2 (D3 (v:=.ref aC) rfl W.naC rfl) A9))) (A2 (BH (C3 (K:=K) rfl) (by rfl) T.isinstance_ Ah (A2 (pv 0) (A2 (D3 (v:=.ref aX) rfl W.naX rfl) A9))) (A2 (BH (C3 (K:=K) rfl) (by rfl) T.isinstance_ Ah (A2 (pv 0) (A2 (D3 (v:=.ref aN) rfl W.naN rfl) A9))) A9)))))) A4))),?_⟩
 refine Ac (K:=K) (FV.ev (CL (AA (Cj W.kit W.kT Db (A6 r0)) (AA (Cj W.kit W.kV rel_ty (A6 r0)) (AA (Cj W.kit W.kR Db (A6 r0)) (B0 (α:=Bool))))))) rfl xt.gh fun v1 G1 H1 x1 r1=>?_;clear 1 x1 r0;refine Ac (K:=K) (FV.ev (Kc (A6 r1) (FV.ev (CL (AA (Cj W.kit W.kW Db (A6 r0)) (AA (Cj W.kit W.kM Db (A6 r0)) (AA (Cj W.kit W.kE Db (A6 r0)) (B0 (α:=Bool))))))))) rfl xt.gh fun v2 G2 H2 x2 r2=>?_;clear 1 x2 r0;exact Aa (K:=K) (FV.ev (Kc (A6 r2) (FV.ev (CL (AA (Cj W.kit W.kC Db (A6 r0)) (AA (Cj W.kit W.kX Db (A6 r0)) (AA (Cj W.kit W.kN Db (A6 r0)) (B0 (α:=Bool))))))))) rfl xt.gh fun v3 G3 H3 x3 r3=>q v3 G3 H3 (xt.trans x3) r3
theorem Gq (F:DIn K mg "_law_no_text" Di)(T:Txt w K mg){aS aT aR aW aM aE aC aX aN:Addr}(W:XT K mg aS aT aR aW aM aE aC aX aN)(Y_:DA P w K mg base)(Dg:Ey P w K mg base aT):Ew P w K mg base:=by
 refine F.okMP1 (m:=C6) Bv fun _ _ _ _ _ H0 _ _ hr G0 B7 res BB xt AT hm q=>?_;unfold C6 at hm
 refine ⟨_,(Ak (PS.p (AL (i:=1) Bv (CO A9)))
   (Ak (psP_try (i:=2) rfl rfl rfl W.naS (IQ Bv) rfl rfl
    (fun pn xe E L=>Ak (Ja (Jq Y_ hr (by decide) rfl L (A2 (pv 0) A9))) (PSs.p A4))
    (fun pn ea=>A3 (Gw (i:=1) (IQ Bv) rfl (Or.inl rfl) (pe_defH Dg ((hr.mono (by decide)).han _) rfl (A2 (pv 2) A9))) A4))
   (Ak (PS.p (AL (i:=3) Bv AH))
   (Ak (psP_tryN rfl rfl rfl W.naT
    (fun pn xe E L=>Ak (Ja (Jq Y_ hr (by decide) rfl L (A2 (pv 0) A9))) (PSs.p A4))
    (fun pn ea=>A3 (Gw (i:=3) (IQ Bv) rfl (Or.inl rfl) AH) A4))
   (PSs.p (A3 (Ab (Ie (Fg (op_eqK (K:=K) rfl (List Bool) hr (by decide)) (pv 1) (AF K (CO (A2 E8 (A2 E8 A9))) (Ap op_repR (CO (A2 E8 A9)) A5)) (AS _)) (JS (Fg BJ (pv 3) AH (AS _)))))
   A4)))))),?_⟩
 clear 2 r hr1
 cases r with
 | ok b=>cases hm
 | error n =>
 obtain ⟨rfl,rfl⟩:=BD hm;refine Ac (K:=K) (FV.ev (CL (B0 (α:=Bool)))) rfl xt.gh fun v1 G1 H1 x1 r1=>?_;clear 1 x1 AT;refine ⟨BB,rfl,G1,(B7,()),.error "NoText",xt.gh,⟨BB,_,rfl,AT,rfl⟩,hr1,fun D' G2 H2 hD x2=>?_⟩;obtain rfl:aT=D':=by have:=W.naT.symm.trans hD;cases this;rfl
 refine ⟨W.ex,fun ea hea=>?_⟩;have x3:=x2.trans (Ext.new (o:=Exo ea (.ref aT)) x2.gh hea);clear 1 x3 AT;refine ⟨.ref ea,rfl,_,.ref ea,rfl,x3.gh,⟨ea,rfl,Af⟩,fun v4 G4 H4 x4 r4=>?_⟩;clear 1 x4 AT;refine ⟨BB,rfl,G4,(B7,()),.error "NoText",xt.gh,⟨BB,_,rfl,AT,rfl⟩,hr1,fun D' G6 H6 hD x6=>?_⟩;obtain rfl:aT=D':=by have:=W.naT.symm.trans hD;cases this;rfl
 clear 1 x6 r4;refine ⟨W.ex2,?_⟩;have r7:Rp.rel K G6 (V.str "text") ("text" : Str):=⟨rfl,by decide +kernel⟩;exact Aa (K:=K) (σ:=[some BB,some v4,none,some (V.str "text")]) (rest:=DC) (JB (ev_eq (A6 r4) (FV.ev (Kc (FV.ev (CL (AA GT (AA GT (B0 (α:=Bool)))))) (FV.ev (fv_rep (FV.ev (CL (AA GT (B0 (α:=Bool))))) AY))))) (Ci (A6 r7) Aj)) (by decide +kernel) xt.gh fun v10 G11 H12 x13 r14=>q v10 G11 H12 (xt.trans x13) r14
seal eval in
theorem ok_law {f:Addr}{fd:FuncData}(F:Fun K "law" "law" s_law f fd)(T:Txt w K mg)(DO:EN P w K mg base)(Br:F2 P w K mg base)(Bs:F9 P w K mg base)(Bp:Eu P w K mg base)(CQ:EA P w K mg base)(Dn:Ez P w K mg base)(DR:Gh P w K mg base)(Dh:Ew P w K mg base):FnOk P w K mg base CX0 63 f fd ["_law_script"] (spM K mm_law):=by
 refine F.ok Cw (fun vs H Q E h=>(CV h).trans rfl) (fun cdv A outer s H0 vs Q E hr h=>?_);obtain ⟨G0,⟨script_,⟨⟩⟩,res,sg0,⟨BU,_,rfl,AC,rfl⟩,hm,q⟩:=h;replace AC:Rp.rel K G0 BU script_:=AC;replace hm:Jr script_=some res:=hm;unfold Jr at hm;have xt:Ext G0 H0 G0 H0:=Ext.refl sg0;refine ⟨_,(Li (psQ_set (i:=1) (IQ Cw) rfl (Or.inl rfl) (peQ_def DO hr (by decide) rfl (pv 0))) (Ak (PS.p (AL (i:=2) Cw (B1 Br hr (by decide) rfl (A2 (pv 1) A9)))) (Ak (PS.p (AL (i:=3) Cw (B1 Bs hr (by decide) rfl (A2 (pv 0) (A2 A5 A9))))) (Ak (PS.p (AL (i:=4) Cw (pv 2))) (Ak (PS.p (EZ PassesOwn.never rfl (Dp rfl T.range_ (A2 (Ap Bk (Ap Cg (pv 3) A5) A5) A9)) (Cr (i:=5) Cw) (A3 (AL (i:=4) Cw (An (BL (K:=K) rfl) (B1 Dn hr (by decide) rfl (A2 (pv 4) (A2 (BH Ll (by rfl) T.abs_ bt_abs (A2 (B1 Bs hr (by decide) rfl (A2 (pv 0) (A2 (AF K A5 (pv 5)) A9))) A9)) A9))) BZ (Au A5))) A4))) (Ak (PS.p (Ay (AK BJ (Ap Bk (pv 3) A5) A5 (AS _)) (A3 (AL (i:=6) Cw (AX K (CO (A2 AH (A2 AH (A2 AH (A2 AH A9))))) (Ap Bk (Ap Cg (pv 3) A5) A5))) (A3 (AL (i:=7) Cw (CO (A2 Cq (pa_cI (A2 (CO (A2 AH A9)) (A2 (Bj (A2 AH (A2 AH A9))) (A2 E8 (A2 pe_dnewK (pa_cB (AF K (Ap LW (pv 6) A5) AH) (pa_cB (AF K (Ap LW (pv 6) A5) AH) (A2 AH (A2 AH A9)))))))))))) (A3 (AL (i:=4) Cw (AX K (pv 7) (Ap Bk (Ap Cg (pv 3) A5) A5))) A4))) A4)) (Ak (PS.p (AL (i:=8) Cw Cq)) (Ak (PS.p (Ay (PW.pt (HH (Ce K (BH (DM (K:=K) rfl) (by rfl) T.isinstance_ Ah (A2 (pv 4) (A2 (Ef (v:=.ty "str") rfl T.str_ J8 rfl) A9)))) (FZ (AK Fk (B3 K T.len_ (pv 4)) A5 (AS _))))) (A3 (AL (i:=8) Cw (B1 Bp hr (by decide) rfl (A2 (pv 4) A9))) A4) A4)) (Ak (PS.p (Ay (PW.pt (HH (AK op_notN (pv 8) Cq (AS _)) (FZ (AK Fk (B1 DR hr (by decide) rfl (A2 (pv 8) A9)) A5 (AS _))))) (A3 (AL (i:=8) Cw Cq) A4) A4)) (Ak (Ix (PT.p (AK HX (pv 8) Cq (AS _))) (Ak (Ix (ptP_not (KD K (J9 Dh hr (by decide) rfl (A2 (pv 4) A9)))) (PSs.p (A3 (Ab E8) A4)) (PSs.p A4)) (PSs.p A4)) (Ak (Ix (ptP_cmpR (op_neN (K:=K) rfl hr) (J9 CQ hr (by decide) rfl (A2 (pv 4) A9)) (pv 8) (AS _)) (PSs.p (A3 (Ab E8) A4)) (PSs.p A4)) (PSs.p A4))) (Ak (psP_ret (peP_cmpR (op_eqN (K:=K) rfl hr) (J9 CQ hr (by decide) rfl (A2 (pv 2) A9)) (pv 1) (AS _))) (PSs.p A4)))))))))))),?_⟩;clear 2 AI h8;refine Ac (K:=K) (DY (m:=E9) (A6 AC) AY) h8 xt.gh fun v3 G4 H5 x6 r7=>?_;clear 1 x6 AC;clear 2 text_ h15;refine Ac (K:=K) (Ax (m:=BE 26) (A6 r7)) h15 xt.gh fun v10 G11 H12 x13 r14=>?_;clear 1 x13 AC r7;clear 2 way_ h23;refine Ac (K:=K) (DY (m:=CA) (A6 AC) AY) h23 xt.gh fun v18 G19 H20 x21 r22=>?_;clear 1 x21 AC r7 r14;clear 2 D8 h29;refine Ac (K:=K) (CN (A6 r14)) h29 xt.gh fun v24 G25 H26 x27 r28=>?_;clear 1 x27 AC r7 r14 r22;clear 2 as31 h32 fl33 h34;refine EI (K:=K) (RR:=fun r v G' H'=>Ext G0 H0 G' H'/\Rp.rel K G' v r) (FU (Bg (D0 (A6 r22)))) h32 h34 xt.gh fun G35 H36 x37=>⟨fun s38 S' G' H'=>∃ (v39:V) (v40:Option V),Ext G0 H0 G' H'/\Same G35 G'/\S'=[some BU,some v3,some v10,some v18,some v39,v40,none,none,none]/\Rp.rel K G' v39 (s38:D),?_,?_,?_,?_,?_⟩
 ·clear 1 x37 r28;exact ⟨v24,_,xt,(Same.refl _),rfl,r28⟩
 ·rintro _ S' G' H' ⟨v39,v40,xt,mk41,rfl,r42⟩;exact ⟨mk41,xt.gh⟩
 ·rintro xv43 a44 s38 _ G47 H48 fl45 - ⟨v39,v40,xt,mk41,rfl,r42⟩ rx46 hm D' kN49 kC50 kB51 kR52;have AC:=Rp.mono (x37.gg.trans mk41) AC;refine DH ?_;clear 2 D8 h66;refine Ac (K:=K) (CN (Al (DY (m:=EX) (By (A6 r42)) (ev_abs (DY (m:=CA) (A6 AC) (BI AY (A6 rx46))))) BY (Ar (K:=K) AY))) h66 xt.gh fun v61 G62 H63 x64 r65=>?_;clear 1 x64 3 mk41;cases hm;exact kN49 _ _ _ _ rfl ⟨v61,_,xt,mk41,rfl,r65⟩
 ·rintro s38 _ G71 H72 rfl ⟨v67,v68,xt,mk69,rfl,r70⟩;refine Er ?_;have AC:=Rp.mono (x37.gg.trans mk69) AC;have r7:=Rp.mono (x37.gg.trans mk69) r7;have r14:=Rp.mono (x37.gg.trans mk69) r14;have r22:=Rp.mono (x37.gg.trans mk69) r22;clear 2 b73 h74 s78 h79
  try (with_reducible refine nxt_ ?_;dsimp only)
  refine D5 (t:=Ff _ _ _) (fun S131 H130=>∃ (G129:Hp) (v81:V) (v83:Option V) (v85:Option V),Ext G0 H0 G129 H130/\Same G71 G129/\S131=[some BU,some v3,some v10,some v18,some v81,v68,v83,v85,none]/\Rp.rel K G129 v81 (s78:D)) (fun nx kn87=>?_) ?_
  ·refine Av (AJ (K:=K) (Bq (Bg (A6 r22)) AY)) h74 xt.gh fun G75 H76 x77=>?_;clear 1 x77 r22 r70;have mk80:Same G71 G75:=x77.gg;have hm:=h79
   cases b73 with
   | true =>
    clear 3;clear 2 head_ h95;refine Ac (K:=K) (Du (FV.ev (CL (AA Aj (AA Aj (AA Aj (AA Aj (B0 (α:=Str)))))))) (Bg (D0 (A6 r22)))) h95 xt.gh fun v90 G91 H92 x93 r94=>?_;clear 1 x93 r22 3 mk80;clear 2 menu_ h120;refine Ac (K:=K) (FV.ev (CL (AA (CN ev_n) (AA (CN AY) (AA (CN (FV.ev (CL (AA (CN Aj) (B0 (α:=D)))))) (AA (CN (J5 (AA (CN Aj) (AA (CN Aj) (B0 (α:=D)))))) (AA (CN GT) (AA ev_dnew (AA (CN (Ai (Ku (A6 r94) AY) Aj)) (AA (CN (Ai (Ku (A6 r94) AY) Aj)) (AA (CN Aj) (AA (CN Aj) (B0 (α:=D)))))))))))))) h120 xt.gh fun v115 G116 H117 x118 r119=>?_;clear 1 x118 r22 3 mk80;clear 2 D8 h128;refine Ac (K:=K) (Du (A6 r119) (Bg (D0 (A6 r22)))) h128 xt.gh fun v123 G124 H125 x126 r127=>?_;clear 1 x126 3 mk80;cases hm;exact kn87 _ _ ⟨G124,v123,_,_,xt,mk80,rfl,r127⟩
   | false =>
    clear 4;cases hm;exact kn87 _ _ ⟨G75,v67,_,_,xt,mk80,rfl,r70⟩
  ·rintro _ H130 ⟨G129,v81,v83,v85,xt,mk80,rfl,r82⟩;clear 9 mk80 AC r7 r14 r22;clear 2 due_ h137;refine Ac (K:=K) (Dw (α:=Nt)) h137 xt.gh fun v132 G133 H134 x135 r136=>?_;clear 1 x135 AC r7 r14 r22 r82;clear 2 b141 h142 s146 h147
   try (with_reducible refine nxt_ ?_;dsimp only)
   refine D5 (t:=Ff _ _ _) (fun S162 H161=>∃ (G160:Hp) (v149:V),Ext G0 H0 G160 H161/\Same G133 G160/\S162=[some BU,some v3,some v10,some v18,some v81,v68,v83,v85,some v149]/\Rp.rel K G160 v149 (s146:(Option Nt))) (fun nx kn151=>?_) ?_
   ·refine Av (JE (Ig (K:=K) (EU (by decide) (A6 r82))) (AJ (K:=K) (EK (Fd (A6 r82)) AY))) h142 xt.gh fun G143 H144 x145=>?_;clear 1 x145 r82 r136;have mk148:Same G133 G143:=x145.gg;have hm:=h147
    cases b141 with
    | true =>
     clear 3;clear 2 due_ h159;refine Ac (K:=K) (Ax (m:=BF 60) (By (A6 r82))) h159 xt.gh fun v154 G155 H156 x157 r158=>?_;clear 1 x157 3 mk148;cases hm;exact kn151 _ _ ⟨G155,v154,xt,mk148,rfl,r158⟩
    | false =>
     clear 4;cases hm;exact kn151 _ _ ⟨G143,v132,xt,mk148,rfl,r136⟩
   ·rintro _ H161 ⟨G160,v149,xt,mk148,rfl,r150⟩;clear 9 mk148 AC r7 r14 r22 r82;clear 2 b167 h168 s172 h173
    try (with_reducible refine nxt_ ?_;dsimp only)
    refine D5 (t:=Ff _ _ _) (fun S186 H185=>∃ (G184:Hp) (v175:V),Ext G0 H0 G184 H185/\Same G160 G184/\S186=[some BU,some v3,some v10,some v18,some v81,v68,v83,v85,some v175]/\Rp.rel K G184 v175 (s172:(Option Nt))) (fun nx kn177=>?_) ?_
    ·refine Av (JE (AJ (K:=K) (ev_notN Jj (A6 r150))) (AJ (K:=K) (EK (Ax (m:=CG 60) (Eb (A6 r150))) AY))) h168 xt.gh fun G169 H170 x171=>?_;clear 1 x171 r150;have mk174:Same G160 G169:=x171.gg;have hm:=h173
     cases b167 with
     | true =>
      clear 3;clear 2 due_ h183;refine Ac (K:=K) (Dw (α:=Nt)) h183 xt.gh fun v178 G179 H180 x181 r182=>?_;clear 1 x181 3 mk174;cases hm;exact kn177 _ _ ⟨G179,v178,xt,mk174,rfl,r182⟩
     | false =>
      clear 4;cases hm;exact kn177 _ _ ⟨G169,v149,xt,mk174,rfl,r150⟩
    ·rintro _ H185 ⟨G184,v175,xt,mk174,rfl,r176⟩;clear 9 mk174 r7 r14 r82;clear 2 b187 h188;refine Av (AJ (K:=K) (HV Jj (A6 r176))) h188 xt.gh fun G189 H190 x191=>?_;clear 1 x191 r7 r14 r82 r176
     cases b187 with
     | true =>
      clear 3;clear 2 b194 h195;refine Av (F6 (Ig (K:=K) (Ax (m:=Ec) (A6 r82)))) h195 xt.gh fun G196 H197 x198=>?_;clear 1 x198 r7 r14
      cases b194 with
      | true =>
       clear 3;exact Aa (K:=K) (rest:=DC) (σ:=[some BU,some v3,some v10,some v18,some v81,v68,v83,v85,some v175]) GT hm xt.gh fun v199 G200 H201 x202 r203=>q v199 G200 H201 (xt.trans x202) r203
      | false =>
       clear 4;exact Aa (K:=K) (ev_eqN (Ax (m:=CI) (A6 r14)) (A6 r7)) hm xt.gh fun v207 G208 H209 x210 r211=>q v207 G208 H209 (xt.trans x210) r211
     | false =>
      clear 4;clear 2 b217 h218;refine Av (AJ (K:=K) (ev_neN (Ax (m:=CI) (By (A6 r82))) (Eb (A6 r176)))) h218 xt.gh fun G219 H220 x221=>?_;clear 1 x221 r7 r14
      cases b217 with
      | true =>
       clear 3;exact Aa (K:=K) (rest:=DC) (σ:=[some BU,some v3,some v10,some v18,some v81,v68,v83,v85,some v175]) GT hm xt.gh fun v222 G223 H224 x225 r226=>q v222 G223 H224 (xt.trans x225) r226
      | false =>
       clear 4;exact Aa (K:=K) (ev_eqN (Ax (m:=CI) (A6 r14)) (A6 r7)) hm xt.gh fun v230 G231 H232 x233 r234=>q v230 G231 H232 (xt.trans x233) r234
 ·clear 5
end
def Fj:List Nat:=List.range' 97 26
def one (c:Nat):Str:=⟨#[c]⟩
theorem Gb (c:Nat):(one c).length=1:=rfl
theorem Io:("abcdefghijklmnopqrstuvwxyz" : Str).cps.toList=Fj:=by decide +kernel
theorem Ls (x:Str):JX x=x.cps.toList.map one:=rfl
theorem one_inj {a b:Nat}(h:one a=one b):a=b:=by
 have:=congrArg (fun x:Str=>x.cps.toList) h
 simpa [one] using this
theorem LA (c:Nat)(x:Str):inS (one c) x=decide (c∈x.cps.toList):=by
 unfold inS one;exact StrLaws.found_one x c
theorem Hh {n i:Nat}{a:Int}(h:((List.range n).map fun (i:Nat)=>(0:Int)+(i:Int))[i]? = some a):i<n/\a=(i:Int):=by
 have hi:i<n:=by simpa using (qoA.mp h).1
 refine ⟨hi,?_⟩;simp [hi] at h;omega
theorem JW (n:Nat):((List.range n).map fun (i:Nat)=>(0:Int)+(i:Int)).length=n:=by rw [qdA,List.length_range]
theorem En (s:Scr)(k:Int)(h0:0<=k)(h1:k<=100){P:Int->Prop}(hp:∀ n,P n):OK (Bf s k) P:=by
 unfold Bf;simp only [qaB,AB,AO];refine Ad (fun h=>GI h0 (of_decide_eq_true h) fun x _=>hp x) fun _=>?_;refine Bb (P:=fun z:Int=>-(2 ^ 64)<z/\z<2 ^ 64) (Ad (fun h=>?_) fun _=>A8 (by omega)) fun z hz=>AM (ok_mul (.inl hz) (A8 (hp _)));have h:=of_decide_eq_true h;refine AM (JI h (AM (GI (qcB _ (by omega)) (qdB _ h) fun x _=>A8 ?_)));have a0:=qcB (x * 48271+k * 7919) (b:=2147483647) (by decide);have a1:=qdB (x * 48271+k * 7919) (b:=2147483647) (by decide);omega
open Builtin Builtin.Str in
theorem He (x y:Str)(c0:Nat)(r:List Nat)(hy:y.cps.toList=c0::r):∀ (ps:List Str) (a:Nat) (cuts:List Nat) (f:Nat),ps ≠ []->(∀ p∈ps,c0 ∉ p.cps.toList)->x.cps.toList.drop a=(Str.join y ps).cps.toList ->
  StrLaws.ChainG x y x.length a cuts f->(∀ k,f<=k->¬ StrLaws.At x y x.length k)->StrLaws.partsFrom x y.length a cuts=ps
 | [],_,_,_,h,_,_,_,_=>absurd rfl h
 | [p],a,cuts,f,_,hf,hd,hG,hn=>by
  have hL:x.cps.toList.length=x.length:=qnB;have hd:x.cps.toList.drop a=p.cps.toList:=hd
  have no:∀ k,a<=k->¬ StrLaws.At x y x.length k:=fun k hk hA=>by
   have e:=eq_of_beq ((StrLaws.subAt_eq x y k).symm.trans hA.2);rw [hy] at e;have hyl:y.length=(c0::r).length:=by rw [<- hy];exact qnB.symm
   have e2:x.cps.toList.drop k=p.cps.toList.drop (k - a):=by rw [<- hd,List.drop_drop];congr 1;omega
   have hm:c0∈p.cps.toList:=by
    have:c0∈(x.cps.toList.drop k).take y.length:=by rw [e];exact qkA
    rw [e2] at this;exact List.mem_of_mem_drop (List.mem_of_mem_take this)
   exact hf p qkA hm
  cases cuts with
  | cons c cs=>exact absurd hG.2.1 (no c hG.1)
  | nil =>
   show [strSub x a x.length]=[p]
   congr 1
   apply Str.ext';apply Array.toList_inj.mp;rw [StrLaws.strSub_toList,hd];refine List.take_of_length_le ?_;rw [<- hd,List.length_drop,hL];omega
 | p::q::ps,a,cuts,f,_,hf,hd,hG,hn=>by
  have hL:x.cps.toList.length=x.length:=qnB;have hyl:y.length=(c0::r).length:=by rw [<- hy];exact qnB.symm
  have hyp:1<=y.length:=by rw [hyl,qfA];omega
  have hpl:p.cps.toList.length=p.length:=qnB
  have hd:x.cps.toList.drop a=p.cps.toList++((c0::r)++(Str.join y (q::ps)).cps.toList):=by
   rw [hd];show (p++y++Str.join y (q::ps)).cps.toList=_;simp only [Str.cps_append,Array.toList_append,hy,qqA]
  have hlen:x.length - a=p.length+(y.length+(Str.join y (q::ps)).cps.toList.length):=by
   have:=congrArg List.length hd;rw [List.length_drop,hL,qeA,qeA,hpl,<- hyl] at this;exact this
  have hc:StrLaws.At x y x.length (a+p.length):=by
   refine ⟨by omega,?_⟩;rw [StrLaws.subAt_eq,<- List.drop_drop,hd,<- hpl,List.drop_left,hyl,List.take_left,<- hy];exact beq_self_eq_true _
  have no:∀ k,a<=k->k<a+p.length->¬ StrLaws.At x y x.length k:=fun k hk hk2 hA=>by
   have e:=eq_of_beq ((StrLaws.subAt_eq x y k).symm.trans hA.2)
   have e2:x.cps.toList.drop k=p.cps.toList.drop (k - a)++((c0::r)++(Str.join y (q::ps)).cps.toList):=by
    rw [<- List.drop_append_of_le_length (by rw [hpl];omega),<- hd,List.drop_drop]
    congr 1
    omega
   rw [hy,e2,hyl] at e
   cases hz:p.cps.toList.drop (k - a) with
   | nil =>
    have:=congrArg List.length hz;rw [List.length_drop,hpl,List.length_nil] at this;omega
   | cons z zs =>
    rw [hz,List.cons_append,qfA,List.take_succ_cons] at e;have e3:=(qmB e).1;subst e3;exact hf p qkA (List.mem_of_mem_drop (hz ▸ qkA))
  cases cuts with
  | nil =>
   have e:f=a:=hG;exact absurd hc (hn _ (by omega))
  | cons c cs =>
   obtain ⟨h1,h2,h3,h4⟩:=hG
   have ec:c=a+p.length:=by
    by_cases h:c<a+p.length
    ·exact absurd h2 (no c h1 h)
    ·by_cases h':a+p.length<c
     ·exact absurd hc (h3 _ (by omega) h')
     ·omega
   subst ec;show strSub x a (a+p.length)::StrLaws.partsFrom x y.length (a+p.length+y.length) cs=_;rw [He x y c0 r hy (q::ps) _ cs f (fun z=>nomatch z) (fun z hz=>hf z (qmA _ hz)) ?_ h4 hn]
   ·congr 1
    apply Str.ext';apply Array.toList_inj.mp;rw [StrLaws.strSub_toList,hd,Nat.add_sub_cancel_left,<- hpl,List.take_left]
   ·rw [<- List.drop_drop,<- List.drop_drop,hd,<- hpl,List.drop_left,hyl,List.drop_left]
open Builtin Builtin.Str in
theorem KU (y:Str)(c0:Nat)(r:List Nat)(hy:y.cps.toList=c0::r)(ps:List Str)(h0:ps ≠ [])(hf:∀ p∈ps,c0 ∉ p.cps.toList):Txt.split (Str.join y ps) y=ps:=by
 generalize hx:Str.join y ps=x;have hyl:y.length=(c0::r).length:=by rw [<- hy];exact qnB.symm
 obtain ⟨f,hG,hn⟩:=StrLaws.occ_tight x y (by rw [hyl,qfA];omega);have key:=He x y c0 r hy ps 0 _ f h0 hf (by rw [hx];rfl) hG hn
 have one:∀ {z:Bool},occurrences x y 0 x.length (x.length+1)=[]->[x]=ps:=fun e=>by
  rw [e] at key;rw [<- key];show [x]=[strSub x 0 x.length];rw [StrLaws.sub_whole]
 unfold Txt.split
 cases ho:occurrences x y 0 x.length (x.length+1) with
 | nil =>
  have o:=one (z:=true) ho;split
  ·exact o
  ·rw [if_pos (show ([]:List Nat).isEmpty=true from rfl)];exact o
 | cons c cs =>
  rw [ho] at hG;have hA:=hG.2.1
  have k1:¬ (decide (x.length<y.length) || decide (strKind x<strKind y))=true:=by
   rw [Bool.or_eq_true,decide_eq_true_eq,decide_eq_true_eq];rintro (h|h)
   ·have:=hA.1;omega
   ·have:=PySem.W.kind_le x y hA.2;omega
  rw [if_neg k1,if_neg (by simp),StrLaws.partsBetween_eq,<- ho];exact key
theorem M2 {y:Str}{c0:Nat}{r:List Nat}(hy:y.cps.toList=c0::r){ps:List Str}(h0:ps ≠ [])(hf:∀ p∈ps,c0 ∉ p.cps.toList)(hl:(Str.join y ps).length<=100000):Jn (Str.join y ps) y=some ps:=by
 have hs:sizeLine=16777216:=qzA;have hyl:y.length=(c0::r).length:=by rw [<- hy];exact qnB.symm
 have e:=KU y c0 r hy ps h0 hf;have l1:=split_le (Str.join y ps) y;unfold Jn;rw [e] at l1 ⊢;refine if_pos ⟨?_,by omega,?_,by omega,?_⟩
 ·rw [hyl,qfA];omega
 ·rw [len_partsBetween];have:=StrLaws.occ_length_le_len (Str.join y ps) y 0 (Str.join y ps).length ((Str.join y ps).length+1);omega
 ·refine List.all_eq_true.mpr fun z hz=>decide_eq_true ?_;have:=part_short (x:=Str.join y ps) (y:=y) (by rw [e];exact hz);omega
theorem LU (y a b:Str)(r:List Str):Str.join y (a::b::r)=a++y++Str.join y (b::r):=rfl
theorem Bc:(" " : Str).length=1:=by decide +kernel
theorem KZ:(" " : Str).cps.toList=32::[]:=by decide +kernel
theorem lt_sing (a b:Nat):decide ([a] < [b])=decide (a<b):=decide_eq_decide.mpr (sing_lt a b)
def W1:List Str:=["not","next","atlast","always","again","settles"]
def W2:List Str:=["and","until","or","then","frees"]
inductive Sx:Nt->Nat->Prop where
 | leaf {w:Str}:w = "yes" \/ w = "no" -> Sx (.tup [.txt w]) 1
 | lamp {c:Nat}:c∈Fj->Sx (.tup [.txt "lamp",.txt (one c)]) 1
 | one {w:Str}{a:Nt}{n:Nat}:w∈W1->Sx a n->Sx (.tup [.txt w,a]) (n+1)
 | two {w:Str}{a b:Nt}{n m:Nat}:w∈W2->Sx a n->Sx b m->Sx (.tup [.txt w,a,b]) (n+m+1)
theorem Sx.pos {a:Nt}{n:Nat}(h:Sx a n):1<=n:=by cases h<;>omega
theorem LQ:∀ w∈W1,Cf Bh w=some 1:=by decide +kernel
theorem La:∀ w∈W2,Cf Bh w=some 2:=by decide +kernel
theorem g_leaf:Cf Bh "yes" = some 0/\Cf Bh "no" = some 0:=by decide +kernel
theorem Ia:∀ w∈W1,w ≠ "lamp" := by decide +kernel
theorem JV:∀ w∈W2,w ≠ "lamp" := by decide +kernel
theorem nl_leaf:("yes" : Str) ≠ "lamp" /\ ("no" : Str) ≠ "lamp" := by decide +kernel
theorem Kp (x:D)(l:List D):atI (x::l) (0:Int)=some x:=CW (j:=0) rfl
theorem atd1 (x y:D)(l:List D):atI (x::y::l) (1:Int)=some y:=CW (j:=1) rfl
theorem GC {α:Type}(a:α)(l:List α):Jb (a::l) (some 1) none=some ⟨l⟩:=by
 have h1:HT.sIx (a::l).length 0 (some (1:Int))=1:=by
  unfold HT.sIx;simp
  try omega
 have h2:HT.sIx (a::l).length (a::l).length none=(a::l).length:=rfl;unfold Jb;rw [if_pos (by rw [h1];exact fun z=>absurd z.1 (by decide))];unfold cutA;rw [h1,h2];simp
theorem ID (l:List D):isK "tuple" (.tup l)=true:=id rfl
theorem LL (x:Str):isK "str" (.str x)=true:=id rfl
theorem ln0 (x:D)(r:List D):decide (((x::r).length:Int)=0)=false:=decide_eq_false (by rw [qfA];omega)
theorem D2 {w:Str}{k:Nat}{l:List D}(hw:w ≠ "lamp")(hg:Cf Bh w=some (k:Int)):AQ (.tup (.str w::l))=some (decide (l.length=k)):=by
 refine OK.eq ?_;unfold AQ;simp only [qaB,AB,AO,ID,F7,ln0,atD,Kp,LL,Bw,Bool.not_true,cond_false,decide_eq_false hw,hg,Option.isSome_some,cond_true];refine A8 ?_;refine decide_eq_decide.mpr ?_;rw [qfA];omega
theorem form_out {w:Str}{l:List D}(hw:w ≠ "lamp")(hg:Cf Bh w=none):AQ (.tup (.str w::l))=some false:=by
 refine OK.eq ?_;unfold AQ;simp only [qaB,AB,AO,ID,F7,ln0,atD,Kp,LL,Bw,Bool.not_true,cond_false,decide_eq_false hw,hg,Option.isSome_none];exact A8 rfl
theorem IE {d:D}(h:isK "tuple" d=false):AQ d=some false:=by
 refine OK.eq ?_;unfold AQ;simp only [qaB,AB,AO,h,Bool.not_false,cond_true];exact A8 rfl
theorem HR {x:D}{l:List D}(h:isK "str" x=false):AQ (.tup (x::l))=some false:=by
 refine OK.eq ?_;unfold AQ;simp only [qaB,AB,AO,ID,F7,ln0,atD,Kp,h,Bool.not_true,Bool.not_false,cond_false,cond_true];exact A8 rfl
theorem El {x:D}{b:Bool}(h:Az x=some b):AQ (.tup [.str "lamp",x])=some b:=by
 refine OK.eq ?_;unfold AQ;simp only [qaB,AB,AO,ID,F7,ln0,atD,Kp,atd1,LL,Bw,Bool.not_true,cond_false,decide_true,cond_true,h];exact ⟨_,rfl,rfl⟩
theorem Ke {l:List D}(h:l.length≠1):AQ (.tup (.str "lamp" :: l))=some false:=by
 refine OK.eq ?_;unfold AQ;simp only [qaB,AB,AO,ID,F7,ln0,atD,Kp,LL,Bw,Bool.not_true,cond_false,decide_true,cond_true];rw [decide_eq_false (by rw [qfA];omega)];exact A8 rfl
theorem IH {d:D}(h:isK "str" d=false):Az d=some false:=by
 refine OK.eq ?_;unfold Az Cc;simp only [qaB,AB,AO,h,Bool.not_false,cond_true,cond_false];exact A8 rfl
theorem Jx {x:D}{l:List D}:B5 (.tup (.str "lamp" :: l))=some ⟨[]⟩:=by
 refine OK.eq ?_;unfold B5;simp only [qaB,AB,AO,atD,Kp,Bw,decide_true,cond_true];exact A8 rfl
theorem CH {w:Str}{l:List D}(hw:w ≠ "lamp"):B5 (.tup (.str w::l))=some ⟨l⟩:=by
 refine OK.eq ?_;unfold B5;simp only [qaB,AB,AO,atD,Kp,Bw,Kf,decide_eq_false hw,cond_false,GC];exact A8 rfl
theorem Jk:∀ c∈Fj,Az (.str (one c))=some true:=by decide +kernel
inductive Tame:D->Prop where
 | no {d:D}:AQ d=some false->Tame d
 | yes {d:D}{ds:List D}:AQ d=some true->B5 d=some ⟨ds⟩->ds.length<=2->(∀ x∈ds,Tame x)->Tame d
inductive Bad:D->Prop where
 | here {d:D}:AQ d=some false->Bad d
 | part {d x:D}{ds:List D}:AQ d=some true->B5 d=some ⟨ds⟩->x∈ds->Bad x->Bad d
inductive Gd:D->Nat->Prop where
 | zero {d:D}:AQ d=some true->B5 d=some ⟨[]⟩->Gd d 1
 | one {d x:D}{n:Nat}:AQ d=some true->B5 d=some ⟨[x]⟩->Gd x n->Gd d (n+1)
 | two {d x y:D}{n m:Nat}:AQ d=some true->B5 d=some ⟨[x,y]⟩->Gd x n->Gd y m->Gd d (n+m+1)
theorem Gd.tame {d:D}{n:Nat}(h:Gd d n):Tame d:=by
 induction h with
 | zero h1 h2=>exact .yes h1 h2 (by simp) fun x hx=>by cases hx
 | one h1 h2 _ ih=>exact .yes h1 h2 (by simp) fun x hx=>by rw [qjA.mp hx];exact ih
 | two h1 h2 _ _ ih1 ih2 =>
  refine .yes h1 h2 (by simp) fun x hx=>?_;rcases qiA.mp hx with e|hx
  ·rw [e];exact ih1
  ·rw [qjA.mp hx];exact ih2
theorem Gd.pos {d:D}{n:Nat}(h:Gd d n):1<=n:=by cases h<;>omega
theorem toD_leaf (w:Str):(Nt.tup [.txt w]).toD = .tup [.str w]:=by simp only [Nt.toD,Nt.toDs]
theorem LK (w:Str)(a:Nt):(Nt.tup [.txt w,a]).toD = .tup [.str w,a.toD]:=by simp only [Nt.toD,Nt.toDs]
theorem toD_two (w:Str)(a b:Nt):(Nt.tup [.txt w,a,b]).toD = .tup [.str w,a.toD,b.toD]:=by simp only [Nt.toD,Nt.toDs]
theorem Sx.gd {S:Nt}{n:Nat}(h:Sx S n):Gd S.toD n:=by
 induction h with
 | @leaf w hw =>
  rw [toD_leaf];rcases hw with rfl|rfl
  ·exact .zero (D2 (k:=0) nl_leaf.1 g_leaf.1) (CH nl_leaf.1)
  ·exact .zero (D2 (k:=0) nl_leaf.2 g_leaf.2) (CH nl_leaf.2)
 | @lamp c hc =>
  rw [LK];simp only [Nt.toD];exact .zero (El (Jk c hc)) (Jx (x:=.non))
 | @one w a n hw _ ih =>
  rw [LK];exact .one (D2 (k:=1) (Ia w hw) (LQ w hw)) (CH (Ia w hw)) ih
 | @two w a b n m hw _ _ ih1 ih2 =>
  rw [toD_two];exact .two (D2 (k:=2) (JV w hw) (La w hw)) (CH (JV w hw)) ih1 ih2
inductive Gs:List D->Nat->Prop where
 | nil:Gs [] 0
 | cons {d:D}{ds:List D}{n m:Nat}:Gd d n->Gs ds m->Gs (d::ds) (n+m)
theorem Gs.app {l m:List D}{a b:Nat}(h:Gs l a)(g:Gs m b):Gs (l++m) (a+b):=by
 induction h with
 | nil=>rw [Nat.zero_add];exact g
 | cons h _ ih=>rw [List.cons_append,Nat.add_assoc];exact .cons h ih
theorem Gs.len {l:List D}{a:Nat}(h:Gs l a):l.length<=a:=by
 induction h with
 | nil=>exact qsA _
 | cons h _ ih=>have:=h.pos;rw [qfA];omega
theorem K8 {α:Type}{f:List α}{p:Nat}{x:α}(hx:f[p]? = some x)(ds:List α):(f++ds).drop (p+1)=f.drop (p+1)++ds:=by
 rw [List.drop_append_of_le_length];have:=(qoA.mp hx).1;omega
theorem Ks {α:Type}{f:List α}{p:Nat}{x:α}(hx:f[p]? = some x):f.drop p=x::f.drop (p+1):=by
 obtain ⟨h1,h2⟩:=qoA.mp hx;rw [List.drop_eq_getElem_cons h1,h2]
theorem F0 {d:D}{n:Nat}(h:Gd d n):B9 d=some (decide (n<=24)):=by
 have hz:sizeLine=16777216:=qzA;refine OK.eq ?_;unfold B9;simp only [qaB,AB,AO];refine AM (Jw (fun s:List D × Int=>∃ p r:Nat,s.2=(p:Int)/\p<=s.1.length/\p<=24/\Gs (s.1.drop p) r/\p+r=n) (fun _=>False) (fun b=>b=decide (n<=24)) (fun s=>100 - s.2.toNat) ⟨0,n,rfl,qsB _,qsB _,by have:=Gs.cons h .nil;simpa using this,by omega⟩ (by simp) ?_ (fun _ h=>h.elim) fun r hr=>A8 hr);rintro ⟨f,pl⟩ ⟨p,r,e1,h1,h2,h3,h4⟩;dsimp only at e1 h1 h3;subst e1;refine A8 ?_;have hlen:=h3.len;rw [List.length_drop] at hlen;by_cases hlt:(p:Int)<(f.length:Int)
 ·rw [decide_eq_true hlt,if_pos rfl];have hx:f[p]? = some f[p]:=qpA (by omega);have hat:atI f (p:Int)=some f[p]:=CW hx;rw [Ks hx] at h3;dsimp only;by_cases h24:(24:Int)<(f.length:Int)
  ·rw [decide_eq_true h24,cond_true,AB];refine Ad (fun _=>A8 ?_) fun h=>nomatch h;dsimp only;rw [decide_eq_false (by omega)]
  ·rw [decide_eq_false h24,cond_false,hat];simp only [AB]
   cases h3 with
   | @cons _ _ k m hg hs =>
    have fin:∀ (ds:List D) (k':Nat),AQ f[p]=some true->B5 f[p]=some ⟨ds⟩->Gs ds k'->k=k'+1->ds.length<=2->OK (((AQ f[p]).bind fun t41=>some (!t41)).bind fun b43=>cond b43 (some (Fl.rt false:Fl (List D × Int) Bool)) ((B5 f[p]).bind fun a61=>(extO f a61.l).bind fun z69=>some (Fl.nx (z69,(p:Int)+1)))) fun fl=>∃ s',fl=Fl.nx s'/\(∃ p r:Nat,s'.2=(p:Int)/\p<=s'.1.length/\p<=24/\Gs (s'.1.drop p) r/\p+r=n)/\100 - s'.2.toNat<100 - ((p:Int)).toNat:=fun ds k' q1 q2 q3 q4 q5=>by
     rw [q1,q2,AB,AB,AB];refine ok_bC _ (if_pos (by dsimp only;omega)) (A8 ⟨_,rfl,⟨p+1,m+k',by dsimp only;omega,?_,by omega,?_,by omega⟩,?_⟩)
     ·dsimp only;rw [qeA];omega
     ·dsimp only;rw [K8 hx];exact hs.app q3
     ·dsimp only;omega
    cases hg with
    | zero q1 q2=>exact (fin [] 0 q1 q2 .nil rfl (by simp)).mono fun fl ⟨s',e,h⟩=>by subst e;exact h
    | @one _ x k' q1 q2 q3=>exact (fin [x] k' q1 q2 (by have:=Gs.cons q3 .nil;simpa using this) rfl (by simp)).mono fun fl ⟨s',e,h⟩=>by subst e;exact h
    | @two _ x y k' k'' q1 q2 q3 q4=>exact (fin [x,y] (k'+k'') q1 q2 (by have:=Gs.cons q3 (Gs.cons q4 .nil);simpa using this) rfl (by simp)).mono fun fl ⟨s',e,h⟩=>by subst e;exact h
 ·rw [decide_eq_false hlt,if_neg qeB];refine A8 ?_;have e:f.drop p=[]:=List.drop_eq_nil_of_le (by omega);rw [e] at h3;cases h3;exact (decide_eq_true (by omega)).symm
theorem IZ {d:D}(ht:Tame d)(hb:Bad d):B9 d=some false:=by
 have hz:sizeLine=16777216:=qzA;refine OK.eq ?_;unfold B9;simp only [qaB,AB,AO];refine AM (Jw (fun s:List D × Int=>∃ p:Nat,s.2=(p:Int)/\p<=24/\(∀ x∈s.1,Tame x)/\∃ x∈s.1.drop p,Bad x) (fun _=>False) (fun b=>b=false) (fun s=>100 - s.2.toNat) ⟨0,rfl,qsB _,fun x hx=>by rw [qjA.mp hx];exact ht,d,by simp,hb⟩ (by simp) ?_ (fun _ h=>h.elim) fun r hr=>A8 hr);rintro ⟨f,pl⟩ ⟨p,e1,h2,hT,x,hx,hbx⟩;dsimp only at e1 hT hx;subst e1;refine A8 ?_
 have hlt:p<f.length:=by
  have:=List.length_pos_of_mem hx;rw [List.length_drop] at this;omega
 dsimp only;rw [show decide ((p:Int)<(f.length:Int))=true from decide_eq_true (by omega),if_pos rfl];have hp:f[p]? = some f[p]:=qpA hlt;have hat:atI f (p:Int)=some f[p]:=CW hp;rw [Ks hp] at hx;by_cases h24:(24:Int)<(f.length:Int)
 ·rw [decide_eq_true h24,cond_true,AB];exact Ad (fun _=>A8 rfl) fun h=>nomatch h
 ·rw [decide_eq_false h24,cond_false,hat];simp only [AB]
  cases hT f[p] (List.getElem_mem hlt) with
  | no q =>
   rw [q,AB,AB];exact Ad (fun _=>A8 rfl) fun h=>nomatch h
  | @yes _ ds q1 q2 q3 q4 =>
   rw [q1,q2,AB,AB,AB];refine Ad (fun h=>nomatch h) fun _=>ok_bC _ (if_pos (by dsimp only;omega)) (A8 ⟨⟨p+1,by dsimp only;omega,by omega,fun y hy=>?_,?_⟩,by dsimp only;omega⟩)
   ·rcases qhA.mp hy with hy|hy
    ·exact hT y hy
    ·exact q4 y hy
   ·dsimp only;rw [K8 hp];rcases qiA.mp hx with e|hx
    ·subst e
     cases hbx with
     | here q=>rw [q1] at q;cases q
     | @part _ y ds' r1 r2 r3 r4 =>
      rw [q2] at r2;cases r2;exact ⟨y,qrB _ r3,r4⟩
    ·exact ⟨x,List.mem_append_left _ hx,hbx⟩
theorem FY (w:Str):isK "str" (.str w)=true:=id rfl
theorem K3 (w:Str):OK (Az (.str w)) fun b=>b=true->∃ c∈Fj,w=one c:=by
 unfold Az;simp only [qaB,AB,AO];have a1:("a" : Str).cps.toList=[97]:=by decide +kernel
 have z1:("z" : Str).cps.toList=[122]:=by decide +kernel
 refine Bb (P:=fun b=>b=true->∀ c∈w.cps.toList,97<=c/\c<=122) ?_ fun b hb=>?_
 ·unfold Cc;simp only [qaB,AB,AO,FY,Bool.not_true,cond_false,iterD];rw [Ls];refine AM (Ft (fun i (_:Str)=>∀ j c,j<i->w.cps.toList[j]? = some c->97<=c/\c<=122) (fun _=>False) (fun r=>r=false) (fun j c hj=>absurd hj (Nat.not_lt_zero _)) (fun i a s ha hI=>?_) (fun s hI=>?_) (fun _ h=>h.elim) fun r hr=>A8 fun h=>?_)
  ·rw [List.getElem?_map,List.getElem?_map] at ha;obtain ⟨x,hx,rfl⟩:=Option.map_eq_some_iff.mp ha;obtain ⟨c,hc,rfl⟩:=Option.map_eq_some_iff.mp hx;simp only [Bw,AB,a1,z1,show (one c).cps.toList=[c] from rfl,lt_sing];refine Bb (P:=fun b=>b=false->97<=c/\c<=122) (Ad (fun _=>A8 fun z=>nomatch z) fun h1=>Ad (fun _=>A8 fun z=>nomatch z) fun h2=>A8 fun _=>?_) fun b hb=>Ad (fun _=>A8 rfl) fun h=>A8 fun j d hj hd=>?_
   ·have:=of_decide_eq_false h1;have:=of_decide_eq_false h2;omega
   ·by_cases e:j=i
    ·subst e;obtain rfl:c=d:=qvA (hc.symm.trans hd);exact hb h
    ·exact hI j d (by omega) hd
  ·refine A8 fun _ c hc=>?_;obtain ⟨j,hj,e⟩:=List.getElem_of_mem hc;exact hI j c (by rw [qdA,qdA];exact hj) (by rw [qpA hj,e])
  ·rw [hr] at h;cases h
 ·refine Ad (fun h=>?_) fun _=>A8 fun z=>nomatch z;simp only [F7,AB];refine A8 fun h2=>?_;have h2:=of_decide_eq_true h2;have hl:w.cps.toList.length=1:=by rw [qnB];show w.length=1;omega
  obtain ⟨c,hc⟩:=List.length_eq_one_iff.mp hl;refine ⟨c,?_,?_⟩
  ·have:=hb h c (by rw [hc];exact qjA.mpr rfl);unfold Fj;exact List.mem_range'_1.mpr ⟨this.1,by omega⟩
  ·apply Str.ext';apply Array.toList_inj.mp;rw [hc]
   rfl
theorem Kh (w:Str):w = "yes" \/ w = "no" \/ w∈W1\/w∈W2\/Cf Bh w=none:=by
 by_cases h:w∈(["yes","no","not","next","atlast","always","again","settles","and","or","then","until","frees"]:List Str)
 ·simp only [qiA,qpB,or_false] at h;rcases h with rfl|rfl|rfl|rfl|rfl|rfl|rfl|rfl|rfl|rfl|rfl|rfl|rfl
  ·exact .inl rfl
  ·exact .inr (.inl rfl)
  ·exact .inr (.inr (.inl (by decide +kernel)))
  ·exact .inr (.inr (.inl (by decide +kernel)))
  ·exact .inr (.inr (.inl (by decide +kernel)))
  ·exact .inr (.inr (.inl (by decide +kernel)))
  ·exact .inr (.inr (.inl (by decide +kernel)))
  ·exact .inr (.inr (.inl (by decide +kernel)))
  ·exact .inr (.inr (.inr (.inl (by decide +kernel))))
  ·exact .inr (.inr (.inr (.inl (by decide +kernel))))
  ·exact .inr (.inr (.inr (.inl (by decide +kernel))))
  ·exact .inr (.inr (.inr (.inl (by decide +kernel))))
  ·exact .inr (.inr (.inr (.inl (by decide +kernel))))
 ·refine .inr (.inr (.inr (.inr ?_)));simp only [qiA,qpB,or_false,not_or] at h;obtain ⟨n1,n2,n3,n4,n5,n6,n7,n8,n9,n10,n11,n12,n13⟩:=h;simp only [Bh,Cf,decide_eq_false (Ne.symm n1),decide_eq_false (Ne.symm n2),decide_eq_false (Ne.symm n3),decide_eq_false (Ne.symm n4),decide_eq_false (Ne.symm n5),decide_eq_false (Ne.symm n6),decide_eq_false (Ne.symm n7),decide_eq_false (Ne.symm n8),decide_eq_false (Ne.symm n9),decide_eq_false (Ne.symm n10),decide_eq_false (Ne.symm n11),decide_eq_false (Ne.symm n12),decide_eq_false (Ne.symm n13),cond_false]
def Dich (x:Nt):Prop:=Tame x.toD/\((∃ n,Sx x n)\/Bad x.toD)
theorem C8 {x:Nt}(h:AQ x.toD=some false):Dich x:=⟨.no h,.inr (.here h)⟩
theorem JZ:∀ l:List Nt,(Nt.toDs l).length=l.length
 | []=>rfl
 | a::l=>by simp only [Nt.toDs,qfA,JZ l]
theorem dich_tup (l:List Nt)(ih:∀ y∈l,Dich y):Dich (.tup l):=by
 have e0:(Nt.tup l).toD = .tup (Nt.toDs l):=by simp only [Nt.toD]
 cases l with
 | nil =>
  refine C8 ?_;rw [e0];exact OK.eq (by unfold AQ;simp only [qaB,AB,AO,ID,F7,Nt.toDs,Bool.not_true,cond_false];exact A8 rfl)
 | cons a r =>
  cases a with
  | int i=>refine C8 ?_;rw [e0];simp only [Nt.toDs,Nt.toD];exact HR (by simp [isK,dk])
  | tup m=>refine C8 ?_;rw [e0];simp only [Nt.toDs,Nt.toD];exact HR (by simp [isK,dk])
  | txt w =>
   have e1:(Nt.tup (.txt w::r)).toD = .tup (.str w::Nt.toDs r):=by simp only [Nt.toD,Nt.toDs]
   have hl:=JZ r;by_cases hw:w = "lamp"
   ·subst hw;by_cases hr:r.length=1
    ·obtain ⟨y,rfl⟩:=List.length_eq_one_iff.mp hr;have e2:Nt.toDs [y]=[y.toD]:=by simp only [Nt.toDs]
     rw [e2] at e1
     cases y with
     | int i =>
      refine C8 ?_;rw [e1];exact El (IH (by simp [Nt.toD,isK,dk]))
     | tup m =>
      refine C8 ?_;rw [e1];exact El (IH (by simp [Nt.toD,isK,dk]))
     | txt v =>
      obtain ⟨b,hb,hv⟩:=K3 v;have e3:(Nt.txt v).toD = .str v:=by simp only [Nt.toD]
      rw [e3] at e1
      cases b with
      | false=>exact C8 (by rw [e1];exact El hb)
      | true =>
       obtain ⟨c,hc,rfl⟩:=hv rfl;exact ⟨(Sx.lamp hc).gd.tame,.inl ⟨1,.lamp hc⟩⟩
    ·exact C8 (by rw [e1];exact Ke (by rw [hl];exact hr))
   ·rcases Kh w with h|h|h|h|h
    ·by_cases hr:r.length=0
     ·obtain rfl:=List.length_eq_zero_iff.mp hr;exact ⟨(Sx.leaf (.inl h)).gd.tame,.inl ⟨1,.leaf (.inl h)⟩⟩
     ·exact C8 (by rw [e1,D2 (k:=0) hw (by rw [h];exact g_leaf.1),decide_eq_false (by rw [hl];exact hr)])
    ·by_cases hr:r.length=0
     ·obtain rfl:=List.length_eq_zero_iff.mp hr;exact ⟨(Sx.leaf (.inr h)).gd.tame,.inl ⟨1,.leaf (.inr h)⟩⟩
     ·exact C8 (by rw [e1,D2 (k:=0) hw (by rw [h];exact g_leaf.2),decide_eq_false (by rw [hl];exact hr)])
    ·by_cases hr:r.length=1
     ·obtain ⟨y,rfl⟩:=List.length_eq_one_iff.mp hr;have e2:Nt.toDs [y]=[y.toD]:=by simp only [Nt.toDs]
      rw [e2] at e1;have hf:AQ (.tup [.str w,y.toD])=some true:=D2 (k:=1) hw (LQ w h);have hp:=CH (l:=[y.toD]) hw;obtain ⟨ty,hy⟩:=ih y (qmA _ qkA);refine ⟨by rw [e1];exact .yes hf hp (by simp) fun z hz=>by rw [qjA.mp hz];exact ty,?_⟩;rcases hy with ⟨n,hy⟩|hy
      ·exact .inl ⟨_,.one h hy⟩
      ·exact .inr (by rw [e1];exact .part hf hp qkA hy)
     ·exact C8 (by rw [e1,D2 (k:=1) hw (LQ w h),decide_eq_false (by rw [hl];exact hr)])
    ·by_cases hr:r.length=2
     ·obtain ⟨y,z,rfl⟩:∃ y z,r=[y,z]:=by
       match r,hr with
       | [y,z],_=>exact ⟨y,z,rfl⟩
      have e2:Nt.toDs [y,z]=[y.toD,z.toD]:=by simp only [Nt.toDs]
      rw [e2] at e1;have hf:AQ (.tup [.str w,y.toD,z.toD])=some true:=D2 (k:=2) hw (La w h);have hp:=CH (l:=[y.toD,z.toD]) hw;obtain ⟨ty,hy⟩:=ih y (qmA _ qkA);obtain ⟨tz,hz⟩:=ih z (qmA _ (qmA _ qkA))
      have tt:∀ q∈[y.toD,z.toD],Tame q:=fun q hq=>by
       rcases qiA.mp hq with rfl|hq
       ·exact ty
       ·rw [qjA.mp hq];exact tz
      refine ⟨by rw [e1];exact .yes hf hp (by simp) tt,?_⟩;rcases hy with ⟨n,hy⟩|hy
      ·rcases hz with ⟨m,hz⟩|hz
       ·exact .inl ⟨_,.two h hy hz⟩
       ·exact .inr (by rw [e1];exact .part hf hp (qmA _ qkA) hz)
      ·exact .inr (by rw [e1];exact .part hf hp qkA hy)
     ·exact C8 (by rw [e1,D2 (k:=2) hw (La w h),decide_eq_false (by rw [hl];exact hr)])
    ·exact C8 (by rw [e1];exact form_out hw h)
mutual
theorem dich:∀ x:Nt,Dich x
 | .txt w=>C8 (IE (by simp [Nt.toD,isK,dk]))
 | .int i=>C8 (IE (by simp [Nt.toD,isK,dk]))
 | .tup l=>dich_tup l (dichs l)
theorem dichs:∀ (l:List Nt),∀ y∈l,Dich y
 | [],y,h=>by cases h
 | a::l,y,h=>by
  rcases qiA.mp h with e|h
  ·rw [e];exact dich a
  ·exact dichs l y h
end
theorem IX (x:Nt):OK (B9 (ToD.to x)) fun b=>b=true->∃ n,Sx x n/\n<=24:=by
 obtain ⟨ht,hs⟩:=dich x;rcases hs with ⟨n,hs⟩|hs
 ·exact OK.of (F0 hs.gd) fun h=>⟨n,hs,of_decide_eq_true h⟩
 ·exact OK.of (IZ ht hs) fun h=>nomatch h
inductive Wr:Nt->Nat->Str->Prop where
 | leaf {w:Str}:w = "yes" \/ w = "no" -> Wr (.tup [.txt w]) 1 w
 | lamp {c:Nat}:c∈Fj->Wr (.tup [.txt "lamp",.txt (one c)]) 1 (one c)
 | one {w:Str}{a:Nt}{n:Nat}{t:Str}:w∈W1->Wr a n t->Wr (.tup [.txt w,a]) (n+1) (w ++ " " ++ t)
 | two {w:Str}{a b:Nt}{n m:Nat}{t u:Str}:w∈W2->Wr a n t->Wr b m u->Wr (.tup [.txt w,a,b]) (n+m+1) ("(" ++ t ++ " " ++ w ++ " " ++ u ++ ")")
theorem Wr.sx {x:Nt}{n:Nat}{t:Str}(h:Wr x n t):Sx x n:=by
 induction h with
 | leaf h=>exact .leaf h
 | lamp h=>exact .lamp h
 | one h _ ih=>exact .one h ih
 | two h _ _ ih1 ih2=>exact .two h ih1 ih2
theorem Sx.wr {x:Nt}{n:Nat}(h:Sx x n):∃ t,Wr x n t:=by
 induction h with
 | leaf h=>exact ⟨_,.leaf h⟩
 | lamp h=>exact ⟨_,.lamp h⟩
 | one h _ ih=>obtain ⟨t,ih⟩:=ih;exact ⟨_,.one h ih⟩
 | two h _ _ ih1 ih2=>obtain ⟨t,ih1⟩:=ih1;obtain ⟨u,ih2⟩:=ih2;exact ⟨_,.two h ih1 ih2⟩
theorem Wr.pos {x:Nt}{n:Nat}{t:Str}(h:Wr x n t):1<=n:=h.sx.pos
theorem at0 (w:Str)(l:List Nt):atI (Nt.txt w::l) (0:Int)=some (Nt.txt w):=CW (j:=0) rfl
theorem at1 (x y:Nt)(l:List Nt):atI (x::y::l) (1:Int)=some y:=CW (j:=1) rfl
theorem at2 (x y z:Nt)(l:List Nt):atI (x::y::z::l) (2:Int)=some z:=CW (j:=2) rfl
theorem Hg (x z:Str)(c:Nat):(Txt.replace x ⟨#[c]⟩ z).cps.toList=x.cps.toList.flatMap fun d=>if d=c then z.cps.toList else [d]:=by
 have key:∀ ps:List Str,(∀ p∈ps,c ∉ p.cps.toList)->(Str.join z ps).cps.toList=(Str.join ⟨#[c]⟩ ps).cps.toList.flatMap fun d=>if d=c then z.cps.toList else [d]:=by
  have free:∀ l:List Nat,c ∉ l->(l.flatMap fun d=>if d=c then z.cps.toList else [d])=l:=fun l h=>by
   induction l with
   | nil=>rfl
   | cons a l ih =>
    rw [List.flatMap_cons,if_neg (fun (e:a=c)=>h (e ▸ qkA)),ih fun e=>h (qmA _ e)]
    rfl
  intro ps
  induction ps with
  | nil=>intro _;rfl
  | cons p ps ih =>
   intro h
   cases ps with
   | nil=>exact (free _ (h p qkA)).symm
   | cons q ps =>
    rw [LU,LU];simp only [Str.cps_append,Array.toList_append,List.flatMap_append];rw [ih fun r hr=>h r (qmA _ hr),free _ (h p qkA)]
    congr 2
    show z.cps.toList=List.flatMap _ [c];rw [List.flatMap_cons,if_pos rfl,List.flatMap_nil,qrA]
 rw [StrLaws.replace_one,key _ (StrLaws.split_free x c),StrLaws.join_split]
def R (l:List Nat):List Nat:=(l.flatMap fun d=>if d=40 then [40,32] else [d]).flatMap fun d=>if d=41 then [32,41] else [d]
theorem LR (a b:List Nat):R (a++b)=R a++R b:=by
 unfold R;rw [List.flatMap_append,List.flatMap_append]
theorem Ih:∀ {l:List Nat},40 ∉ l->41 ∉ l->R l=l
 | [],_,_=>rfl
 | a::l,h,g=>by
  rw [show a::l=[a]++l from rfl,LR,Ih (fun e=>h (qmA _ e)) fun e=>g (qmA _ e)]
  congr 1
  unfold R;rw [List.flatMap_cons,if_neg (fun (e:a=40)=>h (e ▸ qkA)),List.flatMap_nil,qrA,List.flatMap_cons,if_neg (fun (e:a=41)=>g (e ▸ qkA)),List.flatMap_nil,qrA]
theorem R_len:∀ l:List Nat,(R l).length<=2 * l.length
 | []=>qsA _
 | a::l=>by
  rw [show a::l=[a]++l from rfl,LR,qeA,qeA];have:=R_len l
  have h1:(R [a]).length<=2:=by
   unfold R;by_cases h:a=40
   ·subst h;decide
   ·by_cases g:a=41
    ·subst g;decide
    ·rw [List.flatMap_cons,if_neg h,List.flatMap_nil,qrA,List.flatMap_cons,if_neg g,List.flatMap_nil,qrA];exact Nat.le_succ 1
  have h2:[a].length=1:=rfl;omega
theorem Ds (y:Str):∀ {a b:List Str},a ≠ []->b ≠ []->Str.join y (a++b)=Str.join y a++y++Str.join y b
 | [],_,h,_=>absurd rfl h
 | [p],[],_,h=>absurd rfl h
 | [p],q::b,_,_=>rfl
 | p::q::a,b,_,h=>by
  show Str.join y (p::q::(a++b))=_;rw [LU,LU];have:=Ds y (a:=q::a) (b:=b) (fun z=>nomatch z) h;rw [show q::(a++b)=(q::a)++b from rfl,this];apply Str.ext';simp only [Str.cps_append,Array.append_assoc]
def Wk (w:Str):Prop:=32 ∉ w.cps.toList/\w.length<=8
def Wf (w:Str):Prop:=Wk w/\40 ∉ w.cps.toList/\41 ∉ w.cps.toList
instance (w:Str):Decidable (Wf w):=inferInstanceAs (Decidable ((_/\_)/\_/\_))
theorem wf1:∀ w∈W1,Wf w:=by decide +kernel
theorem wf2:∀ w∈W2,Wf w:=by decide +kernel
theorem wf_abc:∀ c∈Fj,Wf (one c):=by decide +kernel
theorem wf_yes:Wf "yes" := by decide +kernel
theorem wf_no:Wf "no" := by decide +kernel
theorem mp_abc:∀ c∈Fj,Cf Bh (one c)=none:=by decide +kernel
theorem lamp2:∀ w∈W2,Az (.str w)=some false:=by decide +kernel
theorem lampC:Az (.str ")")=some false:=by decide +kernel
theorem mpC:Cf Bh ")" = none:=by decide +kernel
theorem LY:∀ w∈W1++W2,w ≠ "(" := by decide +kernel
theorem Jv:∀ c∈Fj,one c ≠ "(" := by decide +kernel
theorem Js:∀ (l:List Nt) (a:Nt),Fv (l++[a])=some (a,l)
 | [],a=>rfl
 | [b],a=>rfl
 | b::c::l,a=>by
  show (Fv ((c::l)++[a])).bind _=_;rw [Js (c::l) a]
  rfl
theorem Dr (l:List Nt)(a:Nt):AW (l++[a]) ()=some (.ok (l,a)):=by
 unfold AW;rw [Js]
theorem Eo (l:List Nt)(a:Nt)(h:l.length<=1000000):Da l a=some (l++[a]):=by
 have hs:sizeLine=16777216:=qzA;exact if_pos (by omega)
theorem lay_open (s:List Nt)(c b w a:Nt)(h:s.length<=1000000):Ae (s++[c]++[b]++[w]++[a]) "(" = some (.ok (s++[.tup [w,a,b]])):=by
 unfold Ae;rw [AB,decide_eq_true rfl,cond_true,Dr,AB];show (AW (s++[c]++[b]++[w]) ()).bind _=_;rw [Dr,AB];show (AW (s++[c]++[b]) ()).bind _=_;rw [Dr,AB];show (AW (s++[c]) ()).bind _=_;rw [Dr,AB];show (Da s (Nt.tup [w,a,b])).bind _=_;rw [Eo s _ h]
 rfl
theorem lay_one (s:List Nt)(a:Nt){w:Str}(hw:w∈W1)(h:s.length<=1000000):Ae (s++[a]) w=some (.ok (s++[.tup [.txt w,a]])):=by
 unfold Ae BN;rw [AB,decide_eq_false (LY w (List.mem_append_left _ hw)),cond_false];simp only [AB,LQ w hw,decide_true,cond_true,Dr,Eo s _ h]
theorem Jp (s:List Nt){w:Str}(hg:Cf Bh w=some 0)(hw:w ≠ "(")(h:s.length<=1000000):Ae s w=some (.ok (s++[.tup [.txt w]])):=by
 unfold Ae BN;rw [AB,decide_eq_false hw,cond_false];simp only [AB,hg,decide_true,cond_true,Eo s _ h]
 rfl
theorem lay_lamp (s:List Nt){w:Str}(hg:Cf Bh w=none)(hw:w ≠ "(")(hl:Az (.str w)=some true)(h:s.length<=1000000):Ae s w=some (.ok (s++[.tup [.txt "lamp",.txt w]])):=by
 have hl:Az (ToD.to w)=some true:=hl;unfold Ae BN;rw [AB,decide_eq_false hw,cond_false];simp only [AB,hg,hl,Eo s _ h]
 rfl
theorem II (s:List Nt){w:Str}{o:Option Int}(hg:Cf Bh w=o)(h0:o≠some 0)(h1:o≠some 1)(hw:w ≠ "(")(hl:Az (.str w)=some false)(h:s.length<=1000000):Ae s w=some (.ok (s++[.txt w])):=by
 have hl:Az (ToD.to w)=some false:=hl;unfold Ae BN;rw [AB,decide_eq_false hw,cond_false];simp only [AB,hg,hl,decide_eq_false h0,decide_eq_false h1,Eo s _ h,cond_false]
theorem lf_eq {w:Str}{s s':List Nt}(h:Ae s w=some (.ok s')):lfx w s=some (.nx s'):=by
 unfold lfx;rw [h]
 rfl
theorem lf_nb (a:Str)(s t:List Nt):lfx a s≠some (.bk t):=fun e=>by
 unfold lfx at e;obtain ⟨z,_,e⟩:=qaA.mp e;cases z<;>cases e
theorem Fh {α S ρ:Type}{f:α->S->Option (Fl S ρ)}(nb:∀ a s t,f a s≠some (.bk t)):∀ {as bs:List α}{s s':S},Bt f as s=some (.nx s')->Bt f (as++bs) s=Bt f bs s'
 | [],bs,s,s',h=>by
  have:Fl.nx s=(Fl.nx s':Fl S ρ):=qvA h;cases this
  rfl
 | a::as,bs,s,s',h=>by
  obtain ⟨fl,hf,h⟩:=qaA.mp h;show (f a s).bind _=_;rw [hf,AB]
  cases fl with
  | nx t=>exact Fh nb (as:=as) (bs:=bs) (s:=t) (s':=s') h
  | bk t=>exact absurd hf (nb _ _ _)
  | rt r=>cases h
theorem CZ {w:Str}{s s':List Nt}{bs:List Str}(h:Ae s w=some (.ok s')):Bt lfx (w::bs) s=Bt lfx bs s':=by
 show (lfx w s).bind _=_;rw [lf_eq h]
 rfl
structure Tx (x:Nt)(n:Nat)(t:Str)(ks:List Str):Prop where
 sh:∀ k,n<=k->AN k x=some t
 rp:R t.cps.toList=(Str.join " " ks).cps.toList
 ne:ks ≠ []
 wk:∀ w∈ks,Wk w
 kl:ks.length<=4 * n
 tl:t.length<=12 * n
 rd:∀ s:List Nt,s.length+4 * n<=1000000->Bt lfx ks.reverse s=some (.nx (s++[x]))
theorem sp_R:R (" " : Str).cps.toList=[32]:=by decide +kernel
theorem op_R:R ("(" : Str).cps.toList=[40,32]:=by decide +kernel
theorem cl_R:R (")" : Str).cps.toList=[32,41]:=by decide +kernel
theorem op_c:("(" : Str).cps.toList=[40]:=by decide +kernel
theorem cl_c:(")" : Str).cps.toList=[41]:=by decide +kernel
theorem Gk:("(" : Str).length=1:=by decide +kernel
theorem MD:(")" : Str).length=1:=by decide +kernel
theorem wk_op:Wk "(" := by unfold Wk;decide +kernel
theorem wk_cl:Wk ")" := by unfold Wk;decide +kernel
theorem IL {w:Str}(hw:w ≠ "lamp")(k:Nat)(hk:1<=k):AN k (.tup [.txt w])=some w:=by
 obtain ⟨m,rfl⟩:∃ m,k=m+1:=⟨k - 1,by omega⟩;show AZ (AN m) _=_;unfold AZ;simp only [qaB,AB,AO,C1,at0,DZ,decide_eq_false hw,cond_false]
 rfl
theorem Lr (w:Str)(k:Nat)(hk:1<=k):AN k (.tup [.txt "lamp",.txt w])=some w:=by
 obtain ⟨m,rfl⟩:∃ m,k=m+1:=⟨k - 1,by omega⟩;show AZ (AN m) _=_;unfold AZ;simp only [qaB,AB,AO,C1,at0,at1,DZ,decide_true,cond_true]
theorem DN {a b:Str}(h:a.length+b.length<=100000):C4 a b=some (a++b):=by
 have hs:sizeLine=16777216:=qzA;exact if_pos (by omega)
theorem show_one {w:Str}{a:Nt}{t:Str}(hw:w ≠ "lamp")(k:Nat)(h:AN k a=some t)(hl:w.length<=8)(ht:t.length<=1000):AN (k+1) (.tup [.txt w,a])=some (w ++ " " ++ t):=by
 show AZ (AN k) _=_;unfold AZ;simp only [qaB,AB,AO,C1,at0,at1,DZ,decide_eq_false hw,cond_false];have e1:decide ((([Nt.txt w,a]:List Nt).length:Int)=1)=false:=rfl;have e2:decide ((([Nt.txt w,a]:List Nt).length:Int)=2)=true:=rfl;rw [e1,e2];simp only [cond_false,cond_true,DN (a:=w) (b := " ") (by rw [Bc];omega),AB,h];exact DN (by rw [Str.length_append,Bc];omega)
theorem show_two {w:Str}{a b:Nt}{t u:Str}(hw:w ≠ "lamp")(k:Nat)(h:AN k a=some t)(h':AN k b=some u)(hl:w.length<=8)(ht:t.length<=1000)(hu:u.length<=1000) :
  AN (k+1) (.tup [.txt w,a,b])=some ("(" ++ t ++ " " ++ w ++ " " ++ u ++ ")"):=by
 show AZ (AN k) _=_;unfold AZ;simp only [qaB,AB,AO,C1,at0,at1,at2,DZ,decide_eq_false hw,cond_false];have e1:decide ((([Nt.txt w,a,b]:List Nt).length:Int)=1)=false:=rfl;have e2:decide ((([Nt.txt w,a,b]:List Nt).length:Int)=2)=false:=rfl;rw [e1,e2];simp only [cond_false,h,h',AB,DN (a := "(") (b:=t) (by rw [Gk];omega)];rw [DN (by simp only [Str.length_append,Bc,Gk];omega),AB,DN (by simp only [Str.length_append,Bc,Gk];omega),AB,DN (by simp only [Str.length_append,Bc,Gk];omega),AB,DN (by simp only [Str.length_append,Bc,Gk];omega),AB];exact DN (by simp only [Str.length_append,Bc,Gk,MD];omega)
theorem text_of {x:Nt}{n:Nat}{t:Str}(h:Wr x n t)(hn:n<=24):∃ ks,Tx x n t ks:=by
 induction h with
 | @leaf w hw =>
  rcases hw with rfl|rfl
  ·exact ⟨["yes"],fun k hk=>IL (by decide +kernel) k hk,by decide +kernel,(fun z=>nomatch z),fun w hw=>by rw [qjA.mp hw];exact wf_yes.1,by decide,by decide +kernel,fun s hs=>CZ (Jp s g_leaf.1 (by decide +kernel) (by omega))⟩
  ·exact ⟨["no"],fun k hk=>IL (by decide +kernel) k hk,by decide +kernel,(fun z=>nomatch z),fun w hw=>by rw [qjA.mp hw];exact wf_no.1,by decide,by decide +kernel,fun s hs=>CZ (Jp s g_leaf.2 (by decide +kernel) (by omega))⟩
 | @lamp c hc =>
  have wc:=wf_abc c hc;exact ⟨[one c],fun k hk=>Lr _ k hk,Ih wc.2.1 wc.2.2,(fun z=>nomatch z),fun w hw=>by rw [qjA.mp hw];exact wc.1,(show 1<=4 * 1 by decide),by rw [Gb];decide,fun s hs=>CZ (lay_lamp s (mp_abc c hc) (Jv c hc) (Jk c hc) (by omega))⟩
 | @one w a n t hw hi ih =>
  obtain ⟨ks,T⟩:=ih (by omega);have ww:=wf1 w hw;have tl:=T.tl;refine ⟨w::ks,fun k hk=>?_,?_,(fun z=>nomatch z),fun v hv=>?_,?_,?_,fun s hs=>?_⟩
  ·obtain ⟨m,rfl⟩:∃ m,k=m+1:=⟨k - 1,by omega⟩;exact show_one (Ia w hw) m (T.sh m (by omega)) ww.1.2 (by omega)
  ·simp only [Str.cps_append,Array.toList_append,LR,Ih ww.2.1 ww.2.2,T.rp,sp_R];rw [show w::ks=[w]++ks from rfl,Ds " " (List.cons_ne_nil _ _) T.ne];simp only [Str.cps_append,Array.toList_append,KZ]
   rfl
  ·rcases qiA.mp hv with rfl|hv
   ·exact ww.1
   ·exact T.wk v hv
  ·have:=T.kl;rw [qfA];omega
  ·have:=ww.1.2;rw [Str.length_append,Str.length_append,Bc];omega
  ·rw [List.reverse_cons,Fh lf_nb (T.rd s (by omega)),CZ (lay_one s a hw (by omega))]
   rfl
 | @two w a b n m t u hw ha hb ih1 ih2 =>
  obtain ⟨ks,T⟩:=ih1 (by omega);obtain ⟨js,U⟩:=ih2 (by omega);have ww:=wf2 w hw;have tl:=T.tl;have ul:=U.tl;have tk:=T.kl;have uk:=U.kl;have pn:=ha.pos;have pm:=hb.pos;refine ⟨[("(" : Str)]++(ks++([w]++(js++[(")" : Str)]))),fun k hk=>?_,?_,(List.cons_ne_nil _ _),fun v hv=>?_,?_,?_,fun s hs=>?_⟩
  ·obtain ⟨l,rfl⟩:∃ l,k=l+1:=⟨k - 1,by omega⟩;exact show_two (JV w hw) l (T.sh l (by omega)) (U.sh l (by omega)) ww.1.2 (by omega) (by omega)
  ·simp only [Str.cps_append,Array.toList_append,LR,Ih ww.2.1 ww.2.2,T.rp,U.rp,sp_R,op_R,cl_R];rw [Ds " " (List.cons_ne_nil _ _) (List.append_ne_nil_of_left_ne_nil T.ne _),Ds " " (b:=[w]++(js++[(")" : Str)])) T.ne (List.cons_ne_nil _ _),Ds " " (List.cons_ne_nil _ _) (List.append_ne_nil_of_left_ne_nil U.ne _),Ds " " U.ne (List.cons_ne_nil _ _)];show _=(("(" : Str) ++ " " ++ (Str.join " " ks ++ " " ++ (w ++ " " ++ (Str.join " " js ++ " " ++ ")")))).cps.toList;simp only [Str.cps_append,Array.toList_append,KZ,op_c,cl_c,qqA]
   rfl
  ·simp only [qhA,qjA] at hv;rcases hv with rfl|hv|rfl|hv|rfl
   ·exact wk_op
   ·exact T.wk v hv
   ·exact ww.1
   ·exact U.wk v hv
   ·exact wk_cl
  ·simp only [qeA,qgA];omega
  ·have:=ww.1.2;simp only [Str.length_append,Bc,Gk,MD];omega
  ·have er:([("(" : Str)]++(ks++([w]++(js++[(")" : Str)])))).reverse=(")" : Str)::(js.reverse++(w::(ks.reverse++[("(" : Str)]))):=by simp
   rw [er,CZ (II s mpC (fun z=>nomatch z) (fun z=>nomatch z) (by decide +kernel) lampC (by omega)),Fh lf_nb (U.rd _ (by rw [qeA,qgA];omega)),
    CZ (II _ (La w hw) (by decide) (by decide) (LY w (qrB _ hw)) (lamp2 w hw) (by simp only [qeA,qgA];omega)),Fh lf_nb (T.rd _ (by simp only [qeA,qgA];omega)),
    CZ (lay_open s (.txt ")") b (.txt w) a (by omega))]
   rfl
theorem str_of {a b:Str}(h:a.cps.toList=b.cps.toList):a=b:=by
 apply Str.ext';exact Array.toList_inj.mp h
theorem is_ok {x:Nt}{n:Nat}(h:Sx x n)(hn:n<=24):B9 (ToD.to x)=some true:=by
 have:=F0 h.gd;rw [decide_eq_true hn] at this;exact this
theorem Le {x:Nt}{n:Nat}{t:Str}{ks:List Str}(h:Wr x n t)(hn:n<=24)(T:Tx x n t ks):AR (.str t)=some (.ok x):=by
 have hs:sizeLine=16777216:=qzA;have tl:=T.tl;have kl:=T.kl
 have e1:(Txt.replace t "(" "( ").cps.toList=t.cps.toList.flatMap fun d=>if d=40 then [40,32] else [d]:=by
  have:=Hg t "( " 40;rw [show ("( " : Str).cps.toList=[40,32] from by decide +kernel] at this;exact this
 have e2:(Txt.replace (Txt.replace t "(" "( ") ")" " )").cps.toList=R t.cps.toList:=by
  have:=Hg (Txt.replace t "(" "( ") " )" 41;rw [show (" )" : Str).cps.toList=[32,41] from by decide +kernel,e1] at this;exact this
 have e3:Txt.replace (Txt.replace t "(" "( ") ")" " )" = Str.join " " ks:=str_of (e2.trans T.rp);have tll:t.cps.toList.length=t.length:=qnB
 have l1:(Txt.replace t "(" "( ").length<=2 * t.length:=by
  have:∀ l:List Nat,(l.flatMap fun d=>if d=40 then [40,32] else [d]).length<=2 * l.length:=fun l=>by
   induction l with
   | nil=>exact qsA _
   | cons a l ih =>
    rw [List.flatMap_cons,qeA,qfA];split
    ·show 2+_<=_;omega
    ·show 1+_<=_;omega
  have:=this t.cps.toList;rw [<- e1,tll] at this;exact this
 have l2:(Str.join " " ks).length<=2 * t.length:=by
  have:=R_len t.cps.toList;rw [T.rp,tll] at this;exact this
 have z2:("( " : Str).length=2:=by decide +kernel
 have z3:(" )" : Str).length=2:=by decide +kernel
 have r1:Hj "(" "( " t=some (Txt.replace t "(" "( "):=if_pos ⟨by rw [z2];omega,by omega⟩
 have r2:Hj ")" " )" (Txt.replace t "(" "( ")=some (Str.join " " ks):=by
  rw [<- e3];exact if_pos ⟨by rw [z3];omega,by rw [e3];omega⟩
 have sp:Jn (Str.join " " ks) " " = some ks:=M2 KZ T.ne (fun p hp=>(T.wk p hp).1) (by omega);have fr:=T.rd [] (by rw [List.length_nil];omega);refine OK.eq ?_;unfold AR Ct;simp only [qaB,AB,AO,FY,Bool.not_true,cond_false,Bw,r1,r2,sp];refine AM (OK.of (show Bt lfx ks.reverse []=_ from fr) ?_);show OK (Option.bind _ _) _;have a0:atI ([]++[x]:List Nt) (0:Int)=some x:=CW (j:=0) rfl;simp only [a0,AB,is_ok h.sx hn,Bool.not_true,cond_false,T.sh 26 (by omega),decide_true];rw [show (!decide ((([]++[x]:List Nt).length:Int)=1))=false from rfl];exact A8 rfl
theorem L6:∀ {l:List Nt}{p:Nt × List Nt},Fv l=some p->p.2.length+1=l.length
 | [],_,h=>by cases h
 | [a],p,h=>by cases h;rfl
 | a::b::r,p,h=>by
  have h:((Fv (b::r)).bind fun p=>some (p.1,a::p.2))=some p:=h;obtain ⟨q,hq,h⟩:=qaA.mp h;cases h;have:=L6 hq;show (a::q.2).length+1=_;simp only [qfA] at this ⊢;omega
def Lok (k:Nat)(r:Except Str (List Nt)):Prop:=match r with | .ok z=>z.length<=k | .error n=>n = "NoText"
def Tok1 (k:Nat)(r:Except Str (List Nt × Nt)):Prop:=match r with | .ok p=>p.1.length+1=k | .error n=>n = "NoText"
theorem Fb (l:List Nt):OK (AW l ()) (Tok1 l.length):=by
 unfold AW
 cases h:Fv l with
 | none=>exact A8 rfl
 | some p=>exact A8 (L6 h)
theorem Ed {l:List Nt}{a:Nt}{P:Except Str (List Nt)->Prop}(h:l.length<=1000000)(hp:P (.ok (l++[a]))):OK ((Da l a).bind fun z=>some (.ok z)) P:=by
 rw [Eo l a h];exact A8 hp
theorem lay_ok (s:List Nt)(w:Str)(h:s.length<=900000):OK (Ae s w) (Lok (s.length+1)):=by
 have app:∀ a,Lok (s.length+1) (.ok (s++[a])):=fun a=>by show (s++[a]).length<=_;rw [qeA,qgA];omega
 unfold Ae;rw [AB];refine Ad (fun _=>?_) fun _=>?_
 ·refine Bb (Fb s) fun r1 h1=>?_
  cases r1 with
  | error n=>exact A8 h1
  | ok p1 =>
  have h1:p1.1.length+1=s.length:=h1;refine Bb (Fb p1.1) fun r2 h2=>?_
  cases r2 with
  | error n=>exact A8 h2
  | ok p2 =>
  have h2:p2.1.length+1=p1.1.length:=h2;refine Bb (Fb p2.1) fun r3 h3=>?_
  cases r3 with
  | error n=>exact A8 h3
  | ok p3 =>
  have h3:p3.1.length+1=p2.1.length:=h3;refine Bb (Fb p3.1) fun r4 h4=>?_
  cases r4 with
  | error n=>exact A8 h4
  | ok p4 =>
  have h4:p4.1.length+1=p3.1.length:=h4;show OK ((Da p4.1 _).bind _) _;exact Ed (by omega) (by show (p4.1++_).length<=_;rw [qeA,qgA];omega)
 ·unfold BN;simp only [AB];refine Ad (fun _=>?_) fun _=>Ad (fun _=>Ed (by omega) (app _)) fun _=>?_
  ·refine Bb (Fb s) fun r1 h1=>?_
   cases r1 with
   | error n=>exact A8 h1
   | ok p1 =>
   have h1:p1.1.length+1=s.length:=h1;exact Ed (by omega) (by show (p1.1++_).length<=_;rw [qeA,qgA];omega)
  ·exact Bb (show OK (Az (ToD.to w)) fun _=>True from (K3 w).mono fun _ _=>trivial) fun b _=>Ad (fun _=>Ed (by omega) (app _)) fun _=>Ed (by omega) (app _)
theorem spl_any {t:Str}(h:t.length<=800000):∃ ws,Jn t " " = some ws/\ws.length<=900000:=by
 have hs:sizeLine=16777216:=qzA;have l1:=split_le t " "
 have l2:∀ z∈Txt.split t " ",z.length<=t.length:=fun z hz=>by
  have:=part_short (x:=t) (y := " ") hz;omega
 refine ⟨Txt.split t " ",if_pos ⟨?_,by omega,?_,by omega,?_⟩,by omega⟩
 ·rw [Bc];decide
 ·rw [len_partsBetween];have:=StrLaws.occ_length_le_len t " " 0 t.length (t.length+1);omega
 ·refine List.all_eq_true.mpr fun z hz=>decide_eq_true ?_;have:=l2 z hz;omega
theorem LP (x:Str)(c a b:Nat):(Txt.replace x ⟨#[c]⟩ ⟨#[a,b]⟩).length<=2 * x.length:=by
 have e:=Hg x ⟨#[a,b]⟩ c
 have:∀ l:List Nat,(l.flatMap fun d=>if d=c then [a,b] else [d]).length<=2 * l.length:=fun l=>by
  induction l with
  | nil=>exact qsA _
  | cons q l ih =>
   rw [List.flatMap_cons,qeA,qfA];split
   ·show 2+_<=_;omega
   ·show 1+_<=_;omega
 have:=this x.cps.toList;have e2:=congrArg List.length e;rw [qnB] at e2;have tll:x.cps.toList.length=x.length:=qnB;show (Txt.replace x ⟨#[c]⟩ ⟨#[a,b]⟩).cps.size<=_;rw [e2,<- tll];exact this
theorem Iu {t:Str}(ht:t.length<=1000)(no:∀ x n,Wr x n t->¬ n<=24):AR (.str t)=some (.error "NoText"):=by
 have hs:sizeLine=16777216:=qzA;have q1:("(" : Str)=⟨#[40]⟩:=by decide +kernel
 have q2:("( " : Str)=⟨#[40,32]⟩:=by decide +kernel
 have q3:(")" : Str)=⟨#[41]⟩:=by decide +kernel
 have q4:(" )" : Str)=⟨#[32,41]⟩:=by decide +kernel
 have z2:("( " : Str).length=2:=by decide +kernel
 have z3:(" )" : Str).length=2:=by decide +kernel
 have l1:(Txt.replace t "(" "( ").length<=2 * t.length:=by rw [q1,q2];exact LP t 40 40 32
 have l2:(Txt.replace (Txt.replace t "(" "( ") ")" " )").length<=2 * (Txt.replace t "(" "( ").length:=by rw [q3,q4];exact LP _ 41 32 41
 have r1:Hj "(" "( " t=some (Txt.replace t "(" "( "):=if_pos ⟨by rw [z2];omega,by omega⟩;have r2:Hj ")" " )" (Txt.replace t "(" "( ")=some (Txt.replace (Txt.replace t "(" "( ") ")" " )"):=if_pos ⟨by rw [z3];omega,by omega⟩;obtain ⟨ws,sp,wl⟩:=spl_any (t:=Txt.replace (Txt.replace t "(" "( ") ")" " )") (by omega);refine OK.eq ?_;unfold AR Ct;simp only [qaB,AB,AO,FY,Bool.not_true,cond_false,Bw,r1,r2,sp];refine AM (Ft (fun i (s:List Nt)=>s.length<=i) (fun _=>False) (fun (n:Str)=>n = "NoText") (qsA _) (fun i a s ha hI=>?_) (fun s hI=>?_) (fun _ h=>h.elim) fun n hn=>A8 (by rw [hn]))
 ·have hi:i<ws.reverse.length:=(qoA.mp ha).1;rw [List.length_reverse] at hi;unfold lfx;refine Bb (lay_ok s a (by omega)) fun r hr=>?_
  cases r with
  | error n=>exact A8 hr
  | ok z=>exact A8 (qtA hr (by omega))
 ·show OK (Option.bind _ _) _;refine Bb (P:=fun b=>b=true) ?_ fun b hb=>by rw [hb];exact A8 rfl
  refine Ad (fun _=>A8 rfl) fun h1=>?_
  have h1:s.length=1:=by
   have:decide ((s.length:Int)=1)=true:=by simpa using h1
   have:=of_decide_eq_true this;omega
  obtain ⟨x,rfl⟩:=List.length_eq_one_iff.mp h1;have a0:atI [x] (0:Int)=some x:=CW (j:=0) rfl;simp only [a0,AB];refine Bb (IX x) fun b hb=>Ad (fun _=>A8 rfl) fun h2=>?_;have h2:b=true:=by simpa using h2
  obtain ⟨n,hx,hn⟩:=hb h2;obtain ⟨t',hw⟩:=hx.wr;obtain ⟨ks,T⟩:=text_of hw hn;rw [T.sh 26 (by omega),AB];refine A8 ?_;have:t'≠t:=fun e=>no x n (e ▸ hw) hn;rw [decide_eq_false this]
  rfl
theorem sr_nat (a b:Nat):sliceRange (a:Int) (b:Int) 1=(List.range (b - a)).map fun i=>a+i:=by
 unfold sliceRange
 have e:((if (1:Int) > 0 then (if (a:Int)<(b:Int) then ((b:Int) - a+1 - 1) / 1 else 0) else (if (a:Int) > b then ((a:Int) - b - 1 - 1) / (-1) else 0)):Int).toNat=b - a:=by
  rw [if_pos (by decide)];split
  ·rw [Int.ediv_one];omega
  ·omega
 show List.map _ (List.range _)=_;rw [e];refine List.map_congr_left fun k _=>?_;omega
theorem EH {x:Str}{l u:Option Int}{A B:Nat}(h:Builtin.Str.strSliceIndices l u 1 x.length=sliceRange (A:Int) (B:Int) 1)(hB:B<=x.length)(hA:A<=x.length):(Txt.slice x l u).cps.toList=(x.cps.toList.drop A).take (B - A):=by
 have hL:x.cps.toList.length=x.length:=qnB;rw [sr_nat] at h;unfold Txt.slice;rw [h];split
 ·rename_i e;rw [qdA,List.length_range] at e;have e:B - A=x.length:=by simpa using e
  have hA0:A=0:=by omega
  rw [hA0,List.drop_zero,List.take_of_length_le (by omega)]
 ·show (List.filterMap _ _).toArray.toList=_;rw [List.toList_toArray,<- StrLaws.picks x.cps.toList (B - A) A (by omega)]
  congr 1
  funext i
  exact (Array.getElem?_toList ..).symm
theorem HY (i n:Nat):max (0:Int) (min (if (i:Int)<0 then (i:Int)+(n:Int) else (i:Int)) (n:Int))=((min i n:Nat):Int):=by
 rw [if_neg (by omega)];omega
theorem IV (x:Str)(k:Nat):(Txt.slice x none (some (k:Int))).cps.toList=x.cps.toList.take k:=by
 have hL:x.cps.toList.length=x.length:=qnB
 have e:Builtin.Str.strSliceIndices none (some (k:Int)) 1 x.length=sliceRange ((0:Nat):Int) ((min k x.length:Nat):Int) 1:=by
  unfold Builtin.Str.strSliceIndices;simp only [show (1:Int) > 0 by decide,if_true,HY]
  rfl
 rw [EH e (by omega) (by omega),List.drop_zero,Nat.sub_zero];by_cases h:k<=x.length
 ·rw [Nat.min_eq_left h]
 ·rw [Nat.min_eq_right (by omega),List.take_of_length_le (by omega),List.take_of_length_le (by omega)]
theorem GY (x:Str)(k:Nat):(Txt.slice x (some (k:Int)) none).cps.toList=x.cps.toList.drop k:=by
 have hL:x.cps.toList.length=x.length:=qnB
 have e:Builtin.Str.strSliceIndices (some (k:Int)) none 1 x.length=sliceRange ((min k x.length:Nat):Int) ((x.length:Nat):Int) 1:=by
  unfold Builtin.Str.strSliceIndices;simp only [show (1:Int) > 0 by decide,if_true,HY]
 rw [EH e (by omega) (by omega)];by_cases h:k<=x.length
 ·rw [Nat.min_eq_left h,List.take_of_length_le (by rw [List.length_drop];omega)]
 ·rw [Nat.min_eq_right (by omega),List.drop_of_length_le (by omega),List.drop_of_length_le (by omega),List.take_nil]
theorem sl_mid (x:Str)(i j:Nat)(hi:i<=x.length):(Txt.slice x (some (i:Int)) (some (j:Int))).cps.toList=(x.cps.toList.drop i).take (j - i):=by
 have hL:x.cps.toList.length=x.length:=qnB
 have e:Builtin.Str.strSliceIndices (some (i:Int)) (some (j:Int)) 1 x.length=sliceRange ((min i x.length:Nat):Int) ((min j x.length:Nat):Int) 1:=by
  unfold Builtin.Str.strSliceIndices;simp only [show (1:Int) > 0 by decide,if_true,HY]
 rw [EH e (by omega) (by omega),Nat.min_eq_left hi];by_cases h:j<=x.length
 ·rw [Nat.min_eq_left h]
 ·rw [Nat.min_eq_right (by omega),List.take_of_length_le (by rw [List.length_drop];omega),List.take_of_length_le (by rw [List.length_drop];omega)]
theorem sl_in (x:Str)(h:1<=x.length):(Txt.slice x (some (1:Int)) (some (-(1:Int)))).cps.toList=(x.cps.toList.drop 1).take (x.length - 2):=by
 have e:Builtin.Str.strSliceIndices (some (1:Int)) (some (-(1:Int))) 1 x.length=sliceRange ((1:Nat):Int) ((x.length - 1:Nat):Int) 1:=by
  unfold Builtin.Str.strSliceIndices;simp only [show (1:Int) > 0 by decide,if_true];rw [if_neg (by decide),if_pos (by decide)]
  congr 1
  ·omega
  ·omega
 rw [EH e (by omega) (by omega)]
 congr 1
theorem Kx (x:Str)(h:1<=x.length):(Txt.slice x (some (-(1:Int))) none).cps.toList=x.cps.toList.drop (x.length - 1):=by
 have hL:x.cps.toList.length=x.length:=qnB
 have e:Builtin.Str.strSliceIndices (some (-(1:Int))) none 1 x.length=sliceRange ((x.length - 1:Nat):Int) ((x.length:Nat):Int) 1:=by
  unfold Builtin.Str.strSliceIndices;simp only [show (1:Int) > 0 by decide,if_true];rw [if_pos (by decide)]
  congr 1
  omega
 rw [EH e (by omega) (by omega),List.take_of_length_le (by rw [List.length_drop];omega)]
abbrev Cp (x:Str):List Nat:=x.cps.toList
theorem Ch (a b:Str):Cp (a++b)=Cp a++Cp b:=by simp only [Cp,Str.cps_append,Array.toList_append]
theorem Bi (x:Str):(Cp x).length=x.length:=qnB
theorem HK:Cp " " = [32]:=by decide +kernel
theorem Ld:Cp "(" = [40]:=by decide +kernel
theorem Lc:Cp ")" = [41]:=by decide +kernel
theorem KY {α S ρ:Type}{f:α->S->Option (Fl S ρ)}{r:ρ}:∀ {as:List α}{s:S},Bt f as s=some (.rt r)->∃ a∈as,∃ s',f a s'=some (.rt r)
 | [],s,h=>by cases h
 | a::as,s,h=>by
  obtain ⟨fl,hf,h⟩:=qaA.mp h
  cases fl with
  | nx s'=>obtain ⟨b,hb,h⟩:=KY (as:=as) h;exact ⟨b,qmA _ hb,h⟩
  | bk s'=>cases h
  | rt q=>cases h;exact ⟨a,qkA,s,hf⟩
theorem Ib {α ρ:Type}{f:α->Unit->Option (Fl Unit ρ)}{r:ρ}{w:α}:∀ {as:List α},w∈as->f w ()=some (.rt r)->(∀ a∈as,a≠w->f a ()=some (.nx ()))->Bt f as ()=some (.rt r)
 | [],h,_,_=>by cases h
 | a::as,h,hw,ho=>by
  show (f a ()).bind _=_;by_cases e:a=w
  ·rw [e,hw];rfl
  ·rw [ho a qkA e];exact Ib (as:=as) ((qiA.mp h).resolve_left fun z=>e z.symm) hw fun b hb=>ho b (qmA _ hb)
theorem Ho {α ρ:Type}{f:α->Unit->Option (Fl Unit ρ)}:∀ {as:List α},(∀ a∈as,f a ()=some (.nx ()))->Bt f as ()=some (.nx ())
 | [],_=>rfl
 | a::as,h=>by
  show (f a ()).bind _=_;rw [h a qkA];exact Ho fun b hb=>h b (qmA _ hb)
theorem Dt {a w r q:List Nat}(ha:32 ∉ a)(hw:32 ∉ w)(h:a++32::r=w++32::q):a=w:=by
 induction a generalizing w with
 | nil =>
  cases w with
  | nil=>rfl
  | cons c w=>exact absurd ((qmB h).1 ▸ qkA) hw
 | cons c a ih =>
  cases w with
  | nil=>exact absurd ((qmB h).1 ▸ qkA) ha
  | cons d w =>
   obtain ⟨h1,h2⟩:=qmB h;rw [h1,ih (fun z=>ha (qmA _ z)) (fun z=>hw (qmA _ z)) h2]
theorem HW:∀ w∈W1,32 ∉ Cp w:=by decide +kernel
theorem HN:∀ w∈W2,32 ∉ Cp w:=by decide +kernel
theorem C7 {a b:Str}(h:Cp a=Cp b):a=b:=str_of h
def Gy:List Str:=["and","or","then","until","frees"]
theorem words2_mem {w:Str}:w∈Gy ↔ w∈W2:=by
 unfold Gy W2;simp only [qiA,qpB,or_false];constructor
 ·rintro (h|h|h|h|h)<;>simp [h]
 ·rintro (h|h|h|h|h)<;>simp [h]
def hit (inside_:Str)(at_:Int)(word_:Str)(s94:Unit):Option (Fl Unit (Option (T3 Str Str Str))) :=
 (some ((at_+(word_.length:Int))+(2:Int))).bind fun Em =>
      ((some (Txt.slice inside_ (some at_) (some Em))).bind fun t122=>(((some (" " : Str)).bind fun t118=>(some word_).bind fun t119=>C4 t118 t119).bind fun t120=>(some (" " : Str)).bind fun t121=>C4 t120 t121).bind fun t123=>some (decide (t122=t123))).bind fun b124=>cond b124
       ((some (some (T3.mk word_ (Txt.slice inside_ none (some at_)) (Txt.slice inside_ (some Em) none)))).bind fun rr134=>some (Fl.rt rr134))
       (some (Fl.nx ()))
def bet (inside_:Str)(at_:Int)(s15:Int):Option (Fl Int (Option (T3 Str Str Str))) :=
   (((some inside_).bind fun t32=>(some at_).bind fun t33=>(atI t32.cps.toList t33).bind fun z=>some (⟨#[z]⟩:Str)).bind fun t34=>(some (decide (t34=("(" : Str))))).bind fun b35=>(cond b35
    ((some (s15+(1:Int))).bind fun Cm =>
    some Cm)
    (some s15)).bind fun s40 =>
   (((some inside_).bind fun t55=>(some at_).bind fun t56=>(atI t55.cps.toList t56).bind fun z=>some (⟨#[z]⟩:Str)).bind fun t57=>(some (decide (t57=(")" : Str))))).bind fun b58=>(cond b58
    ((some (s40 - (1:Int))).bind fun Cm =>
    some Cm)
    (some s40)).bind fun s63 =>
   ((((some inside_).bind fun t78=>(some at_).bind fun t79=>(atI t78.cps.toList t79).bind fun z=>some (⟨#[z]⟩:Str)).bind fun t80=>(some (decide (t80=(" " : Str))))).bind fun t81=>cond t81 (some (decide (s63=(0:Int)))) (some false)).bind fun b82=>cond b82
    ((some Gy).bind fun as87=>(Bt (S:=Unit) (ρ:=(Option (T3 Str Str Str))) (hit inside_ at_) as87 ()).bind fun fl89=>match fl89 with
     | .nx s94 =>
      some (Fl.nx s63)
     | .rt r=>some (Fl.rt r)
     | .bk _=>none)
    (some (Fl.nx s63))
theorem EM (x:Str):B8 x=((some (0:Int)).bind fun Cm =>
 ((some (x.length:Int)).bind fun t7=>Ij 0 t7).bind fun as8=>(Bt (S:=(Int)) (ρ:=(Option (T3 Str Str Str))) (bet x) as8 Cm).bind fun fl10=>match fl10 with
  | .nx s15 =>
   (some none)
  | .rt r=>some r
  | .bk _=>none):=rfl
theorem sp_word (w:Str)(h:w.length<=100):(((some (" " : Str)).bind fun t118=>(some w).bind fun t119=>C4 t118 t119).bind fun t120=>(some (" " : Str)).bind fun t121=>C4 t120 t121)=some (" " ++ w ++ " "):=by
 rw [AB,AB,DN (by rw [Bc];omega),AB,AB,DN (by rw [Str.length_append,Bc];omega)]
theorem w2_len:∀ w∈W2,w.length<=5:=by decide +kernel
theorem w1_len:∀ w∈W1,w.length<=7:=by decide +kernel
theorem IY (x:Str)(i:Nat)(hi:i<=x.length){w:Str}(hw:w∈W2):hit x (i:Int) w ()=if ((Cp x).drop i).take (w.length+2)=32::(Cp w++[32]) then some (.rt (some (T3.mk w (Txt.slice x none (some (i:Int))) (Txt.slice x (some ((i+w.length+2:Nat):Int)) none)))) else some (.nx ()):=by
 have hl:=w2_len w hw;unfold hit;rw [AB,AB,sp_word w (by omega)];rw [show ((i:Int)+(w.length:Int)+2)=((i+w.length+2:Nat):Int) by omega]
 have e:Cp (Txt.slice x (some (i:Int)) (some ((i+w.length+2:Nat):Int)))=((Cp x).drop i).take (w.length+2):=by
  rw [Cp,sl_mid x i _ hi]
  congr 1
  omega
 have e2:Cp (" " ++ w ++ " ")=32::(Cp w++[32]):=by rw [Ch,Ch,HK];rfl
 by_cases h:((Cp x).drop i).take (w.length+2)=32::(Cp w++[32])
 ·rw [if_pos h,AB,decide_eq_true (C7 (e.trans (h.trans e2.symm)))]
  rfl
 ·rw [if_neg h,AB,decide_eq_false fun z=>h (by rw [<- e,z,e2])]
  rfl
theorem one_eq (c d:Nat):decide ((⟨#[c]⟩:Str)=⟨#[d]⟩)=decide (c=d):=decide_eq_decide.mpr ⟨fun h=>one_inj h,fun h=>by rw [h]⟩
theorem Dy (x:Str)(i:Nat)(d:Int){c:Nat}(hc:(Cp x)[i]? = some c):bet x (i:Int) d =
  (if c=32/\d=0 then (Bt (hit x (i:Int)) Gy ()).bind fun fl89=>match fl89 with
     | .nx s94=>some (Fl.nx d)
     | .rt r=>some (Fl.rt r)
     | .bk _=>none
   else some (.nx (if c=40 then d+1 else if c=41 then d - 1 else d))):=by
 have ec:atI x.cps.toList (i:Int)=some c:=CW hc;have q1:("(" : Str)=⟨#[40]⟩:=by decide +kernel
 have q3:(")" : Str)=⟨#[41]⟩:=by decide +kernel
 have q5:(" " : Str)=⟨#[32]⟩:=by decide +kernel
 unfold bet;simp only [AB,ec];rw [q1,q3,q5];simp only [one_eq];by_cases h1:c=40
 ·subst h1;rw [if_neg (by omega),if_pos rfl]
  rfl
 ·by_cases h2:c=41
  ·subst h2;rw [if_neg (by omega),if_neg h1,if_pos rfl]
   rfl
  ·rw [if_neg h1,if_neg h2,decide_eq_false h1,decide_eq_false h2];simp only [cond_false,AB];by_cases h3:c=32
   ·subst h3;by_cases h4:d=0
    ·rw [if_pos ⟨rfl,h4⟩,decide_eq_true h4]
     rfl
    ·rw [if_neg fun z=>h4 z.2,decide_eq_false h4]
     rfl
   ·rw [if_neg fun z=>h3 z.1,decide_eq_false h3]
    rfl
theorem Hz {x:Str}{p:T3 Str Str Str}(h:B8 x=some (some p)):p.a∈W2/\x=p.b ++ " " ++ p.a ++ " " ++ p.c:=by
 rw [EM,AB,AB] at h;obtain ⟨as,ha,h⟩:=qaA.mp h;obtain ⟨fl,hf,h⟩:=qaA.mp h
 cases fl with
 | nx s=>cases h
 | bk s=>cases h
 | rt r =>
  cases h;obtain ⟨z,hz,d,hb⟩:=KY hf;obtain ⟨hh,rfl⟩:=BD ha;obtain ⟨i,hi,rfl⟩:=List.mem_map.mp hz
  have hi:i<x.length:=by
   have:=List.mem_range.mp hi;omega
  rw [show ((0:Int)+(i:Int))=(i:Int) by omega] at hb;obtain ⟨c,hc⟩:∃ c,(Cp x)[i]? = some c:=⟨_,qpA (by rw [Bi];exact hi)⟩;rw [Dy x i d hc] at hb;split at hb
  ·obtain ⟨fl,hf,hb⟩:=qaA.mp hb
   cases fl with
   | nx s=>cases hb
   | bk s=>cases hb
   | rt r =>
    cases hb;obtain ⟨w,hw,u,hw2⟩:=KY hf;have hw:=words2_mem.mp hw;rw [show u=() from rfl,IY x i (by omega) hw] at hw2;split at hw2
    ·rename_i e;cases hw2;refine ⟨hw,C7 ?_⟩;rw [Ch,Ch,Ch,Ch,HK];show _=Cp (Txt.slice x none (some (i:Int)))++[32]++Cp w++[32]++Cp (Txt.slice x (some ((i+w.length+2:Nat):Int)) none);have e1:Cp (Txt.slice x none (some (i:Int)))=(Cp x).take i:=IV x i;have e2:Cp (Txt.slice x (some ((i+w.length+2:Nat):Int)) none)=(Cp x).drop (i+w.length+2):=GY x _;rw [e1,e2]
     have e3:(Cp x).drop i=32::(Cp w++[32])++(Cp x).drop (i+w.length+2):=by
      rw [<- e];have:=List.take_append_drop (w.length+2) ((Cp x).drop i);rw [List.drop_drop] at this;rw [show i+w.length+2=i+(w.length+2) by omega];exact this.symm
     conv=>lhs;rw [<- List.take_append_drop i (Cp x),e3]
     simp only [qqA,List.cons_append,List.nil_append,List.singleton_append]
    ·cases hw2
  ·cases hb
def Ep (a n:Nat):List Int:=(List.range n).map fun i=>((a+i:Nat):Int)
theorem Ei (a n:Nat):Ep a (n+1)=(a:Int)::Ep (a+1) n:=by
 unfold Ep;rw [List.range_succ_eq_map,List.map_cons,List.map_map]
 congr 1
 refine List.map_congr_left fun i _=>?_;show ((a+(i+1):Nat):Int)=((a+1+i:Nat):Int);omega
theorem Jh (a:Nat):∀ (n m:Nat),Ep a (n+m)=Ep a n++Ep (a+n) m
 | 0,m=>by rw [Nat.zero_add];rfl
 | n+1,m=>by
  rw [show n+1+m=(n+m)+1 by omega,Ei,Ei,List.cons_append]
  congr 1
  generalize ha:a+1=b;rw [Jh b n m,show a+(n+1)=b+n by omega]
theorem bet_nb (x:Str)(a s t:Int):bet x a s≠some (.bk t):=fun e=>by
 unfold bet at e;obtain ⟨b1,_,e⟩:=qaA.mp e;obtain ⟨b2,_,e⟩:=qaA.mp e;obtain ⟨b3,_,e⟩:=qaA.mp e;obtain ⟨b4,_,e⟩:=qaA.mp e;obtain ⟨b5,_,e⟩:=qaA.mp e
 cases b5 with
 | false=>cases e
 | true =>
  obtain ⟨fl,_,e⟩:=qaA.mp e;cases fl<;>cases e
theorem go1 {x:Str}{a n:Nat}{d d':Int}(h:bet x (a:Int) d=some (.nx d')):Bt (bet x) (Ep a (n+1)) d=Bt (bet x) (Ep (a+1) n) d':=by
 rw [Ei];show (bet x (a:Int) d).bind _=_;rw [h]
 rfl
theorem goA {x:Str}{a n m:Nat}{d d':Int}(h:Bt (bet x) (Ep a n) d=some (.nx d')):Bt (bet x) (Ep a (n+m)) d=Bt (bet x) (Ep (a+n) m) d':=by
 rw [Jh];exact Fh (bet_nb x) h
theorem F5 {l P R:List Nat}{c:Nat}(h:l=P++c::R):l[P.length]? = some c:=by
 rw [h,List.getElem?_append_right (qsA _),Nat.sub_self]
 rfl
def Pn (c:Nat):Prop:=c≠32/\c≠40/\c≠41
theorem EJ {x:Str}:∀ (W P S:List Nat) (d:Int),(∀ c∈W,Pn c)->Cp x=P++(W++S)->Bt (bet x) (Ep P.length W.length) d=some (.nx d)
 | [],P,S,d,_,_=>rfl
 | c::W,P,S,d,h,e=>by
  obtain ⟨h1,h2,h3⟩:=h c qkA;have hb:bet x (P.length:Int) d=some (.nx d):=by rw [Dy x P.length d (F5 e),if_neg fun z=>h1 z.1,if_neg h2,if_neg h3]
  rw [qfA,go1 hb];have:=EJ W (P++[c]) S d (fun z hz=>h z (qmA _ hz)) (by rw [e];simp);rw [qeA,qgA] at this;exact this
theorem plain1:∀ w∈W1,∀ c∈Cp w,Pn c:=by unfold Pn;decide +kernel
theorem plain2:∀ w∈W2,∀ c∈Cp w,Pn c:=by unfold Pn;decide +kernel
theorem plain0:∀ w∈(["yes","no"]:List Str),∀ c∈Cp w,Pn c:=by unfold Pn;decide +kernel
theorem plainL {c:Nat}(h:c∈Fj):∀ d∈Cp (one c),Pn d:=fun d hd=>by
 have:d=c:=by simpa [Cp,one] using hd
 subst this;unfold Fj at h;have:=List.mem_range'_1.mp h;unfold Pn;omega
theorem two_not1:∀ w∈W2,w ∉ W1/\w ≠ "yes" /\ w ≠ "no" /\ 40 ∉ Cp w/\Cp w ≠ []:=by decide +kernel
theorem two_notL:∀ c∈Fj,one c ∉ W2:=by decide +kernel
theorem FI (w t:Str):Cp (w ++ " " ++ t)=Cp w++32::Cp t:=by rw [Ch,Ch,HK,qqA];rfl
theorem KI (w t u:Str):Cp ("(" ++ t ++ " " ++ w ++ " " ++ u ++ ")")=40::(Cp t++32::(Cp w++32::(Cp u++[41]))):=by
 simp only [Ch,HK,Ld,Lc,qqA,List.singleton_append,List.nil_append,List.cons_append]
theorem start {a:Nt}{n:Nat}{t:Str}(h:Wr a n t){w2:Str}(hw:w2∈W2){S R:List Nat}(e:Cp t++32::S=Cp w2++32::R):False:=by
 obtain ⟨n1,n2,n3,n4,n5⟩:=two_not1 w2 hw;have s2:=HN w2 hw
 cases h with
 | leaf h0 =>
  rcases h0 with rfl|rfl
  ·exact n2 (C7 (Dt (by decide +kernel) s2 e)).symm
  ·exact n3 (C7 (Dt (by decide +kernel) s2 e)).symm
 | lamp hc=>exact two_notL _ hc (C7 (Dt (fun z=>(plainL hc 32 z).1 rfl) s2 e) ▸ hw)
 | one h1 h2 =>
  rw [FI,qqA,List.cons_append] at e;exact n1 (C7 (Dt (HW _ h1) s2 e) ▸ h1)
 | two h1 h2 h3 =>
  rw [KI,List.cons_append] at e
  cases hq:Cp w2 with
  | nil=>exact n5 hq
  | cons c r =>
   rw [hq,List.cons_append] at e;have:=(qmB e).1;rw [hq,<- this] at n4;exact n4 qkA
theorem hit_no {x:Str}{i:Nat}(hi:i<=x.length){w:Str}(hw:w∈W2)(h:∀ R,(Cp x).drop i≠32::(Cp w++32::R)):hit x (i:Int) w ()=some (.nx ()):=by
 rw [IY x i hi hw,if_neg];intro e;refine h (((Cp x).drop i).drop (w.length+2)) ?_
 conv=>lhs;rw [<- List.take_append_drop (w.length+2) ((Cp x).drop i),e]
 simp
theorem K6 {l P R:List Nat}(h:l=P++R):l.drop P.length=R:=by rw [h,List.drop_left]
theorem walkW {x:Str}{a:Nt}{n:Nat}{t:Str}(h:Wr a n t):∀ (P S:List Nat) (d:Nat),Cp x=P++(Cp t++S)->(d=0->∃ S',S=32::S')->Bt (bet x) (Ep P.length t.length) (d:Int)=some (.nx (d:Int)):=by
 induction h with
 | @leaf w hw =>
  intro P S d e _;rw [<- Bi w];exact EJ _ P S _ (plain0 w (by rcases hw with rfl|rfl<;>decide +kernel)) e
 | @lamp c hc =>
  intro P S d e _;rw [<- Bi (one c)];exact EJ _ P S _ (plainL hc) e
 | @one w a n t hw ha ih =>
  intro P S d e hd;rw [FI,qqA,List.cons_append] at e;have hl:(w ++ " " ++ t).length=w.length+(t.length+1):=by rw [Str.length_append,Str.length_append,Bc];omega
  rw [hl,goA (d':=(d:Int)) (by rw [<- Bi w];exact EJ _ P _ _ (plain1 w hw) e)];have eP:(P++Cp w).length=P.length+w.length:=by rw [qeA,Bi]
  have e2:Cp x=(P++Cp w)++32::(Cp t++S):=by rw [e,qqA]
  have hx:P.length+w.length<=x.length:=by
   have:=congrArg List.length e2;rw [Bi,qeA,eP] at this;omega
  have hb:bet x ((P.length+w.length:Nat):Int) (d:Int)=some (.nx (d:Int)):=by
   rw [<- eP,Dy x _ _ (F5 e2)];by_cases h0:d=0
   ·subst h0;obtain ⟨S',rfl⟩:=hd rfl;rw [if_pos ⟨rfl,rfl⟩,Ho]
    ·rfl
    ·intro w2 hw2;have hw2:=words2_mem.mp hw2;refine hit_no (by rw [eP];exact hx) hw2 fun R eR=>?_;rw [K6 e2] at eR;exact start ha hw2 (qmB eR).2
   ·rw [if_neg fun z=>h0 (by omega),if_neg (by decide),if_neg (by decide)]
  rw [go1 hb];have:=ih (P++Cp w++[32]) S d (by rw [e2];simp) hd;have l3:(P++Cp w++[32]).length=P.length+w.length+1:=by rw [qeA,eP];rfl
  rw [l3] at this;exact this
 | @two w a b n m t u hw ha hb ih1 ih2 =>
  intro P S d e hd;rw [KI,List.cons_append] at e
  have hl:("(" ++ t ++ " " ++ w ++ " " ++ u ++ ")").length=(t.length+((w.length+((u.length+1)+1))+1))+1:=by
   simp only [Str.length_append,Bc,Gk,MD];omega
  have b1:bet x (P.length:Int) (d:Int)=some (.nx ((d+1:Nat):Int)):=by
   rw [Dy x _ _ (F5 e),if_neg fun z=>absurd z.1 (by decide),if_pos rfl]
   rfl
  rw [hl,go1 b1];have e1:Cp x=(P++[40])++(Cp t++(32::(Cp w++32::(Cp u++41::S)))):=by rw [e];simp
  have l1:(P++[40]).length=P.length+1:=by rw [qeA];rfl
  have w1:=ih1 (P++[40]) _ (d+1) e1 (fun z=>by omega);rw [l1] at w1;rw [goA w1];have e2:Cp x=(P++[40]++Cp t)++32::(Cp w++32::(Cp u++41::S)):=by rw [e1];simp
  have l2:(P++[40]++Cp t).length=P.length+1+t.length:=by rw [qeA,l1,Bi]
  have b2:bet x ((P.length+1+t.length:Nat):Int) ((d+1:Nat):Int)=some (.nx ((d+1:Nat):Int)):=by
   rw [<- l2,Dy x _ _ (F5 e2),if_neg fun z=>by omega,if_neg (by decide),if_neg (by decide)]
  rw [go1 b2];have e3:Cp x=(P++[40]++Cp t++[32])++(Cp w++(32::(Cp u++41::S))):=by rw [e2];simp
  have l3:(P++[40]++Cp t++[32]).length=P.length+1+t.length+1:=by rw [qeA,l2];rfl
  have w3:=EJ (x:=x) (Cp w) (P++[40]++Cp t++[32]) _ ((d+1:Nat):Int) (plain2 w hw) e3;rw [l3,Bi] at w3;rw [goA w3];have e4:Cp x=(P++[40]++Cp t++[32]++Cp w)++32::(Cp u++41::S):=by rw [e3];simp
  have l4:(P++[40]++Cp t++[32]++Cp w).length=P.length+1+t.length+1+w.length:=by rw [qeA,l3,Bi]
  have b4:bet x ((P.length+1+t.length+1+w.length:Nat):Int) ((d+1:Nat):Int)=some (.nx ((d+1:Nat):Int)):=by
   rw [<- l4,Dy x _ _ (F5 e4),if_neg fun z=>by omega,if_neg (by decide),if_neg (by decide)]
  rw [go1 b4];have e5:Cp x=(P++[40]++Cp t++[32]++Cp w++[32])++(Cp u++(41::S)):=by rw [e4];simp
  have l5:(P++[40]++Cp t++[32]++Cp w++[32]).length=P.length+1+t.length+1+w.length+1:=by rw [qeA,l4];rfl
  have w5:=ih2 (P++[40]++Cp t++[32]++Cp w++[32]) _ (d+1) e5 (fun z=>by omega);rw [l5] at w5;rw [goA w5];have e6:Cp x=(P++[40]++Cp t++[32]++Cp w++[32]++Cp u)++41::S:=by rw [e5];simp
  have l6:(P++[40]++Cp t++[32]++Cp w++[32]++Cp u).length=P.length+1+t.length+1+w.length+1+u.length:=by rw [qeA,l5,Bi]
  have b6:bet x ((P.length+1+t.length+1+w.length+1+u.length:Nat):Int) ((d+1:Nat):Int)=some (.nx (d:Int)):=by
   rw [<- l6,Dy x _ _ (F5 e6),if_neg fun z=>by omega,if_neg (by decide),if_pos rfl]
   congr 2
   omega
  rw [show (1:Nat)=0+1 from rfl];exact go1 b6
theorem Kb {a b:Nt}{n m:Nat}{t u w:Str}(ha:Wr a n t)(hb:Wr b m u)(hw:w∈W2)(hl:t.length+u.length<=100000):B8 (t ++ " " ++ w ++ " " ++ u)=some (some (T3.mk w t u)):=by
 have hs:sizeLine=16777216:=qzA;have wl:=w2_len w hw;generalize hx:t ++ " " ++ w ++ " " ++ u=x
 have e:Cp x=Cp t++32::(Cp w++32::Cp u):=by
  rw [<- hx];simp only [Ch,HK,qqA,List.singleton_append,List.cons_append,List.nil_append]
 have xl:x.length=t.length+(w.length+1+u.length+1):=by
  rw [<- hx];simp only [Str.length_append,Bc];omega
 rw [EM,AB,AB]
 have er:Ij 0 (x.length:Int)=some (Ep 0 x.length):=by
  refine OK.eq (GA (n:=x.length) (by omega) (by omega) (by omega) ?_);unfold Ep;refine List.map_congr_left fun i _=>?_;omega
 rw [er,AB,xl];have w0:=walkW (x:=x) ha [] _ 0 e (fun _=>⟨_,rfl⟩);rw [goA (show Bt (bet x) (Ep 0 t.length) (0:Int)=some (.nx (0:Int)) from w0),Ei]
 have hit1:bet x ((0+t.length:Nat):Int) 0=some (.rt (some (T3.mk w t u))):=by
  have hat:=F5 e;rw [Bi] at hat;rw [Nat.zero_add,Dy x t.length 0 hat,if_pos ⟨rfl,rfl⟩];have dr:(Cp x).drop t.length=32::(Cp w++32::Cp u):=by rw [<- Bi t];exact K6 e
  rw [Ib (w:=w) (r:=some (T3.mk w t u)) (words2_mem.mpr hw) ?_ ?_]
  ·rfl
  ·rw [IY x t.length (by omega) hw,if_pos]
   ·have e1:Txt.slice x none (some (t.length:Int))=t:=C7 (by
     show Cp _=_;rw [Cp,IV];show (Cp x).take t.length=Cp t
     rw [e,<- Bi t,List.take_left])
    have e2:Txt.slice x (some ((t.length+w.length+2:Nat):Int)) none=u:=C7 (by
     show Cp _=_;rw [Cp,GY,show t.length+w.length+2=t.length+(1+(w.length+1)) by omega,<- List.drop_drop];show ((Cp x).drop t.length).drop _=_;rw [dr,Nat.add_comm 1];show (Cp w++32::Cp u).drop (w.length+1)=Cp u;rw [<- Bi w,<- List.drop_drop,List.drop_left]
     rfl)
    rw [e1,e2]
   ·rw [dr];show 32::(Cp w++32::Cp u).take (w.length+1)=_;have q:(Cp w++32::Cp u)=(Cp w++[32])++Cp u:=by simp
    have ql:w.length+1=(Cp w++[32]).length:=by rw [qeA,Bi];rfl
    rw [q,ql,List.take_left]
  ·intro w2 hw2 ne;have hw2:=words2_mem.mp hw2;refine hit_no (by omega) hw2 fun R eR=>ne ?_;rw [dr] at eR;exact (C7 (Dt (HN w hw) (HN w2 hw2) (qmB eR).2)).symm
 show Option.bind ((bet x ((0+t.length:Nat):Int) 0).bind _) _=_;rw [hit1]
 rfl
def hdf (C2:Str->Option (Option Nt))(text_:Str)(word_:Str)(s28:Unit):Option (Fl Unit (Option Nt)) :=
     ((some (Txt.slice text_ none (some ((word_.length:Int)+(1:Int))))).bind fun t46=>((some word_).bind fun t44=>(some (" " : Str)).bind fun t45=>C4 t44 t45).bind fun t47=>some (decide (t46=t47))).bind fun b48=>cond b48
      (((some (Txt.slice text_ (some ((word_.length:Int)+(1:Int))) none)).bind fun t53=>C2 t53).bind fun inner_ =>
      ((some inner_.isNone).bind fun t65=>cond t65 (some none) ((((((some inner_).bind fun t60=>t60).bind fun t61=>(some [t61])).bind fun t62=>(some ((Nt.txt word_)::t62))).bind fun t63=>(some (Nt.tup t63))).bind fun t64=>(some (some t64)))).bind fun rr71=>some (Fl.rt rr71))
      (some (Fl.nx ()))
def tl2 (C2:Str->Option (Option Nt))(s89:Option (T3 Str Str Str)):Option (Option Nt) :=
     (some s89.isNone).bind fun b105=>cond b105
      ((some none))
      (((((some s89).bind fun t115=>t115).bind fun t116=>(some t116.b)).bind fun t117=>C2 t117).bind fun one_ =>
      ((((some s89).bind fun t124=>t124).bind fun t125=>(some t125.c)).bind fun t126=>C2 t126).bind fun other_ =>
      (some (one_.isNone || other_.isNone)).bind fun b133=>cond b133
       ((some none))
       ((((((((some s89).bind fun t143=>t143).bind fun t144=>(some t144.a)).bind fun t145=>(some (Nt.txt t145))).bind fun t151=>(((some one_).bind fun t146=>t146).bind fun t149=>(((some other_).bind fun t147=>t147).bind fun t148=>(some [t148])).bind fun t150=>(some (t149::t150))).bind fun t152=>(some (t151::t152))).bind fun t153=>(some (Nt.tup t153))).bind fun t154=>(some (some t154)))))
theorem EO (C2:Str->Option (Option Nt))(text_:Str):B2 C2 text_ =
 ((some ((decide ((text_.length:Int)=(1:Int))) && (inS text_ ("abcdefghijklmnopqrstuvwxyz" : Str)))).bind fun b1=>cond b1
  ((some (some (Nt.tup [(Nt.txt ("lamp" : Str)),(Nt.txt text_)]))))
  ((some (decide (text_∈(Tp.mk [("yes" : Str),("no" : Str)]).l))).bind fun b11=>cond b11
   ((some (some (Nt.tup [(Nt.txt text_)]))))
   ((some W1).bind fun as21=>(Bt (S:=Unit) (ρ:=(Option Nt)) (hdf C2 text_) as21 ()).bind fun fl23=>match fl23 with
    | .nx s28 =>
     (some none).bind fun E7 =>
     (some ((decide ((Txt.slice text_ none (some (1:Int)))=("(" : Str))) && (decide ((Txt.slice text_ (some (-(1:Int))) none)=(")" : Str))))).bind fun b84=>(cond b84
      (((some (Txt.slice text_ (some (1:Int)) (some (-(1:Int))))).bind fun t95=>B8 t95).bind fun E7 =>
      some E7)
      (some E7)).bind fun s89=>tl2 C2 s89
    | .rt r=>some r
    | .bk _=>none))):=rfl
def rst (t w:Str):Str:=Txt.slice t (some ((w.length+1:Nat):Int)) none
theorem JO (C2:Str->Option (Option Nt))(t:Str){w:Str}(hw:w∈W1):hdf C2 t w ()=if (Cp t).take (w.length+1)=Cp w++[32] then (C2 (rst t w)).bind fun o=>some (.rt (o.map fun y=>Nt.tup [.txt w,y])) else some (.nx ()):=by
 have hl:=w1_len w hw;unfold hdf;rw [show ((w.length:Int)+1)=((w.length+1:Nat):Int) by omega,AB,AB,AB,DN (by rw [Bc];omega),AB];have e2:Cp (w ++ " ")=Cp w++[32]:=by rw [Ch,HK]
 have e1:Cp (Txt.slice t none (some ((w.length+1:Nat):Int)))=(Cp t).take (w.length+1):=IV t _;by_cases h:(Cp t).take (w.length+1)=Cp w++[32]
 ·rw [if_pos h,AB,decide_eq_true (C7 (e1.trans (h.trans e2.symm))),cond_true,AB];unfold rst
  cases C2 (Txt.slice t (some ((w.length+1:Nat):Int)) none) with
  | none=>rfl
  | some o=>cases o<;>rfl
 ·rw [if_neg h,AB,decide_eq_false fun z=>h (by rw [<- e1,z,e2])]
  rfl
theorem rst_eq {t w:Str}(h:(Cp t).take (w.length+1)=Cp w++[32]):t=w ++ " " ++ rst t w:=by
 refine C7 ?_;rw [FI];have:Cp (rst t w)=(Cp t).drop (w.length+1):=GY t _;rw [this]
 conv=>lhs;rw [<- List.take_append_drop (w.length+1) (Cp t),h]
 simp
theorem rst_of (w t:Str):(Cp (w ++ " " ++ t)).take (w.length+1)=Cp w++[32]/\rst (w ++ " " ++ t) w=t:=by
 have e:Cp (w ++ " " ++ t)=(Cp w++[32])++Cp t:=by rw [FI];simp
 have ql:w.length+1=(Cp w++[32]).length:=by rw [qeA,Bi];rfl
 refine ⟨by rw [e,ql,List.take_left],C7 ?_⟩;have:Cp (rst (w ++ " " ++ t) w)=(Cp (w ++ " " ++ t)).drop (w.length+1):=GY _ _;rw [this,e,ql,List.drop_left]
theorem Kz:∀ w∈W1,3<=w.length:=by decide +kernel
theorem Wr.len {x:Nt}{n:Nat}{t:Str}(h:Wr x n t):1<=t.length/\4 * x.dep<=t.length+4:=by
 induction h with
 | leaf h=>rcases h with rfl|rfl<;>exact ⟨by decide +kernel,by simp only [Nt.dep,Nt.deps];decide +kernel⟩
 | lamp h=>exact ⟨by rw [Gb];decide,by rw [Gb];simp only [Nt.dep,Nt.deps];decide⟩
 | @one w a n t hw _ ih =>
  have:=Kz w hw;rw [Str.length_append,Str.length_append,Bc];simp only [Nt.dep,Nt.deps] at ih ⊢;omega
 | @two w a b n m t u hw _ _ ih1 ih2 =>
  simp only [Str.length_append,Bc,Gk,MD];simp only [Nt.dep,Nt.deps] at ih1 ih2 ⊢;omega
theorem MA (x:Str)(i:Nat)(hi:i<=x.length):OK (Bt (hit x (i:Int)) Gy ()) fun fl=>(∃ r,fl = .rt r)\/fl = .nx ():=by
 refine Ft (fun _ _=>True) (fun _=>False) (fun _=>True) trivial (fun j w s hw _=>?_) (fun s _=>.inr rfl) (fun _ h=>h.elim) fun r _=>.inl ⟨r,rfl⟩;rw [show s=() from rfl,IY x i hi (words2_mem.mp (qnA hw))];split
 ·exact A8 trivial
 ·exact A8 trivial
theorem Hw (x:Str)(hx:x.length<=100000):OK (B8 x) fun o=>∀ p,o=some p->p.a∈W2/\x=p.b ++ " " ++ p.a ++ " " ++ p.c:=by
 have hs:sizeLine=16777216:=qzA
 have tot:OK (B8 x) fun _=>True:=by
  rw [EM,AB,AB];refine AM (GA (n:=x.length) (by omega) (by omega) (by omega) ?_);refine AM (Ft (fun _ _=>True) (fun _=>False) (fun _=>True) trivial (fun j z s hz _=>?_) (fun s _=>A8 trivial) (fun _ h=>h.elim) fun r _=>A8 trivial);obtain ⟨hj,rfl⟩:=Hh hz;obtain ⟨c,hc⟩:∃ c,(Cp x)[j]? = some c:=⟨_,qpA (by rw [Bi];exact hj)⟩;rw [Dy x j s hc];split
  ·refine Bb (MA x j (by omega)) fun fl hfl=>?_;rcases hfl with ⟨r,rfl⟩|rfl
   ·exact A8 trivial
   ·exact A8 trivial
  ·exact A8 trivial
 obtain ⟨o,ho,_⟩:=tot;exact ⟨o,ho,fun p hp=>Hz (ho.trans (by rw [hp]))⟩
theorem ends_of {t:Str}(h1:Txt.slice t none (some (1:Int)) = "(")(h2:Txt.slice t (some (-(1:Int))) none = ")"):2<=t.length/\t = "(" ++ Txt.slice t (some (1:Int)) (some (-(1:Int))) ++ ")" := by
 have e1:(Cp t).take 1=[40]:=by
  have:Cp (Txt.slice t none (some (1:Int)))=(Cp t).take 1:=IV t 1;rw [<- this,h1,Ld]
 have l1:1<=t.length:=by
  have:=congrArg List.length e1;rw [List.length_take,Bi] at this;simp only [qgA] at this;omega
 have e2:(Cp t).drop (t.length - 1)=[41]:=by
  have:Cp (Txt.slice t (some (-(1:Int))) none)=(Cp t).drop (t.length - 1):=Kx t l1;rw [<- this,h2,Lc]
 have l2:2<=t.length:=by
  by_cases h:t.length=1
  ·rw [h] at e2;have:Cp t=[41]:=e2;rw [this] at e1;cases e1
  ·omega
 refine ⟨l2,C7 ?_⟩;rw [Ch,Ch,Ld,Lc];have e3:Cp (Txt.slice t (some (1:Int)) (some (-(1:Int))))=((Cp t).drop 1).take (t.length - 2):=sl_in t l1;rw [e3]
 have e4:(Cp t).drop 1=((Cp t).drop 1).take (t.length - 2)++[41]:=by
  conv=>lhs;rw [<- List.take_append_drop (t.length - 2) ((Cp t).drop 1)]
  rw [List.drop_drop,show 1+(t.length - 2)=t.length - 1 by omega,e2]
 conv=>lhs;rw [<- List.take_append_drop 1 (Cp t),e1,e4]
 simp
theorem rd_ok:∀ (k:Nat) (t:Str),t.length+4<=4 * k->t.length<=100000->OK (BM k t) fun o=>∀ x,o=some x->∃ n,Wr x n t
 | 0,t,h,_=>by omega
 | k+1,t,h,hl=>by
  have ih:=rd_ok k;show OK (B2 (BM k) t) _;rw [EO,AB];refine Ad (fun h1=>A8 fun x hx=>?_) fun _=>?_
  ·rw [qtB] at h1;have hl1:(Cp t).length=1:=by rw [Bi];have:=of_decide_eq_true h1.1;omega
   obtain ⟨c,hc⟩:=List.length_eq_one_iff.mp hl1;obtain rfl:t=one c:=C7 (by rw [hc];rfl);have:=h1.2;rw [LA,Io] at this;cases hx;exact ⟨1,.lamp (of_decide_eq_true this)⟩
  rw [AB];refine Ad (fun h2=>A8 fun x hx=>?_) fun _=>?_
  ·have h2:t∈(["yes","no"]:List Str):=of_decide_eq_true h2;cases hx;refine ⟨1,.leaf ?_⟩
   simpa using h2
  rw [AB];refine AM (Ft (fun _ _=>True) (fun _=>False) (fun o=>∀ x,o=some x->∃ n,Wr x n t) trivial (fun j w s hw _=>?_) (fun s _=>?_) (fun _ h=>h.elim) fun r hr=>A8 hr)
  ·have hw:=qnA hw;have lo:=Kz w hw;rw [show s=() from rfl,JO _ t hw];split
   ·rename_i e;have e:=rst_eq e;have el:=congrArg Str.length e;rw [Str.length_append,Str.length_append,Bc] at el;refine Bb (ih (rst t w) (by omega) (by omega)) fun o ho=>A8 fun x hx=>?_;obtain ⟨y,rfl,rfl⟩:=Option.map_eq_some_iff.mp hx;obtain ⟨n,hy⟩:=ho y rfl;exact ⟨n+1,by rw [e];exact .one hw hy⟩
   ·exact A8 trivial
  ·show OK (Option.bind _ _) _;rw [AB,AB];refine Bb (P:=fun o:Option (T3 Str Str Str)=>∀ p,o=some p->p.a∈W2/\t = "(" ++ p.b ++ " " ++ p.a ++ " " ++ p.c ++ ")") (Ad (fun h3=>?_) fun _=>A8 fun p hp=>nomatch hp) fun o ho=>?_
   ·rw [qtB] at h3;obtain ⟨l2,et⟩:=ends_of (of_decide_eq_true h3.1) (of_decide_eq_true h3.2);simp only [AB,AO];refine (Hw _ (qtA (Txt.slice_le t _ _) hl)).mono fun o ho p hp=>?_;obtain ⟨q1,q2⟩:=ho p hp;refine ⟨q1,?_⟩;rw [q2] at et;rw [et];apply Str.ext';simp only [Str.cps_append,Array.append_assoc]
   ·unfold tl2
    cases o with
    | none=>exact A8 fun x hx=>nomatch hx
    | some p =>
     obtain ⟨q1,q2⟩:=ho p rfl;have el:=congrArg Str.length q2;simp only [Str.length_append,Bc,Gk,MD] at el;simp only [AB,Option.isNone_some,cond_false];refine Bb (ih p.b (by omega) (by omega)) fun o1 h1=>Bb (ih p.c (by omega) (by omega)) fun o2 h2=>?_
     cases o1 with
     | none=>exact A8 fun x hx=>nomatch hx
     | some y =>
      cases o2 with
      | none=>exact A8 fun x hx=>nomatch hx
      | some z =>
       obtain ⟨n,hy⟩:=h1 y rfl;obtain ⟨m,hz⟩:=h2 z rfl;refine A8 fun x hx=>?_;cases hx;exact ⟨n+m+1,by rw [q2];exact .two q1 hy hz⟩
theorem not_yn {t:Str}(h:32∈Cp t):t ∉ (["yes","no"]:List Str):=fun z=>by
 simp only [qiA,qpB,or_false] at z;rcases z with rfl|rfl
 ·exact absurd h (by decide +kernel)
 ·exact absurd h (by decide +kernel)
theorem GM {x:Nt}{n:Nat}{t:Str}(h:Wr x n t):∀ k,x.dep<=k->t.length<=100000->BM k t=some (some x):=by
 induction h with
 | @leaf w hw =>
  intro k hk _;obtain ⟨k,rfl⟩:∃ j,k=j+1:=⟨k - 1,by simp only [Nt.dep] at hk;omega⟩;show B2 _ _=_;rw [EO,AB];have e1:decide ((w.length:Int)=1)=false:=by rcases hw with rfl|rfl<;>decide +kernel
  have e2:decide (w∈(Tp.mk [("yes" : Str),("no" : Str)]).l)=true:=decide_eq_true (by show w∈(["yes","no"]:List Str);simpa using hw);rw [e1,Bool.false_and,cond_false,AB,e2]
  rfl
 | @lamp c hc =>
  intro k hk _;obtain ⟨k,rfl⟩:∃ j,k=j+1:=⟨k - 1,by simp only [Nt.dep] at hk;omega⟩;show B2 _ _=_;rw [EO,AB,LA,Io,decide_eq_true hc,Gb]
  rfl
 | @one w a n t hw ha ih =>
  intro k hk hl;obtain ⟨k,rfl⟩:∃ j,k=j+1:=⟨k - 1,by simp only [Nt.dep] at hk;omega⟩;have hk':a.dep<=k:=by simp only [Nt.dep,Nt.deps] at hk;omega
  have lo:=Kz w hw;have hlen:(w ++ " " ++ t).length=w.length+1+t.length:=by rw [Str.length_append,Str.length_append,Bc]
  obtain ⟨r1,r2⟩:=rst_of w t;show B2 _ _=_;rw [EO,AB,decide_eq_false (by omega),Bool.false_and,cond_false,AB,decide_eq_false (show ¬ (w ++ " " ++ t)∈(["yes","no"]:List Str) from not_yn (by rw [FI];exact qrB _ qkA)),cond_false,AB];rw [Ib (w:=w) (r:=some (Nt.tup [.txt w,a])) hw ?_ ?_]
  ·rfl
  ·rw [JO _ _ hw,if_pos r1,r2,ih k hk' (by omega)]
   rfl
  ·intro v hv ne;rw [JO _ _ hv,if_neg];intro e;have:=rst_eq e;have:=congrArg Cp this;rw [FI,FI] at this;exact ne (C7 (Dt (HW w hw) (HW v hv) this)).symm
 | @two w a b n m t u hw ha hb ih1 ih2 =>
  intro k hk hl;obtain ⟨k,rfl⟩:∃ j,k=j+1:=⟨k - 1,by simp only [Nt.dep] at hk;omega⟩;have hk1:a.dep<=k:=by simp only [Nt.dep,Nt.deps] at hk;omega
  have hk2:b.dep<=k:=by simp only [Nt.dep,Nt.deps] at hk;omega
  have hlen:("(" ++ t ++ " " ++ w ++ " " ++ u ++ ")").length=t.length+w.length+u.length+4:=by simp only [Str.length_append,Bc,Gk,MD];omega
  generalize hx : "(" ++ t ++ " " ++ w ++ " " ++ u ++ ")" = x at hl hlen;have e:Cp x=40::(Cp t++32::(Cp w++32::(Cp u++[41]))):=by rw [<- hx];exact KI w t u
  have ei:Cp (t ++ " " ++ w ++ " " ++ u)=Cp t++32::(Cp w++32::Cp u):=by simp only [Ch,HK,qqA,List.singleton_append,List.cons_append,List.nil_append]
  have ee:Cp x=40::(Cp (t ++ " " ++ w ++ " " ++ u)++[41]):=by rw [e,ei];simp
  have il:(t ++ " " ++ w ++ " " ++ u).length=x.length - 2:=by simp only [Str.length_append,Bc];omega
  show B2 _ _=_;rw [EO,AB,decide_eq_false (by omega),Bool.false_and,cond_false,AB,decide_eq_false (show ¬ x∈(["yes","no"]:List Str) from not_yn (by rw [e];exact qmA _ (qrB _ qkA))),cond_false,AB];rw [Ho]
  ·have s1:Txt.slice x none (some (1:Int)) = "(" := C7 (by
    have:Cp (Txt.slice x none (some (1:Int)))=(Cp x).take 1:=IV x 1;rw [this,e,Ld]
    rfl)
   have s2:Txt.slice x (some (-(1:Int))) none = ")" := C7 (by
    have:Cp (Txt.slice x (some (-(1:Int))) none)=(Cp x).drop (x.length - 1):=Kx x (by omega);rw [this,ee,Lc,show x.length - 1=(t ++ " " ++ w ++ " " ++ u).length+1 by omega];show (Cp (t ++ " " ++ w ++ " " ++ u)++[41]).drop _=_
    rw [<- Bi,List.drop_left])
   have s3:Txt.slice x (some (1:Int)) (some (-(1:Int)))=t ++ " " ++ w ++ " " ++ u:=C7 (by
    have:Cp (Txt.slice x (some (1:Int)) (some (-(1:Int))))=((Cp x).drop 1).take (x.length - 2):=sl_in x (by omega);rw [this,ee,<- il];show (Cp (t ++ " " ++ w ++ " " ++ u)++[41]).take _=_
    rw [<- Bi,List.take_left])
   show Option.bind _ _=_;rw [AB,AB,s1,s2,s3,decide_eq_true rfl,decide_eq_true rfl];rw [Bool.and_self];dsimp only;rw [AB,cond_true,AB,Kb ha hb hw (by omega),AB,AB];unfold tl2;simp only [AB,Option.isNone_some,cond_false,ih1 k hk1 (by omega),ih2 k hk2 (by omega),Bool.or_self]
  ·intro v hv;rw [JO _ _ hv,if_neg];intro z;have lo:=Kz v hv;obtain ⟨R,q⟩:∃ R,(Cp x).take (v.length+1)=40::R:=⟨((Cp x).drop 1).take v.length,by rw [e];rfl⟩;rw [q] at z
   cases hq:Cp v with
   | nil =>
    have:=Bi v;rw [hq] at this;simp only [List.length_nil] at this;omega
   | cons c r =>
    rw [hq,List.cons_append] at z;have:=(qmB z).1;exact (plain1 v hv c (by rw [hq];exact qkA)).2.1 this.symm
def JY:List Str:=["not","next","atlast","always","again","settles","and","or","then","until","frees"]
theorem heads1:∀ k:Nat,k<6->∃ w,JY[k]? = some w/\w∈W1:=by
 intro k hk;rcases k with _|_|_|_|_|_|k
 ·exact ⟨_,rfl,by decide +kernel⟩
 ·exact ⟨_,rfl,by decide +kernel⟩
 ·exact ⟨_,rfl,by decide +kernel⟩
 ·exact ⟨_,rfl,by decide +kernel⟩
 ·exact ⟨_,rfl,by decide +kernel⟩
 ·exact ⟨_,rfl,by decide +kernel⟩
 ·omega
theorem heads2:∀ k:Nat,6<=k->k<11->∃ w,JY[k]? = some w/\w∈W2:=by
 intro k h6 hk;rcases k with _|_|_|_|_|_|_|_|_|_|_|k
 ·omega
 ·omega
 ·omega
 ·omega
 ·omega
 ·omega
 ·exact ⟨_,rfl,by decide +kernel⟩
 ·exact ⟨_,rfl,by decide +kernel⟩
 ·exact ⟨_,rfl,by decide +kernel⟩
 ·exact ⟨_,rfl,by decide +kernel⟩
 ·exact ⟨_,rfl,by decide +kernel⟩
 ·omega
def Gp (p:Nt × Int):Prop:=∃ n:Nat,Sx p.1 n/\p.2=(n:Int)/\n<=24
structure Pl (l:List (Nt × Int))(m:Nat):Prop where
 lo:1<=l.length
 hi:l.length<=m
 gs:∀ p∈l,Gp p
theorem at_neg {α:Type}{l:List α}{k:Nat}{P:α->Prop}(hk:k<l.length)(hp:∀ x∈l,P x):OK (atI l (-(1:Int) - (k:Int))) P:=by
 have e:ixN l.length (-(1:Int) - (k:Int))=some (l.length - 1 - k):=by
  unfold ixN;rw [if_neg (by omega),if_pos (by omega)]
  congr 1
  omega
 obtain ⟨x,hx⟩:∃ x,l[l.length - 1 - k]? = some x:=⟨_,qpA (by omega)⟩;refine ⟨x,?_,hp x (qnA hx)⟩;unfold atI;rw [e,AB,hx]
theorem Jf {l:List (Nt × Int)}{m:Nat}(g:Pl l m)(c:Int)(hm:m<=1000):OK (CB l c) fun l'=>Pl l' (m+1):=by
 have hs:sizeLine=16777216:=qzA;have lo:=g.lo;have hi:=g.hi;unfold CB;simp only [qaB,AB,AO];have k0:=qcB c (b:=11) (by decide);have k1:=qdB c (b:=11) (by decide);obtain ⟨k,hk⟩:=qbB k0;rw [hk] at k1 ⊢;have q0:(0:Int)<(if (l.length:Int)<3 then (l.length:Int) else 3):=by split<;>omega
 have q1:(if (l.length:Int)<3 then (l.length:Int) else 3)<=(l.length:Int):=by split<;>omega
 refine AM (JI q0 ?_);have a0:=qcB (c / 11) (b:=(if (l.length:Int)<3 then (l.length:Int) else 3)) (by omega);have a1:=qdB (c / 11) q0;obtain ⟨j,hj⟩:=qbB a0;rw [hj] at a1 ⊢;refine Bb (at_neg (P:=Gp) (by omega) g.gs) fun left ⟨n1,s1,e1,b1⟩=>?_;refine AM (JI (by omega) ?_);have d0:=qcB (((c / 33) * 48271) % 2147483647) (b:=(l.length:Int)) (by omega);have d1:=qdB (((c / 33) * 48271) % 2147483647) (b:=(l.length:Int)) (by omega);refine AM (GI d0 d1 fun right hr=>?_);obtain ⟨n2,s2,e2,b2⟩:=g.gs right (qnA hr);obtain ⟨w,hw⟩:∃ w,JY[k]? = some w:=⟨_,qpA (show k<11 by omega)⟩;have ew:atI JY (k:Int)=some w:=CW hw;unfold JY at ew;simp only [ew,AB];refine Bb (P:=fun z:Int × Nt=>∃ n:Nat,Sx z.2 n/\z.1=(n:Int)) (Ad (fun h5=>?_) fun h5=>?_) fun z ⟨n,sn,en⟩=>?_
 ·have h5:=of_decide_eq_true h5;obtain ⟨w',hw',h2⟩:=heads2 k (by omega) (by omega);obtain rfl:w=w':=qvA (hw.symm.trans hw');refine Ad (fun _=>A8 ⟨_,.two h2 s2 s1,?_⟩) fun _=>A8 ⟨_,.two h2 s1 s2,?_⟩
  ·show 1+left.2+right.2=((n2+n1+1:Nat):Int);omega
  ·show 1+left.2+right.2=((n1+n2+1:Nat):Int);omega
 ·have h5:=of_decide_eq_false h5;obtain ⟨w',hw',h2⟩:=heads1 k (by omega);obtain rfl:w=w':=qvA (hw.symm.trans hw');refine A8 ⟨_,.one h2 s1,?_⟩;show 1+left.2=((n1+1:Nat):Int);omega
 ·refine Ad (fun h=>LG (by omega) ⟨by rw [qeA];omega,by rw [qeA,qgA];omega,fun p hp=>?_⟩) fun _=>A8 ⟨lo,by omega,g.gs⟩;have h:=of_decide_eq_true h;rcases qhA.mp hp with hp|hp
  ·exact g.gs p hp
  ·rw [qjA.mp hp];exact ⟨n,sn,en,by omega⟩
theorem Jo (s:Scr)(a:Int)(h0:0<=a)(h1:a<=50):OK (Bz s a) fun x=>∃ n:Nat,Sx x n/\n<=24:=by
 have hs:sizeLine=16777216:=qzA;unfold Bz;refine AM (DB (DB (En s a (by omega) (by omega) fun c=>?_)));refine DB (DB (AM (DB (GA (n:=4) (by omega) (by omega) (by omega) ?_))));refine AM (Gf (fun i (l:List (Nt × Int))=>Pl l (2+i)) ⟨by decide,by decide,fun p hp=>?_⟩ (fun i k l hk g=>?_) fun l g=>?_)
 ·simp only [qiA,qpB,or_false] at hp;rcases hp with rfl|rfl
  ·exact ⟨1,.leaf (.inr rfl),rfl,by decide⟩
  ·exact ⟨1,.leaf (.inl rfl),rfl,by decide⟩
 ·obtain ⟨hi,rfl⟩:=Hh hk;have lo:=g.lo;have hil:=g.hi;simp only [qaB,AB,AO];refine AM (En s _ (by omega) (by omega) fun c2=>?_);rw [Io];have a0:=qcB c2 (b:=26) (by decide);have a1:=qdB c2 (b:=26) (by decide);refine AM (GI a0 (by unfold Fj;rw [List.length_range'];exact a1) fun z hz=>?_);refine AM (LG (by omega) (A8 ⟨_,rfl,?_,?_,fun p hp=>?_⟩))
  ·rw [qeA];omega
  ·rw [qeA,qgA];omega
  ·rcases qhA.mp hp with hp|hp
   ·exact g.gs p hp
   ·rw [qjA.mp hp];exact ⟨1,.lamp (qnA hz),rfl,by decide⟩
 ·rw [JW] at g;refine DB ?_;refine Bb (P:=fun l:List (Nt × Int)=>Pl l 100) (Ad (fun _=>?_) fun _=>?_) fun l2 g2=>?_
  ·refine AM (DB (GA (n:=23) (by omega) (by omega) (by omega) ?_));refine AM (Gf (fun i (l:List (Nt × Int))=>Pl l (6+i)) g (fun i k l hk g=>?_) fun l g=>A8 ⟨g.lo,?_,g.gs⟩)
   ·obtain ⟨hi,rfl⟩:=Hh hk;simp only [qaB,AB,AO];have m0:=qcB (i:Int) (b:=12) (by decide);have m1:=qdB (i:Int) (b:=12) (by decide);refine AM (En s _ (by omega) (by omega) fun c2=>AM (ok_div ⟨by omega,by omega⟩ ?_));exact Bb (Jf g _ (by omega)) fun l' g'=>A8 ⟨_,rfl,g'⟩
   ·have:=g.hi;rw [JW] at this;omega
  ·refine AM (DB ?_);have b0:=qcB (c / 9) (b:=13) (by decide);have b1:=qdB (c / 9) (b:=13) (by decide);obtain ⟨q,hq⟩:=qbB b0;rw [hq] at b1 ⊢;refine GA (n:=q) (by omega) (by omega) (by omega) ?_;refine AM (Gf (fun i (l:List (Nt × Int))=>Pl l (6+i)) g (fun i k l hk g=>?_) fun l g=>A8 ⟨g.lo,?_,g.gs⟩)
   ·obtain ⟨hi,rfl⟩:=Hh hk;simp only [qaB,AB,AO];refine AM (En s _ (by omega) (by omega) fun c2=>?_);exact Bb (Jf g _ (by omega)) fun l' g'=>A8 ⟨_,rfl,g'⟩
   ·have:=g.hi;rw [JW] at this;omega
  ·simp only [qaB,AB,AO];have lo:=g2.lo;refine AM (ok_last (fun e=>by rw [e] at lo;exact absurd lo (by decide)) (A8 ?_));obtain ⟨n,h1,_,h2⟩:=g2.gs _ (List.getLast_mem (fun e=>by rw [e] at lo;exact absurd lo (by decide)));exact ⟨n,h1,h2⟩
theorem Hb:∀ (n:Nat) (x:Nt),Ba n x=AN n x
 | 0,_=>rfl
 | n+1,x=>by
  show CT (Ba n) x=AZ (AN n) x;rw [show Ba n=AN n from funext (Hb n)]
  rfl
theorem JD {x:Nt}{n:Nat}{t:Str}(h:Wr x n t):∀ k,x.dep<=k->Cb k x=some (n:Int):=by
 induction h with
 | @leaf w hw =>
  intro k hk;obtain ⟨k,rfl⟩:∃ j,k=j+1:=⟨k - 1,by simp only [Nt.dep] at hk;omega⟩;show BC _ _=_;refine OK.eq ?_;unfold BC;simp only [qaB,AB,AO,C1,at0,DZ];refine Bb (P:=fun b=>b=true) (Ad (fun _=>A8 rfl) fun _=>A8 rfl) fun b hb=>by rw [hb];exact A8 rfl
 | @lamp c hc =>
  intro k hk;obtain ⟨k,rfl⟩:∃ j,k=j+1:=⟨k - 1,by simp only [Nt.dep] at hk;omega⟩;show BC _ _=_;refine OK.eq ?_;unfold BC;simp only [qaB,AB,AO,C1,at0,DZ,decide_true,cond_true];exact A8 rfl
 | @one w a n t hw ha ih =>
  intro k hk;obtain ⟨k,rfl⟩:∃ j,k=j+1:=⟨k - 1,by simp only [Nt.dep] at hk;omega⟩;have hk':a.dep<=k:=by simp only [Nt.dep,Nt.deps] at hk;omega
  show BC _ _=_;refine OK.eq ?_;unfold BC;simp only [qaB,AB,AO,C1,at0,DZ,decide_eq_false (Ia w hw),cond_false];rw [show decide ((([Nt.txt w,a]:List Nt).length:Int)=1)=false from rfl];simp only [cond_false,GC,AB,KN,ih k hk',Option.bind_some];refine A8 ?_;show (1:Int)+_=_;simp;omega
 | @two w a b n m t u hw ha hb ih1 ih2 =>
  intro k hk;obtain ⟨k,rfl⟩:∃ j,k=j+1:=⟨k - 1,by simp only [Nt.dep] at hk;omega⟩;have hk1:a.dep<=k:=by simp only [Nt.dep,Nt.deps] at hk;omega
  have hk2:b.dep<=k:=by simp only [Nt.dep,Nt.deps] at hk;omega
  show BC _ _=_;refine OK.eq ?_;unfold BC;simp only [qaB,AB,AO,C1,at0,DZ,decide_eq_false (JV w hw),cond_false];rw [show decide ((([Nt.txt w,a,b]:List Nt).length:Int)=1)=false from rfl];simp only [cond_false,GC,AB,KN,ih1 k hk1,ih2 k hk2,Option.bind_some];refine A8 ?_;show (1:Int)+_=_;simp;omega
theorem Km (t:Str)(c:Int)(ht:t.length<=1000):OK (C5 t c) fun _=>True:=by
 have hs:sizeLine=16777216:=qzA;have hsl:∀ lo hi,(Txt.slice t lo hi).length<=t.length:=Txt.slice_le t;unfold C5;simp only [qaB,AB,AO];have l40:("abcdefghijklmnopqrstuvwxyz  ()()ABYZ0-/;,~!_" : Str).cps.toList.length=44:=by decide +kernel
 have a0:=qcB (c / 7) (b:=44) (by decide);have a1:=qdB (c / 7) (b:=44) (by decide);refine AM (GI a0 (by rw [l40];exact a1) fun z _=>?_);have hz:(⟨#[z]⟩:Str).length=1:=rfl;generalize (⟨#[z]⟩:Str)=nw at hz;refine AM (JI (by omega) ?_);generalize ((c / 308) * 48271) % 2147483647 % ((t.length:Int)+1)=a;have k1:=hsl none (some a);have k2:=hsl (some (a+1)) none;have k3:=hsl (some a) none;have k4:=hsl (some (a+1)) (some (a+2));have k5:=hsl (some a) (some (a+1));have k6:=hsl (some (a+2)) none;refine Ad (fun _=>AM (CU (by omega) (CU (by rw [Str.length_append];omega) trivial))) fun _=>?_;refine Ad (fun _=>AM (CU (by omega) (CU (by rw [Str.length_append];omega) trivial))) fun _=>?_;refine Ad (fun _=>CU (by omega) trivial) fun _=>?_;refine Ad (fun _=>AM (CU (by omega) (AM (CU (by rw [Str.length_append];omega) (CU (by rw [Str.length_append,Str.length_append];omega) trivial))))) fun _=>?_;refine Ad (fun _=>?_) fun _=>A8 trivial;have b0:=qcB (c / 7) (b:=5) (by decide);have b1:=qdB (c / 7) (b:=5) (by decide);refine AM (GI b0 b1 fun y hy=>?_);have hy:=qnA hy
 have yl:y.length<=10:=by
  have:∀ z∈([" and","not "," or ","yes"," until a"]:List Str),z.length<=10:=by decide +kernel
  exact this y hy
 exact AM (CU (by omega) (CU (by rw [Str.length_append];omega) trivial))
theorem not_text {d:D}(h:isK "str" d=false):AR d=some (.error "NoText"):=by
 unfold AR Ct;rw [AB,AB,AB,AB,h]
 rfl
theorem no_text {d:D}(h:AR d=some (.error "NoText")):C6 d=some true:=by
 unfold C6;rw [h];show (if ("NoText" : Str) = "NoText" then some true else none)=some true;exact if_pos rfl
theorem IB {t:Str}{x:Nt}(h:AR (.str t)=some (.ok x)):BV t=some x:=by
 unfold BV;rw [h]
 rfl
def Thg (t0:Str)(d:D):Prop:=(∃ t:Str,d = .str t/\(t=t0\/t.length<=200))\/isK "str" d=false
def Due (d:D)(o:Option Nt):Prop:=match o with
 | none=>AR d=some (.error "NoText")
 | some x=>x.dep<=60/\∃ t,d = .str t/\AR (.str t)=some (.ok x)
theorem Lj:∀ w∈(["not ","next ","settles ","again "]:List Str),1<=w.length/\w.length<=8:=by decide +kernel
theorem mul_ok {w:Str}{k:Nat}(h1:1<=w.length)(h2:w.length<=8)(hk:2<=k)(hk2:k<=24):OK (KF w (k:Int)) fun z=>z.length<=192:=by
 have e:KF w (k:Int)=some ⟨(List.replicate ((k:Int)).toNat w.cps).foldl (·++·) #[]⟩:=if_pos ⟨by omega,by omega,h1,h2⟩;obtain ⟨_,_,_,hl⟩:=J6 e;refine OK.of e ?_;have hx:w.cps.toList.length=w.length:=qnB;have:=congrArg List.length hl;rw [List.length_flatten,List.map_replicate,List.sum_replicate_nat,qnB,hx] at this;show Array.size _<=192;rw [this,Int.toNat_natCast];have:k * w.length<=24 * 8:=Nat.mul_le_mul hk2 h2;omega
theorem law_true (ns:List Int)(hl:ns.length<=63):Jr ⟨ns⟩=some true:=by
 have hs:sizeLine=16777216:=qzA;refine OK.eq ?_;unfold Jr;refine Bb (Jo _ 0 (by decide) (by decide)) fun x0 ⟨n0,hsx,hn0⟩=>?_;obtain ⟨t0,h0⟩:=hsx.wr;obtain ⟨ks,T0⟩:=text_of h0 hn0;have t0l:=T0.tl;have r0:=Le h0 hn0 T0
 have d0:x0.dep<=24:=by
  have:∀ {x:Nt}{n:Nat}{t:Str},Wr x n t->x.dep<=n:=fun {x n t} h=>by
   induction h with
   | leaf _=>simp [Nt.dep,Nt.deps]
   | lamp _=>simp [Nt.dep,Nt.deps]
   | one _ _ ih=>simp only [Nt.dep,Nt.deps] at ih ⊢;omega
   | two _ _ _ ih1 ih2=>simp only [Nt.dep,Nt.deps] at ih1 ih2 ⊢;omega
  exact qtA (this h0) hn0
 have ew:Ba 26 x0=some t0:=by rw [Hb];exact T0.sh 26 (by omega)
 refine AM (OK.of ew ?_);refine Bb (P:=fun _=>True) ?_ fun way _=>?_
 ·simp only [AB];exact En _ 20 (by decide) (by decide) fun _=>trivial
 refine DB ?_;have q0:=qcB (way / 6) (b:=4) (by decide);have q1:=qdB (way / 6) (b:=4) (by decide);obtain ⟨q,hq⟩:=qbB q0;rw [hq] at q1 ⊢;refine AM (DB (GA (n:=q) (by omega) (by omega) (by omega) ?_));refine AM (Gf (fun i (s:D)=>∃ t:Str,s = .str t/\(t=t0\/t.length<=200)) ⟨t0,rfl,.inl rfl⟩ (fun i a s ha ⟨t,hst,ht⟩=>?_) fun s ⟨t,hst,ht⟩=>?_)
 ·obtain ⟨hi,rfl⟩:=Hh ha;subst hst;have tl:t.length<=1000:=by rcases ht with rfl|h<;>omega
  simp only [qaB,AB,AO,Bw];refine AM (En _ _ (by omega) (by omega) fun c=>Bb (Km t _ tl) fun z _=>A8 ⟨_,rfl,_,rfl,.inr ?_⟩);have e:(Txt.slice z none (some ((200:Nat):Int))).cps.toList=z.cps.toList.take 200:=IV z 200;have:=congrArg List.length e;rw [List.length_take,qnB] at this;show (Txt.slice z none (some ((200:Nat):Int))).cps.size<=200;omega
 have hT:Thg t0 s:=.inl ⟨t,hst,ht⟩;clear hst ht;refine DB ?_;refine Bb (P:=Thg t0) (Ad (fun _=>?_) fun _=>A8 hT) fun d hd=>?_
 ·have w0:=qcB (way / 24) (b:=4) (by decide);have w1:=qdB (way / 24) (b:=4) (by decide);refine AM (DB (DB (GI w0 w1 fun hd hhd=>?_)));obtain ⟨hl1,hl2⟩:=Lj hd (qnA hhd);simp only [qaB,AB,AO];have la:("a" : Str).length=1:=by decide +kernel
  refine Bb (mul_ok (k:=23) hl1 hl2 (by decide) (by decide)) fun z1 hz1=>AM (CU (by omega) ?_);refine Bb (mul_ok (k:=24) hl1 hl2 (by decide) (by decide)) fun z2 hz2=>AM (CU (by omega) ?_);have v0:=qcB (way / 96) (b:=10) (by decide);have v1:=qdB (way / 96) (b:=10) (by decide);refine GI v0 v1 fun e he=>?_;have he:=qnA he;simp only [qiA,qpB,or_false] at he;rcases he with rfl|rfl|rfl|rfl|rfl|rfl|rfl|rfl|rfl|rfl
  ·exact .inr (by simp [isK,dk,ToD.to])
  ·exact .inr (by simp [isK,dk,ToD.to])
  ·exact .inr (by simp [isK,dk,ToD.to])
  ·exact .inr (by simp [isK,dk,ToD.to])
  ·exact .inr (by simp [isK,dk,ToD.to])
  ·exact .inr (by simp [isK,dk,ToD.to])
  ·exact .inl ⟨_,rfl,.inr (by rw [Str.length_append];omega)⟩
  ·exact .inl ⟨_,rfl,.inr (by rw [Str.length_append];omega)⟩
  ·exact .inl ⟨_,rfl,.inr (by decide +kernel)⟩
  ·exact .inl ⟨_,rfl,.inr (by decide +kernel)⟩
 clear hT;refine DB ?_
 have hdue:OK (((some (isK "str" d)).bind fun t140=>cond t140 (((some d).bind fun t138=>F7 t138).bind fun t139=>(some (decide ((0:Int)<t139)))) (some false)).bind fun b141=>(cond b141
    ((((some d).bind fun t152=>Bw t152).bind fun t153=>BM 60 t153).bind fun due_ =>
    some due_)
    (some (none:Option Nt))).bind fun s146=>((some s146.isSome).bind fun t166=>cond t166 ((((some s146).bind fun t163=>t163).bind fun t164=>Cb 60 t164).bind fun t165=>(some (decide ((24:Int)<t165)))) (some false)).bind fun b167=>(cond b167
    ((some none).bind fun due_ =>
    some due_)
    (some s146))) (Due d):=by
  rcases hd with ⟨t,rfl,ht⟩|hk
  ·have tl:t.length<=1000:=by rcases ht with rfl|h<;>omega
   simp only [AB,FY,cond_true,F7,Bw,AO];by_cases hz:t.length=0
   ·rw [decide_eq_false (by omega)];exact A8 (Iu tl fun x n h=>by have:=h.len.1;omega)
   ·rw [decide_eq_true (by omega),cond_true]
    have key:OK (BM 60 t) fun o=>(o=none->∀ x n,Wr x n t->¬ n<=24)/\∀ x,o=some x->x.dep<=60/\∃ n,Wr x n t/\(¬ n<=24->∀ x n,Wr x n t->¬ n<=24):=by
     rcases ht with rfl|h200
     ·exact OK.of (GM h0 60 (by omega) (by omega)) ⟨(fun z=>nomatch z),fun x hx=>by cases hx;exact ⟨by omega,n0,h0,fun z=>absurd hn0 z⟩⟩
     ·obtain ⟨o,ho,hsnd⟩:=rd_ok 60 t (by omega) (by omega);have comp:∀ x n,Wr x n t->o=some x:=fun x n h=>qvA (ho.symm.trans (GM h 60 (by have:=h.len.2;omega) (by omega)));refine ⟨o,ho,fun hn x n h=>?_,fun x hx=>?_⟩
      ·have:=comp x n h;rw [hn] at this;cases this
      ·obtain ⟨n,hw⟩:=hsnd x hx;have hdep:=hw.len.2;refine ⟨by omega,n,hw,fun hn x' n' h' hn'=>?_⟩;obtain rfl:x'=x:=qvA ((comp x' n' h').symm.trans hx);have e1:=JD hw 60 (by omega);have e2:=qvA (e1.symm.trans (JD h' 60 (by omega)));omega
    refine Bb key fun o ⟨k1,k2⟩=>?_
    cases o with
    | none=>exact A8 (Iu tl (k1 rfl))
    | some x =>
     obtain ⟨hdep,n,hw,hno⟩:=k2 x rfl;simp only [Option.isSome_some,cond_true,AB,JD hw 60 hdep];by_cases hn:n<=24
     ·rw [decide_eq_false (by omega)];obtain ⟨js,T⟩:=text_of hw hn;exact A8 ⟨hdep,t,rfl,Le hw hn T⟩
     ·rw [decide_eq_true (by omega)];exact A8 (Iu tl (hno hn))
  ·rw [hk];exact A8 (not_text hk)
 obtain ⟨s172,hE,hDue⟩:=hdue;obtain ⟨b141,e1,hE⟩:=qaA.mp hE;obtain ⟨s146,e2,hE⟩:=qaA.mp hE;obtain ⟨b167,e3,e4⟩:=qaA.mp hE;refine AM (OK.of e1 (AM (OK.of e2 (AM (OK.of e3 (AM (OK.of e4 (DB ?_))))))))
 have last:OK (((some t0).bind fun t204=>BV t204).bind fun t205=>(some x0).bind fun t206=>eqNO t205 t206) fun b=>b=true:=by
  simp only [AB,IB r0];refine ⟨_,if_pos ⟨by omega,by omega⟩,decide_eq_true rfl⟩
 cases s172 with
 | none =>
  have hDue:AR d=some (.error "NoText"):=hDue;refine Ad (fun _=>?_) fun h=>Bool.noConfusion h;refine AM (AM (DB (OK.of (no_text hDue) (A8 ?_))));exact Ad (fun h=>Bool.noConfusion h) fun _=>last
 | some x =>
  obtain ⟨hdep,t,rfl,hr⟩:=hDue;refine Ad (fun h=>Bool.noConfusion h) fun _=>?_;refine Bb (P:=fun b=>b=false) ?_ fun b hb=>Ad (fun h=>Bool.noConfusion (hb.symm.trans h)) fun _=>last;simp only [AB,Bw,IB hr];exact ⟨_,if_pos ⟨by omega,by omega⟩,by simp⟩
theorem law_imp {K:FZ9}{vs:List V}{H:Hp}{Q:VK}{E:XK}(h:JN K vs H Q E):spM K mm_law vs H Q E:=by
 obtain ⟨a,ns,rfl,hS,hl,q⟩:=h;exact ⟨H,(⟨ns⟩,()),true,Same.refl H,⟨.ref a,[],rfl,⟨a,rfl,hS⟩,rfl⟩,law_true ns hl,fun v G2 H2 x r=>by cases r;exact q H2⟩
set_option maxHeartbeats 1000000 in
theorem all_mk {l:PySem.W.OpenLaw}{w:World}{K:FZ9}{h:Heap}{mg:Str->Option Value}{fa:Addr}(X:K.In h)(G:h.Ns mainGlobals mg)(hfa:mg "law" = some (.ref fa))
  (Z:DIn K mg "is_moment" Ee/\DIn K mg "many_parts" Dx/\DIn K mg "parts_of" FB/\DIn K mg "is_lamp" Fn/\DIn K mg "has_form" FA/\DIn K mg "is_sentence" Dm/\DIn K mg "show_sentence" CS/\DIn K mg "refuse_other_kinds" C9/\DIn K mg "taken_off" EL/\DIn K mg "lay_word" F3/\DIn K mg "read_sentence" D9/\DIn K mg "_law_cell" F8/\DIn K mg "_law_grown" EE/\DIn K mg "_law_sentence" DU/\DIn K mg "_law_written" Cz/\DIn K mg "_law_between" Dj/\DIn K mg "_law_read_of" D1/\DIn K mg "_law_size" E2/\DIn K mg "_law_changed" Dd/\DIn K mg "_law_no_text" Di/\DIn K mg "_law_classes" Dk/\DIn K mg "law" s_law)
  {tk0:Tok}
  {ga1:Addr}{ges1:Array DictEntry}{gn1:Nat}
  (gv0:qgB K mainGlobals "MOST_WORDS" = some (some (.int 24 tk0)))
  (gv1:qgB K mainGlobals "PARTS" = some (some (.ref ga1))) (gl1:K.lookup ga1=some ⟨.type "dict",none,.dict ges1 gn1,#[]⟩) (gk1:PySem.W.KeysLit w.params ges1.toList) (ge1:EntC ges1.toList Bh) (go1:(ga1 == sysModules)=false)
  (zs:Nn K "ValueError" /\ Nn K "abs" /\ Nn K "isinstance" /\ Nn K "len" /\ Nn K "min" /\ Nn K "range" /\ Nn K "reversed" /\ Nn K "str" /\ Nn K "sum" /\ Nn K "tuple")
  (XX:XC K) :
  ∃ fd:FuncData,(∀ (s:Shared) (v:Value),BindsTo s fd ⟨[v],[]⟩ [("_law_script",v)])/\∀ base:Heap,K.In base->base.Ns mainGlobals mg->FnOk l.prog w K mg base CX0 63 fa fd ["_law_script"] (JN K):=by
 obtain ⟨z0,z1,z2,z3,z4,z5,z6,z7,z8,z9,z10,z11,z12,z13,z14,z15,z16,z17,z18,z19,z20,z21⟩:=Z;obtain ⟨y0,y1,y2,y3,y4,y5,y6,y7,y8,y9⟩:=zs;obtain ⟨f,fd,a,F⟩:=z21.ex;cases hfa.symm.trans a;have T:Txt w K mg:=⟨PySem.W.mg_none_of X G y0,PySem.W.mg_none_of X G y1,PySem.W.mg_none_of X G y2,PySem.W.mg_none_of X G y3,PySem.W.mg_none_of X G y4,PySem.W.mg_none_of X G y5,PySem.W.mg_none_of X G y6,PySem.W.mg_none_of X G y7,PySem.W.mg_none_of X G y8,PySem.W.mg_none_of X G y9,⟨_,qhB X G gv0⟩,⟨_,qhB X G gv1,go1,_,_,gl1,gk1,ge1⟩⟩;refine ⟨fd,?_,fun base KB GB=>?_⟩
 ·obtain ⟨_,_,_,_,_,_,_,_,_,rfl,_⟩:=F.ex;exact fun s v=>.of_eq rfl
 obtain ⟨aS,aT,aR,aW,aM,aE,aC,aX,aN,⟨naS,naT,naR,naW,naM,naE,naC,naX,naN⟩,xe,xk,xm,xm2,xT,xV,xaR,xaW,xaM,xaE,xaC,xaX,xaN⟩:=XX;have O:OwnCls "NoText" aT bmV "ValueError.__new__" mg base:=own_in KB GB naT xe;have W:XT K mg aS aT aR aW aM aE aC aX aN:=⟨qhB X G naS,qhB X G naT,qhB X G naR,qhB X G naW,qhB X G naM,qhB X G naE,qhB X G naC,qhB X G naX,qhB X G naN,xk.to,xm,xm2,xT,xV,xaR,xaW,xaM,xaE,xaC,xaX,xaN⟩;have Bs:=@Je l.prog w K mg base z11 T;have Dc:=@JJ l.prog w K mg base z12 T;have DO:=@GX l.prog w K mg base z13 T Bs Dc
 have Br:F2 l.prog w K mg base:=by
  obtain ⟨f,fd,a,F⟩:=z14.ex
  have D:∀ n:Nat,DefOk l.prog w K mg base "_law_written" (1+n) ["_law_sentence_here"] (spM K (BE n)):=fun n=>by
   induction n with
   | zero=>exact Dz F a (F.binds bn1) (GV F)
   | succ n ih=>exact Dz F a (F.binds bn1) (HZ F T n ih)
  exact D 26
 have Df:=@Hn l.prog w K mg base z15 T
 have Bp:Eu l.prog w K mg base:=by
  obtain ⟨f,fd,a,F⟩:=z16.ex
  have D:∀ n:Nat,DefOk l.prog w K mg base "_law_read_of" (2+n) ["_law_text"] (spM K (BF n)):=fun n=>by
   induction n with
   | zero=>exact Dz F a (F.binds bn1) (GS F)
   | succ n ih=>exact Dz F a (F.binds bn1) (HD F T Df n ih)
  exact D 60
 have CD:=@ED l.prog w K mg base z7 T _ O;have CF:=@JP l.prog w K mg base z8 T _ O;have DF:=@Hv l.prog w K mg base z1 T;have EG:=@Iz l.prog w K mg base z0 T;have DJ:=@Kj l.prog w K mg base z3 T EG;have FE:=@K5 l.prog w K mg base z9 T CF DF DJ;have FH:=@KA l.prog w K mg base z2 T;have FC:=@Jg l.prog w K mg base z4 T DJ;have De:=@Gn l.prog w K mg base z5 T FH FC
 have BW:EB l.prog w K mg base:=by
  obtain ⟨f,fd,a,F⟩:=z6.ex
  have D:∀ n:Nat,DefOk l.prog w K mg base "show_sentence" (1+n) ["sentence"] (spM K (As n)):=fun n=>by
   induction n with
   | zero=>exact Dz F a (F.binds bn1) (FJ F)
   | succ n ih=>exact Dz F a (F.binds bn1) (GE F T n ih)
  exact D 26
 have Y_:=@Fx l.prog w K mg base z10 T _ O CD FE De BW;have CQ:=HG Y_;have Dn:=@HC l.prog w K mg base z18 T
 have DR:Gh l.prog w K mg base:=by
  obtain ⟨f,fd,a,F⟩:=z17.ex
  have D:∀ n:Nat,DefOk l.prog w K mg base "_law_size" (1+n) ["_law_sentence_here"] (spM K (CG n)):=fun n=>by
   induction n with
   | zero=>exact Dz F a (F.binds bn1) (Iq F)
   | succ n ih=>exact Dz F a (F.binds bn1) (Jc F T n ih)
  exact D 60
 have Dg:=@Go l.prog w K mg base z20 T _ _ _ _ _ _ _ _ _ W;have Dh:=@Gq l.prog w K mg base z19 T _ _ _ _ _ _ _ _ _ W Y_ Dg;exact (ok_law F T DO Br Bs Bp CQ Dn DR Dh).imp fun _ _ _ _ h=>law_imp h
theorem walk {l:PySem.W.OpenLaw}{q:Program}{loose:List Str}{XP:(Str->Option Value)->Heap->Prop}{YP:World->Heap->Prop}{d:DefRec}{K:Params->FZ9}(hn:l.most=some 63)(hdf:d.params.defaults=[])
  (hY:∀ (w:World) (h:Heap),YP w h->(K w.params).In h)
  (F:∀ (w:World) (mg:Str->Option Value) (fa:Addr) (h:Heap),(K w.params).In h->h.Ns mainGlobals mg->mg d.name=some (.ref fa) ->
   ∃ fd:FuncData,(∀ (s:Shared) (u:Value),BindsTo s fd ⟨[u],[]⟩ [("_law_script",u)])/\∀ base:Heap,(K w.params).In base->base.Ns mainGlobals mg->FnOk l.prog w (K w.params) mg base CX0 63 fa fd ["_law_script"] (JN (K w.params))) :
  PySem.W.WalkO q loose XP YP l.row.toRowW d [] (fun f vs=>PySem.call f vs) :=
 L2.walk_of (n:=63) (k:=63) (x := "_law_script") (CX:=fun _=>CX0) (sp:=fun w=>JN (K w.params)) hn (by decide) hdf ⟨rfl,by decide,by decide⟩ hY F (fun _ _ a ns hl _ hS=>⟨a,ns,rfl,hS,hl,fun _=>rfl⟩) fun _ _ _ _ _ z=>z
end My
open PySem PySem.W PyProof.Rows
theorem PySem.W.Fast.tw17914369332639732788:True:=trivial
theorem PySem.W.Fast.tw13224823352370084742:True:=trivial
theorem PySem.W.Fast.tw9983540013145389372:True:=trivial
theorem PySem.W.Fast.tw18403052852586760807:True:=trivial
theorem PySem.W.Fast.tw11282699486384026319:True:=trivial
theorem PySem.W.Fast.tw9993431902139709464:True:=trivial
theorem PySem.W.Fast.tw14635064827475394007:True:=trivial
theorem PySem.W.Fast.tw12683543275243885681:True:=trivial
theorem PySem.W.Fast.tw9321130484094302462:True:=trivial
theorem PySem.W.Fast.tw5026076700900826673:True:=trivial
theorem PySem.W.Fast.tw11975098817557734485:True:=trivial
theorem PySem.W.Fast.tw7051829273090487692:True:=trivial
theorem PySem.W.Fast.tw14463906638342152827:True:=trivial
theorem PySem.W.Fast.tw3733890943245778135:True:=trivial
theorem PySem.W.Fast.tw13662191324166843678:True:=trivial
theorem PySem.W.Fast.tw17956417203011997122:True:=trivial
theorem PySem.W.Fast.tw7513915266626808575:True:=trivial
theorem PySem.W.Fast.tw12984697674631551214:True:=trivial
theorem PySem.W.Fast.tw16706632649167314266:True:=trivial
set_option maxRecDepth 100000 in
set_option maxHeartbeats 0 in
theorem PySem.Challenge.cw_lassoscribe_k86_sentences_read_holds : PySem.Challenge.rw_lassoscribe_k86_sentences_read.Holds := by
 w_on; o_law; k_head; (case hw => w_witness2)
 k_fill
 refine My.walk (l := PySem.Challenge.rw_lassoscribe_k86_sentences_read) rfl rfl (fun w h Y => PySem.W.kIn_of Y) ?F
 case F =>
  intro w mg fa h KX G hmg;refine' My.all_mk KX G hmg ?zz ?gv0 ?gv1 ?gl1 ?gk1 ?ge1 ?go1 ?zy ?xx
  (case zz =>
   refine ⟨?_, ?_, ?_, ?_, ?_, ?_, ?_, ?_, ?_, ?_, ?_, ?_, ?_, ?_, ?_, ?_, ?_, ?_, ?_, ?_, ?_, ?_⟩
   all_goals (refine' L2.din KX G ?a ?l ?c ?k; (case a => k_is); (case l => k_is); (case c => k_is); (case k => k_is)))
  (case gv0 => k_is)
  (case gv1 => k_is)
  (case gl1 => k_is)
  (case gk1 => k_keys)
  (case ge1 => (repeat (first | exact True.intro | refine And.intro ⟨_, _, rfl, rfl⟩ ?_)))
  (case go1 => decide)
  (case zy => refine ⟨?_, ?_, ?_, ?_, ?_, ?_, ?_, ?_, ?_, ?_⟩ <;> (unfold L2.Nn; k_is))
  (case xx =>
   refine' My.xc_mk ?n1 ?n2 ?n3 ?n4 ?n5 ?n6 ?n7 ?n8 ?n9 ?xe ?c1 ?c2 ?c3 ?c4 ?c5 ?c6 ?c7 ?c8 ?xm ?xm2 ?k1 ?k2 ?k3 ?k4 ?k5 ?k6 ?k7 ?k8 ?k9
   (case n1 => k_is)
   (case n2 => k_is)
   (case n3 => k_is)
   (case n4 => k_is)
   (case n5 => k_is)
   (case n6 => k_is)
   (case n7 => k_is)
   (case n8 => k_is)
   (case n9 => k_is)
   (case xe => k_exc)
   (case c1 => k_is)
   (case c2 => k_is)
   (case c3 => k_is)
   (case c4 => k_is)
   (case c5 => k_is)
   (case c6 => k_is)
   (case c7 => k_is)
   (case c8 => k_is)
   (case xm => kts_exm)
   (case xm2 => kts_exm)
   (case k1 => kit_is)
   (case k2 => kit_is)
   (case k3 => kit_is)
   (case k4 => kit_is)
   (case k5 => kit_is)
   (case k6 => kit_is)
   (case k7 => kit_is)
   (case k8 => kit_is)
   (case k9 => kit_is))
end
