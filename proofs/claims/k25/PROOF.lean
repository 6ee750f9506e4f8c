import PyProof.Rows.All
import Wide.All
import OpenK.AllK
import Wide.FinOn
import Lean
import PyProof.EqAt
import PyProof.EqKinds
import PyProof.TupleCall
import PyProof.NeKinds
import PyProof.EnumFor
import PyProof.EnumMake
import PyProof.Rows.EnumRows
import PyProof.Rows.Range3
import PyProof.NoPylong
import PyProof.ListRange
import PyProof.TupleOfSeq
import PyProof.TupleOfStr
import PyProof.Draws
import PyProof.ZipIter
import PyProof.Rows.ZipGen
import PyProof.Rows.SortStr
import PyProof.Rows.TupAdd
import PyProof.SetRoads
import PyProof.Rows.SetFrom
import PyProof.StrWalks
import PyProof.CollectWalk
import KE.KDictList
import PyProof.Tail
import PyProof.TupleIter
import PyProof.AttrMiss
import KE.KDictOf
import OpenK.KTop
import PyProof.Rows.SortRev
import PyProof.Rows.CallKwBuiltin
import PyProof.Rows.CallKw2
import KE.KRevIter
import PyProof.SumWalkG
import Wide.Seal
import PyProof.AttrMissHeap
import PyProof.TupleKey
import PyProof.StrCalls2
import PyProof.Rows.StrKeys3
import PyProof.Conv_int
import PyProof.ExcBaseAll.ValueError
import KE.KTryMore
import PyProof.ExcArgsOwn
import KE.KIsAll
import KE.RegKTryMore
import KE.RegKIsAll
import PyProof.ToksMono
import PyProof.StrReplace2
import PyProof.StrCalls
import PyProof.Rows.StrLen
import PyProof.MinMaxWalk
import PyProof.WalkInts
import PySem.Challenge.RW_lassoscribe_k25_no_sentence_no_run
open Option renaming bind_eq_some_iff → qaA, bind_assoc → qiB
open PySem renaming wpAny_bind → qbA, wpAny_pure → qcA, sizeLine_eq → qhB
open List renaming length_map → qdA, length_append → qeA, length_cons → qfA, length_singleton → qgA, length_range → qhA, length_take → qiA, mem_append → qjA, mem_cons → qkA, mem_map → qmA, mem_singleton → qnA, mem_cons_self → qoA, mem_cons_of_mem → qpA, mem_of_getElem? → qqA, getElem?_eq_some_iff → qrA, getElem?_eq_getElem → qsA, getElem?_append_left → qtA, getElem?_append_right → quA, getElem?_map → qvA, getD_eq_getElem?_getD → qwA, map_cons → qxA, append_assoc → qyA, append_nil → qzA, size_toArray → qoB, not_mem_nil → qvB, mem_append_right → qxB
open Nat renaming le_refl → qaB, le_trans → qbB, lt_irrefl → qcB, ne_of_lt → quB, lt_of_lt_of_le → qwB, zero_le → qyB
open Option.some renaming inj → qdB
open PySem.Heap renaming lt_size → qeB, get?_push_of_some → qfB, get?_push_size → qgB
open Int renaming eq_ofNat_of_zero_le → qjB, emod_nonneg → qkB, emod_lt_of_pos → qmB
open Bool renaming false_ne_true → qnB, and_eq_true → qzB
open PySem.W renaming nsIn → qpB, mg_of → qqB, keepIn → qrB, fnOf → qsB
open List.cons renaming inj → qtB
noncomputable section
set_option Elab.async false
set_option linter.all false
set_option maxRecDepth 100000
set_option maxHeartbeats 4000000
local macro_rules
 | `(tactic| clear $n:num $rs*) => do
  let i := fun (n : Lean.Name) => Lean.mkIdent n
  match n.getNat with
  | 7 => let l := #[`G1, `s1, `c, `hc, `H, `sH, `Q, `k].map i; `(tactic| intro $l:ident*)
  | 8 => `(tactic| refine $(rs[0]!) $(i `G1) $(i `s1) $(rs[1]!) $(rs[2]!) $(i `H) $(i `sH) _ fun $(i `v) $(i `G2) $(i `H2) $(i `x2) $(i `r2) => ?_)
  | _ => Lean.Macro.throwUnsupported
theorem bE {α β : Type} {o : Option α} {f : α -> Option β} {b : β} {C : Prop} (h : o.bind f = some b) (k : ∀ a, o = some a -> f a = some b -> C) : C := by
 obtain ⟨a, h1, h2⟩ := qaA.mp h;exact k a h1 h2
abbrev FZ9 := PySem.W.Frag
namespace L2
open PySem PySem.Spec PyProof.Rows
abbrev Key:=Sum Int Str
def KL:Key->Value->Bool
 | .inl k,v=>Value.isInt k v
 | .inr x,v=>Value.isStrOf x v
def keyH (w:World):Key->Int
 | .inl k=>hashInt k
 | .inr x=>hashStr w x
theorem Bx:∀ {k:Key}{v:Value},KL k v=true->(∃ i t,k=Sum.inl i/\v=Value.int i t)\/(∃ x t,k=Sum.inr x/\v=Value.str x t)
 | .inl i,v,h=>by
  obtain ⟨t,e⟩:=Value.isInt_shape (k:=i) (v:=v) h;exact .inl ⟨i,t,rfl,e⟩
 | .inr x,v,h=>by
  obtain ⟨t,e⟩:=Value.isStrOf_shape (x:=x) (v:=v) h;exact .inr ⟨x,t,rfl,e⟩
theorem OZ (i:Int)(t:Tok):KL (.inl i) (.int i t)=true:=by simp [KL,Value.isInt]
theorem OX (x:Str)(t:Tok):KL (.inr x) (.str x t)=true:=by simp [KL,Value.isStrOf]
theorem key_ll (a b:Int):decide ((Sum.inl a:Key)=Sum.inl b)=(a == b):=by
 by_cases e:a=b
 ·subst e;simp
 ·have h:¬ (Sum.inl a:Key)=Sum.inl b:=fun q=>e (Sum.inl.inj q);rw [decide_eq_false h];exact (beq_eq_false_iff_ne.mpr e).symm
theorem key_rr (a b:Str):decide ((Sum.inr a:Key)=Sum.inr b)=decide (a=b):=by
 by_cases e:a=b
 ·subst e;simp
 ·have h:¬ (Sum.inr a:Key)=Sum.inr b:=fun q=>e (Sum.inr.inj q);rw [decide_eq_false h,decide_eq_false e]
theorem key_lr (a:Int)(b:Str):decide ((Sum.inl a:Key)=Sum.inr b)=false:=decide_eq_false (fun q=>nomatch q)
theorem key_rl (a:Str)(b:Int):decide ((Sum.inr a:Key)=Sum.inl b)=false:=decide_eq_false (fun q=>nomatch q)
def C8 (prog:Program)(w:World):PySem.KeyKind prog w Key where
 is:=KL
 hash:=keyH w
 inj:=fun v a b ha hb=>by
  rcases Bx ha with ⟨i,t,rfl,rfl⟩ | ⟨x,t,rfl,rfl⟩
  ·rcases Bx hb with ⟨j,u,rfl,e⟩ | ⟨y,u,rfl,e⟩
   ·injection e with e1 _;rw [e1]
   ·exact nomatch e
  ·rcases Bx hb with ⟨j,u,rfl,e⟩ | ⟨y,u,rfl,e⟩
   ·exact nomatch e
   ·injection e with e1 _;rw [e1]
 byValue:=fun k v h=>by
  rcases Bx h with ⟨i,t,rfl,rfl⟩ | ⟨x,t,rfl,rfl⟩<;>rfl
 pyHash:=fun hv h=>by
  rcases Bx hv with ⟨i,t,rfl,rfl⟩ | ⟨x,t,rfl,rfl⟩
  ·exact wpAny_pyHash_int h
  ·exact wpAny_pyHash_str h
 eqBool:=fun hu hv h=>by
  rcases Bx hu with ⟨i,t,rfl,rfl⟩ | ⟨x,t,rfl,rfl⟩
  ·rcases Bx hv with ⟨j,u,rfl,rfl⟩ | ⟨y,u,rfl,rfl⟩
   ·rw [key_ll] at h;exact wpAny_eqBool_int h
   ·rw [key_lr] at h;exact SeqAt.EqAt.int_str i t y u _ _ _ _ h
  ·rcases Bx hv with ⟨j,u,rfl,rfl⟩ | ⟨y,u,rfl,rfl⟩
   ·rw [key_rl] at h;exact SeqAt.EqAt.str_int x t j u _ _ _ _ h
   ·rw [key_rr] at h;exact wpAny_eqBool_str h
 «strs»:=fun k x t v h=>by
  rcases Bx h with ⟨i,u,rfl,e⟩ | ⟨y,u,rfl,e⟩
  ·exact nomatch e
  ·injection e with e1 _
   subst e1;cases v<;>rfl
theorem La (prog:Program)(w:World)(i:Int)(t:Tok):(C8 prog w).is (.inl i) (.int i t)=true:=OZ i t
theorem LZ (prog:Program)(w:World)(x:Str)(t:Tok):(C8 prog w).is (.inr x) (.str x t)=true:=OX x t
inductive V where
 | non|bl (b:Bool)|int (i:Int)|str (x:Str)|byt (b:Array UInt8)|flt (b:UInt64)|ref (a:Addr)|ty (n:String)
 deriving DecidableEq
def RelV:V->Value->Prop
 | .non,u=>u=Value.none
 | .bl b,u=>u=Value.bool b
 | .int i,u=>∃ t,u=Value.int i t
 | .str x,u=>∃ t,u=Value.str x t
 | .byt b,u=>∃ t,u=Value.bytes b t
 | .flt b,u=>∃ t,u=Value.float b t
 | .ref a,u=>u=Value.ref a
 | .ty n,u=>u=Value.type n
abbrev Vals:List V->List Value->Prop:=Paired RelV
theorem Vals.length {xs:List V}{us:List Value}(r:Vals xs us):xs.length=us.length:=Paired.length r
theorem Vals.get:∀ {xs:List V}{us:List Value}{i:Nat}{x:V},Vals xs us->xs[i]? = some x->∃ u,us[i]? = some u/\RelV x u
 | _,_,_,_,.nil,e=>by simp at e
 | _,_,0,_,.cons r _,e=>by simp at e;subst e;exact ⟨_,rfl,r⟩
 | _,_,i+1,x,.cons _ t,e=>by
  obtain ⟨u,h1,h2⟩:=Vals.get (i:=i) (x:=x) t (by simpa using e);exact ⟨u,by simpa using h1,h2⟩
theorem Vals.set {x:V}{u:Value}(r:RelV x u):∀ {xs:List V}{us:List Value}(i:Nat),Vals xs us->Vals (xs.set i x) (us.set i u)
 | _,_,_,.nil=>.nil
 | _,_,0,.cons _ t=>.cons r t
 | _,_,i+1,.cons q t=>.cons q (Vals.set r i t)
theorem Vals.append:∀ {xs ys:List V}{us ws:List Value},Vals xs us->Vals ys ws->Vals (xs++ys) (us++ws)
 | _,_,_,_,.nil,s=>s
 | _,_,_,_,.cons r t,s=>.cons r (Vals.append t s)
theorem Vals.take:∀ {xs:List V}{us:List Value}(n:Nat),Vals xs us->Vals (xs.take n) (us.take n)
 | _,_,0,_=>.nil
 | _,_,_+1,.nil=>.nil
 | _,_,n+1,.cons r t=>.cons r (Vals.take n t)
theorem Vals.drop:∀ {xs:List V}{us:List Value}(n:Nat),Vals xs us->Vals (xs.drop n) (us.drop n)
 | _,_,0,r=>r
 | _,_,_+1,.nil=>.nil
 | _,_,n+1,.cons _ t=>Vals.drop n t
def RelO:Option V->Option Value->Prop
 | some v,some u=>RelV v u
 | none,none=>True
 | _,_=>False
def KV {κ:Type}:List (κ × V)->List (κ × Value)->Prop:=Paired fun (p:κ × V) (q:κ × Value)=>p.1=q.1/\RelV p.2 q.2
def kV:Key->V
 | .inl i=>.int i
 | .inr x=>.str x
inductive HO where
 | lst (xs:List V)
 | tup (xs:List V)
 | dK (kvs:List (Key × V))|dT (kvs:List (List Key × V))
 | set (S:Int->Bool) (n:Nat)
 | ins (C dx:Addr) (fs:List (Str × V))
 | own (x:Addr)
 | xd (fs:List (Str × V))
 | met (f x:Addr)
 | rng (lo hi:Int)
 | frz (o:Obj) (u:HO)
 | tbl (ps:Array Value)
 | ext (φ:Heap->Prop)
abbrev Hp:=Addr->Option HO
def upd (H:Hp)(a:Addr)(o:HO):Hp:=fun b=>if b=a then some o else H b
theorem AQ {H:Hp}{a:Addr}{o:HO}:upd H a o a=some o:=by unfold upd;rw [if_pos rfl]
theorem Aj {H:Hp}{a b:Addr}{o:HO}(h:b≠a):upd H a o b=H b:=by unfold upd;rw [if_neg h]
theorem JK {H:Hp}{a b:Addr}{o u:HO}(h:H a=some o)(h':H b=some u)(d:o≠u):a≠b:=by
 intro e;subst e;rw [h] at h';exact d (qdB h')
theorem CT {H:Hp}{a b:Addr}{o:HO}(h:H a=some o)(h':H b=none):a≠b:=by
 intro e;subst e;rw [h] at h';cases h'
section
variable (P:Program)(w:World)
def ObjOk (H:Hp)(h:Heap)(a:Addr):HO->Prop
 | .lst xs=>xs.length<=sizeLine/\∃ (its:List Value) (n:Nat),Vals xs its/\h.get? a=some { cls:=.type "list",data:=.seq its.toArray n }
 | .tup xs=>xs.length<=sizeLine/\∃ its:List Value,Vals xs its/\IsTup h a its.toArray
 | .dK kvs=>kvs.length<=sizeLine/\(a == sysModules)=false/\∃ vs,KV kvs vs/\h.DictOf (C8 P w) a vs
 | .dT kvs=>kvs.length<=sizeLine/\(a == sysModules)=false/\∃ xs:List (List Key × Addr × Value),
   Paired (fun (p:List Key × V) (q:List Key × Addr × Value)=>p.1=q.1/\H q.2.1=some (.tup (p.1.map kV))/\RelV p.2 q.2.2) kvs xs /\
   ∃ o es ep,h.get? a=some o/\o.ExactDict/\o.data = .dict es ep/\es.toList=xs.map (entryOfKey (tupleKind (C8 P w)))/\(xs.map (·.1)).Nodup
 | .set S n=>h.SetOf (intKind P w) a S n
 | .ins C dx fs=>H dx=some (.own a)/\fs.length<=1000/\dx≠a/\h.get? a=some (PySem.W.instObj C dx) /\
   ∃ mA,h.Ns1 dx mA/\(∀ f,RelO (fs.lookup f) (mA f))/\PySem.Within mA (fs.map (·.1))
 | .own _=>∃ o,h.get? a=some o
 | .xd fs=>∃ mA,h.Ns1 a mA/\∀ f,RelO (fs.lookup f) (mA f)
 | .rng lo hi=>∃ t u v,h.get? a=some { cls:=.type "range",data:=.fields #[.int lo t,.int hi u,.int 1 v] }
 | .frz o u=>h.get? a=some o/\ObjOk H h a u
 | .tbl ps=>h.get? a=some { cls:=.none,data:=.fields ps }
 | .met f x=>h.get? a=some (PySem.W.methodObj (.ref f) (.ref x))
 | .ext φ=>φ h/\(∃ o,h.get? a=some o)/\∀ h1 h2:Heap,φ h1->(∀ o,h1.get? a=some o->h2.get? a=some o)->φ h2
def HOk (H:Hp)(h:Heap):Prop:=∀ a o,H a=some o->ObjOk P w H h a o
end
section
variable {P:Program}{w:World}{H H':Hp}{h h':Heap}{a:Addr}{o:HO}
theorem ObjOk.lt (x:ObjOk P w H h a o):a<h.objs.size:=by
 cases o with
 | lst xs=>obtain ⟨_,_,_,_,e⟩:=x;exact qeB e
 | tup xs=>obtain ⟨_,_,_,p⟩:=x;exact p.lt
 | dK kvs=>obtain ⟨_,_,_,_,o,_,_,e,_⟩:=x;exact qeB e
 | dT kvs=>obtain ⟨_,_,_,_,o,_,_,e,_⟩:=x;exact qeB e
 | set S n=>obtain ⟨o,_,_,_,e,_⟩:=x;exact qeB e
 | ins C dx fs=>obtain ⟨_,_,_,e,_⟩:=x;exact qeB e
 | own y=>obtain ⟨_,e⟩:=x;exact qeB e
 | xd fs=>obtain ⟨_,⟨_,_,_,e,_⟩,_⟩:=x;exact qeB e
 | rng lo hi=>obtain ⟨_,_,_,e⟩:=x;exact qeB e
 | frz ob u=>obtain ⟨e,_⟩:=x;exact qeB e
 | tbl ps=>exact qeB (show h.get? a=some _ from x)
 | met f y=>exact qeB (show h.get? a=some _ from x)
 | ext φ=>obtain ⟨_,⟨_,e⟩,_⟩:=x;exact qeB e
theorem Paired.mapP {α β:Type}{F G:α->β->Prop}:∀ {l₁:List α}{l₂:List β},Paired F l₁ l₂->(∀ a b,F a b->G a b)->Paired G l₁ l₂
 | _,_,.nil,_=>.nil
 | _,_,.cons r t,f=>.cons (f _ _ r) (Paired.mapP t f)
theorem Paired.imp' {α β:Type}{F G:α->β->Prop}(f:∀ a b,F a b->G a b){l₁:List α}{l₂:List β}(r:Paired F l₁ l₂):Paired G l₁ l₂:=Paired.mapP r f
theorem ObjOk.stay (x:ObjOk P w H h a o)(k:∀ b u,(b=a\/H b=some (.own a))->h.get? b=some u->h'.get? b=some u)
  (ho:∀ b,H b=some (.own a)->H' b=some (.own a)) (ht:∀ b xs,H b=some (.tup xs)->H' b=some (.tup xs)):ObjOk P w H' h' a o:=by
 induction o with
 | lst xs=>obtain ⟨z,its,n,r,e⟩:=x;exact ⟨z,its,n,r,k _ _ (.inl rfl) e⟩
 | tup xs=>obtain ⟨z,its,r,ob,e,c⟩:=x;exact ⟨z,its,r,ob,k _ _ (.inl rfl) e,c⟩
 | dK kvs=>obtain ⟨z,y,vs,r,ob,es,ep,e,c⟩:=x;exact ⟨z,y,vs,r,ob,es,ep,k _ _ (.inl rfl) e,c⟩
 | dT kvs =>
  obtain ⟨z,y,xs,r,ob,es,ep,e,c⟩:=x;exact ⟨z,y,xs,Paired.mapP r fun p q z=>⟨z.1,ht _ _ z.2.1,z.2.2⟩,ob,es,ep,k _ _ (.inl rfl) e,c⟩
 | set S n=>obtain ⟨ob,es,ep,t,e,c⟩:=x;exact ⟨ob,es,ep,t,k _ _ (.inl rfl) e,c⟩
 | ins C dx fs =>
  obtain ⟨d,z,ne,e,mA,⟨od,es,ep,e2,c⟩,r⟩:=x;exact ⟨ho _ d,z,ne,k _ _ (.inl rfl) e,mA,⟨od,es,ep,k _ _ (.inr d) e2,c⟩,r⟩
 | own y=>obtain ⟨ob,e⟩:=x;exact ⟨ob,k _ _ (.inl rfl) e⟩
 | xd fs=>obtain ⟨mA,⟨od,es,ep,e,c⟩,r⟩:=x;exact ⟨mA,⟨od,es,ep,k _ _ (.inl rfl) e,c⟩,r⟩
 | rng lo hi=>obtain ⟨t,u,v,e⟩:=x;exact ⟨t,u,v,k _ _ (.inl rfl) e⟩
 | frz ob u ih=>obtain ⟨e,q⟩:=x;exact ⟨k _ _ (.inl rfl) e,ih q⟩
 | tbl ps =>
  have e:h.get? a=some { cls:=.none,data:=.fields ps }:=x;show h'.get? a=some { cls:=.none,data:=.fields ps };exact k a _ (.inl rfl) e
 | met f y =>
  have e:h.get? a=some (PySem.W.methodObj (.ref f) (.ref y)):=x;show h'.get? a=some (PySem.W.methodObj (.ref f) (.ref y));exact k a _ (.inl rfl) e
 | ext φ=>obtain ⟨p,⟨o,e⟩,st⟩:=x;exact ⟨st _ _ p fun o q=>k _ _ (.inl rfl) q,⟨o,k _ _ (.inl rfl) e⟩,st⟩
theorem HOk.lt (x:HOk P w H h)(e:H a=some o):a<h.objs.size:=(x a o e).lt
theorem HOk.fresh (x:HOk P w H h)(e:h.objs.size<=a):H a=none:=by
 cases q:H a with
 | none=>rfl
 | some u=>exact absurd (qwB (x.lt q) e) (qcB _)
theorem HOk.kept (x:HOk P w H h)(k:∀ b u,h.get? b=some u->h'.get? b=some u):HOk P w H h':=fun a o e =>
 (x a o e).stay (fun b u _ q=>k b u q) (fun _ q=>q) fun _ _ q=>q
theorem HOk.laid (x:HOk P w H h)(k:∀ b u,h.get? b=some u->h'.get? b=some u)(hp:h.objs.size<=a)(new:ObjOk P w (upd H a o) h' a o):HOk P w (upd H a o) h':=fun b u e=>by
 have hn:=x.fresh hp;by_cases hb:b=a
 ·subst hb;rw [AQ] at e;cases e;exact new
 ·rw [Aj hb] at e;exact (x b u e).stay (fun c v _ q=>k c v q) (fun c q=>by rw [Aj (CT q hn)];exact q) fun c xs q=>by rw [Aj (CT q hn)];exact q
end
def Rd (H:Hp)(a:Addr)(u:HO):Prop:=H a=some u\/∃ o,H a=some (.frz o u)
theorem Rd.ok {P:Program}{w:World}{H:Hp}{h:Heap}{a:Addr}{u:HO}(r:Rd H a u)(x:HOk P w H h):ObjOk P w H h a u:=by
 rcases r with r | ⟨o,r⟩
 ·exact x a u r
 ·obtain ⟨_,q⟩:=x a _ r;exact q
def Mut:Option HO->Prop
 | some (.lst _)=>True
 | some (.dK _)=>True
 | some (.dT _)=>True
 | some (.set _ _)=>True
 | some (.ins _ _ _)=>True
 | some (.ext _)=>True
 | _=>False
section
variable {P:Program}{w:World}{H:Hp}{h h':Heap}{x e:Addr}{o':HO}
theorem HOk.write (ok:HOk P w H h)(mu:Mut (H x))(he:e=x\/H e=some (.own x))(k:∀ b u,b≠e->h.get? b=some u->h'.get? b=some u)(heo:∃ u,h'.get? e=some u)
  (new:ObjOk P w (upd H x o') h' x o'):HOk P w (upd H x o') h':=fun b u q=>by
 have nown:∀ c y,H c=some (.own y)->c≠x:=fun c y r z=>by subst z;rw [r] at mu;exact mu
 have ntup:∀ c xs,H c=some (.tup xs)->c≠x:=fun c xs r z=>by subst z;rw [r] at mu;exact mu
 by_cases hb:b=x
 ·subst hb;rw [AQ] at q;cases q;exact new
 ·rw [Aj hb] at q;by_cases hbe:b=e
  ·have q':H b=some (.own x):=by
    rcases he with z|z
    ·exact absurd (hbe.trans z) hb
    ·rw [hbe];exact z
   rw [q] at q';cases q';obtain ⟨v,hv⟩:=heo;exact ⟨v,by rw [hbe];exact hv⟩
  ·refine (ok b u q).stay (fun c v hc r=>k c v ?_ r) (fun c r=>by rw [Aj (nown c b r)];exact r) fun c xs r=>by rw [Aj (ntup c xs r)];exact r
   rcases hc with rfl|hc
   ·exact hbe
   ·rintro rfl;rcases he with z|z
    ·exact nown c b hc z
    ·rw [hc] at z;cases z;exact hb rfl
end
structure Un (fs ex:List Addr)(H H':Hp)(h h':Heap):Prop where
 keep:∀ b o,h.get? b=some o->H b=none->b ∉ fs->b ∉ ex->h'.get? b=some o
 slot:∀ b o,h.get? b=some o->H b=none->b∈fs->b ∉ ex->∃ sl,h'.get? b=some { o with slots:=sl }
 free:∀ b o,h.get? b=some o->H b=none->b ∉ ex->H' b=none
 there:∀ b o,h.get? b=some o->b ∉ ex->∃ o',h'.get? b=some o'
 tups:∀ b xs,H b=some (.tup xs)->H' b=some (.tup xs)
 frzs:∀ b o u,H b=some (.frz o u)->H' b=some (.frz o u)
 tbls:∀ b ps,H b=some (.tbl ps)->∃ more,H' b=some (.tbl (ps++more))
section
variable {fs fs' ex ex':List Addr}{H H1 H2:Hp}{h h1 h2 h':Heap}{a x e:Addr}{o:HO}
theorem Un.any (u:Un fs ex H H1 h h1){b:Addr}{ob:Obj}(q:h.get? b=some ob)(n:H b=none)(hx:b ∉ ex):∃ sl,h1.get? b=some { ob with slots:=sl }:=by
 by_cases hb:b∈fs
 ·exact u.slot b ob q n hb hx
 ·exact ⟨ob.slots,u.keep b ob q n hb hx⟩
theorem Un.kept (k:∀ b u,h.get? b=some u->h'.get? b=some u):Un fs ex H H h h' :=
 ⟨fun b ob q _ _ _=>k b ob q,fun b ob q _ _ _=>⟨ob.slots,k b ob q⟩,fun _ _ _ n _=>n,fun b ob q _=>⟨ob,k b ob q⟩,fun _ _ q=>q,fun _ _ _ q=>q,fun _ ps q=>⟨#[],by rw [q];simp⟩⟩
theorem Un.refl:Un fs ex H H h h:=Un.kept fun _ _ q=>q
theorem Un.laid (k:∀ b u,h.get? b=some u->h'.get? b=some u)(hp:h.objs.size<=a)(hn:H a=none):Un fs ex H (upd H a o) h h' where
 keep:=fun b u q _ _ _=>k b u q
 slot:=fun b u q _ _ _=>⟨u.slots,k b u q⟩
 free:=fun b u q n _=>by rw [Aj (quB (qwB (qeB q) hp))];exact n
 there:=fun b u q _=>⟨u,k b u q⟩
 tups:=fun b xs q=>by rw [Aj (CT q hn)];exact q
 frzs:=fun b u xs q=>by rw [Aj (CT q hn)];exact q
 tbls:=fun b ps q=>⟨#[],by rw [Aj (CT q hn),q];simp⟩
theorem Un.write (mu:Mut (H x))(he:e=x\/H e=some (.own x))(k:∀ b u,b≠e->h.get? b=some u->h'.get? b=some u)(heo:∃ u,h'.get? e=some u):Un fs ex H (upd H x o) h h':=by
 have hx:∀ b,H b=none->b≠x:=fun b n z=>by subst z;rw [n] at mu;exact mu
 have hb:∀ b,H b=none->b≠e:=fun b n z=>by
  subst z;rcases he with r|r
  ·exact hx b n r
  ·rw [n] at r;cases r
 have hm:∀ b u,H b=some u->¬ Mut (some u)->b≠x:=fun b u q nm z=>by subst z;rw [q] at mu;exact nm mu
 refine ⟨fun b u q n _ _=>k b u (hb b n) q,fun b u q n _ _=>⟨u.slots,k b u (hb b n) q⟩,fun b u q n _=>by rw [Aj (hx b n)];exact n,fun b u q _=>?_,
  fun b xs q=>by rw [Aj (hm b _ q fun z=>z)];exact q,fun b u xs q=>by rw [Aj (hm b _ q fun z=>z)];exact q,fun b ps q=>⟨#[],by rw [Aj (hm b _ q fun z=>z),q];simp⟩⟩
 by_cases hbe:b=e
 ·subst hbe;exact heo
 ·exact ⟨u,k b u hbe q⟩
end
def trk (h:Heap)(H:Hp):List Addr:=(List.range h.objs.size).filter fun a=>(H a).isSome
def KQ (h:Heap)(H:Hp):Heap:=PySem.W.hideAll h (trk h H)
theorem Ob (h:Heap)(H:Hp):(KQ h H).objs.size=h.objs.size:=PySem.W.hideAll_size _ _
theorem hidT_get {h:Heap}{H:Hp}{b:Addr}{o:Obj}(e:h.get? b=some o)(n:H b=none):(KQ h H).get? b=some o :=
 PySem.W.hideAll_get _ e fun hm=>by
  have q:(H b).isSome=true:=(List.mem_filter.mp hm).2;rw [n] at q;simp at q
theorem of_hidT {h:Heap}{H:Hp}{b:Addr}{o:Obj}(e:(KQ h H).get? b=some o):h.get? b=some o/\H b=none:=by
 have e':h.get? b=some o:=PySem.W.of_hideAll (trk h H) e;refine ⟨e',?_⟩
 cases q:H b with
 | none=>rfl
 | some x =>
  have hm:b∈trk h H:=List.mem_filter.mpr ⟨List.mem_range.mpr (qeB e'),by simp [q]⟩;have z:(KQ h H).get? b=none:=PySem.W.hideAll_none (trk h H) hm;rw [z] at e;cases e
structure Mod (K:FZ9)(mg:Str->Option Value)(base:Heap):Prop where
 kin:K.In base
 glob:base.Ns mainGlobals mg
 blt:∃ mb,base.Ns builtinsNs mb/\∀ x:Str,x ≠ "__name__" -> mb x=bootBuiltins x
 nolimit:base.NoLimit
structure Cx where
 prog:Program
 w:World
 K:FZ9
 mg:Str->Option Value
 base:Heap
 A:Around
 N:List Str
 s₀:Shared
 H₀:Hp
 env:Env
 outer:List Env
 stack:List Env
 ex:List Addr
 fn:Str->Bool
 calm:Bool
 pn:List (Addr × Obj)
 xe:Value->Shared->Prop
def frs (l:List Env):List Addr:=l.filterMap (·.frame)
abbrev Cx.fs (X:Cx):List Addr:=frs X.outer
def Vis (sc:Scope)(x:Str):Prop:=sc.names.lookup x=some .local \/ sc.names.lookup x=some .cell\/sc.names.lookup x=some .free
def Loc (sc:Scope)(x:Str):Prop:=sc.names.lookup x=some .local \/ sc.names.lookup x=some .cell
def Look (env:Env)(h:Heap)(m:Str->Option Value)(x:Str)(u:Value):Prop :=
 (env.kindOf x=some .local /\ m x=some u)\/((env.kindOf x=some .cell\/env.kindOf x=some .free)/\∃ c,env.cells.lookup x=some c/\h.IsCell c (some u))
structure Cx.Ok (X:Cx):Prop where
 mod:Mod X.K X.mg X.base
 kind:X.env.scope.kind = .function
 glob:X.env.globals=mainGlobals
 blt:X.env.builtins=builtinsNs
 above:X.s₀.heap.objs.size<=X.env.locals
 inj:∀ x y c,X.env.cells.lookup x=some c->X.env.cells.lookup y=some c->x=y
 has:∀ x,(X.env.kindOf x=some .cell\/X.env.kindOf x=some .free)->∃ c,X.env.cells.lookup x=some c
 cab:∀ x c,X.fn x=true->X.env.cells.lookup x=some c->X.s₀.heap.objs.size<=c
 hd:X.calm=true->X.A.handled=none
 frames:X.A.frames=some X.stack
 stk:X.stack=X.outer\/(X.stack=X.env::X.outer/\X.env.frame=some X.env.locals)
 exf:∀ b∈X.ex,b≠X.env.locals/\∀ x c,X.env.cells.lookup x=some c->c≠b
 bs:∀ b o,X.base.get? b=some o->X.s₀.heap.get? b=some o/\X.H₀ b=none
 bsz:X.base.objs.size<=X.s₀.heap.objs.size
 noex:∀ b o,X.base.get? b=some o->b ∉ X.ex
 exfs:∀ b∈X.ex,b ∉ X.fs
 funs:X.s₀.heap.FunFrames X.base X.outer
 frf:∀ b∈X.fs,X.H₀ b=none
structure Inv (X:Cx)(pins:List (Addr × Obj))(σ:List (Option V))(H:Hp)(s:Shared):Prop where
 ok:X.Ok
 os:s.os=X.s₀.os
 bare:AllBare s.gens
 base:Un X.fs X.ex X.H₀ H X.s₀.heap s.heap
 loc:∃ m,s.heap.Ns X.env.locals m/\∀ (i:Nat) (x:Str) (v:V),X.N[i]? = some x->σ[i]? = some (some v)->Vis X.env.scope x->∃ u,RelV v u/\Look X.env s.heap m x u
 cell:∀ x c,X.env.cells.lookup x=some c->∃ v,s.heap.IsCell c v
 free:H X.env.locals=none
 freeC:∀ x c,X.env.cells.lookup x=some c->H c=none
 pin:∀ p∈X.pn++pins,s.heap.get? p.1=some p.2/\H p.1=none/\p.1≠X.env.locals/\p.1 ∉ X.fs/\∀ v,p.2.data ≠ .cell v
 hok:HOk X.prog X.w H s.heap
 len:σ.length=X.N.length
section
variable {X:Cx}{pins:List (Addr × Obj)}{σ:List (Option V)}{H H':Hp}{s:Shared}{h':Heap}
theorem Cx.Ok.nofr (ok:X.Ok){b:Addr}{o:Obj}(e:X.base.get? b=some o):b ∉ X.fs:=fun hb=>by
 have:=(ok.funs.mem hb).1;rw [e] at this;cases this
theorem Inv.bs (I:Inv X pins σ H s):∀ b o,X.base.get? b=some o->s.heap.get? b=some o/\H b=none:=fun b o e =>
 ⟨I.base.keep b o (I.ok.bs b o e).1 (I.ok.bs b o e).2 (I.ok.nofr e) (I.ok.noex b o e),I.base.free b o (I.ok.bs b o e).1 (I.ok.bs b o e).2 (I.ok.noex b o e)⟩
theorem Inv.bk (I:Inv X pins σ H s):∀ b o,X.base.get? b=some o->s.heap.get? b=some o:=fun b o e=>(I.bs b o e).1
theorem Inv.mod (I:Inv X pins σ H s):Mod X.K X.mg X.base:=I.ok.mod
theorem Inv.kIn (I:Inv X pins σ H s):X.K.In s.heap:=I.ok.mod.kin.keeps I.bk
theorem Inv.lt (I:Inv X pins σ H s):X.env.locals<s.heap.objs.size:=let ⟨_,hn,_⟩:=I.loc;hn.lt
theorem Inv.sz (I:Inv X pins σ H s):X.s₀.heap.objs.size<=s.heap.objs.size:=qbB I.ok.above (Nat.le_of_lt I.lt)
theorem Inv.nofs (I:Inv X pins σ H s){a:Addr}(h:s.heap.objs.size<=a):a ∉ X.fs:=fun hb=>by
 obtain ⟨_,o,ho,_⟩:=I.ok.funs.mem hb;exact absurd (qwB (qeB ho) (qbB I.sz h)) (qcB _)
theorem Inv.cne (I:Inv X pins σ H s):∀ x c,X.env.cells.lookup x=some c->c≠X.env.locals:=fun x c e z=>by
 obtain ⟨v,o,ho,hd⟩:=I.cell x c e;obtain ⟨m,⟨o',es,ep,ho',hd',_⟩,_⟩:=I.loc;rw [z,ho'] at ho;cases ho;rw [hd'] at hd;cases hd
theorem Inv.funs (I:Inv X pins σ H s):s.heap.FunFrames X.base X.outer:=by
 have all:∀ (l:List Env),(∀ b∈frs l,b∈X.fs)->X.s₀.heap.FunFrames X.base l->s.heap.FunFrames X.base l:=by
  intro l
  induction l with
  | nil=>intro _ _;trivial
  | cons env r ih =>
   intro hs hl;obtain ⟨hk,⟨L,o,hf,hn,ho,hd⟩,hr⟩:=hl;have hL:L∈X.fs:=hs L (by unfold frs;rw [List.filterMap_cons,hf];exact qoA);obtain ⟨sl,e⟩:=I.base.slot L o ho (I.ok.frf L hL) hL fun z=>I.ok.exfs L z hL;exact ⟨hk,⟨L,_,hf,hn,e,hd⟩,ih (fun b hb=>hs b (by unfold frs;rw [List.filterMap_cons,hf];exact qpA _ hb)) hr⟩
 exact all X.outer (fun _ hb=>hb) I.ok.funs
theorem Inv.stack (I:Inv X pins σ H s):s.heap.FunFrames X.base X.stack:=by
 rcases I.ok.stk with e | ⟨e,hf⟩
 ·rw [e];exact I.funs
 ·rw [e];obtain ⟨m,hn,_⟩:=I.loc;refine .cons (by rw [I.ok.kind];decide) hf hn ?_ I.funs;exact Heap.get?_none_of_le (qbB I.ok.bsz I.ok.above)
theorem Inv.stkSub (I:Inv X pins σ H s):∀ b∈frs X.stack,b∈X.env.locals::X.fs:=fun b hb=>by
 rcases I.ok.stk with e | ⟨e,hf⟩
 ·rw [e] at hb;exact qpA _ hb
 ·rw [e] at hb;unfold frs at hb;rw [List.filterMap_cons,hf] at hb;exact hb
theorem Inv.stkFree (I:Inv X pins σ H s):∀ b∈frs X.stack,H b=none:=fun b hb=>by
 rcases qkA.mp (I.stkSub b hb) with e|hb
 ·rw [e];exact I.free
 ·obtain ⟨_,o,ho,_⟩:=I.ok.funs.mem hb;exact I.base.free b o ho (I.ok.frf b hb) fun z=>I.ok.exfs b z hb
theorem Inv.step {g':Array GenState}{t':Nat}{d':Drawn}{ch:List Addr}(I:Inv X pins σ H s)
  (hch:∀ b∈ch,(b∈X.ex\/X.s₀.heap.objs.size<=b)/\b≠X.env.locals/\(∀ x c,X.env.cells.lookup x=some c->c≠b)/\∀ p∈X.pn++pins,p.1≠b)
  (keep:∀ b o,b≠X.env.locals->b ∉ X.fs->b ∉ ch->s.heap.get? b=some o->H b=none->h'.get? b=some o)
  (slot:∀ b o,b≠X.env.locals->b∈X.fs->b ∉ ch->s.heap.get? b=some o->H b=none->∃ sl,h'.get? b=some { o with slots:=sl }) (free:∀ b o,b ∉ ch->s.heap.get? b=some o->H b=none->H' b=none)
  (there:∀ b o,b ∉ ch->s.heap.get? b=some o->∃ o',h'.get? b=some o')
  (tups:∀ b xs,H b=some (.tup xs)->H' b=some (.tup xs)) (frzs:∀ b o u,H b=some (.frz o u)->H' b=some (.frz o u)) (tbls:∀ b ps,H b=some (.tbl ps)->∃ more,H' b=some (.tbl (ps++more)))
  (ns:∀ m,s.heap.Ns X.env.locals m->h'.Ns X.env.locals m) (hok:HOk X.prog X.w H' h') (hg:AllBare g') :
  Inv X pins σ H' { s with heap:=h',gens:=g',drawn:=d',toks:=t' }:=by
 have neL:∀ b o,X.s₀.heap.get? b=some o->b≠X.env.locals:=fun b o e=>quB (qwB (qeB e) I.ok.above)
 have neC:∀ b o,X.s₀.heap.get? b=some o->b ∉ X.ex->b ∉ ch:=fun b o e hx hb=>by
  rcases (hch b hb).1 with z|z
  ·exact hx z
  ·exact absurd (qwB (qeB e) z) (qcB _)
 have cellK:∀ x c,X.env.cells.lookup x=some c->∀ v,s.heap.IsCell c v->h'.IsCell c v:=fun x c e v ⟨o,ho,hd⟩=>by
  have nch:c ∉ ch:=fun z=>(hch c z).2.2.1 x c e rfl;by_cases hc:c∈X.fs
  ·obtain ⟨sl,q⟩:=slot c o (I.cne x c e) hc nch ho (I.freeC x c e);exact ⟨_,q,hd⟩
  ·exact ⟨o,keep c o (I.cne x c e) hc nch ho (I.freeC x c e),hd⟩
 refine ⟨I.ok,I.os,hg,⟨fun b o e n hb hx=>?_,fun b o e n hb hx=>?_,fun b o e n hx=>?_,fun b o e hx=>?_,fun b xs e=>tups b xs (I.base.tups b xs e),fun b o xs e=>frzs b o xs (I.base.frzs b o xs e),fun b ps e=>?_⟩,?_,fun x c e=>?_,?_,fun x c e=>?_,fun p hp=>?_,hok,I.len⟩
 ·exact keep b o (neL b o e) hb (neC b o e hx) (I.base.keep b o e n hb hx) (I.base.free b o e n hx)
 ·obtain ⟨sl,e1⟩:=I.base.slot b o e n hb hx;obtain ⟨sl',e2⟩:=slot b _ (neL b o e) hb (neC b o e hx) e1 (I.base.free b o e n hx);exact ⟨sl',e2⟩
 ·obtain ⟨o',e1⟩:=I.base.there b o e hx;exact free b o' (neC b o e hx) e1 (I.base.free b o e n hx)
 ·obtain ⟨o',e1⟩:=I.base.there b o e hx;exact there b o' (neC b o e hx) e1
 ·obtain ⟨m1,e1⟩:=I.base.tbls b ps e;obtain ⟨m2,e2⟩:=tbls b _ e1;exact ⟨m1++m2,by rw [e2,Array.append_assoc]⟩
 ·obtain ⟨m,hn,hl⟩:=I.loc;refine ⟨m,ns m hn,fun i x v e1 e2 e3=>?_⟩;obtain ⟨u,r,l⟩:=hl i x v e1 e2 e3;refine ⟨u,r,?_⟩;rcases l with l | ⟨k,c,e,z⟩
  ·exact .inl l
  ·exact .inr ⟨k,c,e,cellK x c e _ z⟩
 ·obtain ⟨v,z⟩:=I.cell x c e;exact ⟨v,cellK x c e v z⟩
 ·obtain ⟨m,⟨o,_,_,ho,_⟩,_⟩:=I.loc;exact free _ o (fun z=>(hch _ z).2.1 rfl) ho I.free
 ·obtain ⟨v,o,ho,hd⟩:=I.cell x c e;exact free c o (fun z=>(hch c z).2.2.1 x c e rfl) ho (I.freeC x c e)
 ·obtain ⟨e,n,ne,nf,d⟩:=I.pin p hp;have nch:p.1 ∉ ch:=fun z=>(hch p.1 z).2.2.2 p hp rfl;exact ⟨keep p.1 p.2 ne nf nch e n,free p.1 p.2 nch e n,ne,nf,d⟩
theorem Inv.un {t':Nat}(I:Inv X pins σ H s)(u:Un X.fs [] H H' s.heap h')(hok:HOk X.prog X.w H' h'):Inv X pins σ H' { s with heap:=h',toks:=t' }:=by
 obtain ⟨m,⟨o,es,ep,ho,r⟩,_⟩:=id I.loc;obtain ⟨sl,hL⟩:=u.any ho I.free (by simp)
 exact I.step (g':=s.gens) (d':=s.drawn) (ch:=[]) (fun _ z=>nomatch z) (fun b o _ hb _ e n=>u.keep b o e n hb (by simp)) (fun b o _ hb _ e n=>u.slot b o e n hb (by simp)) (fun b o _ e n=>u.free b o e n (by simp)) (fun b o _ e=>u.there b o e (by simp)) u.tups u.frzs u.tbls (fun m' hm=>by
  obtain ⟨o',es',ep',ho',r'⟩:=hm;rw [ho] at ho';cases ho'
  exact ⟨_,es',ep',hL,r'⟩) hok I.bare
theorem Inv.call {g':Array GenState}{t':Nat}{d':Drawn}{ch:List Addr}(I:Inv X pins σ H s)(u:Un (frs X.stack) ch H H' s.heap h')(hok:HOk X.prog X.w H' h')(hg:AllBare g')
  (hch:∀ b∈ch,(b∈X.ex\/X.s₀.heap.objs.size<=b)/\b≠X.env.locals/\(∀ x c,X.env.cells.lookup x=some c->c≠b)/\∀ p∈X.pn++pins,p.1≠b) :
  Inv X pins σ H' { s with heap:=h',gens:=g',drawn:=d',toks:=t' }:=by
 obtain ⟨m,⟨o,es,ep,ho,r⟩,_⟩:=id I.loc;obtain ⟨sl,hL⟩:=u.any ho I.free fun z=>(hch _ z).2.1 rfl
 exact I.step (ch:=ch) hch (fun b o hL hb hc e n=>u.keep b o e n (fun z=>(qkA.mp (I.stkSub b z)).elim hL hb) hc) (fun b o _ _ hc e n=>u.any e n hc) (fun b o hc e n=>u.free b o e n hc) (fun b o hc e=>u.there b o e hc) u.tups u.frzs u.tbls (fun m' hm=>by
  obtain ⟨o',es',ep',ho',r'⟩:=hm;rw [ho] at ho';cases ho'
  exact ⟨_,es',ep',hL,r'⟩) hok hg
theorem Inv.turned {t':Nat}{it:Addr}(I:Inv X pins σ H s)(k:∀ b o,b≠it->s.heap.get? b=some o->h'.get? b=some o)(hn:H it=none)(hL:it≠X.env.locals)
  (h1:it∈X.ex\/X.s₀.heap.objs.size<=it) (h2:∀ x c,X.env.cells.lookup x=some c->c≠it) (h3:∀ p∈X.pn++pins,p.1≠it):Inv X pins σ H { s with heap:=h',toks:=t' }:=by
 have nit:∀ b u,H b=some u->b≠it:=fun b u e z=>by rw [z,hn] at e;cases e
 refine I.step (g':=s.gens) (d':=s.drawn) (ch:=[it]) (fun b hb=>?_) (fun b o _ _ hc e _=>k b o (fun z=>hc (by simp [z])) e) (fun b o _ _ hc e _=>⟨o.slots,k b o (fun z=>hc (by simp [z])) e⟩) (fun _ _ _ _ n=>n)
  (fun b o hc e=>⟨o,k b o (fun z=>hc (by simp [z])) e⟩) (fun _ _ e=>e) (fun _ _ _ e=>e) (fun b ps e=>⟨#[],by rw [e];simp⟩) (fun m hm=>?_) (fun b u e=>?_) I.bare
 ·have e:b=it:=by simpa using hb
  subst e;exact ⟨h1,hL,h2,h3⟩
 ·obtain ⟨o,es,ep,ho,r⟩:=hm;exact ⟨o,es,ep,k _ o (Ne.symm hL) ho,r⟩
 ·refine (I.hok b u e).stay (fun c v hc q=>k c v ?_ q) (fun _ q=>q) fun _ _ q=>q;rcases hc with z|z
  ·rw [z];exact nit b u e
  ·exact nit c _ z
theorem Inv.tok (I:Inv X pins σ H s)(t:Nat):Inv X pins σ H { s with toks:=t }:=I.un (h':=s.heap) (t':=t) Un.refl I.hok
theorem Inv.kept {t':Nat}(I:Inv X pins σ H s)(k:∀ b u,s.heap.get? b=some u->h'.get? b=some u):Inv X pins σ H { s with heap:=h',toks:=t' }:=I.un (Un.kept k) (I.hok.kept k)
theorem Inv.laid {a:Addr}{o:HO}{t':Nat}(I:Inv X pins σ H s)(k:∀ b u,s.heap.get? b=some u->h'.get? b=some u)(hp:s.heap.objs.size<=a)(new:ObjOk X.prog X.w (upd H a o) h' a o) :
  Inv X pins σ (upd H a o) { s with heap:=h',toks:=t' }:=I.un (Un.laid k hp (I.hok.fresh hp)) (I.hok.laid k hp new)
theorem Inv.write {x e:Addr}{o:HO}{t':Nat}(I:Inv X pins σ H s)(mu:Mut (H x))(he:e=x\/H e=some (.own x))(k:∀ b u,b≠e->s.heap.get? b=some u->h'.get? b=some u)(heo:∃ u,h'.get? e=some u)
  (new:ObjOk X.prog X.w (upd H x o) h' x o):Inv X pins σ (upd H x o) { s with heap:=h',toks:=t' }:=I.un (Un.write mu he k heo) (I.hok.write mu he k heo new)
theorem Inv.weak {σ':List (Option V)}(I:Inv X pins σ H s)(hl:σ'.length=σ.length)(w:∀ (i:Nat) v,σ'[i]? = some (some v)->σ[i]? = some (some v)):Inv X pins σ' H s :=
 ⟨I.ok,I.os,I.bare,I.base,let ⟨m,hn,hl'⟩:=I.loc;⟨m,hn,fun i x v e1 e2 e3=>hl' i x v e1 (w i v e2) e3⟩,I.cell,I.free,I.freeC,I.pin,I.hok,hl.trans I.len⟩
theorem Inv.pins_of {pins':List (Addr × Obj)}(I:Inv X pins σ H s)(h:∀ p∈pins',s.heap.get? p.1=some p.2/\H p.1=none/\p.1≠X.env.locals/\p.1 ∉ X.fs/\∀ v,p.2.data ≠ .cell v):Inv X pins' σ H s :=
 ⟨I.ok,I.os,I.bare,I.base,I.loc,I.cell,I.free,I.freeC,fun p hp=>(qjA.mp hp).elim (fun z=>I.pin p (List.mem_append_left _ z)) (h p),I.hok,I.len⟩
theorem Ic {N:List Str}(hN:N.Nodup){i j:Nat}{x:Str}(a:N[i]? = some x)(b:N[j]? = some x):i=j:=by
 obtain ⟨h1,e1⟩:=qrA.mp a;obtain ⟨h2,e2⟩:=qrA.mp b;exact (List.getElem_inj hN).mp (e1.trans e2.symm)
theorem Ju {M:Model}{A:Around}{E:Value->Shared->Prop}{i:Nat}{x:Str}{v:V}{u:Value}{Q:Unit->Shared->Prop}(I:Inv X pins σ H s)(hN:X.N.Nodup)(hi:X.N[i]? = some x)(hx:Loc X.env.scope x)(r:RelV v u)
  (h:∀ s',Inv X pins (σ.set i (some v)) H s'->(∃ a,Heap.SameBut a s.heap s'.heap/\(a=X.env.locals\/X.env.cells.lookup x=some a))->Q () s') (hf:X.fn x=true\/X.env.scope.names.lookup x=some .local := by first|exact .inl rfl|exact .inr rfl|assumption):wpAny M A (storeName X.env x u) Q E s:=by
 obtain ⟨m,hn,hl⟩:=id I.loc;have hcls:(X.env.scope.kind == .class || (X.env.scope.kind == .module && X.env.locals != X.env.globals))=false:=by rw [I.ok.kind];rfl
 have hiσ:i<σ.length:=by rw [I.len];exact (qrA.mp hi).1
 have cne:=I.cne
 have tracked:∀ {a:Addr}{h':Heap},(∃ o,s.heap.get? a=some o/\H a=none)->Heap.SameBut a s.heap h'->HOk X.prog X.w H h':=fun {a h'} ha hs b ob e=>by
  obtain ⟨_,_,hfree⟩:=ha;refine (I.hok b ob e).stay (fun c w' hc q=>(hs.2 c ?_).trans q) (fun _ q=>q) fun _ _ q=>q;rintro rfl;rcases hc with rfl|hc
  ·rw [hfree] at e;cases e
  ·rw [hfree] at hc;cases hc
 rcases hx with hk|hk
 ·refine wpAny_storeName_local hk hn (fun h' hn' hs=>?_) hcls;obtain ⟨oL,_,_,hoL,_⟩:=id hn;refine h _ ⟨I.ok,I.os,I.bare,⟨fun b o e n hb hx=>?_,fun b o e n hb hx=>?_,I.base.free,fun b o e hx=>?_,I.base.tups,I.base.frzs,I.base.tbls⟩,⟨_,hn',fun j y v' e1 e2 e3=>?_⟩,fun y c e=>?_,I.free,I.freeC,fun p hp=>?_,tracked ⟨oL,hoL,I.free⟩ hs,by simpa using I.len⟩ ⟨_,hs,.inl rfl⟩
  ·exact (hs.2 b (quB (qwB (qeB e) I.ok.above))).trans (I.base.keep b o e n hb hx)
  ·obtain ⟨sl,e1⟩:=I.base.slot b o e n hb hx;exact ⟨sl,(hs.2 b (quB (qwB (qeB e) I.ok.above))).trans e1⟩
  ·obtain ⟨o',e1⟩:=I.base.there b o e hx;exact ⟨o',(hs.2 b (quB (qwB (qeB e) I.ok.above))).trans e1⟩
  ·by_cases hj:j=i
   ·subst hj;rw [hi] at e1;cases e1;rw [List.getElem?_set_self hiσ] at e2;cases e2;exact ⟨u,r,.inl ⟨hk,by simp⟩⟩
   ·rw [List.getElem?_set_ne (Ne.symm hj)] at e2;obtain ⟨u',r',q⟩:=hl j y v' e1 e2 e3;refine ⟨u',r',?_⟩;rcases q with ⟨k,e⟩ | ⟨k,c,e,z⟩
    ·refine .inl ⟨k,?_⟩;have:y≠x:=fun e=>hj (Ic hN e1 (e ▸ hi));simp [this,e]
    ·exact .inr ⟨k,c,e,z.sameBut hs (cne y c e)⟩
  ·obtain ⟨w',z⟩:=I.cell y c e;exact ⟨w',z.sameBut hs (cne y c e)⟩
  ·obtain ⟨e,n,ne,nf,d⟩:=I.pin p hp;exact ⟨(hs.2 p.1 ne).trans e,n,ne,nf,d⟩
 ·have hfn:X.fn x=true:=by
   rcases hf with z|z
   ·exact z
   ·rw [z] at hk;cases hk
  obtain ⟨c,hc⟩:=I.ok.has x (.inl hk);obtain ⟨w',z⟩:=I.cell x c hc;refine wpAny_storeName_cell I.ok.kind hk hc z (fun h' hc' hs=>?_);obtain ⟨oc,hoc,hocd⟩:=id z;refine h { s with heap:=h' } ⟨I.ok,I.os,I.bare,⟨fun b o e n hb hx=>?_,fun b o e n hb hx=>?_,I.base.free,fun b o e hx=>?_,I.base.tups,I.base.frzs,I.base.tbls⟩,⟨m,hn.sameBut hs (Ne.symm (cne x c hc)),fun j y v' e1 e2 e3=>?_⟩,fun y c' e=>?_,I.free,I.freeC,fun p hp=>?_,tracked ⟨oc,hoc,I.freeC x c hc⟩ hs,by simpa using I.len⟩ ⟨c,hs,.inr hc⟩
  ·exact (hs.2 b (quB (qwB (qeB e) (I.ok.cab x c hfn hc)))).trans (I.base.keep b o e n hb hx)
  ·obtain ⟨sl,e1⟩:=I.base.slot b o e n hb hx;exact ⟨sl,(hs.2 b (quB (qwB (qeB e) (I.ok.cab x c hfn hc)))).trans e1⟩
  ·obtain ⟨o',e1⟩:=I.base.there b o e hx;exact ⟨o',(hs.2 b (quB (qwB (qeB e) (I.ok.cab x c hfn hc)))).trans e1⟩
  ·by_cases hj:j=i
   ·subst hj;rw [hi] at e1;cases e1;rw [List.getElem?_set_self hiσ] at e2;cases e2;exact ⟨u,r,.inr ⟨.inl hk,c,hc,hc'⟩⟩
   ·rw [List.getElem?_set_ne (Ne.symm hj)] at e2;obtain ⟨u',r',q⟩:=hl j y v' e1 e2 e3;refine ⟨u',r',?_⟩;rcases q with q | ⟨k,c',e,z'⟩
    ·exact .inl q
    ·refine .inr ⟨k,c',e,z'.sameBut hs ?_⟩;rintro rfl;exact hj (Ic hN e1 (I.ok.inj _ _ _ e hc ▸ hi))
  ·by_cases hcc:c'=c
   ·subst hcc;exact ⟨_,hc'⟩
   ·obtain ⟨w2,z2⟩:=I.cell y c' e;exact ⟨w2,z2.sameBut hs hcc⟩
  ·obtain ⟨e,n,ne,nf,d⟩:=I.pin p hp;refine ⟨(hs.2 p.1 ?_).trans e,n,ne,nf,d⟩;intro q;rw [q,hoc] at e;have q':oc=p.2:=qdB e;exact d w' (by rw [<- q'];exact hocd)
theorem Gp {M:Model}{A:Around}{E:Value->Shared->Prop}{i:Nat}{x:Str}{v:V}{u:Value}{Q:Unit->Shared->Prop}(I:Inv X pins σ H s)(hN:X.N.Nodup)(hi:X.N[i]? = some x)(hx:Loc X.env.scope x)(r:RelV v u)
  (h:∀ s',Inv X pins (σ.set i (some v)) H s'->Q () s') (hf:X.fn x=true\/X.env.scope.names.lookup x=some .local := by first|exact .inl rfl|exact .inr rfl|assumption):wpAny M A (storeName X.env x u) Q E s :=
 Ju I hN hi hx r (fun s' I' _=>h s' I') hf
theorem Inv.call' {s':Shared}{ch:List Addr}(I:Inv X pins σ H s)(ho:s'.os=s.os)(u:Un (frs X.stack) ch H H' s.heap s'.heap)(hok:HOk X.prog X.w H' s'.heap)(hg:AllBare s'.gens)
  (hch:∀ b∈ch,(b∈X.ex\/X.s₀.heap.objs.size<=b)/\b≠X.env.locals/\(∀ x c,X.env.cells.lookup x=some c->c≠b)/\∀ p∈X.pn++pins,p.1≠b):Inv X pins σ H' s':=by
 obtain ⟨h',g',d',t',o'⟩:=s';have e:o'=s.os:=ho;subst e;exact I.call (g':=g') (t':=t') (d':=d') u hok hg hch
end
abbrev XK:=Value->Option Addr->Hp->Prop
abbrev St:=List (Option V)
abbrev VK:=V->Hp->Prop
abbrev TE:=St->Hp->VK->Prop
abbrev TT:=St->Hp->(Bool->Hp->Prop)->Prop
abbrev TA:=St->Hp->(List V->Hp->Prop)->Prop
structure Ends where
 nx:St->Hp->Prop
 rt:VK
 bk:St->Hp->Prop:=fun _ _=>False
 ct:St->Hp->Prop:=fun _ _=>False
abbrev TS:=Ends->St->Hp->Prop
def EP (X:Cx)(pins:List (Addr × Obj))(σ:St)(Q:VK)(u:Value)(s':Shared):Prop:=∃ v H',Inv X pins σ H' s'/\RelV v u/\Q v H'
def TP (X:Cx)(pins:List (Addr × Obj))(σ:St)(Q:Bool->Hp->Prop)(b:Bool)(s':Shared):Prop:=∃ H',Inv X pins σ H' s'/\Q b H'
def AP (X:Cx)(pins:List (Addr × Obj))(σ:St)(Q:List V->Hp->Prop)(us:List Value)(s':Shared):Prop:=∃ vs H',Inv X pins σ H' s'/\Vals vs us/\Q vs H'
def SP (X:Cx)(pins:List (Addr × Obj))(D:Ends)(f:Flow)(s':Shared):Prop :=
 match f with
 | .next=>∃ σ' H',Inv X pins σ' H' s'/\D.nx σ' H'
 | .brk=>∃ σ' H',Inv X pins σ' H' s'/\D.bk σ' H'
 | .cont=>∃ σ' H',Inv X pins σ' H' s'/\D.ct σ' H'
 | .ret u=>∃ v σ' H',Inv X pins σ' H' s'/\RelV v u/\D.rt v H'
def PE (X:Cx)(e:Expr)(t:TE):Prop :=
 ∀ (pins:List (Addr × Obj)) (s:Shared) (σ:St) (H:Hp) (Q:VK),Inv X pins σ H s->t σ H Q->wpAny (model X.prog X.w) X.A (eval e X.env) (EP X pins σ Q) X.xe s
def PT (X:Cx)(e:Expr)(t:TT):Prop :=
 ∀ (pins:List (Addr × Obj)) (s:Shared) (σ:St) (H:Hp) (Q:Bool->Hp->Prop),Inv X pins σ H s->t σ H Q->wpAny (model X.prog X.w) X.A (isTrue e X.env (eval e X.env)) (TP X pins σ Q) X.xe s
def PW (X:Cx)(e:Expr)(t:TT):Prop :=
 ∀ (whole:Sem Value) (pins:List (Addr × Obj)) (s:Shared) (σ:St) (H:Hp) (Q:Bool->Hp->Prop),Inv X pins σ H s->t σ H Q->wpAny (model X.prog X.w) X.A (isTrue e X.env whole) (TP X pins σ Q) X.xe s
theorem PW.pt {X:Cx}{e:Expr}{t:TT}(h:PW X e t):PT X e t:=h _
def PA (X:Cx)(es:List Expr)(t:TA):Prop :=
 ∀ (pos:Pos) (pins:List (Addr × Obj)) (s:Shared) (σ:St) (H:Hp) (Q:List V->Hp->Prop),Inv X pins σ H s->t σ H Q->wpAny (model X.prog X.w) X.A (spliced (backTo pos (starEach es X.env))) (AP X pins σ Q) X.xe s
def PS (X:Cx)(st:Stmt)(t:TS):Prop :=
 ∀ (pins:List (Addr × Obj)) (s:Shared) (σ:St) (H:Hp) (D:Ends),Inv X pins σ H s->t D σ H->wpAny (model X.prog X.w) X.A (exec st X.env) (SP X pins D) X.xe s
def PSs (X:Cx)(st:List Stmt)(t:TS):Prop :=
 ∀ (pins:List (Addr × Obj)) (s:Shared) (σ:St) (H:Hp) (D:Ends),Inv X pins σ H s->t D σ H->wpAny (model X.prog X.w) X.A (execs st X.env) (SP X pins D) X.xe s
theorem thn {α:Type}{t:Sem α}{Q Q':α->Shared->Prop}{M:Model}{A:Around}{E:Value->Shared->Prop}{s:Shared}(h:wpAny M A t Q E s)(hQ:∀ a s,Q a s->Q' a s):wpAny M A t Q' E s:=wpAny_mono h hQ fun _ _ x=>x
section
variable {X:Cx}
abbrev Ba (i:Nat):TE:=fun σ H Q=>∃ v,σ[i]? = some (some v)/\Q v H
abbrev tC (v:V):TE:=fun _ H Q=>Q v H
theorem pe_var {i:Nat}{x:Str}{pos:Pos}(hN:X.N[i]? = some x)(hv:Vis X.env.scope x)(hd:(x == ("__debug__" : Str))=false:=by decide)(hcd:(x == ("__classdict__" : Str))=false:=by decide):PE X (.Name x pos) (Ba i):=by
 intro pins s σ H Q I h;obtain ⟨v,e,h⟩:=h;obtain ⟨m,hn,hl⟩:=I.loc;obtain ⟨u,r,l⟩:=hl i x v hN e hv;have fin:EP X pins σ Q u s:=⟨v,H,I,r,h⟩;rcases l with ⟨hk,hm⟩ | ⟨hk,c,hc,hcell⟩
 ·exact wpAny_Name (wpAny_loadName_local I.ok.kind hk hn hm fin) hd
 ·rcases hk with hk|hk
  ·exact wpAny_Name (wpAny_loadName_cell I.ok.kind hk hc hcell fin) hd
  ·exact wpAny_Name (wpAny_loadName_free I.ok.kind hk hc hcell fin hcd) hd
theorem AD {i j pos}:PE X (.Constant (.int i) j pos) (tC (.int i)):=fun _ _ _ H _ I h=>wpAny_Constant_int ⟨.int i,H,I.tok _,⟨_,rfl⟩,h⟩
theorem Cz {b j pos}:PE X (.Constant (.bool b) j pos) (tC (.bl b)):=fun _ _ _ H _ I h=>Constant_bool ⟨.bl b,H,I,rfl,h⟩
theorem Dg {j pos}:PE X (.Constant .none j pos) (tC .non):=fun _ _ _ H _ I h=>Constant_none ⟨.non,H,I,rfl,h⟩
theorem AH {x j pos}:PE X (.Constant (.str x) j pos) (tC (.str x)):=fun _ _ _ H _ I h=>Calls.Constant_str ⟨.str x,H,I.tok _,⟨_,rfl⟩,h⟩
def Gl (X:Cx)(x:Str):Prop:=X.env.kindOf x=some .globalImplicit
theorem HK {E:Value->Shared->Prop}{pins:List (Addr × Obj)}{s:Shared}{σ:St}{H:Hp}{x:Str}{u:Value}{pos:Pos}{Q:Value->Shared->Prop}(I:Inv X pins σ H s)(hg:Gl X x)(hm:X.mg x=some u)(h:Q u s)
  (hd:(x == ("__debug__" : Str))=false:=by decide):wpAny (model X.prog X.w) X.A (eval (.Name x pos) X.env) Q E s :=
 Calls.Name_function_global I.ok.kind hg (Calls.loadGlobal_global (by rw [I.ok.glob];exact I.mod.glob.keeps I.bk) hm h) hd
theorem Hr {E:Value->Shared->Prop}{pins:List (Addr × Obj)}{s:Shared}{σ:St}{H:Hp}{x:Str}{u:Value}{pos:Pos}{Q:Value->Shared->Prop}(I:Inv X pins σ H s)(hg:Gl X x)(hm:X.mg x=none)(hv:bootBuiltins x=some u)(h:Q u s)
  (hn:x ≠ "__name__" := by decide) (hd:(x == ("__debug__" : Str))=false:=by decide):wpAny (model X.prog X.w) X.A (eval (.Name x pos) X.env) Q E s:=by
 obtain ⟨mb,h1,h2⟩:=I.mod.blt;exact Calls.Name_function_global I.ok.kind hg (Calls.loadGlobal_builtin (by rw [I.ok.glob];exact I.mod.glob.keeps I.bk) hm (by rw [I.ok.blt];exact h1.keeps I.bk) ((h2 x hn).trans hv) h) hd
theorem Ck {x:Str}{v:V}{u:Value}{pos:Pos}(hg:Gl X x)(hm:X.mg x=some u)(r:RelV v u)(hd:(x == ("__debug__" : Str))=false:=by decide):PE X (.Name x pos) (tC v) :=
 fun _ _ _ H _ I h=>HK I hg hm ⟨v,H,I,r,h⟩ hd
theorem GF {x:Str}{v:V}{u:Value}{pos:Pos}(hg:Gl X x)(hm:X.mg x=none)(hv:bootBuiltins x=some u)(r:RelV v u)(hn:x ≠ "__name__" := by decide)(hd:(x == ("__debug__" : Str))=false:=by decide):PE X (.Name x pos) (tC v) :=
 fun _ _ _ H _ I h=>Hr I hg hm hv ⟨v,H,I,r,h⟩ hn hd
variable {a b:Expr}{ta tb:TE}{pos:Pos}
def PC (X:Cx)(op:CmpOp)(a b:Expr)(t:TE):Prop :=
 ∀ (pins:List (Addr × Obj)) (s:Shared) (σ:St) (H:Hp) (Q:VK),Inv X pins σ H s->t σ H Q ->
  wpAny (model X.prog X.w) X.A (eval a X.env) (fun v s₁=>wpAny (model X.prog X.w) X.A (eval b X.env) (fun u s₂=>wpAny (model X.prog X.w) X.A (compareOp op v u) (EP X pins σ Q) X.xe s₂) X.xe s₁) X.xe s
def tB (t:TE):TT:=fun σ H Q=>t σ H fun x H1=>∃ c,x = .bl c/\Q c H1
theorem pe_cmp {op:CmpOp}{t:TE}(h:PC X op a b t)(h1:behindInMarks op b=false:=by first|exact nobehind _ (by decide) (by decide)|rfl):PE X (.Compare a [op] [b] pos) t:=fun pins s σ H Q I hw=>wpAny_Compare1 (h pins s σ H Q I hw) h1
theorem pt_cmp {op:CmpOp}{t:TE}(h:PC X op a b t)(h1:behindInMarks op b=false:=by first|exact nobehind _ (by decide) (by decide)|rfl):PT X (.Compare a [op] [b] pos) (tB t):=by
 intro pins s σ H Q I hw;refine wpAny_isTrue_Compare1 (thn (h pins s σ H _ I hw) fun v s1 h1=>thn h1 fun u s2 h2=>thn h2 fun c s3 ⟨x,H1,I1,r1,q1⟩=>?_) h1;obtain ⟨d,rfl,q⟩:=q1;cases r1;exact wpAny_truthy_bool ⟨H1,I1,q⟩
variable {tA tB':TT}{rest:List Expr}
abbrev tOr (t u:TT):TT:=fun σ H Q=>t σ H fun c H1=>if c=true then Q true H1 else u σ H1 Q
abbrev tNot (t:TT):TT:=fun σ H Q=>t σ H fun c H1=>Q (!c) H1
theorem Gh (ha:PT X a tA):PW X (.BoolOp .Or [a] pos) tA:=by
 intro wh pins s σ H Q I h;refine isTrue_or (thn (ha pins s σ H Q I h) fun c s1 e=>?_)
 cases c with
 | false=>exact isTrue_or_nil e
 | true=>exact e
theorem GU (ha:PT X a tA)(hb:PW X (.BoolOp .Or (b::rest) pos) tB'):PW X (.BoolOp .Or (a::b::rest) pos) (tOr tA tB'):=by
 intro wh pins s σ H Q I h;refine isTrue_or (thn (ha pins s σ H _ I h) fun c s1 ⟨H1,I1,q1⟩=>?_)
 cases c with
 | true=>exact ⟨H1,I1,q1⟩
 | false=>exact hb wh pins s1 σ H1 Q I1 q1
theorem DT (ha:PT X a tA):PT X (.UnaryOp .Not a pos) (tNot tA):=by
 intro pins s σ H Q I h;exact isTrue_not (ha pins s σ H (fun c H1=>Q (!c) H1) I h)
abbrev tAndV (ta tb:TE):TE:=fun σ H Q=>ta σ H fun x H1=>∃ c,x = .bl c/\if c=true then tb σ H1 Q else Q (.bl false) H1
abbrev tOrV (ta tb:TE):TE:=fun σ H Q=>ta σ H fun x H1=>∃ c,x = .bl c/\if c=true then Q (.bl true) H1 else tb σ H1 Q
abbrev tNotV (ta:TE):TE:=fun σ H Q=>ta σ H fun x H1=>∃ c,x = .bl c/\Q (.bl (!c)) H1
theorem E9 {op}{t:TE}(h:PE X a t):PE X (.BoolOp op [a] pos) t:=fun pins s σ H Q I hw=>BoolOp_one (h pins s σ H Q I hw)
theorem Di (ha:PE X a ta)(hb:PE X (.BoolOp .And (b::rest) pos) tb):PE X (.BoolOp .And (a::b::rest) pos) (tAndV ta tb):=by
 intro pins s σ H Q I h;refine BoolOp_and (thn (ha pins s σ H _ I h) fun v s1 ⟨x,H1,I1,r1,q1⟩=>?_);obtain ⟨c,rfl,q1⟩:=q1;cases r1;refine wpAny_truthy_bool ?_
 cases c with
 | true=>exact hb pins s1 σ H1 Q I1 q1
 | false=>exact ⟨.bl false,H1,I1,rfl,q1⟩
theorem pe_or (ha:PE X a ta)(hb:PE X (.BoolOp .Or (b::rest) pos) tb):PE X (.BoolOp .Or (a::b::rest) pos) (tOrV ta tb):=by
 intro pins s σ H Q I h;refine BoolOp_or (thn (ha pins s σ H _ I h) fun v s1 ⟨x,H1,I1,r1,q1⟩=>?_);obtain ⟨c,rfl,q1⟩:=q1;cases r1;refine wpAny_truthy_bool ?_
 cases c with
 | false=>exact hb pins s1 σ H1 Q I1 q1
 | true=>exact ⟨.bl true,H1,I1,rfl,q1⟩
theorem KY (ha:PE X a ta):PE X (.UnaryOp .Not a pos) (tNotV ta):=by
 intro pins s σ H Q I h;refine UnaryOp_ (thn (ha pins s σ H _ I h) fun v s1 ⟨x,H1,I1,r1,q1⟩=>?_);obtain ⟨c,rfl,q1⟩:=q1;cases r1;exact not_of (wpAny_truthy_bool ⟨.bl (!c),H1,I1,rfl,q1⟩)
end
def SqL (K:FZ9)(H:Hp)(a:Addr)(xs:List V):Prop :=
 Rd H a (.lst xs) \/
  ∃ (o:Obj) (its:Array Value) (n:Nat),K.lookup a=some o/\o.cls = .type "list" /\ o.dict=none/\o.data = .seq its n/\its.size<=sizeLine/\Vals xs its.toList
def SqT (K:FZ9)(H:Hp)(a:Addr)(xs:List V):Prop :=
 Rd H a (.tup xs) \/
  ∃ (o:Obj) (its:Array Value) (n:Nat),K.lookup a=some o/\o.cls = .type "tuple" /\ o.data = .seq its n/\its.size<=sizeLine/\Vals xs its.toList
def absV:Value->Option V
 | .none=>some .non
 | .bool b=>some (.bl b)
 | .int i _=>some (.int i)
 | .str x _=>some (.str x)
 | .bytes b _=>some (.byt b)
 | .float b _=>some (.flt b)
 | .ref a=>some (.ref a)
 | .type n=>some (.ty n)
 | _=>none
theorem RelV.abs {x:V}{u:Value}(r:RelV x u):absV u=some x:=by
 cases x with
 | non=>cases r;rfl
 | bl _=>cases r;rfl
 | int _=>obtain ⟨t,rfl⟩:=r;rfl
 | str _=>obtain ⟨t,rfl⟩:=r;rfl
 | byt _=>obtain ⟨t,rfl⟩:=r;rfl
 | flt _=>obtain ⟨t,rfl⟩:=r;rfl
 | ref _=>cases r;rfl
 | ty _=>cases r;rfl
theorem RelV.inj {x y:V}{u:Value}(r:RelV x u)(q:RelV y u):x=y:=qdB (r.abs.symm.trans q.abs)
theorem Vals.inj:∀ {xs ys:List V}{us:List Value},Vals xs us->Vals ys us->xs=ys
 | _,_,_,.nil,.nil=>rfl
 | _,_,_,.cons r t,.cons r' t'=>by rw [r.inj r',Vals.inj t t']
section
variable {X:Cx}{pins:List (Addr × Obj)}{σ:St}{H:Hp}{s:Shared}{a:Addr}{xs ys:List V}
theorem SqL.of {K:FZ9}(h:H a=some (.lst xs)):SqL K H a xs:=.inl (.inl h)
theorem SqT.of {K:FZ9}(h:H a=some (.tup xs)):SqT K H a xs:=.inl (.inl h)
theorem Inv.list (I:Inv X pins σ H s)(h:SqL X.K H a xs):∃ its:List Value,Vals xs its/\PlainL s.heap a its.toArray/\xs.length<=sizeLine:=by
 rcases h with h | ⟨o,its,n,hk,hc,hd,hs,hz,r⟩
 ·obtain ⟨z,its,n,r,e⟩:=h.ok I.hok;exact ⟨its,r,⟨_,n,e,rfl,rfl,rfl⟩,z⟩
 ·refine ⟨its.toList,r,⟨o,n,I.kIn a o hk,hc,hd,by simpa using hs⟩,?_⟩;have e:=r.length;simp only [Array.length_toList] at e;omega
theorem Inv.tuple (I:Inv X pins σ H s)(h:SqT X.K H a xs):∃ its:List Value,Vals xs its/\IsTup s.heap a its.toArray/\xs.length<=sizeLine:=by
 rcases h with h | ⟨o,its,n,hk,hc,hs,hz,r⟩
 ·obtain ⟨z,its,r,p⟩:=h.ok I.hok;exact ⟨its,r,p,z⟩
 ·refine ⟨its.toList,r,⟨o,I.kIn a o hk,hc,n,by simpa using hs⟩,?_⟩;have e:=r.length;simp only [Array.length_toList] at e;omega
theorem Inv.list_inj (I:Inv X pins σ H s)(h:SqL X.K H a xs)(h':SqL X.K H a ys):xs=ys:=by
 obtain ⟨its,r,⟨o,n,e,_,_,d⟩,_⟩:=I.list h;obtain ⟨its',r',⟨o',n',e',_,_,d'⟩,_⟩:=I.list h';rw [e] at e';cases e';rw [d] at d';injection d' with d1 _
 have:its=its':=by simpa using congrArg Array.toList d1
 subst this;exact r.inj r'
theorem Inv.tuple_inj (I:Inv X pins σ H s)(h:SqT X.K H a xs)(h':SqT X.K H a ys):xs=ys:=by
 obtain ⟨its,r,⟨o,e,_,n,d⟩,_⟩:=I.tuple h;obtain ⟨its',r',⟨o',e',_,n',d'⟩,_⟩:=I.tuple h';rw [e] at e';cases e';rw [d] at d';injection d' with d1 _
 have:its=its':=by simpa using congrArg Array.toList d1
 subst this;exact r.inj r'
end
abbrev Cx.wish (X:Cx)(E:Value->Shared->Prop):Cx:={ X with xe:=E }
abbrev Cx.nox (X:Cx):Cx:=X.wish fun _ _=>False
theorem Cx.Ok.wish {X:Cx}(ok:X.Ok)(E:Value->Shared->Prop):(X.wish E).Ok :=
 ⟨ok.mod,ok.kind,ok.glob,ok.blt,ok.above,ok.inj,ok.has,ok.cab,ok.hd,ok.frames,ok.stk,ok.exf,ok.bs,ok.bsz,ok.noex,ok.exfs,ok.funs,ok.frf⟩
theorem Cx.Ok.unwish {X:Cx}{E:Value->Shared->Prop}(ok:(X.wish E).Ok):X.Ok :=
 ⟨ok.mod,ok.kind,ok.glob,ok.blt,ok.above,ok.inj,ok.has,ok.cab,ok.hd,ok.frames,ok.stk,ok.exf,ok.bs,ok.bsz,ok.noex,ok.exfs,ok.funs,ok.frf⟩
section
variable {X:Cx}{pins:List (Addr × Obj)}{σ:St}{H:Hp}{s:Shared}{E:Value->Shared->Prop}
theorem Inv.wish (I:Inv X pins σ H s)(E:Value->Shared->Prop):Inv (X.wish E) pins σ H s:=⟨I.ok.wish E,I.os,I.bare,I.base,I.loc,I.cell,I.free,I.freeC,I.pin,I.hok,I.len⟩
theorem Inv.unwish (I:Inv (X.wish E) pins σ H s):Inv X pins σ H s:=⟨I.ok.unwish,I.os,I.bare,I.base,I.loc,I.cell,I.free,I.freeC,I.pin,I.hok,I.len⟩
theorem SP.unwish {D:Ends}{f:Flow}{s':Shared}(h:SP (X.wish E) pins D f s'):SP X pins D f s':=by
 cases f with
 | next=>obtain ⟨σ',H',I,q⟩:=h;exact ⟨σ',H',I.unwish,q⟩
 | brk=>obtain ⟨σ',H',I,q⟩:=h;exact ⟨σ',H',I.unwish,q⟩
 | cont=>obtain ⟨σ',H',I,q⟩:=h;exact ⟨σ',H',I.unwish,q⟩
 | ret u=>obtain ⟨v,σ',H',I,r,q⟩:=h;exact ⟨v,σ',H',I.unwish,r,q⟩
theorem PSs.nox {st:List Stmt}{t:TS}(h:PSs X.nox st t):PSs X st t:=fun pins s σ H D I hw =>
 wpAny_mono (h pins s σ H D (I.wish _) hw) (fun _ _ q=>q.unwish) fun _ _ z=>False.elim z
end
section
variable {X:Cx}{st:Stmt}{rest:List Stmt}{t u:TS}{e:Expr}{te:TE}{pos:Pos}
abbrev BD:TS:=fun D σ H=>D.nx σ H
abbrev CG (t u:TS):TS:=fun D σ H=>t { D with nx:=u D } σ H
theorem AB:PSs X [] BD:=fun _ _ σ H _ I h=>wpAny_execs_nil ⟨σ,H,I,h⟩
theorem A6 (h1:PS X st t)(h2:PSs X rest u):PSs X (st::rest) (CG t u):=by
 intro pins s σ H D I h;refine wpAny_execs_cons (thn (h1 pins s σ H { D with nx:=u D } I h) fun f s1 q=>?_)
 cases f with
 | next =>
  obtain ⟨σ',H',I',q⟩:=q;exact h2 pins s1 σ' H' D I' q
 | ret v=>exact q
 | brk=>exact q
 | cont=>exact q
theorem Inv.quiet {pins:List (Addr × Obj)}{σ:St}{H:Hp}{s:Shared}(I:Inv X pins σ H s):interactive X.env=false:=by simp [interactive,I.ok.kind]
abbrev K4 (te:TE):TS:=fun D σ H=>te σ H fun _ H1=>D.nx σ H1
theorem GH (he:PE X e te)(hs:swapsWith e none pos.line X.env=pure false:=by rfl):PS X (.Expr e pos) (K4 te):=by
 intro pins s σ H D I h;exact wpAny_Expr_any (thn (he pins s σ H _ I h) fun v s1 ⟨x,H1,I1,r1,q1⟩=>⟨σ,H1,I1,q1⟩) I.quiet hs
abbrev Jo (te:TE):TS:=fun D σ H=>te σ H D.rt
theorem AT (he:PE X e te):PS X (.Return (some e) pos) (Jo te):=by
 intro pins s σ H D I h;exact wpAny_Return_some (thn (he pins s σ H _ I h) fun v s1 ⟨x,H1,I1,r1,q1⟩=>⟨x,σ,H1,I1,r1,q1⟩)
abbrev ON (c:TT)(t u:TS):TS:=fun D σ H=>c σ H fun b H1=>if b=true then t D σ H1 else u D σ H1
theorem B7 {c:Expr}{a b:List Stmt}{tc:TT}(hc:PT X c tc)(ha:PSs X a t)(hb:PSs X b u):PS X (.If c a b pos) (ON tc t u):=by
 intro pins s σ H D I h;refine wpAny_If (thn (hc pins s σ H _ I h) fun d s1 ⟨H1,I1,q1⟩=>?_)
 cases d with
 | true=>exact ha pins s1 σ H1 D I1 q1
 | false=>exact hb pins s1 σ H1 D I1 q1
end
abbrev TG:=V->St->Hp->(St->Hp->Prop)->Prop
abbrev TGs:=List V->St->Hp->(St->Hp->Prop)->Prop
def PG (X:Cx)(target:Expr)(t:TG):Prop :=
 ∀ (pins:List (Addr × Obj)) (s:Shared) (σ:St) (H:Hp) (v:V) (u:Value) (Q:St->Hp->Prop),Inv X pins σ H s->RelV v u->t v σ H Q ->
  wpAny (model X.prog X.w) X.A (assign target X.env u) (fun _ s'=>∃ σ' H',Inv X pins σ' H' s'/\Q σ' H') X.xe s
def PGs (X:Cx)(ts:List Expr)(t:TGs):Prop :=
 ∀ (pins:List (Addr × Obj)) (s:Shared) (σ:St) (H:Hp) (vs:List V) (us:List Value) (Q:St->Hp->Prop),Inv X pins σ H s->Vals vs us->t vs σ H Q ->
  wpAny (model X.prog X.w) X.A (assignInOrder ((assignEach ts X.env).map (·.2)) us) (fun _ s'=>∃ σ' H',Inv X pins σ' H' s'/\Q σ' H') X.xe s
abbrev TSet:=V->V->V->Hp->(Hp->Prop)->Prop
def PSet (X:Cx)(t:TSet):Prop :=
 ∀ (pins:List (Addr × Obj)) (s:Shared) (σ:St) (H:Hp) (o i v:V) (ov iv u:Value) (Q:Hp->Prop),Inv X pins σ H s->RelV o ov->RelV i iv->RelV v u->t o i v H Q ->
  wpAny (model X.prog X.w) X.A (setItem ov iv u) (fun _ s'=>∃ H',Inv X pins σ H' s'/\Q H') X.xe s
section
variable {X:Cx}{pos:Pos}
abbrev CY (i:Nat):TG:=fun v σ H Q=>Q (σ.set i (some v)) H
theorem Kx {i:Nat}{x:Str}(hN:X.N.Nodup)(hi:X.N[i]? = some x)(hx:Loc X.env.scope x)(hf:X.fn x=true\/X.env.scope.names.lookup x=some .local := by first|exact .inl rfl|exact .inr rfl|assumption):PG X (.Name x pos) (CY i):=by
 intro pins s σ H v u Q I r h;exact wpAny_assign_Name (Gp I hN hi hx r (fun s' I'=>⟨_,H,I',h⟩) hf)
def gNil:TGs:=fun vs σ H Q=>vs=[]/\Q σ H
def gCons (t:TG)(u:TGs):TGs:=fun vs σ H Q=>∃ v r,vs=v::r/\t v σ H fun σ' H'=>u r σ' H' Q
theorem pgs_nil:PGs X [] gNil:=by
 intro pins s σ H vs us Q I r h;obtain ⟨e,h⟩:=h;subst e;cases r;exact assignInOrder_nil ⟨σ,H,I,h⟩
theorem Lu {e:Expr}{es:List Expr}{t:TG}{u:TGs}(h1:PG X e t)(h2:PGs X es u)
  (hs:(assignEach (e::es) X.env).map (·.2)=assign e X.env::(assignEach es X.env).map (·.2):=by rfl):PGs X (e::es) (gCons t u):=by
 intro pins s σ H vs us Q I r h;obtain ⟨v,vr,e1,h⟩:=h;subst e1
 cases r with
 | cons r rr =>
  rw [hs];refine assignInOrder_cons (thn (h1 pins s σ H _ _ _ I r h) fun _ s1 ⟨σ1,H1,I1,q1⟩=>?_);exact h2 pins s1 σ1 H1 _ _ Q I1 rr q1
def gTup (K:FZ9)(n:Nat)(t:TGs):TG:=fun v σ H Q=>∃ a xs,v = .ref a/\SqT K H a xs/\xs.length=n/\t xs σ H Q
theorem pg_tup {es:List Expr}{k:Nat}{t:TGs}{n:Nat}(hc:X.calm=true)(h:PGs X es t)
  (hn:(assignEach es X.env).length=n:=by rfl) (hst:(assignEach es X.env).findIdx? (·.1)=none:=by rfl):PG X (.Tuple es k pos) (gTup X.K n t):=by
 intro pins s σ H v u Q I r hw;obtain ⟨a,xs,e1,hq,hl,hw⟩:=hw;subst e1;cases r;obtain ⟨its,rv,ht,hz⟩:=I.tuple hq;refine assign_Tuple_tuple (I.ok.hd hc) ht (by simp [hn,<- hl,rv.length]) hst fun h' hx=>?_;have I1:Inv X pins σ H { s with heap:=h' }:=I.kept (t':=s.toks) fun b o e=>hx b o (quB (qeB e)) e;exact h pins _ σ H xs _ Q I1 (by simpa using rv) hw
def gSub (to ti:TE)(t:TSet):TG:=fun v σ H Q=>to σ H fun o H1=>ti σ H1 fun i H2=>t o i v H2 fun H3=>Q σ H3
theorem Mv {o i:Expr}{to ti:TE}{t:TSet}(ho:PE X o to)(hi:PE X i ti)(hs:PSet X t)
  (ha:∀ v,assign (.Subscript o i pos) X.env v=(do
   let ov <- holding [v] (eval o X.env)
   let iv <- holding [v,ov] (eval i X.env)
   standAt pos
   holding [v,ov,iv] (setItem ov iv v)
   release [v,ov,iv] []):=by intro _;rfl):PG X (.Subscript o i pos) (gSub to ti t):=by
 intro pins s σ H v u Q I r h;rw [ha];refine qbA (wpAny_holding (thn (ho pins s σ H _ I h) fun ov s1 ⟨x,H1,I1,r1,q1⟩=>?_));refine qbA (wpAny_holding (thn (hi pins s1 σ H1 _ I1 q1) fun iv s2 ⟨y,H2,I2,r2,q2⟩=>?_));refine qbA (wpAny_standAt (qbA (wpAny_holding (thn (hs pins s2 σ H2 x y v ov iv u _ I2 r1 r2 r q2) fun _ s3 ⟨H3,I3,q3⟩=>?_))));exact wpAny_release ⟨σ,H3,I3,q3⟩
abbrev FI (te:TE)(g:TG):TS:=fun D σ H=>te σ H fun x H1=>g x σ H1 D.nx
theorem MV {tg e:Expr}{te:TE}{g:TG}(he:PE X e te)(hg:PG X tg g)(hs:swapsWithSole [tg] e pos.line X.env=pure false:=by rfl)(hw:swappedStores [tg] e X.env=pure none:=by rfl)
  (h1:(assignEach [tg] X.env).map (·.2)=[assign tg X.env]:=by rfl):PS X (.Assign [tg] e pos) (FI te g):=by
 intro pins s σ H D I h;refine wpAny_Assign_stores (thn (he pins s σ H _ I h) fun v s1 ⟨x,H1,I1,r1,q1⟩=>?_) hs hw;rw [h1];exact thn (hg pins s1 σ H1 x v _ I1 r1 q1) fun _ s2 q=>q
theorem ps_set {i:Nat}{x:Str}{e:Expr}{te:TE}{pos':Pos}(hN:X.N.Nodup)(hi:X.N[i]? = some x)(hx:Loc X.env.scope x)(he:PE X e te)(hs:swapsWith e (some (.Name x pos')) pos.line X.env=pure false:=by rfl)(hf:X.fn x=true\/X.env.scope.names.lookup x=some .local := by first|exact .inl rfl|exact .inr rfl|assumption) :
  PS X (.Assign [.Name x pos'] e pos) (FI te (CY i)):=by
 intro pins s σ H D I h;refine wpAny_Assign_Name (thn (he pins s σ H _ I h) fun v s1 ⟨y,H1,I1,r1,q1⟩=>?_) hs;exact Gp I1 hN hi hx r1 (fun s2 I2=>⟨_,H1,I2,q1⟩) hf
end
section
variable {X:Cx}{pos:Pos}
def tWhile (c:TT)(tb:TS):TS:=fun D σ H=>∃ W:Nat->St->Hp->Prop,(∃ m,W m σ H)/\∀ m σ H,W m σ H ->
 c σ H fun b H1=>if b=true then ∃ N:St->Hp->Prop,(∀ σ' H',N σ' H'->∃ m',m'<m/\W m' σ' H')/\tb { D with nx:=N,ct:=N,bk:=D.nx } σ H1 else D.nx σ H1
theorem ps_while {c:Expr}{body:List Stmt}{tc:TT}{tb:TS}(hp:PassesOwn (model X.prog X.w) X.A X.env X.xe)(hc:PT X c tc)(hb:PSs X body tb):PS X (.While c body [] pos) (tWhile tc tb):=by
 intro pins s σ H D I h;obtain ⟨W,⟨m0,w0⟩,turn⟩:=h;refine wpAny_While (codeAny_whileLoop (fun n s'=>∃ σ' H',Inv X pins σ' H' s'/\W n σ' H') ?_ m0 ⟨σ,H,I,w0⟩);rintro n s1 ⟨σ1,H1,I1,w1⟩;refine wpAny_passesOwn hp (thn (hc pins s1 σ1 H1 _ I1 (turn n σ1 H1 w1)) fun b s2 ⟨H2,I2,q2⟩=>?_)
 cases b with
 | true =>
  obtain ⟨N,hN,q2⟩:=q2;rw [if_pos rfl];refine wpAny_passesOwn hp (thn (hb pins s2 σ1 H2 _ I2 q2) fun f s3 q3=>?_)
  cases f with
  | next =>
   obtain ⟨σ3,H3,I3,n3⟩:=q3;obtain ⟨m',hm,w3⟩:=hN σ3 H3 n3;exact ⟨m',hm,σ3,H3,I3,w3⟩
  | cont =>
   obtain ⟨σ3,H3,I3,n3⟩:=q3;obtain ⟨m',hm,w3⟩:=hN σ3 H3 n3;exact ⟨m',hm,σ3,H3,I3,w3⟩
  | brk=>exact q3
  | ret v=>exact q3
 | false =>
  rw [if_neg qnB];exact wpAny_execs_nil ⟨σ1,H2,I2,q2⟩
end
structure It where
 go:Nat->Hp->Prop
 yld:Nat->Hp->V->Hp->Prop
 stop:Nat->Hp->Prop
def GK (X:Cx)(pins:List (Addr × Obj))(H:Hp)(b:Addr):Prop :=
 H b=none/\b≠X.env.locals/\b ∉ X.fs/\(b∈X.ex\/X.s₀.heap.objs.size<=b)/\(∀ x c,X.env.cells.lookup x=some c->c≠b)/\∀ p∈X.pn++pins,p.1≠b
theorem Inv.fpOk {X:Cx}{pins:List (Addr × Obj)}{σ:St}{H H':Hp}{s:Shared}{b:Addr}(I:Inv X pins σ H s)(hb:s.heap.objs.size<=b)(hn:H' b=none):GK X pins H' b:=by
 refine ⟨hn,Nat.ne_of_gt (qwB I.lt hb),I.nofs hb,.inr (qbB I.sz hb),fun x c e z=>?_,fun p hp z=>?_⟩
 ·obtain ⟨v,q⟩:=I.cell x c e;exact absurd (qwB q.lt (by rw [z];exact hb)) (qcB _)
 ·exact absurd (qwB (qeB (I.pin p hp).1) (by rw [z];exact hb)) (qcB _)
structure Turn (P:Program)(w:World)(K:FZ9)(tg:Expr)(J:It)(fp:List Addr)(it:Addr)(tn:Nat->Heap->Prop):Prop where
 mem:it∈fp
 obj:∀ i h,tn i h->∀ b∈fp,∃ o,h.get? b=some o/\∀ v,o.data ≠ .cell v
 keep:∀ i h h',tn i h->(∀ b∈fp,∀ o,h.get? b=some o->h'.get? b=some o)->tn i h'
 item:∀ (X:Cx),X.prog=P->X.w=w->X.K=K->X.calm=true->∀ (i:Nat) (pins:List (Addr × Obj)) (s:Shared) (σ:St) (H:Hp) (E:Value->Shared->Prop),Inv X pins σ H s->(∀ b∈fp,GK X pins H b)->tn i s.heap->J.go i H ->
  wpAny (model P w) X.A (pyNext (.ref it)) (fun r s1=>∃ u,r=some u /\
   wpAny (model P w) X.A (letOwnedTupleGo tg (.ref it) u) (fun _ s2=>∃ x H',Inv X pins σ H' s2/\RelV x u/\J.yld i H x H'/\tn (i+1) s2.heap/\∀ b∈fp,H' b=none) E s1) E s
 done:∀ (X:Cx),X.prog=P->X.w=w->X.K=K->X.calm=true->∀ (i:Nat) (pins:List (Addr × Obj)) (s:Shared) (σ:St) (H:Hp) (E:Value->Shared->Prop),Inv X pins σ H s->(∀ b∈fp,GK X pins H b)->tn i s.heap->J.stop i H ->
  wpAny (model P w) X.A (pyNext (.ref it)) (fun r s1=>r=none/\Inv X pins σ H s1) E s
 self:∀ (A:Around) (i:Nat) (s:Shared) (Q:Value->Shared->Prop) (E:Value->Shared->Prop),tn i s.heap->Q (.ref it) s->wpAny (model P w) A (pyIter (.ref it)) Q E s
abbrev TI:=St->Hp->(It->Hp->Prop)->Prop
def PIE (X:Cx)(pins:List (Addr × Obj))(σ:St)(tg:Expr)(R:It->Hp->Prop)(itv:Value)(s2:Shared):Prop :=
 ∃ (it:Addr) (fp:List Addr) (tn:Nat->Heap->Prop) (J:It) (H':Hp),itv = .ref it/\Inv X pins σ H' s2/\Turn X.prog X.w X.K tg J fp it tn/\tn 0 s2.heap/\(∀ b∈fp,GK X pins H' b)/\R J H'
def PI (X:Cx)(tg iter:Expr)(wi:TI):Prop :=
 ∀ (pins:List (Addr × Obj)) (s:Shared) (σ:St) (H:Hp) (R:It->Hp->Prop),Inv X pins σ H s->wi σ H R ->
  wpAny (model X.prog X.w) X.A (eval iter X.env) (fun v s1=>wpAny (model X.prog X.w) X.A (pyIter v) (PIE X pins σ tg R) X.xe s1) X.xe s
theorem KD {M:Model}{A:Around}{E:Value->Shared->Prop}{s:Shared}{tg:Expr}{it:Addr}{u:Value}{o:Obj}{n:String}{vs:Array Value}{Q:Unit->Shared->Prop}(ho:s.heap.get? it=some o)(hc:o.cls = .type n)(hd:o.data = .fields vs)
  (hn:["enumerate","zip","dict_itemiterator","dict_reverseitemiterator","odict_iterator","itertools.zip_longest","itertools.pairwise"].contains n=false) (hQ:Q () s):wpAny M A (letOwnedTupleGo tg (.ref it) u) Q E s:=by
 unfold letOwnedTupleGo
 cases tg<;>first
  | exact qcA hQ
  | (cases u<;>first
    | exact qcA hQ
    | (refine qbA (wpAny_load ho ?_)
       rw [hc,hd];show wpAny M A (if (["enumerate","zip","dict_itemiterator","dict_reverseitemiterator","odict_iterator","itertools.zip_longest","itertools.pairwise"].contains n && vs[0]? == some (rawInt _))=true then _ else _) Q E s;rw [if_neg (by intro h;rw [hn,Bool.false_and] at h;cases h)]
       exact qcA hQ))
def Itl (K:FZ9)(a:Addr):It :=
 ⟨fun i H=>∃ xs x,SqL K H a xs/\xs[i]? = some x,fun i H x H'=>H'=H/\∀ xs,SqL K H a xs->xs[i]? = some x,fun i H=>∃ xs,SqL K H a xs/\xs.length<=i⟩
def Itt (K:FZ9)(a:Addr):It :=
 ⟨fun i H=>∃ xs x,SqT K H a xs/\xs[i]? = some x,fun i H x H'=>H'=H/\∀ xs,SqT K H a xs->xs[i]? = some x,fun i H=>∃ xs,SqT K H a xs/\xs.length<=i⟩
def Itr (lo:Int)(n:Nat):It:=⟨fun i _=>i<n,fun i H x H'=>H'=H/\x = .int (lo+i),fun i _=>n<=i⟩
theorem OF {P:Program}{w:World}{K:FZ9}{tg:Expr}(a it:Addr):Turn P w K tg (Itl K a) [it] it (fun i h=>h.IsListIter it a i) where
 mem:=by simp
 obj:=fun i h st b hb=>by
  have e:b=it:=by simpa using hb
  subst e;obtain ⟨o,e,c,d⟩:=st;exact ⟨o,e,fun v z=>by rw [d] at z;cases z⟩
 keep:=fun i h h' st k=>st.at fun o e=>k it (by simp) o e
 item:=by
  intro X hP hw hK hc i pins s σ H E I hf st hg;subst hP hw hK;obtain ⟨xs,x,hq,hx⟩:=hg;obtain ⟨its,rv,p,hz⟩:=I.list hq;obtain ⟨u,hu,ru⟩:=rv.get hx;obtain ⟨f0,f1,f2,f3,f4,f5⟩:=hf it (by simp);refine wpAny_pyNext_list_item st p.isList (x:=u) (by simpa using hu) fun h' st' sb=>?_;have I1:Inv X pins σ H { s with heap:=h' }:=I.turned (t':=s.toks) (fun b o hb e=>(sb.2 b hb).trans e) f0 f1 f3 f4 f5;obtain ⟨o,e,c,d⟩:=id st';exact ⟨u,rfl,KD (s:={ s with heap:=h' }) e c d (by decide) ⟨x,H,I1,ru,⟨rfl,fun ys hy=>by rw [I.list_inj hy hq];exact hx⟩,st',fun b hb=>(hf b hb).1⟩⟩
 done:=by
  intro X hP hw hK hc i pins s σ H E I hf st hg;subst hP hw hK;obtain ⟨xs,hq,hx⟩:=hg;obtain ⟨its,rv,p,hz⟩:=I.list hq;obtain ⟨f0,f1,f2,f3,f4,f5⟩:=hf it (by simp);have hl:=rv.length;exact wpAny_pyNext_list_end (I.ok.hd hc) st p.isList (by simp;omega) fun h' eb=>⟨rfl,I.turned (t':=s.toks) (fun b o hb e=>eb b o hb e) f0 f1 f3 f4 f5⟩
 self:=fun _ _ _ _ _ st h=>wpAny_pyIter_listiter st h
theorem N5 {P:Program}{w:World}{K:FZ9}{tg:Expr}(a it:Addr):Turn P w K tg (Itt K a) [it] it (fun i h=>h.IsTupleIter it a i) where
 mem:=by simp
 obj:=fun i h st b hb=>by
  have e:b=it:=by simpa using hb
  subst e;obtain ⟨o,e,c,d⟩:=st;exact ⟨o,e,fun v z=>by rw [d] at z;cases z⟩
 keep:=fun i h h' st k=>st.at fun o e=>k it (by simp) o e
 item:=by
  intro X hP hw hK hc i pins s σ H E I hf st hg;subst hP hw hK;obtain ⟨xs,x,hq,hx⟩:=hg;obtain ⟨its,rv,p,hz⟩:=I.tuple hq;obtain ⟨u,hu,ru⟩:=rv.get hx;obtain ⟨f0,f1,f2,f3,f4,f5⟩:=hf it (by simp);refine wpAny_pyNext_tuple_item st (show s.heap.IsTuple a its.toArray from p) (x:=u) (by simpa using hu) fun h' st' sb=>?_;have I1:Inv X pins σ H { s with heap:=h' }:=I.turned (t':=s.toks) (fun b o hb e=>(sb.2 b hb).trans e) f0 f1 f3 f4 f5;obtain ⟨o,e,c,d⟩:=id st';exact ⟨u,rfl,KD (s:={ s with heap:=h' }) e c d (by decide) ⟨x,H,I1,ru,⟨rfl,fun ys hy=>by rw [I.tuple_inj hy hq];exact hx⟩,st',fun b hb=>(hf b hb).1⟩⟩
 done:=by
  intro X hP hw hK hc i pins s σ H E I hf st hg;subst hP hw hK;obtain ⟨xs,hq,hx⟩:=hg;obtain ⟨its,rv,p,hz⟩:=I.tuple hq;obtain ⟨f0,f1,f2,f3,f4,f5⟩:=hf it (by simp);have hl:=rv.length;exact wpAny_pyNext_tuple_end (I.ok.hd hc) st (show s.heap.IsTuple a its.toArray from p) (by simp;omega) fun h' eb=>⟨rfl,I.turned (t':=s.toks) (fun b o hb e=>eb b o hb e) f0 f1 f3 f4 f5⟩
 self:=fun _ _ _ _ _ st h=>wpAny_pyIter_tupleiter st h
theorem MU {P:Program}{w:World}{K:FZ9}{tg:Expr}(it:Addr)(lo:Int)(n:Nat):Turn P w K tg (Itr lo n) [it] it (fun i h=>IsRangeIter h it (lo+(i:Nat) * 1) ((n:Int) - (i:Nat)) 1) where
 mem:=by simp
 obj:=fun i h st b hb=>by
  have e:b=it:=by simpa using hb
  subst e
  exact ⟨_,st,fun v z=>by
   have z':Data.fields _=Data.cell v:=z
   cases z'⟩
 keep:=fun i h h' st k=>k it (by simp) _ st
 item:=by
  intro X hP hw hK hc i pins s σ H E I hf st hg;subst hP hw hK;obtain ⟨f0,f1,f2,f3,f4,f5⟩:=hf it (by simp);have W:=Walks.range (prog:=X.prog) (w:=X.w) (I.ok.hd hc) it lo 1 n;refine W.item i s _ _ hg st fun v h' tk hv st' kk=>?_;obtain ⟨t,rfl⟩:=hv;have I1:Inv X pins σ H { s with heap:=h',toks:=tk }:=I.turned (fun b o hb e=>kk b o (by simpa using hb) e) f0 f1 f3 f4 f5;refine ⟨_,rfl,KD (s:={ s with heap:=h',toks:=tk }) (n := "range_iterator") st' rfl rfl (by decide) ⟨.int (lo+i),H,I1,⟨t,?_⟩,⟨rfl,rfl⟩,st',fun b hb=>(hf b hb).1⟩⟩;rw [Int.mul_one]
 done:=by
  intro X hP hw hK hc i pins s σ H E I hf st hg;subst hP hw hK;obtain ⟨f0,f1,f2,f3,f4,f5⟩:=hf it (by simp);exact wpAny_pyNext_range_end (I.ok.hd hc) st (by have:n<=i:=hg;omega) fun h' eb=>⟨rfl,I.turned (t':=s.toks) (fun b o hb e=>eb b o hb e) f0 f1 f3 f4 f5⟩
 self:=fun _ _ _ _ _ st h=>wpAny_pyIter_rangeiter st h
section
variable {X:Cx}{tg:Expr}
theorem range_it {pins:List (Addr × Obj)}{σ:St}{H:Hp}{s:Shared}{R:It->Hp->Prop}{E:Value->Shared->Prop}{lo hi:Int}{t u v:Tok}{tk:Nat}(I:Inv X pins σ H s)(h1:-(2 ^ 62)<=lo)(h2:lo<2 ^ 62)(h3:-(2 ^ 62)<=hi)(h4:hi<2 ^ 62)
  (q:R (Itr lo (hi - lo).toNat) H):wpAny (model X.prog X.w) X.A (pyIter (.ref s.heap.objs.size)) (PIE X pins σ tg R) E { s with heap:=s.heap.push { cls:=.type "range",data:=.fields #[.int lo t,.int hi u,.int 1 v] },toks:=tk }:=by
 refine wpAny_pyIter_range (IsRange.new ..) (small_one h1 h2 h3 h4) ?_;have I1:Inv X pins σ H { s with heap:=s.heap.push { cls:=.type "range",data:=.fields #[.int lo t,.int hi u,.int 1 v] },toks:=tk }:=I.kept fun b o e=>qfB _ e
 refine ⟨(s.heap.push { cls:=.type "range",data:=.fields #[.int lo t,.int hi u,.int 1 v] }).objs.size,[(s.heap.push { cls:=.type "range",data:=.fields #[.int lo t,.int hi u,.int 1 v] }).objs.size],_,_,H,rfl,
  I1.kept (t':=tk) fun b o e=>qfB _ e,MU _ lo (hi - lo).toNat,?_,fun b hb=>?_,q⟩
 ·have e1:lo+((0:Nat):Int) * 1=lo:=by simp
  have e2:(((hi - lo).toNat:Nat):Int) - ((0:Nat):Int)=Builtin.Range.rangeSize lo hi 1:=by rw [rangeSize_one];split<;>omega
  show IsRangeIter _ _ (lo+((0:Nat):Int) * 1) ((((hi - lo).toNat:Nat):Int) - ((0:Nat):Int)) 1;rw [e1,e2];exact qgB _ rfl
 ·have e:b=(s.heap.push { cls:=.type "range",data:=.fields #[.int lo t,.int hi u,.int 1 v] }).objs.size:=by simpa using hb
  subst e;exact I1.fpOk (qaB _) (I1.hok.fresh (qaB _))
def iRng1 (ta:TA):TI:=fun σ H R=>ta σ H fun vs H1=>∃ j:Int,vs=[.int j]/\-(2 ^ 62)<=j/\j<2 ^ 62/\R (Itr 0 j.toNat) H1
theorem GC {a:Expr}{ta:TA}{p pos:Pos}(hg:Gl X "range")(hm:X.mg "range" = none)(ha:PA X [a] ta)(hs:starEach [a] X.env=[(false,eval a X.env)]:=by rfl):PI X tg (.Call (.Name "range" p) [a] [] pos) (iRng1 ta):=by
 intro pins s σ H R I h;refine Call_ (Hr I hg hm boot_range (PyProof.Rows.callWith_type1 (thn (ha pos pins s σ H _ I h) fun us s1 ⟨vs,H1,I1,r1,q1⟩=>?_) hs rfl));obtain ⟨j,e,q1,q2,q⟩:=q1;subst e
 cases r1 with
 | cons r rr =>
  cases rr;obtain ⟨t,rfl⟩:=r;exact call_range_1 (range_it I1 (by omega) (by omega) q1 q2 (by simpa using q))
def tFor (wi:TI)(g:TG)(tb:TS):TS:=fun D σ H=>wi σ H fun J H1=>∃ W:Nat->Nat->St->Hp->Prop,(∃ m,W 0 m σ H1)/\∀ i m σ H,W i m σ H ->
 (J.stop i H/\D.nx σ H)\/(J.go i H/\∃ N:St->Hp->Prop,(∀ σ' H',N σ' H'->∃ m',m'<m/\W (i+1) m' σ' H')/\∀ x H',J.yld i H x H'->g x σ H' fun σ2 H2=>tb { D with nx:=N,ct:=N,bk:=D.nx } σ2 H2)
def Hq (fp:List Addr)(h:Heap):List (Addr × Obj):=fp.filterMap fun b=>(h.get? b).map fun o=>(b,o)
theorem DK {fp:List Addr}{h:Heap}{b:Addr}{o:Obj}(hb:b∈fp)(e:h.get? b=some o):(b,o)∈Hq fp h:=List.mem_filterMap.mpr ⟨b,hb,by rw [e];rfl⟩
theorem Oa {fp:List Addr}{h:Heap}{p:Addr × Obj}(hp:p∈Hq fp h):p.1∈fp/\h.get? p.1=some p.2:=by
 obtain ⟨b,hb,e⟩:=List.mem_filterMap.mp hp
 cases q:h.get? b with
 | none=>rw [q] at e;cases e
 | some o =>
  rw [q] at e;have e':(b,o)=p:=qdB e;subst e';exact ⟨hb,q⟩
theorem Inv.pinned {pins:List (Addr × Obj)}{σ:St}{H:Hp}{s:Shared}{fp:List Addr}(I:Inv X pins σ H s)(hf:∀ b∈fp,GK X pins H b)(ho:∀ b∈fp,∃ o,s.heap.get? b=some o/\∀ v,o.data ≠ .cell v):Inv X (pins++Hq fp s.heap) σ H s :=
 I.pins_of fun p hp=>(qjA.mp hp).elim (fun z=>I.pin p (qxB _ z)) fun z=>by
  obtain ⟨hb,e⟩:=Oa z;obtain ⟨f0,f1,f2,_⟩:=hf p.1 hb;obtain ⟨o,e',d⟩:=ho p.1 hb;rw [e] at e';cases e';exact ⟨e,f0,f1,f2,d⟩
theorem Inv.unpinned {pins pl:List (Addr × Obj)}{σ:St}{H:Hp}{s:Shared}(I:Inv X (pins++pl) σ H s):Inv X pins σ H s:=I.pins_of fun p hp=>I.pin p (qxB _ (List.mem_append_left _ hp))
theorem F5 {iter:Expr}{body:List Stmt}{wi:TI}{g:TG}{tb:TS}{pos:Pos}(hp:PassesOwn (model X.prog X.w) X.A X.env X.xe)(hc:X.calm=true)(hi:PI X tg iter wi)(hg:PG X tg g)(hb:PSs X body tb)
  (hs:∀ x,foldedSetIterable iter X.env x=pure x:=by intro _;rfl):PS X (.For tg iter body [] pos) (tFor wi g tb):=by
 intro pins s σ H D I h;refine wpAny_For (thn (hi pins s σ H _ I h) fun v s1 h1=>thn h1 fun itv s2 h2=>?_) hs;obtain ⟨it,fp,tn,J,H2,e,I2,T,st2,f2,W,⟨m0,w0⟩,turn⟩:=h2;subst e;have stat:∀ {H':Hp},(∀ b∈fp,H' b=none)->∀ b∈fp,GK X pins H' b:=fun hn b hb=>⟨hn b hb,(f2 b hb).2⟩;refine codeAny_forLoop_any (fun n s'=>∃ i σ' H',Inv X pins σ' H' s'/\tn i s'.heap/\(∀ b∈fp,H' b=none)/\W i n σ' H') ?_ m0 ⟨0,σ,H2,I2,st2,fun b hb=>(f2 b hb).1,w0⟩;rintro n s3 ⟨i,σ3,H3,I3,st3,fr3,w3⟩;rcases turn i n σ3 H3 w3 with ⟨stop,qn⟩ | ⟨go,N,hN,step⟩
 ·refine wpAny_passesOwn hp (thn (T.done X rfl rfl rfl hc i pins s3 σ3 H3 X.xe I3 (stat fr3) st3 stop) fun r s4 ⟨hr,I4⟩=>?_);subst hr;exact wpAny_execs_nil ⟨σ3,H3,I4,qn⟩
 ·refine wpAny_passesOwn hp (thn (T.item X rfl rfl rfl hc i pins s3 σ3 H3 X.xe I3 (stat fr3) st3 go) fun r s4 ⟨u,hr,h4⟩=>?_);subst hr;refine wpAny_passesOwn hp (thn h4 fun _ s5 ⟨x,H5,I5,r5,y5,st5,fr5⟩=>?_);have I5':=I5.pinned (stat fr5) (T.obj _ _ st5);refine wpAny_passesOwn hp (thn (hg _ s5 σ3 H5 x u _ I5' r5 (step x H5 y5)) fun _ s6 ⟨σ6,H6,I6,q6⟩=>?_);refine wpAny_passesOwn hp (thn (hb _ s6 σ6 H6 _ I6 q6) fun f s7 q7=>?_)
  have again:∀ {σ7:St}{H7:Hp},Inv X (pins++Hq fp s5.heap) σ7 H7 s7->N σ7 H7->∃ m,m<n/\∃ i σ' H',Inv X pins σ' H' s7/\tn i s7.heap/\(∀ b∈fp,H' b=none)/\W i m σ' H':=fun {σ7 H7} I7 n7=>by
   obtain ⟨m',hm,w7⟩:=hN σ7 H7 n7;refine ⟨m',hm,i+1,σ7,H7,I7.unpinned,T.keep _ _ _ st5 fun b hb o e=>(I7.pin (b,o) (qxB _ (qxB _ (DK hb e)))).1,fun b hb=>?_,w7⟩;obtain ⟨o,e,d⟩:=T.obj _ _ st5 b hb;exact (I7.pin (b,o) (qxB _ (qxB _ (DK hb e)))).2.1
  cases f with
  | next=>obtain ⟨σ7,H7,I7,n7⟩:=q7;exact again I7 n7
  | cont=>obtain ⟨σ7,H7,I7,n7⟩:=q7;exact again I7 n7
  | brk=>obtain ⟨σ7,H7,I7,q7⟩:=q7;exact ⟨σ7,H7,I7.unpinned,q7⟩
  | ret v=>obtain ⟨x7,σ7,H7,I7,r7,q7⟩:=q7;exact ⟨x7,σ7,H7,I7.unpinned,r7,q7⟩
end
abbrev R2:=V->V->Hp->VK->Prop
def OpR (X:Cx)(f:Value->Value->Sem Value)(r:R2):Prop :=
 ∀ (pins:List (Addr × Obj)) (s:Shared) (σ:St) (H:Hp) (x y:V) (v u:Value) (Q:VK),Inv X pins σ H s->RelV x v->RelV y u->r x y H Q ->
  wpAny (model X.prog X.w) X.A (f v u) (EP X pins σ Q) X.xe s
def UnR (X:Cx)(f:Value->Sem Value)(r:V->Hp->VK->Prop):Prop :=
 ∀ (pins:List (Addr × Obj)) (s:Shared) (σ:St) (H:Hp) (x:V) (v:Value) (Q:VK),Inv X pins σ H s->RelV x v->r x H Q ->
  wpAny (model X.prog X.w) X.A (f v) (EP X pins σ Q) X.xe s
def De (X:Cx)(f:Value)(r:List V->Hp->VK->Prop):Prop :=
 ∀ (pins:List (Addr × Obj)) (s:Shared) (σ:St) (H:Hp) (xs:List V) (us:List Value) (Q:VK),Inv X pins σ H s->Vals xs us->r xs H Q ->
  wpAny (model X.prog X.w) X.A (call f us) (EP X pins σ Q) X.xe s
def TruR (X:Cx)(r:V->Hp->(Bool->Hp->Prop)->Prop):Prop :=
 ∀ (pins:List (Addr × Obj)) (s:Shared) (σ:St) (H:Hp) (x:V) (v:Value) (Q:Bool->Hp->Prop),Inv X pins σ H s->RelV x v->r x H Q ->
  wpAny (model X.prog X.w) X.A (truthy v) (TP X pins σ Q) X.xe s
abbrev tOp (r:R2)(ta tb:TE):TE:=fun σ H Q=>ta σ H fun x H1=>tb σ H1 fun y H2=>r x y H2 Q
abbrev tUn (r:V->Hp->VK->Prop)(ta:TE):TE:=fun σ H Q=>ta σ H fun x H1=>r x H1 Q
def rI (C:Int->Int->Prop)(g:Int->Int->V):R2:=fun x y H Q=>∃ i j,x = .int i/\y = .int j/\C i j/\Q (g i j) H
def rI0 (g:Int->Int->V):R2:=fun x y H Q=>∃ i j,x = .int i/\y = .int j/\Q (g i j) H
def rU (g:Int->V):V->Hp->VK->Prop:=fun x H Q=>∃ i,x = .int i/\Q (g i) H
section
variable {X:Cx}{a b c:Expr}{ta tb tc:TE}{pos:Pos}
theorem binT (ha:PE X a ta)(hb:PE X b tb){pins:List (Addr × Obj)}{s:Shared}{σ:St}{H:Hp}{R:V->V->Hp->Prop}(I:Inv X pins σ H s)
  (h:ta σ H fun x H1=>tb σ H1 fun y H2=>R x y H2) {Q:Value->Shared->Prop}{f:Value->Value->Sem Value}
  (hf:∀ v u s2 x y H2,Inv X pins σ H2 s2->RelV x v->RelV y u->R x y H2->wpAny (model X.prog X.w) X.A (f v u) Q X.xe s2) :
  wpAny (model X.prog X.w) X.A (eval a X.env) (fun v s₁=>wpAny (model X.prog X.w) X.A (eval b X.env) (fun u s₂=>wpAny (model X.prog X.w) X.A (f v u) Q X.xe s₂) X.xe s₁) X.xe s:=by
 refine thn (ha pins s σ H _ I h) fun v s1 ⟨x,H1,I1,r1,q1⟩=>?_;refine thn (hb pins s1 σ H1 _ I1 q1) fun u s2 ⟨y,H2,I2,r2,q2⟩=>?_;exact hf v u s2 x y H2 I2 r1 r2 q2
theorem As {op:Operator}{r:R2}(ho:OpR X (binaryOp op) r)(ha:PE X a ta)(hb:PE X b tb):PE X (.BinOp a op b pos) (tOp r ta tb):=by
 intro pins s σ H Q I h;exact wpAny_BinOp (binT ha hb I h fun v u s2 x y H2 I2 rx ry q=>ho pins s2 σ H2 x y v u Q I2 rx ry q)
theorem Nd {op:UnaryOp}{r:V->Hp->VK->Prop}(ho:UnR X (unaryOp op) r)(ha:PE X a ta):PE X (.UnaryOp op a pos) (tUn r ta):=by
 intro pins s σ H Q I h;exact UnaryOp_ (thn (ha pins s σ H _ I h) fun v s1 ⟨x,H1,I1,r1,q1⟩=>ho pins s1 σ H1 x v Q I1 r1 q1)
theorem opI {f:Value->Value->Sem Value}{C:Int->Int->Prop}{g:Int->Int->Int}
  (rule:∀ (i j:Int) (t u:Tok) (s:Shared) (Q:Value->Shared->Prop) (E:Value->Shared->Prop),C i j->Q (.int (g i j) s.toks) { s with toks:=s.toks+1 }->wpAny (model X.prog X.w) X.A (f (.int i t) (.int j u)) Q E s) :
  OpR X f (rI C fun i j=>.int (g i j)):=by
 intro pins s σ H x y v u Q I rx ry h;obtain ⟨i,j,rfl,rfl,hc,q⟩:=h;obtain ⟨t,rfl⟩:=rx;obtain ⟨t',rfl⟩:=ry;exact rule i j t t' s _ _ hc ⟨.int (g i j),H,I.tok _,⟨_,rfl⟩,q⟩
theorem opI0 {f:Value->Value->Sem Value}{g:Int->Int->Int}
  (rule:∀ (i j:Int) (t u:Tok) (s:Shared) (Q:Value->Shared->Prop) (E:Value->Shared->Prop),Q (.int (g i j) s.toks) { s with toks:=s.toks+1 }->wpAny (model X.prog X.w) X.A (f (.int i t) (.int j u)) Q E s) :
  OpR X f (rI0 fun i j=>.int (g i j)):=by
 intro pins s σ H x y v u Q I rx ry h;obtain ⟨i,j,rfl,rfl,q⟩:=h;obtain ⟨t,rfl⟩:=rx;obtain ⟨t',rfl⟩:=ry;exact rule i j t t' s _ _ ⟨.int (g i j),H,I.tok _,⟨_,rfl⟩,q⟩
theorem opB0 {f:Value->Value->Sem Value}{g:Int->Int->Bool}
  (rule:∀ (i j:Int) (t u:Tok) (s:Shared) (Q:Value->Shared->Prop) (E:Value->Shared->Prop),Q (.bool (g i j)) s->wpAny (model X.prog X.w) X.A (f (.int i t) (.int j u)) Q E s) :
  OpR X f (rI0 fun i j=>.bl (g i j)):=by
 intro pins s σ H x y v u Q I rx ry h;obtain ⟨i,j,rfl,rfl,q⟩:=h;obtain ⟨t,rfl⟩:=rx;obtain ⟨t',rfl⟩:=ry;exact rule i j t t' s _ _ ⟨.bl (g i j),H,I,rfl,q⟩
def Mn (i j:Int):Prop:=0<j/\j<1073741824
def CPow (i j:Int):Prop:=0<=j/\j<=1000000/\i.natAbs<2 ^ 64
theorem op_add:OpR X (binaryOp .Add) (rI0 fun i j=>.int (i+j)):=opI0 fun _ _ _ _ _ _ _ q=>add_int q
theorem MR:OpR X (binaryOp .Sub) (rI0 fun i j=>.int (i - j)):=opI0 fun _ _ _ _ _ _ _ q=>sub_int q
theorem BH:OpR X (binaryOp .FloorDiv) (rI Mn fun i j=>.int (i / j)):=opI fun i j _ _ _ _ _ hc q=>by
 have h1:(0:Int)<j:=hc.1;have h2:j<1073741824:=hc.2;exact floordiv_int (by omega) (by rw [Int.fdiv_eq_ediv_of_nonneg i (by omega)];exact q) (.inl (PyProof.noPylong_small (by omega)))
theorem BQ:OpR X (binaryOp .Mod) (rI (fun _ j=>0<j) fun i j=>.int (i % j)):=opI fun i j _ _ _ _ _ hc q=>by
 have h1:(0:Int)<j:=hc;exact mod_int' (by omega) (by rw [Int.fmod_eq_emod_of_nonneg i (by omega)];exact q)
theorem Mt:OpR X (binaryOp .Pow) (rI CPow fun i j=>.int (i ^ j.toNat)):=opI fun _ _ _ _ _ _ _ hc q=>pow_int_small hc.1 hc.2.1 hc.2.2 q
theorem unI {f:Value->Sem Value}{g:Int->Int}
  (rule:∀ (i:Int) (t:Tok) (s:Shared) (Q:Value->Shared->Prop) (E:Value->Shared->Prop),Q (.int (g i) s.toks) { s with toks:=s.toks+1 }->wpAny (model X.prog X.w) X.A (f (.int i t)) Q E s) :
  UnR X f (rU fun i=>.int (g i)):=by
 intro pins s σ H x v Q I rx h;obtain ⟨i,rfl,q⟩:=h;obtain ⟨t,rfl⟩:=rx;exact rule i t s _ _ ⟨.int (g i),H,I.tok _,⟨_,rfl⟩,q⟩
theorem Kb:UnR X (unaryOp .USub) (rU fun i=>.int (-i)):=unI fun _ _ _ _ _ q=>neg_int q
end
def scal:V->V->Bool
 | .non,.non=>true | .non,.int _=>true | .int _,.non=>true | .non,.bl _=>true | .bl _,.non=>true | .non,.str _=>true | .str _,.non=>true
 | .int _,.int _=>true | .bl _,.bl _=>true | .str _,.str _=>true | .byt _,.byt _=>true
 | .int _,.str _=>true | .str _,.int _=>true | .bl _,.str _=>true | .str _,.bl _=>true
 | _,_=>false
def rEq:R2:=fun x y H Q=>scal x y=true/\Q (.bl (decide (x=y))) H
def rNe:R2:=fun x y H Q=>scal x y=true/\Q (.bl (!decide (x=y))) H
theorem NI {i j:Int}:decide (V.int i=V.int j)=(i == j):=by
 rw [Bool.eq_iff_iff];simp
theorem dec_bl {i j:Bool}:decide (V.bl i=V.bl j)=(i == j):=by
 rw [Bool.eq_iff_iff];simp
theorem N9 {i j:Str}:decide (V.str i=V.str j)=(i == j):=by
 rw [Bool.eq_iff_iff];simp
theorem Np {i j:Array UInt8}:decide (V.byt i=V.byt j)=(i.toList == j.toList):=by
 rw [Bool.eq_iff_iff];cases i;cases j;simp
section
variable {X:Cx}{a b c:Expr}{ta tb tc:TE}{pos:Pos}
theorem B8 {pins:List (Addr × Obj)}{σ:St}{H:Hp}{s:Shared}{Q:VK}{k k':Bool}(I:Inv X pins σ H s)(q:Q (.bl k) H)(e:k=k'):EP X pins σ Q (.bool k') s:=by
 subst e;exact ⟨.bl k,H,I,rfl,q⟩
theorem Be:OpR X (compareOp .Eq) rEq:=by
 intro pins s σ H x y v u Q I rx ry h;obtain ⟨hs,q⟩:=h
 cases x with
 | non =>
  cases rx
  cases y with
  | non=>cases ry;exact PySem.EqNone.eq_none_none (B8 I q (by simp))
  | bl j=>cases ry;exact PySem.EqNone.eq_none_bool (B8 I q (by simp))
  | int j=>obtain ⟨t',rfl⟩:=ry;exact PySem.EqNone.eq_none_int (B8 I q (by simp))
  | str j=>obtain ⟨t',rfl⟩:=ry;exact PySem.EqNone.eq_none_str (B8 I q (by simp))
  | _=>exact absurd (show false=true from hs) qnB
 | bl i =>
  cases rx
  cases y with
  | non=>cases ry;exact PySem.EqNone.eq_bool_none (B8 I q (by simp))
  | bl j=>cases ry;exact eq_bool (B8 I q dec_bl)
  | str j=>obtain ⟨t',rfl⟩:=ry;exact PySem.EqMixed.eq_bool_str (B8 I q (by simp))
  | _=>exact absurd (show false=true from hs) qnB
 | int i =>
  obtain ⟨t,rfl⟩:=rx
  cases y with
  | non=>cases ry;exact PySem.EqNone.eq_int_none (B8 I q (by simp))
  | int j=>obtain ⟨t',rfl⟩:=ry;exact eq_int (B8 I q NI)
  | str j=>obtain ⟨t',rfl⟩:=ry;exact PySem.EqMixed.eq_int_str (B8 I q (by simp))
  | _=>exact absurd (show false=true from hs) qnB
 | str i =>
  obtain ⟨t,rfl⟩:=rx
  cases y with
  | non=>cases ry;exact PySem.EqNone.eq_str_none (B8 I q (by simp))
  | bl j=>cases ry;exact PySem.EqMixed.eq_str_bool (B8 I q (by simp))
  | int j=>obtain ⟨t',rfl⟩:=ry;exact PySem.EqMixed.eq_str_int (B8 I q (by simp))
  | str j=>obtain ⟨t',rfl⟩:=ry;exact eq_str (B8 I q N9)
  | _=>exact absurd (show false=true from hs) qnB
 | byt i =>
  obtain ⟨t,rfl⟩:=rx
  cases y with
  | byt j=>obtain ⟨t',rfl⟩:=ry;exact PySem.W.eq_bytes (B8 I q Np)
  | _=>exact absurd (show false=true from hs) qnB
 | _=>cases y<;>exact absurd (show false=true from hs) qnB
theorem op_ne:OpR X (compareOp .NotEq) rNe:=by
 intro pins s σ H x y v u Q I rx ry h;obtain ⟨hs,q⟩:=h
 cases x with
 | non =>
  cases rx
  cases y with
  | non=>cases ry;exact PySem.EqNone.ne_none_none (B8 I q (by simp))
  | bl j=>cases ry;exact PySem.EqNone.ne_none_bool (B8 I q (by simp))
  | int j=>obtain ⟨t',rfl⟩:=ry;exact PySem.EqNone.ne_none_int (B8 I q (by simp))
  | str j=>obtain ⟨t',rfl⟩:=ry;exact PySem.EqNone.ne_none_str (B8 I q (by simp))
  | _=>exact absurd (show false=true from hs) qnB
 | bl i =>
  cases rx
  cases y with
  | non=>cases ry;exact PySem.EqNone.ne_bool_none (B8 I q (by simp))
  | bl j=>cases ry;exact ne_bool (B8 I q (congrArg not dec_bl))
  | str j=>obtain ⟨t',rfl⟩:=ry;exact PySem.EqMixed.ne_bool_str (B8 I q (by simp))
  | _=>exact absurd (show false=true from hs) qnB
 | int i =>
  obtain ⟨t,rfl⟩:=rx
  cases y with
  | non=>cases ry;exact PySem.EqNone.ne_int_none (B8 I q (by simp))
  | int j=>obtain ⟨t',rfl⟩:=ry;exact ne_int (B8 I q (congrArg not NI))
  | str j=>obtain ⟨t',rfl⟩:=ry;exact PySem.EqMixed.ne_int_str (B8 I q (by simp))
  | _=>exact absurd (show false=true from hs) qnB
 | str i =>
  obtain ⟨t,rfl⟩:=rx
  cases y with
  | non=>cases ry;exact PySem.EqNone.ne_str_none (B8 I q (by simp))
  | bl j=>cases ry;exact PySem.EqMixed.ne_str_bool (B8 I q (by simp))
  | int j=>obtain ⟨t',rfl⟩:=ry;exact PySem.EqMixed.ne_str_int (B8 I q (by simp))
  | str j=>obtain ⟨t',rfl⟩:=ry;exact ne_str (B8 I q (congrArg not N9))
  | _=>exact absurd (show false=true from hs) qnB
 | byt i =>
  obtain ⟨t,rfl⟩:=rx
  cases y with
  | byt j=>obtain ⟨t',rfl⟩:=ry;exact PySem.W.ne_bytes (B8 I q (congrArg not Np))
  | _=>exact absurd (show false=true from hs) qnB
 | _=>cases y<;>exact absurd (show false=true from hs) qnB
theorem op_lt:OpR X (compareOp .Lt) (rI0 fun i j=>.bl (decide (i<j))):=opB0 fun _ _ _ _ _ _ _ q=>lt_int q
theorem op_le:OpR X (compareOp .LtE) (rI0 fun i j=>.bl (decide (i<=j))):=opB0 fun _ _ _ _ _ _ _ q=>le_int q
theorem op_gt:OpR X (compareOp .Gt) (rI0 fun i j=>.bl (decide (j<i))):=opB0 fun _ _ _ _ _ _ _ q=>gt_int q
theorem OH:OpR X (compareOp .In) (fun x y H Q=>∃ i j,x = .str i/\y = .str j/\Q (.bl (!(Builtin.Str.occurrences j i 0 j.length 1).isEmpty)) H):=by
 intro pins s σ H x y v u Q I rx ry h;obtain ⟨i,j,rfl,rfl,q⟩:=h;obtain ⟨t,rfl⟩:=rx;obtain ⟨t',rfl⟩:=ry;exact in_str (B8 I q rfl)
theorem op_isN:OpR X (compareOp .Is) (fun x y H Q=>y = .non/\Q (.bl (decide (x = .non))) H):=by
 intro pins s σ H x y v u Q I rx ry h;obtain ⟨rfl,q⟩:=h;cases ry;refine is_none_gen (B8 I q ?_)
 cases x<;>first
  | (cases rx;rfl)
  | (obtain ⟨t,rfl⟩:=rx;rfl)
theorem op_notN:OpR X (compareOp .IsNot) (fun x y H Q=>y = .non/\Q (.bl (!decide (x = .non))) H):=by
 intro pins s σ H x y v u Q I rx ry h;obtain ⟨rfl,q⟩:=h;cases ry;refine isnot_none_gen (B8 I q ?_)
 cases x<;>first
  | (cases rx;rfl)
  | (obtain ⟨t,rfl⟩:=rx;rfl)
theorem At (b:Expr){op:CmpOp}(h:op ≠ .In:=by decide)(h2:op ≠ .NotIn:=by decide):behindInMarks op b=false:=by
 have e1:(op == CmpOp.In)=false:=by cases op<;>first|rfl|exact absurd rfl h
 have e2:(op == CmpOp.NotIn)=false:=by cases op<;>first|rfl|exact absurd rfl h2
 cases b<;>simp [behindInMarks,e1,e2]
theorem FH {op:CmpOp}{r:R2}(ho:OpR X (compareOp op) r)(ha:PE X a ta)(hb:PE X b tb)(hm:behindInMarks op b=false):PE X (.Compare a [op] [b] pos) (tOp r ta tb):=by
 intro pins s σ H Q I h;exact wpAny_Compare1 (binT ha hb I h fun v u s2 x y H2 I2 rx ry q=>ho pins s2 σ H2 x y v u Q I2 rx ry q) hm
abbrev tTest (t:TE):TT:=fun σ H Q=>t σ H fun x H'=>∃ k,x = .bl k/\Q k H'
theorem Ap {op:CmpOp}{r:R2}(ho:OpR X (compareOp op) r)(ha:PE X a ta)(hb:PE X b tb)(hm:behindInMarks op b=false):PT X (.Compare a [op] [b] pos) (tTest (tOp r ta tb)):=by
 intro pins s σ H Q I h
 refine wpAny_isTrue_Compare1 (thn (ha pins s σ H _ I h) fun v s1 ⟨x,H1,I1,r1,q1⟩=>thn (hb pins s1 σ H1 _ I1 q1) fun u s2 ⟨y,H2,I2,r2,q2⟩ =>
  thn (ho pins s2 σ H2 x y v u _ I2 r1 r2 q2) fun c s3 ⟨z,H3,I3,r3,k,e,q3⟩=>?_) hm
 subst e;cases r3;exact wpAny_truthy_bool ⟨H3,I3,q3⟩
def TruV (K:FZ9)(x:V)(H:Hp)(k:Bool):Prop :=
 match x with
 | .non=>k=false
 | .bl b=>k=b
 | .int i=>k=(i != 0)
 | .str y=>y.length<=sizeLine/\k=((y.length:Int) != 0)
 | .byt y=>y.size<=sizeLine/\k=((y.size:Int) != 0)
 | .ref p=>(∃ xs,SqL K H p xs/\k = !xs.isEmpty)\/(∃ xs,SqT K H p xs/\k = !xs.isEmpty)\/∃ kvs,H p=some (.dK kvs)/\k = !kvs.isEmpty
 | _=>False
theorem MJ {κ:Type}{kvs:List (κ × V)}{vs:List (κ × Value)}(r:KV kvs vs):(!vs.isEmpty) = !kvs.isEmpty:=by
 cases r<;>rfl
theorem Ie {xs:List V}{its:List Value}(r:Vals xs its):(!its.toArray.isEmpty) = !xs.isEmpty:=by
 cases r<;>simp
theorem GX:(sizeLine:Nat)<2 ^ 63:=by rw [qhB];decide
theorem tru_ok:TruR X (fun x H Q=>∃ k,TruV X.K x H k/\Q k H):=by
 intro pins s σ H x v Q I rx h;obtain ⟨k,e,q⟩:=h;have hl:=GX;have hs:sizeLine=16777216:=qhB
 cases x with
 | non =>
  cases rx;have e':k=false:=e;subst e';exact truthy_none ⟨H,I,q⟩
 | bl b =>
  cases rx;have e':k=b:=e;subst e';exact wpAny_truthy_bool ⟨H,I,q⟩
 | int i =>
  obtain ⟨t,rfl⟩:=rx;have e':k=(i != 0):=e;subst e';exact PySem.P.truthy_int ⟨H,I,q⟩
 | str y =>
  obtain ⟨t,rfl⟩:=rx;obtain ⟨hy,e'⟩:y.length<=sizeLine/\k=((y.length:Int) != 0):=e;subst e';exact PySem.P.truthy_str (by omega) ⟨H,I.tok _,q⟩
 | byt y =>
  obtain ⟨t,rfl⟩:=rx;obtain ⟨hy,e'⟩:y.size<=sizeLine/\k=((y.size:Int) != 0):=e;subst e';exact PySem.W.truthy_bytes (by omega) ⟨H,I.tok _,q⟩
 | ref p =>
  cases rx;have e':(∃ xs,SqL X.K H p xs/\k = !xs.isEmpty)\/(∃ xs,SqT X.K H p xs/\k = !xs.isEmpty)\/∃ kvs,H p=some (.dK kvs)/\k = !kvs.isEmpty:=e;rcases e' with ⟨xs,hx,e'⟩ | ⟨xs,hx,e'⟩ | ⟨kvs,hx,e'⟩
  ·subst e';obtain ⟨its,r,pl,hz⟩:=I.list hx;have hlen:=r.length;exact wpAny_truthy_list pl.isList (by simp only [qoB];omega) ⟨H,I.tok _,by rw [Ie r];exact q⟩
  ·subst e';obtain ⟨its,r,pl,hz⟩:=I.tuple hx;have hlen:=r.length;exact truthy_tuple pl (by simp only [qoB];omega) ⟨H,I.tok _,by rw [Ie r];exact q⟩
  ·subst e';obtain ⟨hz,hS,vs,r,m⟩:kvs.length<=sizeLine/\(p == sysModules)=false/\∃ vs,KV kvs vs/\s.heap.DictOf (C8 X.prog X.w) p vs:=I.hok p _ hx;have hlen:kvs.length=vs.length:=Paired.length r;exact wpAny_truthy_dict hS m (by omega) ⟨H,I.tok _,by rw [MJ r];exact q⟩
 | _=>exact (show False from e).elim
theorem pt_truth (ha:PE X a ta)(he:∀ whole,isTrue a X.env whole=(do let v <- whole;standAt a.pos;holding [v] (truthy v))) :
  PT X a (fun σ H Q=>ta σ H fun x H'=>∃ k,TruV X.K x H' k/\Q k H'):=by
 intro pins s σ H Q I h;exact isTrue_plain (thn (ha pins s σ H _ I h) fun v s1 ⟨x,H1,I1,r1,q1⟩=>tru_ok pins s1 σ H1 x v Q I1 r1 q1) (he _)
theorem Me:OpR X (binaryOp .Add) (fun x y H Q=>∃ i j,x = .str i/\y = .str j/\i.length+j.length<=sizeLine/\Q (.str (i++j)) H):=by
 intro pins s σ H x y v u Q I rx ry h;obtain ⟨i,j,rfl,rfl,hz,q⟩:=h;obtain ⟨t,rfl⟩:=rx;obtain ⟨t',rfl⟩:=ry;exact add_str (fun t' tk=>⟨.str (i++j),H,I.tok _,⟨_,rfl⟩,q⟩) hz
theorem JC {x:V}{us:List Value}(r:Vals [x] us):∃ u,us=[u]/\RelV x u:=by
 cases r with
 | cons r1 r2=>cases r2;exact ⟨_,rfl,r1⟩
theorem vals2 {x y:V}{us:List Value}(r:Vals [x,y] us):∃ u w',us=[u,w']/\RelV x u/\RelV y w':=by
 cases r with
 | cons r1 r2 =>
  cases r2 with
  | cons r3 r4=>cases r4;exact ⟨_,_,rfl,r1,r3⟩
end
theorem RelO.some_of {v:V}{o:Option Value}(r:RelO (some v) o):∃ u,o=some u/\RelV v u:=by
 cases o with
 | none=>exact (show False from r).elim
 | some u=>exact ⟨u,rfl,r⟩
structure Room (k:Nat)(A:Around):Prop where
 hd:A.handled=none
 dp:A.depth+3 * k+5<recursionLimit
 un:A.units+16 * k+200<cLine
theorem Room.mono {j k:Nat}{A:Around}(r:Room k A)(h:j<=k):Room j A:=⟨r.hd,by have:=r.dp;omega,by have:=r.un;omega⟩
theorem Room.deeper {k:Nat}{A:Around}(r:Room (k+1) A)(env:Env):Room k (A.deeper env) :=
 ⟨r.hd,by have:=r.dp;show A.depth+1+3 * k+5<_;omega,by have:=r.un;show A.units+3+16 * k+200<_;omega⟩
theorem Room.depth {k:Nat}{A:Around}(r:Room k A):A.depth<recursionLimit:=by have:=r.dp;omega
abbrev Bb:TA:=fun _ H Q=>Q [] H
abbrev AX (ta:TE)(tr:TA):TA:=fun σ H Q=>ta σ H fun x H1=>tr σ H1 fun xs H2=>Q (x::xs) H2
section
variable {X:Cx}{e:Expr}{es:List Expr}{te:TE}{t:TA}{pos:Pos}
theorem A8:PA X [] Bb:=fun _ _ _ _ H Q I h=>Calls.spliced_nil ⟨[],H,I,.nil,h⟩
theorem A4 (ha:PE X e te)(hr:PA X es t)(hs:starEach (e::es) X.env=(false,eval e X.env)::starEach es X.env:=by rfl):PA X (e::es) (AX te t):=by
 intro pos pins s σ H Q I h;rw [hs];show wpAny _ _ (spliced ((false,eval e X.env)::backTo pos (starEach es X.env))) _ _ s;refine Calls.spliced_cons (thn (ha pins s σ H _ I h) fun u s1 ⟨x,H1,I1,r1,q1⟩=>?_);exact thn (hr pos pins s1 σ H1 _ I1 q1) fun us s2 ⟨xs,H2,I2,r2,q2⟩=>⟨x::xs,H2,I2,.cons r1 r2,q2⟩
abbrev Ih (t:TA):TE:=fun σ H Q=>t σ H fun xs H1=>xs.length<=sizeLine/\∀ p,H1 p=none->Q (.ref p) (upd H1 p (.tup xs))
abbrev tLst (t:TA):TE:=fun σ H Q=>t σ H fun xs H1=>xs.length<=sizeLine/\∀ p,H1 p=none->Q (.ref p) (upd H1 p (.lst xs))
theorem AK {x1}(h:PA X es t):PE X (.Tuple es x1 pos) (Ih t):=by
 intro pins s σ H Q I hq;refine wpAny_Tuple_spliced (thn (h pos pins s σ H _ I hq) fun us s1 ⟨xs,H1,I1,r,z,q⟩=>⟨by rw [<- r.length];exact z,?_⟩);have hf:H1 s1.heap.objs.size=none:=I1.hok.fresh (qaB _);refine ⟨.ref s1.heap.objs.size,upd H1 s1.heap.objs.size (.tup xs),I1.laid (t':=s1.toks) (fun b u e=>qfB _ e) (qaB _) ?_,rfl,q _ hf⟩;exact ⟨z,us,r,⟨_,qgB _ rfl,rfl,_,rfl⟩⟩
theorem Az (h:PA X es t):PE X (.List es pos) (tLst t):=by
 intro pins s σ H Q I hq;refine wpAny_List_spliced (thn (h pos pins s σ H _ I hq) fun us s1 ⟨xs,H1,I1,r,z,q⟩=>⟨by rw [<- r.length];exact z,?_⟩);have hf:H1 s1.heap.objs.size=none:=I1.hok.fresh (qaB _);refine ⟨.ref s1.heap.objs.size,upd H1 s1.heap.objs.size (.lst xs),I1.laid (t':=s1.toks) (fun b u e=>qfB _ e) (qaB _) ?_,rfl,q _ hf⟩;exact ⟨z,us,0,r,qgB _ rfl⟩
end
abbrev Sp:=List V->Hp->VK->XK->Prop
abbrev CXT:=List Env->Hp->Shared->XK->Value->Shared->Prop
structure Env0 (P:Program)(w:World)(K:FZ9)(mg:Str->Option Value)(base:Heap)(A:Around)(outer:List Env)(s:Shared)(H:Hp):Prop where
 frames:A.frames=some outer
 mod:Mod K mg base
 bs:∀ b o,base.get? b=some o->s.heap.get? b=some o/\H b=none
 bsz:base.objs.size<=s.heap.objs.size
 funs:s.heap.FunFrames base outer
 frf:∀ b∈frs outer,H b=none
 hok:HOk P w H s.heap
 bare:AllBare s.gens
def CE (outer:List Env)(P:Program)(w:World)(H:Hp)(s:Shared)(Q:VK)(u:Value)(s':Shared):Prop :=
 ∃ v H',s'.os=s.os/\AllBare s'.gens/\Un (frs outer) [] H H' s.heap s'.heap/\HOk P w H' s'.heap/\RelV v u/\Q v H'
def CR (CX:CXT)(outer:List Env)(P:Program)(w:World)(H:Hp)(s:Shared)(Q:VK)(E:XK)(r:Result)(s':Shared):Prop :=
 match r with
 | .ok (.ret u)=>CE outer P w H s Q u s'
 | .ok _=>False
 | .error e=>CX outer H s E e s'
structure FnOk (P:Program)(w:World)(K:FZ9)(mg:Str->Option Value)(base:Heap)(CX:CXT)(k:Nat)(f:Addr)(fd:FuncData)(ps:List Str)(sp:Sp):Prop where
 len:∀ vs H Q E,sp vs H Q E->vs.length=ps.length
 run:∀ (A:Around) (outer:List Env) (s:Shared) (H:Hp) (args:Args) (us:List Value) (vs:List V) (Q:VK) (E:XK),Room k A->Env0 P w K mg base A outer s H->BindsTo s fd args (ps.zip us)->Vals vs us->sp vs H Q E ->
  codeAny (model P w) A (.call (.ref f) args) (CR CX outer P w H s Q E) s
theorem FnOk.imp {P:Program}{w:World}{K:FZ9}{mg:Str->Option Value}{base:Heap}{CX:CXT}{k:Nat}{f:Addr}{fd:FuncData}{ps:List Str}{sp sp':Sp}(F:FnOk P w K mg base CX k f fd ps sp)
  (h:∀ vs H Q E,sp' vs H Q E->sp vs H Q E):FnOk P w K mg base CX k f fd ps sp' :=
 ⟨fun vs H Q E q=>F.len vs H Q E (h _ _ _ _ q),fun A outer s H args us vs Q E hr he hb hv hs=>F.run A outer s H args us vs Q E hr he hb hv (h _ _ _ _ hs)⟩
section
variable {X:Cx}{pins:List (Addr × Obj)}{σ:St}{H:Hp}{s s':Shared}
theorem Inv.env0 (I:Inv X pins σ H s):Env0 X.prog X.w X.K X.mg X.base X.A X.stack s H :=
 ⟨I.ok.frames,I.ok.mod,I.bs,qbB I.ok.bsz I.sz,I.stack,I.stkFree,I.hok,I.bare⟩
theorem Inv.after {Q:VK}{u:Value}(I:Inv X pins σ H s)(h:CE X.stack X.prog X.w H s Q u s'):EP X pins σ Q u s':=by
 obtain ⟨v,H',os,bare,un,hok,r,q⟩:=h;obtain ⟨hh,g,d,t,os'⟩:=s';obtain rfl:os'=s.os:=os;exact ⟨v,H',I.call (h':=hh) (g':=g) (d':=d) (t':=t) (ch:=[]) un hok bare (fun b z=>absurd z (by simp)),r,q⟩
end
abbrev DG (sp:Sp)(dvs:List V)(E:XK)(t:TA):TE:=fun σ H Q=>t σ H fun vs H1=>sp (vs++dvs) H1 Q E
def Binds (K:FZ9)(fd:FuncData)(ps:List Str)(ds:List Value):Prop :=
 ∀ (s:Shared) (us:List Value),K.In s.heap->(us++ds).length=ps.length->BindsTo s fd ⟨us,[]⟩ (ps.zip (us++ds))
theorem Binds.all {K:FZ9}{fd:FuncData}{ps:List Str}(h:∀ us:List Value,us.length=ps.length->bindArgs fd ⟨us,[]⟩=pure (ps.zip us)):Binds K fd ps []:=fun s us _ hl=>by
 rw [qzA] at hl ⊢;exact .of_eq (h us hl)
def ME (CX:CXT)(X:Cx)(E:XK):Prop:=∀ (pins:List (Addr × Obj)) (σ:St) (H:Hp) (s:Shared) (e:Value) (s':Shared),Inv X pins σ H s->CX X.stack H s E e s'->X.xe e s'
section
variable {X:Cx}{CX:CXT}{k:Nat}{f C:Addr}{fd:FuncData}{ps:List Str}{sp:Sp}{dvs:List V}{ds:List Value}{E:XK}{x m:Str}{p pos apos:Pos}{e o:Expr}{es:List Expr}{ta:TE}{t:TA}
theorem run_fn {pins:List (Addr × Obj)}{σ:St}{H:Hp}{s:Shared}{Q:VK}{us:List Value}{vs:List V}(F:FnOk X.prog X.w X.K X.mg X.base CX k f fd ps sp)(hr:Room k X.A)(hb:Binds X.K fd ps ds)(hd:Vals dvs ds)(hx:ME CX X E)
  (I:Inv X pins σ H s) (r:Vals vs us) (h:sp (vs++dvs) H Q E):wpAny (model X.prog X.w) X.A (call (.ref f) us) (EP X pins σ Q) X.xe s:=by
 have r2:Vals (vs++dvs) (us++ds):=r.append hd;have hl:(us++ds).length=ps.length:=by rw [<- r2.length];exact F.len _ _ _ _ h
 refine wpAny_call (codeAny_mono (F.run X.A X.stack s H ⟨us,[]⟩ (us++ds) (vs++dvs) Q E hr I.env0 (hb s us I.kIn hl) r2 h) fun r s' hq=>?_)
 cases r with
 | error e=>exact hx pins σ H s e s' I hq
 | ok fl =>
  cases fl with
  | ret u=>exact I.after hq
  | next=>exact False.elim hq
  | brk=>exact False.elim hq
  | cont=>exact False.elim hq
theorem pe_call (F:FnOk X.prog X.w X.K X.mg X.base CX k f fd ps sp)(hr:Room k X.A)(hg:Gl X x)(hm:X.mg x=some (.ref f))(hk:qrB X.K (.ref f)=true)(hb:Binds X.K fd ps ds)(hd:Vals dvs ds)(hx:ME CX X E)
  (ha:PA X (e::es) t) (hdb:(x == ("__debug__" : Str))=false:=by decide) (he:starEach (e::es) X.env=(false,eval e X.env)::starEach es X.env:=by rfl) (hpl:(backTo pos (starEach es X.env)).any (·.1)=false:=by rfl) :
  PE X (.Call (.Name x p) (e::es) [] pos) (DG sp dvs E t):=by
 intro pins s σ H Q I h;refine wpAny_Call_Name_kw (HK I hg hm ?_ hdb);refine PySem.W.callWith_K (h₀:=X.base) I.ok.mod.kin hk (thn (ha pos pins s σ H _ I h) fun us s1 ⟨vs,H1,I1,r,q⟩=>⟨I1.kIn,?_⟩) he hpl;exact run_fn F hr hb hd hx I1 r q
end
structure FnScope (N P:List Str)(sc:Scope):Prop where
 kind:sc.kind = .function
 co:sc.isCoroutine=false
 gen:sc.isGenerator=false
 nd:N.Nodup
 pre:N.take P.length=P
 par:∀ x∈P,sc.names.lookup x=some .local \/ sc.names.lookup x=some .cell
 nofree:∀ y∈sc.names,y.2 ≠ .free
theorem K2 {kindOf:Str->Option NameKind}{x:Str}:∀ {binds:List (Str × Value)}{m:Str->Option Value},(∀ v,(x,v) ∉ binds)->bindL kindOf binds m x=m x
 | [],_,_=>rfl
 | (n,v)::r,m,h=>by
  unfold bindL;rw [K2 fun w hw=>h w (qpA _ hw)];split
  ·have:x≠n:=by rintro rfl;exact h v qoA
   simp [this]
  ·rfl
theorem K1 {kindOf:Str->Option NameKind}{x:Str}:∀ {binds:List (Str × Value)}{m:Str->Option Value},(∀ v,(x,v) ∉ binds)->bindC kindOf binds m x=m x
 | [],_,_=>rfl
 | (n,v)::r,m,h=>by
  unfold bindC;rw [K1 fun w hw=>h w (qpA _ hw)];split
  ·rfl
  ·have:x≠n:=by rintro rfl;exact h v qoA
   simp [this]
theorem K3 {kindOf:Str->Option NameKind}{x:Str}{v:Value}:∀ {P:List Str}{vs:List Value}{i:Nat}{m:Str->Option Value},P.Nodup->P[i]? = some x->vs[i]? = some v->kindOf x=some .local ->
  bindL kindOf (P.zip vs) m x=some v
 | [],_,_,_,_,h,_,_=>by simp at h
 | _::_,[],_,_,_,_,h,_=>by simp at h
 | p::P,w::vs,0,m,nd,h1,h2,hk=>by
  simp at h1 h2;subst h1;subst h2;show bindL kindOf ((p,w)::P.zip vs) m p=_;unfold bindL;rw [K2 fun v hv=>(List.nodup_cons.mp nd).1 (List.of_mem_zip hv).1,if_pos hk];simp
 | p::P,w::vs,i+1,m,nd,h1,h2,hk=>by
  show bindL kindOf ((p,w)::P.zip vs) m x=_;unfold bindL;exact K3 (i:=i) (List.nodup_cons.mp nd).2 (by simpa using h1) (by simpa using h2) hk
theorem KM {kindOf:Str->Option NameKind}{x:Str}{v:Value}:∀ {P:List Str}{vs:List Value}{i:Nat}{m:Str->Option Value},P.Nodup->P[i]? = some x->vs[i]? = some v->kindOf x≠some .local ->
  bindC kindOf (P.zip vs) m x=some v
 | [],_,_,_,_,h,_,_=>by simp at h
 | _::_,[],_,_,_,_,h,_=>by simp at h
 | p::P,w::vs,0,m,nd,h1,h2,hk=>by
  simp at h1 h2;subst h1;subst h2;show bindC kindOf ((p,w)::P.zip vs) m p=_;unfold bindC;rw [K1 fun v hv=>(List.nodup_cons.mp nd).1 (List.of_mem_zip hv).1,if_neg hk];simp
 | p::P,w::vs,i+1,m,nd,h1,h2,hk=>by
  show bindC kindOf ((p,w)::P.zip vs) m x=_;unfold bindC;exact KM (i:=i) (List.nodup_cons.mp nd).2 (by simpa using h1) (by simpa using h2) hk
def start (N:List Str)(vs:List V):St:=vs.map some++List.replicate (N.length - vs.length) none
def Hi (CX:CXT)(P:Program)(w:World)(K:FZ9)(mg:Str->Option Value)(base:Heap)(N:List Str)(qual:Str)(scope:Scope)(f:Addr)(cd:Value)(A:Around)(outer:List Env)(s:Shared)(H:Hp)(E:XK):Cx where
 prog:=P
 w:=w
 K:=K
 mg:=mg
 base:=base
 A:=A.deeper (envOfC qual scope s.heap.objs.size f cd)
 N:=N
 s₀:=s
 H₀:=H
 env:=envOfC qual scope s.heap.objs.size f cd
 outer:=outer
 stack:=envOfC qual scope s.heap.objs.size f cd::outer
 ex:=[]
 calm:=true
 fn:=fun _=>true
 pn:=[]
 xe:=fun e s'=>wpAny (model P w) (A.deeper (envOfC qual scope s.heap.objs.size f cd)) (leaving (envOfC qual scope s.heap.objs.size f cd) e) (fun _ s''=>CX outer H s E e s'') (fun e' s''=>CX outer H s E e' s'') s'
theorem M3 {sc:Scope}{n:Nat}{x:Str}(h:sc.names.lookup x=some .cell):∃ c,(cellsFrom n sc.names []).lookup x=some c:=by
 have q:=PySem.W.cellsFrom_some sc.names n [] (.inl h);exact Option.isSome_iff_exists.mp q
theorem OC {CX:CXT}{P:Program}{w:World}{K:FZ9}{mg:Str->Option Value}{base:Heap}{N ps:List Str}{qual:Str}{scope:Scope}{f:Addr}{cd:Value}{A:Around}{outer:List Env}{s s1:Shared}{H:Hp}{E:XK}{us:List Value}{vs:List V}
  (S:FnScope N ps scope) (hd:A.handled=none) (e0:Env0 P w K mg base A outer s H) (hl:vs.length=ps.length) (r:Vals vs us)
  (x:InCallC s s.heap.objs.size (bindL (envOfC qual scope s.heap.objs.size f cd).kindOf (ps.zip us) fun _=>none) (cellsFrom (s.heap.objs.size+1) scope.names []) (bindC (envOfC qual scope s.heap.objs.size f cd).kindOf (ps.zip us) fun _=>none) s1) :
  Inv (Hi CX P w K mg base N qual scope f cd A outer s H E) [] (start N vs) H s1:=by
 have hpl:ps.length<=N.length:=by have:=congrArg List.length S.pre;rw [qiA] at this;omega
 obtain ⟨h1,tk,rfl,hk⟩:=x.done;have noA:∀ b:Addr,b ∉ (Hi CX P w K mg base N qual scope f cd A outer s H E).ex:=fun b z=>absurd (show b∈([]:List Addr) from z) (by simp)
 refine ⟨⟨e0.mod,S.kind,rfl,rfl,qaB _,fun y z c h1 h2=>?_,fun y hy=>?_,fun y c _ h=>?_,fun _=>hd,Around.frames_deeper e0.frames,.inr ⟨rfl,rfl⟩,fun b z=>absurd z (noA b),e0.bs,e0.bsz,fun b _ _=>noA b,fun b z=>absurd z (noA b),e0.funs,e0.frf⟩,
  rfl,e0.bare,Un.kept hk,⟨_,x.toInCall.ns,fun i y v h1 h2 h3=>?_⟩,fun y c h=>⟨_,x.cell y c h⟩,e0.hok.fresh (qaB _),fun y c h=>?_,fun p hp=>absurd (show p∈([]:List (Addr × Obj)) from hp) (by simp),e0.hok.kept hk,?_⟩
 ·exact name_of_addr x.apart (PySem.mem_of_lookup h1) (PySem.mem_of_lookup h2)
 ·have hy:scope.names.lookup y=some .cell\/scope.names.lookup y=some .free:=hy;rcases hy with hy|hy
  ·exact M3 hy
  ·exact absurd rfl (S.nofree _ (PySem.mem_of_lookup hy))
 ·exact Nat.le_of_lt (x.above y c (PySem.mem_of_lookup h))
 ·have hi:i<vs.length:=by
   unfold start at h2;by_cases hi:i<vs.length
   ·exact hi
   ·rw [quA (by simpa using hi)] at h2;rw [List.getElem?_replicate] at h2;split at h2<;>cases h2
  have ha:vs[i]? = some v:=by
   unfold start at h2;rw [qtA (by simpa using hi),qvA] at h2
   cases e:vs[i]? with
   | none=>rw [e] at h2;cases h2
   | some a=>rw [e] at h2;cases h2;rfl
  obtain ⟨u,hu,rv⟩:=r.get ha
  have hp:ps[i]? = some y:=by
   rw [<- S.pre,List.getElem?_take_of_lt (by omega)];exact h1
  have ndP:ps.Nodup:=by rw [<- S.pre];exact S.nd.sublist (List.take_sublist _ _)
  refine ⟨u,rv,?_⟩;rcases S.par y (qqA hp) with k|k
  ·exact .inl ⟨k,K3 ndP hp hu k⟩
  ·obtain ⟨c,e⟩:=M3 (n:=s.heap.objs.size+1) k;refine .inr ⟨.inl k,c,e,?_⟩;have q:=x.cell y c e;rw [KM ndP hp hu (by show scope.names.lookup y≠_;rw [k];decide)] at q;exact q
 ·exact e0.hok.fresh (Nat.le_of_lt (x.above y c (PySem.mem_of_lookup h)))
 ·unfold start;show _=N.length;rw [qeA,qdA,List.length_replicate];omega
theorem fn_of {CX:CXT}{P:Program}{w:World}{K:FZ9}{mg:Str->Option Value}{base:Heap}{k:Nat}{f:Addr}{name qual:Str}{params:Arguments}{body:List Stmt}{scope:Scope}{dV kV doc pm cdv ct oc:Value}{an od:Option Addr}
  {osl:Array (Option Value)}{N ps:List Str}{sp:Sp}(lk:K.lookup f=some ⟨oc,od,.func (qsB name qual params body scope dV kV doc pm an cdv ct),osl⟩) (hcd:PySem.W.codeIn K cdv qual=true) (S:FnScope N ps scope)
  (len:∀ vs H Q E,sp vs H Q E->vs.length=ps.length)
  (hbody:∀ (A:Around) (outer:List Env) (s:Shared) (H:Hp) (vs:List V) (Q:VK) (E:XK),Room k (A.deeper (envOfC qual scope s.heap.objs.size f cdv))->sp vs H Q E ->
   ∃ t,PSs (Hi CX P w K mg base N qual scope f cdv A outer s H E) body t/\t { nx:=fun _ H'=>Q .non H',rt:=Q } (start N vs) H) :
  FnOk P w K mg base CX (k+1) f (qsB name qual params body scope dV kV doc pm an cdv ct) ps sp:=by
 refine ⟨len,fun A outer s H args us vs Q E hr e0 hb r hsp=>?_⟩;have hl:=len _ _ _ _ hsp;have KX:K.In s.heap:=e0.mod.kin.keeps fun b o e=>(e0.bs b o e).1;have lim:s.heap.NoLimit:=e0.mod.nolimit.keeps fun b o e=>(e0.bs b o e).1
 have hkind:∀ y∈ps.zip us,scope.names.lookup y.1=some .local \/ (scope.names.lookup y.1=some .cell/\((cellsFrom (s.heap.objs.size+1) scope.names []).lookup y.1).isSome=true):=fun ⟨n,v⟩ hy=>by
  rcases S.par n (List.of_mem_zip hy).1 with q|q
  ·exact .inl q
  ·exact .inr ⟨q,PySem.W.cellsFrom_some _ _ _ (.inl q)⟩
 refine codeAny_call_function hr.depth (KX _ _ lk) rfl S.co S.gen rfl (PySem.W.codeRec_of KX hcd) (hb _ _ _ _ ?_);refine wpAny_newFunctionEnv_cells S.kind hkind fun env he s1 x=>?_;subst he;refine ⟨lim.keeps x.toInCall.keep,codeAny_func ?_⟩;obtain ⟨t,ht,hq⟩:=hbody A outer s H vs Q E (hr.deeper _) hsp;have I:Inv (Hi CX P w K mg base N qual scope f cdv A outer s H E) [] (start N vs) H s1:=OC S hr.hd e0 hl r x;refine wpAny_mono (ht [] s1 (start N vs) H _ I hq) (fun fl s' hs=>?_) fun e s' hs=>hs
 have fin:∀ {σ':St}{H':Hp}{v:V}{u:Value},Inv (Hi CX P w K mg base N qual scope f cdv A outer s H E) [] σ' H' s'->RelV v u->Q v H'->CE outer P w H s Q u s' :=
  fun {σ' H' v u} J rv q=>⟨v,H',J.os,J.bare,J.base,J.hok,rv,q⟩
 cases fl with
 | ret u =>
  obtain ⟨v,σ',H',J,rv,q⟩:=hs;exact fin J rv q
 | next =>
  obtain ⟨σ',H',J,q⟩:=hs;exact fin (v:=V.non) (u:=Value.none) J rfl q
 | brk =>
  obtain ⟨_,_,_,q⟩:=hs;exact False.elim q
 | cont =>
  obtain ⟨_,_,_,q⟩:=hs;exact False.elim q
section
variable {X:Cx}{x:Str}{p pos:Pos}{e:Expr}{es:List Expr}{t:TA}{id T:String}{r:List V->Hp->VK->Prop}
abbrev tCB (r:List V->Hp->VK->Prop)(t:TA):TE:=fun σ H Q=>t σ H fun vs H1=>r vs H1 Q
theorem BN (hc:De X (.builtin id) r)(hg:Gl X x)(hm:X.mg x=none)(hv:bootBuiltins x=some (.builtin id))(ha:PA X (e::es) t)(hn:x ≠ "__name__" := by decide)(hdb:(x == ("__debug__" : Str))=false:=by decide)
  (he:starEach (e::es) X.env=(false,eval e X.env)::starEach es X.env:=by rfl) (hpl:(backTo pos (starEach es X.env)).any (·.1)=false:=by rfl):PE X (.Call (.Name x p) (e::es) [] pos) (tCB r t):=by
 intro pins s σ H Q I h;refine wpAny_Call_Name_kw (Hr I hg hm hv ?_ hn hdb);exact PyProof.Rows.callWith_builtin1 (thn (ha pos pins s σ H _ I h) fun us s1 ⟨vs,H1,I1,r1,q1⟩=>hc pins s1 σ H1 vs us Q I1 r1 q1) he hpl
theorem Ej (hc:De X (.type T) r)(hg:Gl X x)(hm:X.mg x=none)(hv:bootBuiltins x=some (.type T))(ha:PA X (e::es) t)(hn:x ≠ "__name__" := by decide)(hdb:(x == ("__debug__" : Str))=false:=by decide)
  (he:starEach (e::es) X.env=(false,eval e X.env)::starEach es X.env:=by rfl) (hpl:(backTo pos (starEach es X.env)).any (·.1)=false:=by rfl):PE X (.Call (.Name x p) (e::es) [] pos) (tCB r t):=by
 intro pins s σ H Q I h;refine wpAny_Call_Name_kw (Hr I hg hm hv ?_ hn hdb);exact PyProof.Rows.callWith_type1 (thn (ha pos pins s σ H _ I h) fun us s1 ⟨vs,H1,I1,r1,q1⟩=>hc pins s1 σ H1 vs us Q I1 r1 q1) he hpl
end
end L2
namespace HT
open PySem PyProof.Rows
section
open PySem.SeqAt
open PySem.AutoSeq1 (wpAny_loadPart')
open PySem.MeetsSeq PySem.MeetsSeq2 PySem.MeetsSeq3
end
section
variable {prog:Program}{w:World}{A:Around}{E:Value->Shared->Prop}{s:Shared}
def sIx (n d:Nat):Option Int->Nat
 | none=>d
 | some v=>if v<0 then (v+(n:Int)).toNat else min v.toNat n
theorem sIx_none (n d:Nat):sIx n d none=d:=rfl
theorem sIx_nat (n d k:Nat):sIx n d (some (k:Int))=min k n:=by
 show (if (k:Int)<0 then ((k:Int)+(n:Int)).toNat else min (k:Int).toNat n)=min k n;rw [if_neg (by omega),Int.toNat_natCast]
theorem sIx_le (n d:Nat)(hd:d<=n)(o:Option Int):sIx n d o<=n:=by
 cases o with
 | none=>exact hd
 | some v =>
  show (if v<0 then (v+(n:Int)).toNat else min v.toNat n)<=n;by_cases hv:v<0
  ·rw [if_pos hv];omega
  ·rw [if_neg hv];exact Nat.min_le_right _ _
theorem Nv (v:Int)(n d:Nat):(if v<0 then max (v+(n:Int)) 0 else min v (n:Int))=((sIx n d (some v):Nat):Int):=by
 show (if v<0 then max (v+(n:Int)) 0 else min v (n:Int))=(((if v<0 then (v+(n:Int)).toNat else min v.toNat n):Nat):Int);by_cases hv:v<0
 ·simp only [if_pos hv];omega
 ·simp only [if_neg hv];omega
theorem N1 (lo hi:Option Int)(n:Nat):Builtin.Slice.sliceAdjust lo hi 1 (n:Int)=(((sIx n 0 lo:Nat):Int),((sIx n n hi:Nat):Int)):=by
 have h1:¬ ((1:Int)<0):=by omega
 unfold Builtin.Slice.sliceAdjust;simp only [h1,if_false];refine Prod.ext ?_ ?_
 ·cases lo with
  | none=>rfl
  | some v=>exact Nv v n 0
 ·cases hi with
  | none=>rfl
  | some v=>exact Nv v n n
theorem Mm (i j:Nat):Builtin.Slice.slicePlaces (i:Int) (j:Int) 1=j - i:=by
 unfold Builtin.Slice.slicePlaces;have h1:(1:Int) > 0:=by omega
 simp only [h1,if_true,Int.ediv_one];split<;>omega
theorem JN {v:Value}{o:Option Int}{Q:Option Int->Shared->Prop}(p:IsPart v o)(h:Q o s):wpAny (model prog w) A (Builtin.Slice.slicePartIndex v) Q E s:=by
 cases p with
 | none=>exact slicePart_none h
 | int i t=>exact slicePart_int h
theorem Hs {sl:Addr}{vl vu:Value}{lo hi:Option Int}{n:Nat}{Q:Int × Int × Nat->Shared->Prop}(hs:s.heap.IsSliceOf sl vl vu .none)(pl:IsPart vl lo)(pu:IsPart vu hi)
  (h:Q (((sIx n 0 lo:Nat):Int),1,sIx n n hi - sIx n 0 lo) s):wpAny (model prog w) A (Builtin.Slice.sliceApplied (.ref sl) (pure (n:Int))) Q E s:=by
 obtain ⟨os,hos,hcs,hds⟩:=id hs;unfold Builtin.Slice.sliceApplied Builtin.Slice.sliceFields;refine qbA (qbA (wpAny_field hos hds (x:=vl) rfl (qbA (wpAny_field hos hds (x:=vu) rfl (qbA (wpAny_field hos hds (x:=.none) rfl (qcA ?_)))))));refine qbA (slicePart_none ?_);show wpAny _ _ (if ((1:Int) == 0)=true then _ else _) _ _ s;rw [if_neg (by decide)];refine qbA (JN pl (qbA (JN pu (qbA (qcA ?_)))));show wpAny _ _ (match Builtin.Slice.sliceAdjust lo hi 1 (n:Int) with | (lo,hi)=>pure (lo,(1:Int),Builtin.Slice.slicePlaces lo hi 1)) _ _ s;rw [N1 lo hi n];show wpAny _ _ (pure (((sIx n 0 lo:Nat):Int),(1:Int),Builtin.Slice.slicePlaces ((sIx n 0 lo:Nat):Int) ((sIx n n hi:Nat):Int) 1)) _ _ s;rw [Mm];exact qcA h
theorem pick_gen (xs:Array Value)(i k:Nat):((List.range k).filterMap fun (m:Nat)=>xs[((i:Int)+(m:Int) * 1).toNat]?).toArray=((xs.toList.drop i).take k).toArray:=by
 have e:(fun (m:Nat)=>xs[((i:Int)+(m:Int) * 1).toNat]?)=fun m=>xs[i+m]?:=by
  funext m
  have:((i:Int)+(m:Int) * 1).toNat=i+m:=by omega
  rw [this]
 rw [e];have:=pick_run xs i k;rw [List.filterMap_map] at this;have e2:((fun x=>xs[x]?)∘fun x=>i+x)=fun m=>xs[i+m]?:=rfl;rw [e2] at this;rw [this]
theorem getItem_tuple_cut {t sl:Addr}{items:Array Value}{vl vu:Value}{lo hi:Option Int}{Q:Value->Shared->Prop}(ht:IsTup s.heap t items)(hs:s.heap.IsSliceOf sl vl vu .none)(pl:IsPart vl lo)(pu:IsPart vu hi)
  (hw:¬ (sIx items.size 0 lo=0/\sIx items.size items.size hi=items.size))
  (h:Q (.ref s.heap.objs.size) { s with heap:=s.heap.push { cls:=.type "tuple",data:=.seq ((items.toList.drop (sIx items.size 0 lo)).take (sIx items.size items.size hi - sIx items.size 0 lo)).toArray } })
  (hsz:items.size<=sizeLine):wpAny (model prog w) A (getItem (.ref t) (.ref sl)) Q E s:=by
 have htake:sizeOk (.seq ((items.toList.drop (sIx items.size 0 lo)).take (sIx items.size items.size hi - sIx items.size 0 lo)).toArray):=by
  show ((items.toList.drop (sIx items.size 0 lo)).take (sIx items.size items.size hi - sIx items.size 0 lo)).toArray.size<=sizeLine;rw [qoB,qiA,List.length_drop,Array.length_toList];omega
 have hj:sIx items.size items.size hi<=items.size:=sIx_le _ _ (qaB _) hi;obtain ⟨os,hos,hcs,hds⟩:=id hs;have hTs:s.TypeIs (.ref sl) "slice" := ⟨os,hos,hcs⟩;unfold getItem
 try with_reducible refine wpAny_holding ?_
 first|refine qbA (qcA ?_)|skip
 refine qbA (wpAny_sequenceKey ht.typeIs (by decide) ?_)
 refine qbA (wpAny_callSpecial?_slot (name:=Str.ofString "__getitem__") ht.typeIs PyProof.Rows.slot_tuple_getitem
  (wpAny_call_entry PyProof.Rows.slot_tuple_getitem ht.typeIs entry_tuple_getitem ?_ (args_tuple_getitem _ _)))
 show wpAny _ _ (Builtin.Tuple.tupleItemsOf (.ref t) >>= _) _ _ s;refine qbA (tupleItemsOf_ ht ?_);refine qbA (wpAny_typeOf hTs ?_);rw [if_pos (by decide)];refine qbA (Hs hs pl pu ?_)
 have hno:¬ ((((sIx items.size 0 lo:Nat):Int) == 0 && (1:Int) == 1 && (sIx items.size items.size hi - sIx items.size 0 lo) == items.size)=true):=by
  intro q;rw [qzB,qzB] at q;have q1:((sIx items.size 0 lo:Nat):Int)=0:=eq_of_beq q.1.1;have q2:sIx items.size items.size hi - sIx items.size 0 lo=items.size:=eq_of_beq q.2;exact hw ⟨by omega,by omega⟩
 show wpAny _ _ (if (((sIx items.size 0 lo:Nat):Int) == 0 && (1:Int) == 1 && (sIx items.size items.size hi - sIx items.size 0 lo) == items.size)=true then _ else _) _ _ s;rw [if_neg hno,pick_gen]
 first
  | exact qbA (m:=Builtin.Tuple.tupleExact _) (wpAny_newObj_type (qcA ⟨_,rfl,qcA h⟩) htake)
  | exact qbA (m:=Builtin.Tuple.tupleExact _) (wpAny_newObj_type (qbA (qcA (qcA ⟨_,rfl,qcA h⟩))) htake)
  | exact qbA (qbA (m:=Builtin.Tuple.tupleExact _) (wpAny_newObj_type (qcA (qcA ⟨_,rfl,qcA h⟩)) htake))
  | exact qbA (qbA (m:=Builtin.Tuple.tupleExact _) (wpAny_newObj_type (qcA ⟨_,rfl,qcA h⟩) htake))
end
end HT
namespace L2
open PySem PySem.Spec PyProof.Rows
abbrev TO:=St->Hp->(Option Int->Hp->Prop)->Prop
def PO (X:Cx)(e:Option Expr)(t:TO):Prop :=
 ∀ (pins:List (Addr × Obj)) (s:Shared) (σ:St) (H:Hp) (Q:Option Int->Hp->Prop),Inv X pins σ H s->t σ H Q ->
  wpAny (model X.prog X.w) X.A (evalPart e X.env) (fun u s'=>∃ o H',Inv X pins σ H' s'/\IsPart u o/\Q o H') X.xe s
abbrev Nw:TO:=fun _ H Q=>Q none H
abbrev tPart (t:TE):TO:=fun σ H Q=>t σ H fun x H1=>∃ i,x = .int i/\Q (some i) H1
section
variable {X:Cx}{e:Expr}{te:TE}{lo hi:Option Expr}{tl th:TO}{pos p2:Pos}
theorem C3:PO X none Nw:=by
 intro pins s σ H Q I h;rw [evalPart_none];exact qcA ⟨none,H,I,.none,h⟩
theorem Bs (h:PE X e te):PO X (some e) (tPart te):=by
 intro pins s σ H Q I hw;rw [evalPart_some];refine thn (h pins s σ H _ I hw) fun u s1 ⟨x,H1,I1,r1,q1⟩=>?_;obtain ⟨i,rfl,q⟩:=q1;obtain ⟨t,rfl⟩:=r1;exact ⟨some i,H1,I1,.int i t,q⟩
def SlR (X:Cx)(r:V->Option Int->Option Int->Hp->VK->Prop):Prop :=
 ∀ (pins:List (Addr × Obj)) (s:Shared) (σ:St) (H:Hp) (x:V) (v vl vu:Value) (lo hi:Option Int) (sl:Addr) (Q:VK),Inv X pins σ H s->RelV x v->s.heap.IsSliceOf sl vl vu .none->IsPart vl lo->IsPart vu hi->r x lo hi H Q ->
  ∃ T id,typeLookup (.type T) "__getitem__" = pure (some (.builtin id))/\s.TypeIs v T/\wpAny (model X.prog X.w) X.A (getItem v (.ref sl)) (EP X pins σ Q) X.xe s
abbrev tSl (r:V->Option Int->Option Int->Hp->VK->Prop)(te:TE)(tl th:TO):TE:=fun σ H Q=>te σ H fun x H1=>tl σ H1 fun l H2=>th σ H2 fun u H3=>r x l u H3 Q
theorem Bf {r:V->Option Int->Option Int->Hp->VK->Prop}(hr:SlR X r)(he:PE X e te)(hl:PO X lo tl)(hu:PO X hi th):PE X (.Subscript e (.Slice lo hi none p2) pos) (tSl r te tl th):=by
 intro pins s σ H Q I h;refine Subscript_ (thn (he pins s σ H _ I h) fun v s1 ⟨x,H1,I1,r1,q1⟩=>?_);refine wpAny_Slice (thn (hl pins s1 σ H1 _ I1 q1) fun vl s2 ⟨l,H2,I2,pl,q2⟩=>thn (hu pins s2 σ H2 _ I2 q2) fun vu s3 ⟨u,H3,I3,pu,q3⟩=>?_);rw [evalPart_none];refine qcA ?_;have I4:Inv X pins σ H3 { s3 with heap:=s3.heap.push { cls:=.type "slice",data:=.fields #[vl,vu,.none] } }:=I3.kept (t':=s3.toks) fun b ob q=>qfB _ q;obtain ⟨T,id,hT,ht,hg⟩:=hr pins { s3 with heap:=s3.heap.push { cls:=.type "slice",data:=.fields #[vl,vu,.none] } } σ H3 x v vl vu l u s3.heap.objs.size Q I4 r1 (Heap.IsSliceOf.new ..) pl pu q3;show wpAny (model X.prog X.w) X.A (subscriptTail e (.Slice lo hi none p2) v (.ref s3.heap.objs.size)) (EP X pins σ Q) X.xe { s3 with heap:=s3.heap.push { cls:=.type "slice",data:=.fields #[vl,vu,.none] } };exact tail_any (ops:=[.ref s3.heap.objs.size,v]) ht hT hg (by with_unfolding_all rfl)
def Jg (xs:List V)(lo hi:Option Int):List V:=(xs.drop (HT.sIx xs.length 0 lo)).take (HT.sIx xs.length xs.length hi - HT.sIx xs.length 0 lo)
theorem Db (xs:List V)(lo hi:Option Int):(Jg xs lo hi).length<=xs.length:=by
 unfold Jg;rw [qiA,List.length_drop];omega
def rSlT (K:FZ9):V->Option Int->Option Int->Hp->VK->Prop:=fun x lo hi H Q=>∃ a xs,x = .ref a/\SqT K H a xs /\
 ¬ (HT.sIx xs.length 0 lo=0/\HT.sIx xs.length xs.length hi=xs.length)/\∀ p,H p=none->Q (.ref p) (upd H p (.tup (Jg xs lo hi)))
theorem sl_tup:SlR X (rSlT X.K):=by
 intro pins s σ H x v vl vu lo hi sl Q I rx hs pl pu h;obtain ⟨a,xs,rfl,hx,hw,q⟩:=h;cases rx;obtain ⟨its,r,ht,hz⟩:=I.tuple hx;have hlen:its.toArray.size=xs.length:=by rw [qoB];exact r.length.symm
 refine ⟨"tuple",_,PyProof.Rows.slot_tuple_getitem.lookup,ht.typeIs,?_⟩;refine HT.getItem_tuple_cut ht hs pl pu (by rw [hlen];exact hw) ?_ (by rw [hlen];exact hz);rw [hlen];refine ⟨.ref s.heap.objs.size,_,I.laid (t':=s.toks) (o:=.tup (Jg xs lo hi)) (fun b ob q=>qfB _ q) (qaB _) ?_,rfl,q _ (I.hok.fresh (qaB _))⟩;exact ⟨qbB (Db xs lo hi) hz,_,(r.drop (HT.sIx xs.length 0 lo)).take (HT.sIx xs.length xs.length hi - HT.sIx xs.length 0 lo),IsTup.new _ _⟩
end
def ixN (n:Nat)(i:Int):Option Nat:=if 0<=i then (if i<n then some i.toNat else none) else if -(n:Int)<=i then some (i+n).toNat else none
def atI {α:Type}(xs:List α)(i:Int):Option α:=(ixN xs.length i).bind fun j=>xs[j]?
theorem NC {n:Nat}{i:Int}{j:Nat}(h:ixN n i=some j):seqIndex? i n=some j/\j<n/\-(n:Int)<=i/\i<n:=by
 unfold ixN at h;by_cases h0:0<=i
 ·rw [if_pos h0] at h;by_cases h1:i<n
  ·rw [if_pos h1] at h;have e:i.toNat=j:=qdB h;exact ⟨by rw [seqIndex_of h0 h1,e],by omega,by omega,h1⟩
  ·rw [if_neg h1] at h;cases h
 ·rw [if_neg h0] at h;by_cases h1:-(n:Int)<=i
  ·rw [if_pos h1] at h;have e:(i+n).toNat=j:=qdB h;exact ⟨by rw [seqIndex_neg (by omega) h1,e],by omega,h1,by omega⟩
  ·rw [if_neg h1] at h;cases h
theorem KW {α:Type}{xs:List α}{i:Int}{v:α}(h:atI xs i=some v):∃ j,seqIndex? i xs.length=some j/\xs[j]? = some v/\j<xs.length/\-(xs.length:Int)<=i/\i<xs.length:=by
 unfold atI at h
 cases e:ixN xs.length i with
 | none=>rw [e] at h;cases h
 | some j =>
  rw [e] at h;obtain ⟨h1,h2,h3,h4⟩:=NC e;exact ⟨j,h1,h,h2,h3,h4⟩
theorem BM {α:Type}{xs:List α}{j:Nat}{v:α}(h:xs[j]? = some v):atI xs (j:Int)=some v:=by
 have hj:j<xs.length:=(qrA.mp h).1
 have e:ixN xs.length (j:Int)=some j:=by
  unfold ixN;rw [if_pos (by omega),if_pos (by omega)];simp
 unfold atI;rw [e];exact h
def NW (b:Expr):Prop:=∀ o i,subscripted b false o i=operate [o,i] (getItem o i)
def IxR (X:Cx)(r:R2):Prop :=
 ∀ (value slice:Expr) (pins:List (Addr × Obj)) (s:Shared) (σ:St) (H:Hp) (x y:V) (v u:Value) (Q:VK),Inv X pins σ H s->RelV x v->RelV y u->r x y H Q ->
  subscripted slice false v u=operate [v,u] (getItem v u)->wpAny (model X.prog X.w) X.A (subscriptTail value slice v u) (EP X pins σ Q) X.xe s
def MtR (X:Cx)(id:String)(r:V->List V->Hp->VK->Prop):Prop :=
 ∀ (pins:List (Addr × Obj)) (s:Shared) (σ:St) (H:Hp) (x:V) (xs:List V) (v:Value) (us:List Value) (Q:VK),Inv X pins σ H s->RelV x v->Vals xs us->r x xs H Q ->
  wpAny (model X.prog X.w) X.A (call (.builtin id) (v::us)) (EP X pins σ Q) X.xe s
section
variable {X:Cx}{a b:Expr}{ta tb:TE}{pos:Pos}
theorem pe_ix {r:R2}(hr:IxR X r)(ha:PE X a ta)(hb:PE X b tb)(hs:NW b):PE X (.Subscript a b pos) (tOp r ta tb):=by
 intro pins s σ H Q I h;exact Subscript_ (binT ha hb I h fun v u s2 x y H2 I2 rx ry q=>hr a b pins s2 σ H2 x y v u Q I2 rx ry q (hs _ _))
def rIxL (K:FZ9):R2:=fun x y H Q=>∃ p xs i v,x = .ref p/\y = .int i/\SqL K H p xs/\atI xs i=some v/\Q v H
def rIxT (K:FZ9):R2:=fun x y H Q=>∃ p xs i v,x = .ref p/\y = .int i/\SqT K H p xs/\atI xs i=some v/\Q v H
def rIxS:R2:=fun x y H Q=>∃ z i c,x = .str z/\y = .int i/\z.length<=sizeLine/\atI z.cps.toList i=some c/\Q (.str ⟨#[c]⟩) H
theorem ix_list:IxR X (rIxL X.K):=by
 intro value slice pins s σ H x y v u Q I rx ry h hs;obtain ⟨p,xs,i,z,rfl,rfl,hq,he,q⟩:=h;cases rx;obtain ⟨t,rfl⟩:=ry;obtain ⟨its,r,pl,hz⟩:=I.list hq;obtain ⟨j,h1,h2,h3,h4,h5⟩:=KW he;obtain ⟨w,ew,rw'⟩:=r.get h2;have hl:=r.length;have hn:=GX;have fin:EP X pins σ Q w s:=⟨z,H,I,rw',q⟩;by_cases h0:0<=i
 ·have hj:i.toNat=j:=by
   rw [seqIndex_of h0 h5] at h1;exact qdB h1
  exact item_listR pl.isList h0 (by omega) (by rw [hj];simpa using ew) fin hs
 ·have hj:(i+(its.toArray.size:Int)).toNat=j:=by
   rw [seqIndex_neg (by omega) h4] at h1;rw [qoB,<- hl];exact qdB h1
  exact subscriptTail_builtinR (x:=w) pl.isList.typeIs slot_list_getitem.lookup
   (wpAny_getItem_list_neg (Q:=fun r s'=>r=w/\EP X pins σ Q r s') pl.isList (by omega) (by rw [qoB]<;>omega) (by omega) (by rw [hj];simpa using ew) ⟨rfl,fin⟩) hs
theorem ix_tup:IxR X (rIxT X.K):=by
 intro value slice pins s σ H x y v u Q I rx ry h hs;obtain ⟨p,xs,i,z,rfl,rfl,hq,he,q⟩:=h;cases rx;obtain ⟨t,rfl⟩:=ry;obtain ⟨its,r,pl,hz⟩:=I.tuple hq;obtain ⟨j,h1,h2,h3,h4,h5⟩:=KW he;obtain ⟨w,ew,rw'⟩:=r.get h2;have hl:=r.length;have hn:=GX;have fin:EP X pins σ Q w s:=⟨z,H,I,rw',q⟩
 exact subscriptTail_builtinR (x:=w) pl.typeIs slot_tuple_getitem.lookup
  (getItem_tuple (j:=j) (Q:=fun r s'=>r=w/\EP X pins σ Q r s') pl (by omega) (by omega) (by rw [qoB,<- hl];exact h1) (by simpa using ew) ⟨rfl,fin⟩) hs
theorem ix_str:IxR X rIxS:=by
 intro value slice pins s σ H x y v u Q I rx ry h hs;obtain ⟨z,i,c,rfl,rfl,hz,he,q⟩:=h;obtain ⟨t,rfl⟩:=rx;obtain ⟨t',rfl⟩:=ry;obtain ⟨j,h1,h2,h3,h4,h5⟩:=KW he;have hl:z.cps.toList.length=z.length:=by simp [Str.length]
 rw [hl] at h1 h4 h5;have hn:=GX
 exact tail_any (typeIs_str s z t) slot_str_getitem.lookup (getItem_str (c:=c) (by
  have e1:decide (i < -(2 ^ 63:Int))=false:=decide_eq_false (by omega);have e2:decide (i>=2 ^ 63)=false:=decide_eq_false (by omega)
  rw [e1,e2,Bool.or_false]) (by rw [h1];simpa using h2) ⟨.str ⟨#[c]⟩,H,I.tok _,⟨_,rfl⟩,q⟩) hs
theorem MX (its:List Value)(n j:Nat)(u:Value):Obj.mapSeq (·.setIfInBounds j u) { cls:=.type "list",data:=.seq its.toArray n } = { cls:=.type "list",data:=.seq (its.set j u).toArray n }:=by
 simp [Obj.mapSeq]
theorem Inv.lst {pins:List (Addr × Obj)}{σ:St}{H:Hp}{s:Shared}{p:Addr}{xs:List V}(I:Inv X pins σ H s)(h:H p=some (.lst xs)) :
  ∃ (its:List Value) (n:Nat),Vals xs its/\s.heap.get? p=some { cls:=.type "list",data:=.seq its.toArray n }/\xs.length<=sizeLine:=by
 obtain ⟨z,its,n,r,e⟩:=I.hok p _ h;exact ⟨its,n,r,e,z⟩
theorem Inv.lstUpd {pins:List (Addr × Obj)}{σ:St}{H:Hp}{s:Shared}{p:Addr}{xs ys:List V}{its its':List Value}{n n':Nat}{f:Obj->Obj}(I:Inv X pins σ H s)(h:H p=some (.lst xs))
  (ho:s.heap.get? p=some { cls:=.type "list",data:=.seq its.toArray n }) (hf:f { cls:=.type "list",data:=.seq its.toArray n } = { cls:=.type "list",data:=.seq its'.toArray n' }) (r:Vals ys its') (hz:ys.length<=sizeLine) (t:Nat) :
  Inv X pins σ (upd H p (.lst ys)) { s with heap:=s.heap.update p f,toks:=t }:=by
 have e:(s.heap.update p f).get? p=some { cls:=.type "list",data:=.seq its'.toArray n' }:=by
  rw [Heap.get?_update_self f ho (by rw [hf]<;>rfl),hf]
 refine I.write (x:=p) (e:=p) (by rw [h];trivial) (.inl rfl) (fun b u hb q=>(Heap.get?_update_other _ _ (Ne.symm hb)).trans q) ⟨_,e⟩ ?_;exact ⟨hz,its',n',r,e⟩
def rSetL:V->V->V->Hp->(Hp->Prop)->Prop:=fun o i v H Q=>∃ p xs k j,o = .ref p/\i = .int k/\H p=some (.lst xs)/\ixN xs.length k=some j/\Q (upd H p (.lst (xs.set j v)))
theorem JO:PSet X rSetL:=by
 intro pins s σ H o i v ov iv u Q I ro ri rv h;obtain ⟨p,xs,k,j,rfl,rfl,hp,hj,q⟩:=h;cases ro;obtain ⟨t,rfl⟩:=ri;obtain ⟨its,n,r,ho,hz⟩:=I.lst hp;obtain ⟨h1,h2,h3,h4⟩:=NC hj;have hl:=r.length;have hn:=GX
 have I':Inv X pins σ (upd H p (.lst (xs.set j v))) { s with heap:=s.heap.update p (Obj.mapSeq (·.setIfInBounds j u)) } :=
  I.lstUpd hp ho (MX its n j u) (r.set rv j) (by rw [List.length_set];exact hz) s.toks
 by_cases h0:0<=k
 ·have hk:k.toNat=j:=by
   rw [seqIndex_of h0 h4] at h1;exact qdB h1
  exact PySem.W.ki_setAt ho h0 (by omega) (by rw [qoB,<- hl];exact h4) (by rw [hk];exact ⟨_,I',q⟩)
 ·have hk:(k+(its.toArray.size:Int)).toNat=j:=by
   rw [seqIndex_neg (by omega) h3] at h1;rw [qoB,<- hl];exact qdB h1
  exact PySem.W.ki_setBack ho (by omega) (by rw [qoB,<- hl];exact h3) (by omega) (by rw [hk];exact ⟨_,I',q⟩)
theorem Kh (lo hi:Option Int)(n:Nat):(sliceBounds lo hi none n).1=((HT.sIx n 0 lo:Nat):Int)/\(sliceBounds lo hi none n).2.1=((HT.sIx n n hi:Nat):Int)/\(sliceBounds lo hi none n).2.2=1:=by
 refine ⟨?_,?_,rfl⟩
 ·cases lo with
  | none=>simp [sliceBounds,HT.sIx]
  | some i =>
   simp only [sliceBounds,HT.sIx,Option.getD_none,show (1:Int) > 0 by decide,if_true];by_cases h:i<0
   ·simp only [h,if_true]<;>omega
   ·simp only [h,if_false]<;>omega
 ·cases hi with
  | none=>simp [sliceBounds,HT.sIx]
  | some i =>
   simp only [sliceBounds,HT.sIx,Option.getD_none,show (1:Int) > 0 by decide,if_true];by_cases h:i<0
   ·simp only [h,if_true]<;>omega
   ·simp only [h,if_false]<;>omega
theorem Jk (its:List Value)(lo hi:Option Int):slicePick its.toArray lo hi none=((its.drop (HT.sIx its.length 0 lo)).take (HT.sIx its.length its.length hi - HT.sIx its.length 0 lo)).toArray:=by
 obtain ⟨h1,h2,h3⟩:=Kh lo hi its.toArray.size;unfold slicePick;rw [h1,h2,h3];simp only [sliceRange_one,pick_run,qoB]<;>rfl
def rSlL (K:FZ9):V->Option Int->Option Int->Hp->VK->Prop:=fun x lo hi H Q=>∃ a xs,x = .ref a/\SqL K H a xs/\∀ p,H p=none->Q (.ref p) (upd H p (.lst (Jg xs lo hi)))
theorem sl_list:SlR X (rSlL X.K):=by
 intro pins s σ H x v vl vu lo hi sl Q I rx hs pl pu h;obtain ⟨a,xs,rfl,hx,q⟩:=h;cases rx;obtain ⟨its,r,ht,hz⟩:=I.list hx;have hlen:=r.length;refine ⟨"list",_,slot_list_getitem.lookup,ht.isList.typeIs,?_⟩;refine wpAny_getItem_list_slice ht.isList hs pl pu .none (by simp) ?_ (by rw [qoB]<;>omega);rw [Jk,<- hlen];refine ⟨.ref s.heap.objs.size,_,I.laid (t':=s.toks) (o:=.lst (Jg xs lo hi)) (fun b ob q=>qfB _ q) (qaB _) ?_,rfl,q _ (I.hok.fresh (qaB _))⟩;exact ⟨qbB (Db xs lo hi) hz,_,0,(r.drop (HT.sIx xs.length 0 lo)).take (HT.sIx xs.length xs.length hi - HT.sIx xs.length 0 lo),qgB _ rfl⟩
def flatV:V->Bool
 | .non=>true
 | .bl _=>true
 | .int _=>true
 | .str _=>true
 | _=>false
def eqV:V->V->Bool
 | .non,.non=>true
 | .bl a,.bl b=>a == b
 | .bl a,.int b=>(if a then 1 else 0) == b
 | .int a,.bl b=>a == (if b then 1 else 0)
 | .int a,.int b=>a == b
 | .str a,.str b=>a == b
 | _,_=>false
theorem Kr:De X (.builtin "len") (fun xs H Q=>∃ p ys,xs=[.ref p]/\(SqL X.K H p ys\/SqT X.K H p ys)/\Q (.int ys.length) H):=by
 intro pins s σ H xs us Q I r h;obtain ⟨p,ys,rfl,hq,q⟩:=h;obtain ⟨u,rfl,rx⟩:=JC r;cases rx;have hn:=GX;rcases hq with hq|hq
 ·obtain ⟨its,r',pl,hz⟩:=I.list hq;have hlen:=r'.length;exact Calls.call_len_list pl.isList (by simp only [qoB]<;>omega) ⟨.int ys.length,H,I.tok _,⟨s.toks+1,by rw [qoB,hlen]⟩,q⟩
 ·obtain ⟨its,r',pl,hz⟩:=I.tuple hq;have hlen:=r'.length;exact len_tuple pl (by simp only [qoB]<;>omega) ⟨.int ys.length,H,I.tok _,⟨s.toks+1,by rw [qoB,hlen]⟩,q⟩
theorem Kn:De X (.builtin "len") (fun xs H Q=>∃ z,xs=[.str z]/\z.length<=sizeLine/\Q (.int z.length) H):=by
 intro pins s σ H xs us Q I r h;obtain ⟨z,rfl,hz,q⟩:=h;obtain ⟨u,rfl,t,rfl⟩:=JC r;have hn:=GX;exact len_str (by omega) ⟨.int z.length,H,I.tok _,⟨_,rfl⟩,q⟩
theorem KU:De X (.type "list") (fun xs H Q=>∃ p ys,xs=[.ref p]/\(SqL X.K H p ys\/SqT X.K H p ys)/\∀ l,H l=none->Q (.ref l) (upd H l (.lst ys))):=by
 intro pins s σ H xs us Q I r h;obtain ⟨p,ys,rfl,hq,q⟩:=h;obtain ⟨u,rfl,rx⟩:=JC r;cases rx
 have fin:∀ (its:List Value),Vals ys its->ys.length<=sizeLine->∀ (h':Heap) (c':Nat),(∀ b o',s.heap.get? b=some o'->h'.get? b=some o') ->
   h'.get? s.heap.objs.size=some { cls:=.type "list",dict:=none,data:=.seq its.toArray c',slots:=#[] }->EP X pins σ Q (.ref s.heap.objs.size) { s with heap:=h' }:=fun its r' hz h' c' kp e =>
  ⟨.ref s.heap.objs.size,_,I.laid (t':=s.toks) kp (qaB _) (show ObjOk X.prog X.w _ h' _ (.lst ys) from ⟨hz,its,c',r',e⟩),rfl,q _ (I.hok.fresh (qaB _))⟩
 rcases hq with hq|hq
 ·obtain ⟨its,r',pl,hz⟩:=I.list hq;have hlen:=r'.length;obtain ⟨o,ho,hc,n,hd⟩:=pl.isList;exact call_list_seq p (.inl rfl) ho hc hd (fun h' c' kp e=>fin its r' hz h' c' kp e) (by simp only [qoB]<;>omega)
 ·obtain ⟨its,r',pl,hz⟩:=I.tuple hq;have hlen:=r'.length;obtain ⟨o,ho,hc,n,hd⟩:=pl;exact call_list_seq p (.inr rfl) ho hc hd (fun h' c' kp e=>fin its r' hz h' c' kp e) (by simp only [qoB]<;>omega)
theorem Ji:De X (.type "tuple") (fun xs H Q=>∃ p ys,xs=[.ref p]/\((SqL X.K H p ys/\∀ l,H l=none->Q (.ref l) (upd H l (.tup ys)))\/(SqT X.K H p ys/\Q (.ref p) H))):=by
 intro pins s σ H xs us Q I r h;obtain ⟨p,ys,rfl,h⟩:=h;obtain ⟨u,rfl,rx⟩:=JC r;cases rx;rcases h with ⟨hq,q⟩ | ⟨hq,q⟩
 ·obtain ⟨its,r',pl,hz⟩:=I.list hq;have hlen:=r'.length;refine call_tuple_list pl.isList (fun h' kp=>?_) (by simp only [qoB]<;>omega);have I1:Inv X pins σ H { s with heap:=h' }:=I.kept (t':=s.toks) kp
  have I2:Inv X pins σ (upd H h'.objs.size (.tup ys)) { s with heap:=h'.push { cls:=.type "tuple",data:=.seq its.toArray } } :=
   I1.laid (t':=s.toks) (fun b o e=>qfB _ e) (qaB _) (show ObjOk X.prog X.w _ _ _ (.tup ys) from ⟨hz,its,r',IsTup.new _ _⟩)
  exact ⟨.ref h'.objs.size,_,I2,rfl,q _ (I1.hok.fresh (qaB _))⟩
 ·obtain ⟨its,r',pl,hz⟩:=I.tuple hq;exact call_tuple_same pl ⟨.ref p,H,I,rfl,q⟩
def tyV (K:FZ9)(T:String)(x:V)(H:Hp):Prop:=match x with
 | .str _=>T = "str"
 | .int _=>T = "int"
 | .ref p=>(T = "list" /\ ∃ xs,SqL K H p xs)\/(T = "tuple" /\ ∃ o,K.lookup p=some o/\o.cls = .type "tuple" /\ o.dict=none) \/
   (T = "dict" /\ ((∃ kvs,H p=some (.dK kvs))\/∃ kvs,H p=some (.dT kvs)))\/(T = "set" /\ ∃ S n,H p=some (.set S n))
 | _=>False
theorem tyV_is {pins:List (Addr × Obj)}{σ:St}{H:Hp}{s:Shared}{T:String}{x:V}{v:Value}(I:Inv X pins σ H s)(r:RelV x v)(ty:tyV X.K T x H) :
  s.TypeIs v T/\∀ a,v = .ref a->∃ ob,s.heap.get? a=some ob/\ob.dict=none:=by
 cases x with
 | str z =>
  obtain ⟨t,rfl⟩:=r;cases (show T = "str" from ty);exact ⟨typeIs_str s z t,fun _ e=>nomatch e⟩
 | int i =>
  obtain ⟨t,rfl⟩:=r;cases (show T = "int" from ty);exact ⟨typeIs_int s i t,fun _ e=>nomatch e⟩
 | ref p =>
  cases r;rcases ty with ⟨rfl,xs,hq⟩ | ⟨rfl,o,hk,hc,hd⟩ | ⟨rfl,hk⟩ | ⟨rfl,S,n,hk⟩
  ·obtain ⟨its,_,pl,_⟩:=I.list hq;refine ⟨pl.isList.typeIs,fun a e=>?_⟩;cases e;obtain ⟨o,n,e,c,hd,_⟩:=pl;exact ⟨o,e,hd⟩
  ·refine ⟨⟨o,I.kIn p o hk,hc⟩,fun a e=>?_⟩;cases e;exact ⟨o,I.kIn _ o hk,hd⟩
  ·have z:∃ o,s.heap.get? p=some o/\o.ExactDict:=by
    rcases hk with ⟨kvs,hk⟩ | ⟨kvs,hk⟩
    ·obtain ⟨_,_,_,_,o,_,_,e,ex,_⟩:=I.hok p _ hk;exact ⟨o,e,ex⟩
    ·obtain ⟨_,_,_,_,o,_,_,e,ex,_⟩:=I.hok p _ hk;exact ⟨o,e,ex⟩
   obtain ⟨o,e,ex⟩:=z;refine ⟨⟨o,e,ex.1⟩,fun a e2=>?_⟩;cases e2;exact ⟨o,e,ex.2.1⟩
  ·obtain ⟨o,_,_,_,e,ex,_⟩:=I.hok p _ hk;refine ⟨⟨o,e,ex.1⟩,fun a e2=>?_⟩;cases e2;exact ⟨o,e,ex.2.1⟩
 | _=>exact False.elim ty
abbrev tBM0 (K:FZ9)(T:String)(r:V->List V->Hp->VK->Prop)(to:TE):TE:=fun σ H Q=>to σ H fun x H1=>tyV K T x H1/\r x [] H1 Q
abbrev tBM (K:FZ9)(T:String)(r:V->List V->Hp->VK->Prop)(to:TE)(t:TA):TE:=fun σ H Q=>to σ H fun x H1=>tyV K T x H1/\t σ H1 fun xs H2=>r x xs H2 Q
variable {o e:Expr}{es:List Expr}{to:TE}{t:TA}{name:Str}{apos cpos:Pos}{T id:String}{r:V->List V->Hp->VK->Prop}
theorem pe_bm0 (pa:PlainAttrs T)(slot:Slot T name id)(hty:typeOf (.builtin id)=pure (.type "method_descriptor"))(hm:MtR X id r)(ho:PE X o to)
  (hbase:attributeBase o name X.env (eval o X.env)=eval o X.env:=by rfl) (hline:(apos.endLine == cpos.line)=true:=by rfl):PE X (.Call (.Attribute o name apos) [] [] cpos) (tBM0 X.K T r to):=by
 intro pins s σ H Q I h;refine wpAny_Call_method0_late hbase hline (thn (ho pins s σ H _ I h) fun v s1 ⟨x,H1,I1,r1,ty,q1⟩=>?_);obtain ⟨h1,h2⟩:=tyV_is I1 r1 ty;exact ⟨T,id,pa,slot,hty,h1,h2,Calls.callWith_builtin rfl (PySem.evalArgs_none (hm pins s1 σ H1 x [] v [] Q I1 r1 .nil q1))⟩
theorem pe_bm (pa:PlainAttrs T)(slot:Slot T name id)(hty:typeOf (.builtin id)=pure (.type "method_descriptor"))(hm:MtR X id r)(ho:PE X o to)(ha:PA X (e::es) t)
  (hbase:attributeBase o name X.env (eval o X.env)=eval o X.env:=by rfl)
  (hfew:((backTo cpos (starEach (e::es) X.env)).all (fun x=>!x.1) && (backToKw cpos (keywordEach [] X.env)).all (fun x=>x.1.isSome)
   && decide ((e::es).length+([]:List Keyword).length+(if ([]:List Keyword).isEmpty then 0 else 1)<30))=true:=by rfl)
  (hline:(apos.endLine == cpos.line)=true:=by rfl) (hs:starEach (e::es) X.env=(false,eval e X.env)::starEach es X.env:=by rfl) (hplain:(backTo cpos (starEach es X.env)).any (·.1)=false:=by rfl) :
  PE X (.Call (.Attribute o name apos) (e::es) [] cpos) (tBM X.K T r to t):=by
 intro pins s σ H Q I h;refine wpAny_Call_method_late hbase hfew hline rfl (thn (ho pins s σ H _ I h) fun v s1 ⟨x,H1,I1,r1,ty,q1⟩=>?_);obtain ⟨h1,h2⟩:=tyV_is I1 r1 ty;refine ⟨T,id,pa,slot,hty,h1,h2,?_⟩;have hA:=ha cpos pins s1 σ H1 _ I1 q1;rw [hs] at hA ⊢;refine Calls.callWith_builtin (by show (false || (backTo cpos (starEach es X.env)).any (·.1))=false;rw [hplain]<;>rfl) (Calls.evalArgs_plain ?_);exact thn hA fun us s2 ⟨vs,H2,I2,r2,q2⟩=>hm pins s2 σ H2 x vs v us Q I2 r1 r2 q2
end
def MtM (X:Cx)(id:String)(r:V->List V->Hp->VK->Prop):Prop :=
 ∀ (pins:List (Addr × Obj)) (s:Shared) (σ:St) (H:Hp) (x:V) (xs:List V) (v:Value) (us:List Value) (Q:VK),Inv X pins σ H s->RelV x v->Vals xs us->r x xs H Q ->
  wpAny (model X.prog X.w) X.A (call (.builtin id) (v::us)) (EP X pins σ Q) X.xe s
theorem Vals.one:∀ {x:V}{us:List Value},Vals [x] us->∃ u,us=[u]/\RelV x u
 | _,_,.cons r .nil=>⟨_,rfl,r⟩
theorem Vals.zero:∀ {us:List Value},Vals [] us->us=[]
 | _,.nil=>rfl
theorem Vals.rep {xs:List V}{us:List Value}(h:Vals xs us):∀ k:Nat,Vals (List.replicate k xs).flatten (List.replicate k us).flatten
 | 0=>.nil
 | k+1=>by
  rw [List.replicate_succ,List.replicate_succ,List.flatten_cons,List.flatten_cons];exact Vals.append h (Vals.rep h k)
theorem KF (its:List Value):∀ (k:Nat) (acc:List Value),
  List.foldl (fun x1 x2=>x1++x2) acc.toArray (List.replicate k its.toArray)=(acc++(List.replicate k its).flatten).toArray
 | 0,acc=>by simp
 | k+1,acc=>by
  have e:acc.toArray++its.toArray=(acc++its).toArray:=by simp
  have e2:(acc++its)++(List.replicate k its).flatten=acc++(List.replicate (k+1) its).flatten:=by
   rw [List.replicate_succ,List.flatten_cons,qyA]
  rw [<- e2,<- KF its k (acc++its),<- e,List.replicate_succ,List.foldl_cons]
section
variable {X:Cx}{pins:List (Addr × Obj)}{σ:St}{H:Hp}{s:Shared}{l b:Addr}{xs ys zs:List V}
theorem Inv.lset {its its':List Value}{n:Nat}{f:Array Value->Array Value}{t':Nat}(I:Inv X pins σ H s)(hH:H l=some (.lst xs))
  (e:s.heap.get? l=some { cls:=.type "list",data:=.seq its.toArray n }) (hf:f its.toArray=its'.toArray) (hv:Vals ys its') (hz:ys.length<=sizeLine) :
  Inv X pins σ (upd H l (.lst ys)) { s with heap:=s.heap.update l (Obj.mapSeq f),toks:=t' }:=by
 have q:=PySem.IsL.update e f;rw [hf] at q;refine I.write (x:=l) (e:=l) (by rw [hH];exact trivial) (.inl rfl) (fun b' u hb hu=>(Heap.get?_update_other s.heap (Obj.mapSeq f) (Ne.symm hb)).trans hu) ⟨_,q⟩ ?_;exact ⟨hz,its',_,hv,q⟩
theorem Inv.lnew {its:List Value}{t':Nat}(I:Inv X pins σ H s)(hv:Vals ys its)(hz:ys.length<=sizeLine) :
  Inv X pins σ (upd H s.heap.objs.size (.lst ys)) { s with heap:=s.heap.push { cls:=.type "list",data:=.seq its.toArray },toks:=t' } :=
 I.laid (fun _ _ q=>qfB _ q) (qaB _) ⟨hz,its,0,hv,qgB _ rfl⟩
theorem Inv.fresh (I:Inv X pins σ H s):H s.heap.objs.size=none:=I.hok.fresh (qaB _)
theorem Inv.lstM (I:Inv X pins σ H s)(hH:H l=some (.lst xs)):xs.length<=sizeLine/\∃ (its:List Value) (n:Nat),Vals xs its/\xs.length=its.length/\s.heap.get? l=some { cls:=.type "list",data:=.seq its.toArray n }:=by
 obtain ⟨z,its,n,r,e⟩:=I.hok l _ hH;exact ⟨z,its,n,r,r.length,e⟩
theorem M8 {n:Nat}(h:n<=sizeLine):Builtin.List.listTooLong n=false:=by
 unfold Builtin.List.listTooLong;exact decide_eq_false (by omega)
end
section
variable {X:Cx}
def Gv:V->List V->Hp->VK->Prop:=fun x vs H Q=>∃ l xs y,x = .ref l/\vs=[y]/\H l=some (.lst xs)/\xs.length<sizeLine/\Q .non (upd H l (.lst (xs++[y])))
theorem Ho:MtM X "list.append" Gv:=by
 intro pins s σ H x vs v us Q I rx rv h;obtain ⟨l,xs,y,rfl,rfl,hH,hz,q⟩:=h;cases rx;obtain ⟨u,rfl,ru⟩:=rv.one;obtain ⟨z,its,n,r,hl,e⟩:=I.lstM hH;refine call_meets F.slot_list_append ⟨_,e,rfl⟩ F.entry_list_append (F.args_list_append_2 _ _) (PySem.list_append l its.toArray n u (by rw [qoB];omega)) ⟨e,?_⟩;refine ⟨.non,_,I.lset (its':=its++[u]) hH e (by simp) (r.append (.cons ru .nil)) ?_,rfl,q⟩;rw [qeA,qgA];omega
theorem NB {α:Type}(xs:List α)(k:Nat):(List.replicate k xs).flatten.length=k * xs.length:=by
 induction k with
 | zero=>simp
 | succ k ih=>rw [List.replicate_succ,List.flatten_cons,qeA,ih,Nat.succ_mul,Nat.add_comm]
end
end L2
namespace Att
open PySem PySem.W PySem.Calls PyProof.Rows
theorem II {P:Params}{h:Heap}:∀ (ns:List Int) (vs:List Value),WellAll P h vs (ns.map WData.int)->IntsAre vs ns:=by
 intro ns
 induction ns with
 | nil =>
  intro vs w;rw [List.map_nil] at w;cases w;exact .nil
 | cons n ns ih =>
  intro vs w;rw [qxA] at w
  cases w with
  | cons a b =>
   cases a;exact .cons _ _ (ih _ b)
theorem OT {l:OpenLaw}{n:Nat}(hn:l.most=some n){P:Params}{h:Heap}{args:List WData}{vals:List Value}
  (hpre:l.row.toRowW.claim.pre args=true) (hwl:WellAll P h vals args) :
  ∃ a vs ns,vals=[Value.ref a]/\args=[WData.list (ns.map WData.int)]/\h.get? a=some { cls:=.type "list",data:=.seq vs.toArray }/\IntsAre vs ns/\ns.length<=n:=by
 have hsh:WShape.hasAll [] args [.list .int]=true:=(pre_splitW hpre).1;have hc:l.pre.holds [] { args:=args }=true:=(pre_splitW hpre).2;obtain ⟨d,r,rfl,h1,h2⟩:=hasAllW_cons hsh;obtain rfl:=hasAllW_nil h2;obtain ⟨xs,rfl,h3⟩:=hasW_list h1;obtain ⟨ns,rfl⟩:=items_int h3
 have hlen:ns.length<=n:=by
  unfold OpenLaw.pre at hc
  have h4:(WTm.not (.lt (.lit (.int (n:Int))) (.len (.arg 0)))).holds [] { args:=[.list (ns.map .int)] }=true:=by
   have h4:=(holds_andW hc).1;rw [hn] at h4;exact h4
  have h5:=condW_of h4 (w_not (w_lt w_lit (w_len_list (w_arg rfl))));rw [qdA] at h5;refine Nat.le_of_not_lt fun q=>?_;have q':(n:Int)<((ns.length:Nat):Int):=by omega
  first
   | (rw [decide_eq_true q'] at h5;exact absurd h5 (by decide))
   | (simp at h5;omega)
 cases hwl with
 | cons w1 w2 =>
  cases w2
  cases w1 with
  | list ho hall=>exact ⟨_,_,ns,rfl,rfl,ho,II ns _ hall,hlen⟩
theorem O5 (l:OpenLaw)(args:List WData):l.row.toRowW.claim.post args (.bool true) args=true :=
 postW_of (r:=l.row.toRowW) (X:=(true == true))
  (show WShape.has [] (.bool true) .bool=true by first|rfl|decide|simp [WShape.has,WShape.arms,WShape.armsAll])
  (show (WTm.eq .res (.lit (.bool true))).value [] { args:=args,res:=some (.bool true),after:=args }=some (.bool (true == true)) from w_eq_bool (w_res rfl) w_lit) rfl
theorem attach_call {l:OpenLaw}{n:Nat}{q:Program}{loose:List Str}{XP:(Str->Option Value)->Heap->Prop}{YP:World->Heap->Prop}{d:DefRec}
  (hn:l.most=some n) (hdf:d.params.defaults=[])
  (call:∀ (w:World) (s₀ s₁:Shared) (mg mb:Str->Option Value) (fa:Addr) (o:Obj) (pm cd doc:Value) (a:Addr) (vs:List Value) (ns:List Int),
   Ground q loose [] XP w s₀ mg mb s₁.heap->YP w s₁.heap ->
   s₁.heap.get? fa=some o->o.data = .func (docDef d.name d.params d.body d.scope pm cd doc)->s₁.heap.CodeRec cd d.name->mg d.name=some (.ref fa) ->
   s₁.heap.get? a=some { cls:=.type "list",data:=.seq vs.toArray }->IntsAre vs ns->ns.length<=n->s₁.gens = #[] ->
   codeAny (model l.prog w) callerA (.call (.ref fa) ⟨[.ref a],[]⟩) (fun r s'=>r = .ok (.ret (.bool true))/\OldK s₁.heap s'.heap/\s'.os=s₁.os/\AllBare s'.gens) s₁) :
  WalkO q loose XP YP l.row.toRowW d [] (fun f vs=>PySem.call f vs):=by
 intro w s₀ s₁ mg mb G Y fa o pm cd doc dV kV ho hd hcd hD hmg hg args vals as hpre hlay hrd hwl hlo;obtain rfl:dV = .none:=Dflts.none hD hdf;obtain rfl:kV = .none:=Dflts.noKw hD;obtain ⟨a,vs,ns,rfl,rfl,hobj,hints,hlen⟩:=OT hn hpre hwl;refine enter_call (codeAny_mono (call w s₀ s₁ mg mb fa o pm cd doc a vs ns G Y ho (fd_plain hd) hcd hmg hobj hints hlen hg) fun r s' hq=>?_);obtain ⟨rfl,h2,h3,h4⟩:=hq;exact ⟨.inl ⟨.bool true,.bool true,[],rfl,fun _=>rfl,.bool true,O5 l _,fun _=>⟨List.Pairwise.nil,fun _ hm=>(nomatch hm)⟩⟩,h2,h3,h4⟩
end Att
namespace L2
open PySem PySem.Spec PyProof.Rows
theorem Jx:∀ {vs:List Value}{ns:List Int},IntsAre vs ns->Vals (ns.map V.int) vs
 | _,_,.nil=>.nil
 | _,_,.cons n t h=>.cons ⟨t,rfl⟩ (Jx h)
def Only (H:Hp):Prop:=∀ b,H b=none\/∃ o xs,H b=some (.frz o (.lst xs))
theorem law_call {P:Program}{w:World}{K:FZ9}{mg mb:Str->Option Value}{CX:CXT}{k:Nat}{fa a:Addr}{fd:FuncData}{x:Str}{sp:Sp}{s₁:Shared}{vs:List Value}{ns:List Int}
  (KX:K.In s₁.heap) (hns:s₁.heap.Ns mainGlobals mg) (hb:s₁.heap.Ns builtinsNs mb) (hbb:∀ x:Str,x ≠ "__name__" -> mb x=bootBuiltins x) (hlim:s₁.heap.NoLimit) (hg:s₁.gens = #[])
  (ha:s₁.heap.get? a=some { cls:=.type "list",data:=.seq vs.toArray }) (hi:IntsAre vs ns) (hl:ns.length<=sizeLine) (hr:Room k callerA)
  (F:∀ base:Heap,K.In base->base.Ns mainGlobals mg->FnOk P w K mg base CX k fa fd [x] sp) (hbind:∀ (s:Shared) (u:Value),BindsTo s fd ⟨[u],[]⟩ [(x,u)])
  (hsp:∀ H:Hp,Only H->SqL K H a (ns.map V.int)->sp [.ref a] H (fun v _=>v = .bl true) fun _ _ _=>False)
  (hCX:∀ H e s',CX [] H s₁ (fun _ _ _=>False) e s'->False) :
  codeAny (model P w) callerA (.call (.ref fa) ⟨[.ref a],[]⟩) (fun r s'=>r = .ok (.ret (.bool true))/\OldK s₁.heap s'.heap/\s'.os=s₁.os/\AllBare s'.gens) s₁:=by
 have rv:=Jx hi;have lenV:=hi.length
 have core:∀ H:Hp,Only H->SqL K H a (ns.map V.int)->HOk P w H s₁.heap->(∀ b,H b≠none->b=a)->(H a≠none->K.lookup a=none) ->
   codeAny (model P w) callerA (.call (.ref fa) ⟨[.ref a],[]⟩) (fun r s'=>r = .ok (.ret (.bool true))/\OldK s₁.heap s'.heap/\s'.os=s₁.os/\AllBare s'.gens) s₁:=by
  intro H hO hS hok hA hK;have base_of:∀ {b:Addr}{o:Obj},s₁.heap.get? b=some o->H b=none->(KQ s₁.heap H).get? b=some o:=fun e n=>hidT_get e n
  have noA:∀ {b:Addr}{o:Obj}{es:Array DictEntry}{ep:Nat},s₁.heap.get? b=some o->o.data = .dict es ep->H b=none:=fun {b o es ep} e d=>by
   cases q:H b with
   | none=>rfl
   | some u =>
    have e':b=a:=hA b (by rw [q];simp);subst e';rw [ha] at e;cases e;have d':Data.seq vs.toArray _=Data.dict es ep:=d;cases d'
  have nsK:∀ {b:Addr}{m:Str->Option Value},s₁.heap.Ns b m->(KQ s₁.heap H).Ns b m:=fun {b m} ⟨o,es,ep,e,d,r⟩=>⟨o,es,ep,base_of e (noA e d),d,r⟩
  have hKb:K.In (KQ s₁.heap H):=fun b o e=>base_of (KX b o e) (by
   cases q:H b with
   | none=>rfl
   | some u =>
    have e':b=a:=hA b (by rw [q];simp);subst e'
    rw [hK (by rw [q];simp)] at e;cases e)
  have hM:Mod K mg (KQ s₁.heap H):=⟨hKb,nsK hns,⟨mb,nsK hb,hbb⟩,let ⟨mc,h1,h2⟩:=hlim;⟨mc,nsK h1,h2⟩⟩;have e0:Env0 P w K mg (KQ s₁.heap H) callerA [] s₁ H:=⟨rfl,hM,fun b o e=>of_hidT e,Nat.le_of_eq (Ob _ _),trivial,fun b hb=>absurd (show b∈([]:List Addr) from hb) (by simp),hok,.of_eq hg⟩;refine codeAny_mono ((F _ hKb (nsK hns)).run callerA [] s₁ H ⟨[.ref a],[]⟩ [.ref a] [.ref a] _ _ hr e0 (hbind s₁ (.ref a)) (.cons rfl .nil) (hsp H hO hS)) fun r s' h=>?_
  cases r with
  | error e=>exact (hCX H e s' h).elim
  | ok fl =>
   cases fl with
   | next=>exact False.elim h
   | brk=>exact False.elim h
   | cont=>exact False.elim h
   | ret u =>
    obtain ⟨v,H',os,bare,un,hok',r',q⟩:=h;have q':v = .bl true:=q;subst q';obtain rfl:u=Value.bool true:=r';refine ⟨rfl,OldK.of_keep fun b o e=>?_,os,bare⟩
    cases q:H b with
    | none=>exact un.keep b o e q (by intro z;exact absurd (show b∈([]:List Addr) from z) (by simp)) (by simp)
    | some u =>
     rcases hO b with z | ⟨ob,xs,z⟩
     ·rw [q] at z;cases z
     ·have z2:=un.frzs b ob _ z;obtain ⟨e1,_⟩:=hok b _ z;obtain ⟨e2,_⟩:=hok' b _ z2;rw [e] at e1;cases e1;exact e2
 cases hk:K.lookup a with
 | some o =>
  have e:=KX a o hk;rw [ha] at e;cases e;refine core (fun _=>none) (fun _=>.inl rfl) (.inr ⟨_,vs.toArray,_,hk,rfl,rfl,rfl,by rw [qoB,lenV];exact hl,by simpa using rv⟩) (fun b u z=>by have z':(none:Option HO)=some u:=z;cases z') (fun b z=>absurd rfl z) fun z=>absurd rfl z
 | none =>
  refine core (fun b=>if b=a then some (.frz { cls:=.type "list",data:=.seq vs.toArray } (.lst (ns.map V.int))) else none) (fun b=>?_) (.inl (.inr ⟨{ cls:=.type "list",data:=.seq vs.toArray },if_pos rfl⟩)) (fun b u z=>?_) (fun b z=>?_) fun _=>hk
  ·by_cases hb:b=a
   ·exact .inr ⟨_,_,if_pos hb⟩
   ·exact .inl (if_neg hb)
  ·by_cases hb:b=a
   ·have z':=(if_pos hb).symm.trans z;cases z';subst hb;exact ⟨ha,by rw [qdA];exact hl,vs,_,rv,ha⟩
   ·have z':=(if_neg hb).symm.trans z;cases z'
  ·by_cases hb:b=a
   ·exact hb
   ·exact absurd (if_neg hb) z
theorem walk_of {l:PySem.W.OpenLaw}{n k:Nat}{q:Program}{loose:List Str}{XP:(Str->Option Value)->Heap->Prop}{YP:World->Heap->Prop}{d:DefRec}{K:Params->FZ9}{CX:World->CXT}{sp:World->Sp}{x:Str}
  (hn:l.most=some n) (hn2:n<=sizeLine) (hdf:d.params.defaults=[]) (hr:Room k callerA)
  (hY:∀ (w:World) (h:Heap),YP w h->(K w.params).In h)
  (F:∀ (w:World) (mg:Str->Option Value) (fa:Addr) (h:Heap),(K w.params).In h->h.Ns mainGlobals mg->mg d.name=some (.ref fa) ->
   ∃ fd:FuncData,(∀ (s:Shared) (u:Value),BindsTo s fd ⟨[u],[]⟩ [(x,u)]) /\
    ∀ base:Heap,(K w.params).In base->base.Ns mainGlobals mg->FnOk l.prog w (K w.params) mg base (CX w) k fa fd [x] (sp w))
  (hsp:∀ (w:World) (H:Hp) (a:Addr) (ns:List Int),ns.length<=n->Only H->SqL (K w.params) H a (ns.map V.int)->sp w [.ref a] H (fun v _=>v = .bl true) fun _ _ _=>False)
  (hCX:∀ (w:World) (H:Hp) (s:Shared) (e:Value) (s':Shared),CX w [] H s (fun _ _ _=>False) e s'->False) :
  PySem.W.WalkO q loose XP YP l.row.toRowW d [] (fun f vs=>PySem.call f vs):=by
 refine Att.attach_call hn hdf fun w s₀ s₁ mg mb fa o pm cd doc a vs ns G Y ho hd hcd hmg hobj hints hlen hg=>?_;have KX:=hY w _ Y;obtain ⟨fd,hb,hF⟩:=F w mg fa _ KX G.T.g hmg;exact law_call KX G.T.g G.T.b G.T.builtins G.T.nolimit hg hobj hints (qbB hlen hn2) hr hF hb (fun H hO hS=>hsp w H a ns hlen hO hS) fun H e s'=>hCX w H s₁ e s'
def DW (s:Stmt):Arguments:=match s with
 | .FunctionDef _ a _ _ _ _ _ _ _ _=>a
 | _=>{ posonlyargs:=[],args:=[],vararg:=none,kwonlyargs:=[],kw_defaults:=[],kwarg:=none,defaults:=[] }
def C2 (s:Stmt):List Stmt:=match s with
 | .FunctionDef _ _ b _ _ _ _ _ _ _=>b
 | _=>[]
def AJ (s:Stmt):Scope:=match s with
 | .FunctionDef _ _ _ _ _ _ sc _ _ _=>sc
 | _=>{ kind:=.function,names:=[],isGenerator:=false,isCoroutine:=false }
abbrev CX0:CXT:=fun _ _ _ _ _ _=>False
abbrev E0:XK:=fun _ _ _=>False
theorem pass0 {X:Cx}:ME CX0 X E0:=fun _ _ _ _ _ _ _ h=>h.elim
structure Fun (K:FZ9)(x qual:Str)(st:Stmt)(f:Addr)(fd:FuncData):Prop where
 ex:∃ (oc:Value) (od:Option Addr) (kV doc pm:Value) (an:Option Addr) (cdv ct:Value) (osl:Array (Option Value)),
  fd=qsB x qual (DW st) (C2 st) (AJ st) .none kV doc pm an cdv ct/\K.lookup f=some ⟨oc,od,.func fd,osl⟩/\PySem.W.codeIn K cdv qual=true
 kp:qrB K (.ref f)=true
section
variable {P:Program}{w:World}{K:FZ9}{mg:Str->Option Value}{base:Heap}
theorem Fun.ok {x qual:Str}{st:Stmt}{f:Addr}{fd:FuncData}{N ps:List Str}{k:Nat}{sp:Sp}(F:Fun K x qual st f fd)(S:FnScope N ps (AJ st))(len:∀ vs H Q E,sp vs H Q E->vs.length=ps.length)
  (hbody:∀ (cdv:Value) (A:Around) (outer:List Env) (s:Shared) (H:Hp) (vs:List V) (Q:VK) (E:XK),Room k (A.deeper (envOfC qual (AJ st) s.heap.objs.size f cdv))->sp vs H Q E ->
   ∃ t,PSs (Hi CX0 P w K mg base N qual (AJ st) f cdv A outer s H E).nox (C2 st) t/\t { nx:=fun _ H'=>Q .non H',rt:=Q } (start N vs) H):FnOk P w K mg base CX0 (k+1) f fd ps sp:=by
 obtain ⟨oc,od,kV,doc,pm,an,cdv,ct,osl,rfl,lk,hcd⟩:=F.ex;refine fn_of lk hcd S len fun A outer s H vs Q E hr hsp=>?_;obtain ⟨t,h,q⟩:=hbody cdv A outer s H vs Q E hr hsp;exact ⟨t,h.nox,q⟩
theorem Fun.binds {x qual:Str}{st:Stmt}{f:Addr}{fd:FuncData}{ps:List Str}(F:Fun K x qual st f fd)
  (h:∀ (kV doc pm:Value) (an:Option Addr) (cdv ct:Value) (us:List Value),us.length=ps.length->bindArgs (qsB x qual (DW st) (C2 st) (AJ st) .none kV doc pm an cdv ct) ⟨us,[]⟩=pure (ps.zip us)):Binds K fd ps []:=by
 obtain ⟨oc,od,kV,doc,pm,an,cdv,ct,osl,rfl,lk,hcd⟩:=F.ex;exact .all (h kV doc pm an cdv ct)
theorem fun_mk {x qual:Str}{st:Stmt}{f:Addr}{oc:Value}{od an:Option Addr}{osl:Array (Option Value)}{kV doc pm cdv ct:Value}(l:K.lookup f=some ⟨oc,od,.func (qsB x qual (DW st) (C2 st) (AJ st) .none kV doc pm an cdv ct),osl⟩)
  (c:PySem.W.codeIn K cdv qual=true) (k:qrB K (.ref f)=true):Fun K x qual st f (qsB x qual (DW st) (C2 st) (AJ st) .none kV doc pm an cdv ct):=⟨⟨oc,od,kV,doc,pm,an,cdv,ct,osl,rfl,l,c⟩,k⟩
end
section
variable {X:Cx}
theorem pv (i:Nat){x:Str}{pos:Pos}(hN:X.N[i]? = some x:=by rfl)(hv:Vis X.env.scope x:=by first|exact Or.inl rfl|exact Or.inr (Or.inl rfl)|exact Or.inr (Or.inr rfl))(hd:(x == ("__debug__" : Str))=false:=by decide)
  (hcd:(x == ("__classdict__" : Str))=false:=by decide):PE X (.Name x pos) (Ba i):=pe_var hN hv hd hcd
end
theorem Bd {A B:Prop}(h:B):if false=true then A else B:=by
 rw [if_neg qnB];exact h
theorem Bo {A B:Prop}(h:A):if true=true then A else B:=by
 rw [if_pos rfl];exact h
def Same (H H':Hp):Prop:=∀ b o,H b=some o->H' b=some o
theorem Same.refl (H:Hp):Same H H:=fun _ _ h=>h
theorem Same.trans {H H1 H2:Hp}(a:Same H H1)(b:Same H1 H2):Same H H2:=fun c o h=>b c o (a c o h)
theorem Same.free {H H':Hp}(e:Same H H'){l:Addr}(h:H' l=Option.none):H l=Option.none:=by
 cases q:H l with
 | none=>rfl
 | some o =>
  rw [e l o q] at h;cases h
theorem Same.seq {K:FZ9}{H H':Hp}{a:Addr}{xs:List V}(e:Same H H')(h:SqL K H a xs):SqL K H' a xs:=by
 rcases h with (h | ⟨o,h⟩)|h
 ·exact .inl (.inl (e _ _ h))
 ·exact .inl (.inr ⟨o,e _ _ h⟩)
 ·exact .inr h
section
variable {κ:Type}[DecidableEq κ]
def GJ (kvs:List (κ × V))(k:κ):Option V:=(kvs.find? fun kv=>decide (kv.1=k)).map (·.2)
def FS (kvs:List (κ × V))(k:κ)(v:V):List (κ × V) :=
 if (kvs.any fun kv=>decide (kv.1=k))=true then kvs.map (fun kv=>if kv.1=k then (kv.1,v) else kv) else kvs++[(k,v)]
theorem Da {p:κ × V}{r:List (κ × V)}{k:κ}(e:p.1=k):GJ (p::r) k=some p.2:=by simp [GJ,List.find?_cons,e]
theorem Dc {p:κ × V}{r:List (κ × V)}{k:κ}(e:¬ p.1=k):GJ (p::r) k=GJ r k:=by simp [GJ,List.find?_cons,e]
theorem Ja (k:κ):∀ kvs:List (κ × V),(kvs.any fun kv=>decide (kv.1=k))=(GJ kvs k).isSome
 | []=>rfl
 | p::r=>by
  rw [List.any_cons];by_cases e:p.1=k
  ·simp only [Da e,decide_eq_true e,Bool.true_or,Option.isSome_some]
  ·rw [Dc e,decide_eq_false e,Bool.false_or];exact Ja k r
theorem K0 (k j:κ)(y:V):∀ kvs:List (κ × V),GJ kvs k=none->GJ (kvs++[(k,y)]) j=if j=k then some y else GJ kvs j
 | [],_=>by
  by_cases e:k=j
  ·rw [if_pos e.symm];exact Da (p:=(k,y)) e
  ·rw [if_neg (fun z=>e z.symm)];exact Dc (p:=(k,y)) e
 | p::r,hn=>by
  rw [List.cons_append];have hk:¬ p.1=k:=fun z=>by rw [Da z] at hn;cases hn
  rw [Dc hk] at hn;have ih:=K0 k j y r hn;by_cases e:p.1=j
  ·rw [Da e,Da e,if_neg (fun z=>hk (e.trans z))]
  ·rw [Dc e,Dc e,ih]
theorem Fp (kvs:List (κ × V))(k:κ)(v:V):(FS kvs k v).length<=kvs.length+1:=by
 unfold FS;split
 ·rw [qdA];omega
 ·rw [qeA,qfA,List.length_nil];omega
theorem putK_new {kvs:List (κ × V)}{k:κ}(v:V)(h:GJ kvs k=none):FS kvs k v=kvs++[(k,v)]:=by
 unfold FS;rw [Ja,h];exact if_neg (by decide)
theorem RelO.isSome_eq {o:Option V}{u:Option Value}(r:RelO o u):o.isSome=u.isSome:=by
 cases o with
 | none=>cases u with
  | none=>rfl
  | some _=>exact (show False from r).elim
 | some _=>cases u with
  | none=>exact (show False from r).elim
  | some _=>rfl
theorem KV.val {kvs:List (κ × V)}{vs:List (κ × Value)}(r:KV kvs vs)(k:κ):RelO (GJ kvs k) (valueAt vs k):=by
 unfold KV at r
 induction r with
 | nil=>exact True.intro
 | @cons p q ps qs h t ih =>
  obtain ⟨h1,h2⟩:=h;by_cases e:p.1=k
  ·have e':q.1=k:=h1.symm.trans e;have b:valueAt (q::qs) k=some q.2:=by simp [valueAt,List.find?_cons,e']
   rw [Da e,b];exact h2
  ·have e':¬ q.1=k:=fun z=>e (h1.trans z);have b:valueAt (q::qs) k=valueAt qs k:=by simp [valueAt,List.find?_cons,e']
   rw [Dc e,b];exact ih
theorem KV.any {kvs:List (κ × V)}{vs:List (κ × Value)}(r:KV kvs vs)(k:κ):(kvs.any fun kv=>decide (kv.1=k))=vs.any fun kv=>decide (kv.1=k):=by
 unfold KV at r
 induction r with
 | nil=>rfl
 | cons h t ih=>rw [List.any_cons,List.any_cons,ih,h.1]
theorem KV.repl {kvs:List (κ × V)}{vs:List (κ × Value)}(r:KV kvs vs)(k:κ){y:V}{u:Value}(ry:RelV y u) :
  KV (kvs.map fun kv=>if kv.1=k then (kv.1,y) else kv) (vs.map fun kv=>if kv.1=k then (kv.1,u) else kv):=by
 unfold KV at r ⊢
 induction r with
 | nil=>exact .nil
 | @cons p q ps qs h t ih =>
  rw [qxA,qxA];refine .cons ?_ ih;obtain ⟨h1,h2⟩:=h;by_cases e:p.1=k
  ·rw [if_pos e,if_pos (h1.symm.trans e)];exact ⟨h1,ry⟩
  ·rw [if_neg e,if_neg (fun z=>e (h1.trans z))];exact ⟨h1,h2⟩
theorem KV.put {kvs:List (κ × V)}{vs:List (κ × Value)}(r:KV kvs vs)(k:κ){y:V}{u:Value}(ry:RelV y u):KV (FS kvs k y) (stored vs k u):=by
 unfold FS stored;rw [r.any k];by_cases e:(vs.any fun kv=>decide (kv.1=k))=true
 ·rw [if_pos e,if_pos e];exact r.repl k ry
 ·rw [if_neg e,if_neg e];exact Paired.snoc r ⟨rfl,ry⟩
theorem KV.length {kvs:List (κ × V)}{vs:List (κ × Value)}(r:KV kvs vs):kvs.length=vs.length:=Paired.length r
end
theorem LF {P:Program}{w:World}{k:Key}{u:Value}(r:RelV (kV k) u):(C8 P w).is k u=true:=by
 cases k with
 | inl i=>obtain ⟨t,e⟩:=(show ∃ t,u=Value.int i t from r);subst e;exact La P w i t
 | inr x=>obtain ⟨t,e⟩:=(show ∃ t,u=Value.str x t from r);subst e;exact LZ P w x t
theorem KA {P:Program}{w:World}:∀ {ks:List Key}{us:List Value},Vals (ks.map kV) us->ItemsAre (C8 P w) ks us
 | [],_,r=>by rw [List.map_nil] at r;cases r;exact .nil
 | k::ks,_,r=>by
  rw [qxA] at r
  cases r with
  | cons h t=>exact .cons (LF h) (KA t)
abbrev KT (H:Hp):List (List Key × V)->List (List Key × Addr × Value)->Prop:=Paired fun p q=>p.1=q.1/\H q.2.1=some (.tup (p.1.map kV))/\RelV p.2 q.2.2
theorem KT.val {H:Hp}{kvs:List (List Key × V)}{xs:List (List Key × Addr × Value)}(r:KT H kvs xs)(k:List Key):RelO (GJ kvs k) ((atKey xs k).map (·.2)):=by
 induction r with
 | nil=>exact True.intro
 | @cons p q ps qs h t ih =>
  obtain ⟨h1,_,h2⟩:=h;by_cases e:p.1=k
  ·have e':q.1=k:=h1.symm.trans e;have b:atKey (q::qs) k=some q.2:=by simp [atKey,List.find?_cons,e']
   rw [Da e,b];exact h2
  ·have e':¬ q.1=k:=fun z=>e (h1.trans z);have b:atKey (q::qs) k=atKey qs k:=by simp [atKey,List.find?_cons,e']
   rw [Dc e,b];exact ih
theorem KT.repl {H:Hp}{kvs:List (List Key × V)}{xs:List (List Key × Addr × Value)}(r:KT H kvs xs)(k:List Key){y:V}{u:Value}(ry:RelV y u) :
  KT H (kvs.map fun kv=>if kv.1=k then (kv.1,y) else kv) (xs.map (putAt k u)):=by
 induction r with
 | nil=>exact .nil
 | @cons p q ps qs h t ih =>
  rw [qxA,qxA];refine .cons ?_ ih;obtain ⟨h1,h2,h3⟩:=h;unfold putAt;by_cases e:p.1=k
  ·rw [if_pos e,if_pos (h1.symm.trans e)];exact ⟨h1,h2,ry⟩
  ·rw [if_neg e,if_neg (fun z=>e (h1.trans z))];exact ⟨h1,h2,h3⟩
theorem KT.put {H:Hp}{kvs:List (List Key × V)}{xs:List (List Key × Addr × Value)}(r:KT H kvs xs)(k:List Key){b:Addr}{y:V}{u:Value}(hb:H b=some (.tup (k.map kV)))(ry:RelV y u) :
  KT H (FS kvs k y) (storedH xs k b u):=by
 have e:(kvs.any fun kv=>decide (kv.1=k))=(atKey xs k).isSome:=by
  rw [Ja,(r.val k).isSome_eq,Option.isSome_map]
 unfold FS storedH;rw [e];by_cases q:(atKey xs k).isSome=true
 ·rw [if_pos q,if_pos q];exact r.repl k ry
 ·rw [if_neg q,if_neg q];exact Paired.snoc r ⟨rfl,hb,ry⟩
theorem KT.keeps {H H':Hp}{kvs:List (List Key × V)}{xs:List (List Key × Addr × Value)}(r:KT H kvs xs)(ht:∀ b ys,H b=some (.tup ys)->H' b=some (.tup ys)):KT H' kvs xs :=
 Paired.mapP r fun _ _ z=>⟨z.1,ht _ _ z.2.1,z.2.2⟩
section
variable {P:Program}{w:World}{H:Hp}{h:Heap}{a:Addr}
theorem rd_of {u:HO}(ok:HOk P w H h)(e:Rd H a u):ObjOk P w H h a u:=e.ok ok
theorem Ny {kvs:List (Key × V)}(ok:HOk P w H h)(e:Rd H a (.dK kvs)):kvs.length<=sizeLine/\(a == sysModules)=false/\∃ vs,KV kvs vs/\h.DictOf (C8 P w) a vs :=
 show ObjOk P w H h a (.dK kvs) from rd_of ok e
theorem dk_of {kvs:List (Key × V)}(ok:HOk P w H h)(e:H a=some (.dK kvs)):kvs.length<=sizeLine/\(a == sysModules)=false/\∃ vs,KV kvs vs/\h.DictOf (C8 P w) a vs:=Ny ok (.inl e)
theorem Kj {ks:List Key}(ok:HOk P w H h)(e:H a=some (.tup (ks.map kV))):(tupleKind (C8 P w)).is h ks a:=by
 obtain ⟨_,its,r,o,h1,h2,n,h3⟩:=(show ObjOk P w H h a (.tup (ks.map kV)) from ok a _ e);exact ⟨o,its.toArray,n,h1,h2,h3,by simpa using KA r⟩
theorem Nm {kvs:List (List Key × V)}(ok:HOk P w H h)(e:Rd H a (.dT kvs)):kvs.length<=sizeLine/\(a == sysModules)=false /\
  ∃ xs,KT H kvs xs/\h.DictOfH (tupleKind (C8 P w)) a xs:=by
 obtain ⟨z,y,xs,r,o,es,ep,h1,h2,h3,h4,h5⟩:=(show ObjOk P w H h a (.dT kvs) from rd_of ok e);refine ⟨z,y,xs,r,o,es,ep,h1,h2,h3,h4,fun x hx=>?_,h5⟩
 have all:∀ {l:List (List Key × V)}{m:List (List Key × Addr × Value)},KT H l m->∀ x∈m,(tupleKind (C8 P w)).is h x.1 x.2.1:=by
  intro l m q
  induction q with
  | nil=>intro x hx;exact nomatch hx
  | @cons p q ps qs hq t ih =>
   intro x hx;rcases qkA.mp hx with e|hx
   ·subst e;exact Kj ok (by rw [<- hq.1];exact hq.2.1)
   ·exact ih x hx
 exact all r x hx
theorem dt_of {kvs:List (List Key × V)}(ok:HOk P w H h)(e:H a=some (.dT kvs)):kvs.length<=sizeLine/\(a == sysModules)=false /\
  ∃ xs,KT H kvs xs/\h.DictOfH (tupleKind (C8 P w)) a xs:=Nm ok (.inl e)
end
def DGet (H:Hp)(a:Addr)(y:V)(r:Option V):Prop :=
 (∃ kvs k,Rd H a (.dK kvs)/\y=kV k/\r=GJ kvs k)\/∃ kvs k b,Rd H a (.dT kvs)/\y = .ref b/\H b=some (.tup (k.map kV))/\r=GJ kvs k
def DPut (H:Hp)(a:Addr)(y v:V)(H':Hp):Prop :=
 (∃ kvs k,H a=some (.dK kvs)/\y=kV k/\kvs.length<sizeLine/\H'=upd H a (.dK (FS kvs k v))) \/
 ∃ kvs k b,H a=some (.dT kvs)/\y = .ref b/\H b=some (.tup (k.map kV))/\kvs.length<sizeLine/\H'=upd H a (.dT (FS kvs k v))
theorem DGet.t {H:Hp}{a b:Addr}{kvs:List (List Key × V)}{k:List Key}(e:H a=some (.dT kvs))(eb:H b=some (.tup (k.map kV))):DGet H a (.ref b) (GJ kvs k):=.inr ⟨kvs,k,b,.inl e,rfl,eb,rfl⟩
theorem DPut.t {H:Hp}{a b:Addr}{kvs:List (List Key × V)}{k:List Key}{v:V}(e:H a=some (.dT kvs))(eb:H b=some (.tup (k.map kV)))(hl:kvs.length<sizeLine) :
  DPut H a (.ref b) v (upd H a (.dT (FS kvs k v))):=.inr ⟨kvs,k,b,e,rfl,eb,hl,rfl⟩
section
variable {X:Cx}{pins:List (Addr × Obj)}{σ:St}{H:Hp}{s:Shared}{a:Addr}{y v:V}{u r:Value}{o:Option V}{A:Around}{E:Value->Shared->Prop}
theorem Inv.big (I:Inv X pins σ H s):sysModules<s.heap.objs.size:=by
 have h:mainGlobals<s.heap.objs.size:=(I.mod.glob.keeps I.bk).lt;exact Nat.lt_trans (by decide) h
theorem OM {Q:Value->Shared->Prop}(hu:A.units+1<cLine)(I:Inv X pins σ H s)(g:DGet H a y (some v))(ry:RelV y u)(h:∀ w' s',Inv X pins σ H s'->RelV v w'->Q w' s') :
  wpAny (model X.prog X.w) A (getItem (.ref a) u) Q E s:=by
 rcases g with ⟨kvs,k,e,ey,l⟩ | ⟨kvs,k,b,e,ey,eb,l⟩
 ·subst ey;obtain ⟨z,hd,vs,rel,dd⟩:=Ny I.hok e;obtain ⟨w',hw,rw'⟩:=RelO.some_of (v:=v) (o:=valueAt vs k) (by rw [l];exact rel.val k);exact wpAny_getItem_of (LF ry) dd.mapOf hw (h w' _ (I.tok _) rw')
 ·subst ey;cases (show u=Value.ref b from ry);obtain ⟨z,hd,xs,rel,dd⟩:=Nm I.hok e;obtain ⟨w',hw,rw'⟩:=RelO.some_of (v:=v) (o:=(atKey xs k).map (·.2)) (by rw [l];exact rel.val k);obtain ⟨p,hp,hp2⟩:=Option.map_eq_some_iff.mp hw;refine wpAny_getItem_heap (tupleKind_room_in1 hu) (Kj I.hok eb) dd hp ?_;rw [hp2];exact h w' _ (I.tok _) rw'
theorem d_notIn {Q:Value->Shared->Prop}(hu:A.units+1<cLine)(I:Inv X pins σ H s)(g:DGet H a y o)(ry:RelV y u)(h:∀ s',Inv X pins σ H s'->Q (.bool (!o.isSome)) s') :
  wpAny (model X.prog X.w) A (compareOp .NotIn u (.ref a)) Q E s:=by
 rcases g with ⟨kvs,k,e,ey,l⟩ | ⟨kvs,k,b,e,ey,eb,l⟩
 ·subst ey;obtain ⟨z,hd,vs,rel,dd⟩:=Ny I.hok e;refine wpAny_notIn_of (LF ry) hd dd.mapOf ?_;rw [<- (rel.val k).isSome_eq,<- l];exact h _ (I.tok _)
 ·subst ey;cases (show u=Value.ref b from ry);obtain ⟨z,hd,xs,rel,dd⟩:=Nm I.hok e;refine wpAny_notIn_heap (tupleKind_room_in1 hu) (Kj I.hok eb) hd dd ?_;have q:=(rel.val k).isSome_eq;rw [Option.isSome_map] at q;rw [<- q,<- l];exact h _ (I.tok _)
theorem L9 {h':Heap}{t':Nat}{ob:HO}(I:Inv X pins σ H s)(mu:Mut (H a))(hs:Heap.SameBut a s.heap h')(he:∃ q,h'.get? a=some q)(new:ObjOk X.prog X.w (upd H a ob) h' a ob) :
  Inv X pins σ (upd H a ob) { s with heap:=h',toks:=t' } :=
 I.write (x:=a) (e:=a) mu (.inl rfl) (fun b q hb z=>(hs.2 b hb).trans z) he new
theorem dk_new {P:Program}{w:World}{H':Hp}{h':Heap}{kvs:List (Key × V)}{vs:List (Key × Value)}(z:kvs.length<=sizeLine)(hd:(a == sysModules)=false)(rel:KV kvs vs)(dd:h'.DictOf (C8 P w) a vs) :
  ObjOk P w H' h' a (.dK kvs):=⟨z,hd,vs,rel,dd⟩
theorem Oj {H':Hp}{Q:Unit->Shared->Prop}(hu:A.units+1<cLine)(I:Inv X pins σ H s)(g:DPut H a y v H')(ry:RelV y u)(rv:RelV v r)(h:∀ s',Inv X pins σ H' s'->Q () s') :
  wpAny (model X.prog X.w) A (setItem (.ref a) u r) Q E s:=by
 rcases g with ⟨kvs,k,e,ey,l,eH⟩ | ⟨kvs,k,b,e,ey,eb,l,eH⟩
 ·subst ey eH;obtain ⟨z,hd,vs,rel,dd⟩:=dk_of I.hok e;have hz:vs.length<=sizeLine:=by rw [<- rel.length];exact z
  have hl:(FS kvs k v).length<=sizeLine:=by have:=Fp kvs k v;omega
  refine wpAny_setItem_pairs (hsz:=hz) (LF ry) dd fun h' dd' hs=>h _ ?_;have he:∃ q,h'.get? a=some q:=let ⟨q,_,_,hq,_⟩:=dd';⟨q,hq⟩
  exact L9 I (by rw [e];exact True.intro) hs he (dk_new hl hd (rel.put k rv) dd')
 ·subst ey eH;cases (show u=Value.ref b from ry);obtain ⟨z,hd,xs,rel,dd⟩:=dt_of I.hok e;have hz:xs.length<=sizeLine:=by rw [<- Paired.length rel];exact z
  have hl:(FS kvs k v).length<=sizeLine:=by have:=Fp kvs k v;omega
  refine wpAny_setItem_heap (hsz:=hz) (tupleKind_room_in1 hu) (Kj I.hok eb) dd fun h' dd' hs=>h _ ?_;obtain ⟨q,es,ep,hq,h2,h3,h4,_,h5⟩:=dd';refine L9 I (by rw [e];exact True.intro) hs ⟨q,hq⟩ ⟨hl,hd,_,(rel.put k eb rv).keeps fun c ys ec=>?_,q,es,ep,hq,h2,h3,h4,h5⟩;rw [Aj (JK ec e (fun z=>nomatch z))];exact ec
end
def NoSl (i:Expr):Prop:=∀ ov iv,subscripted i false ov iv=operate [ov,iv] (getItem ov iv)
theorem Nb {prog:Program}{w:World}{A:Around}{E:Value->Shared->Prop}{s:Shared}{env:Env}{value slice:Expr}{pos:Pos}{T id:String}{Q:Value->Shared->Prop}
  (hl:typeLookup (.type T) "__getitem__" = pure (some (.builtin id))) (hs:NoSl slice)
  (h:wpAny (model prog w) A (eval value env) (fun o s₁=>wpAny (model prog w) A (eval slice env) (fun i s₂=>s₂.TypeIs o T/\wpAny (model prog w) A (getItem o i) Q E s₂) E s₁) E s) :
  wpAny (model prog w) A (eval (.Subscript value slice pos) env) Q E s:=by
 refine Subscript_ (wpAny_mono h (fun o s₁ h₁=>wpAny_mono h₁ (fun i s₂ h₂=>?_) fun _ _ x=>x) fun _ _ x=>x);obtain ⟨hT,h₂⟩:=h₂;unfold subscriptTail;refine qbA ?_;rw [getitemInPython_of_ne hT.not_modules];refine qbA (wpAny_specialOf hT hl ?_)
 have fin:wpAny (model prog w) A (subscripted slice false o i) (fun r s₃=>wpAny (model prog w) A (letTemporaryGo value o r >>= fun _=>pure r) Q E s₃) E s₂:=by
  rw [hs o i];exact wpAny_operating (wpAny_mono h₂ (fun r s₃ h₃=>qbA (wpAny_letTemporaryGo (qcA h₃))) fun _ _ x=>x)
 first
  | exact qcA (qbA fin)
  | exact qbA (qcA (qbA fin))
  | exact qbA fin
theorem LS {X:Cx}{pins:List (Addr × Obj)}{σ:St}{H:Hp}{s:Shared}{a:Addr}{y:V}{o:Option V}(I:Inv X pins σ H s)(g:DGet H a y o):s.TypeIs (.ref a) "dict" := by
 rcases g with ⟨kvs,k,e,_,_⟩ | ⟨kvs,k,b,e,_,_,_⟩
 ·obtain ⟨_,_,vs,_,dd⟩:=Ny I.hok e;exact dd.typeIs
 ·obtain ⟨_,_,xs,_,dd⟩:=Nm I.hok e;exact dd.typeIs
def tDGet (td ty:TE):TE:=fun σ H Q=>td σ H fun x H1=>ty σ H1 fun y H2=>∃ a v,x = .ref a/\DGet H2 a y (some v)/\Q v H2
def Nh (ty td:TE):TE:=fun σ H Q=>ty σ H fun y H1=>td σ H1 fun x H2=>∃ a o,x = .ref a/\DGet H2 a y o/\Q (.bl (!o.isSome)) H2
def sDPut (td ty tv:TE):TS:=fun D σ H=>tv σ H fun v H1=>td σ H1 fun x H2=>ty σ H2 fun y H3=>∃ a H4,x = .ref a/\DPut H3 a y v H4/\D.nx σ H4
section
variable {X:Cx}{o i e value:Expr}{pos pos' tpos:Pos}{td ty tv:TE}
theorem pe_dget (hu:X.A.units+1<cLine)(ho:PE X o td)(hi:PE X i ty)(hs:NoSl i):PE X (.Subscript o i pos) (tDGet td ty):=by
 intro pins s σ H Q I h;refine Nb PySem.F.slot_dict_getitem.lookup hs (thn (ho pins s σ H _ I h) fun u s1 ⟨x,H1,I1,rx,q1⟩=>thn (hi pins s1 σ H1 _ I1 q1) fun iv s2 ⟨y,H2,I2,ry,a,v,ex,g,q2⟩=>?_);subst ex;obtain rfl:u=Value.ref a:=rx;exact ⟨LS I2 g,OM hu I2 g ry fun w' s3 I3 rw'=>⟨v,H2,I3,rw',q2⟩⟩
theorem Oi (hu:X.A.units+1<cLine)(hi:PE X i ty)(ho:PE X o td):PC X .NotIn i o (Nh ty td):=by
 intro pins s σ H Q I h;refine thn (hi pins s σ H _ I h) fun iv s1 ⟨y,H1,I1,ry,q1⟩=>thn (ho pins s1 σ H1 _ I1 q1) fun u s2 ⟨x,H2,I2,rx,a,ov,ex,g,q2⟩=>?_;subst ex;obtain rfl:u=Value.ref a:=rx;exact d_notIn hu I2 g ry fun s3 I3=>⟨.bl (!ov.isSome),H2,I3,rfl,q2⟩
theorem ps_dput (hu:X.A.units+1<cLine)(ho:PE X o td)(hi:PE X i ty)(hv:PE X value tv)(hs:swapsWith value (some (.Subscript o i pos')) pos.line X.env=pure false) :
  PS X (.Assign [.Subscript o i pos'] value pos) (sDPut td ty tv):=by
 intro pins s σ H D I h;refine wpAny_Assign_Subscript (thn (hv pins s σ H _ I h) fun r s1 ⟨v,H1,I1,rv,q1⟩=>thn (ho pins s1 σ H1 _ I1 q1) fun u s2 ⟨x,H2,I2,rx,q2⟩=>thn (hi pins s2 σ H2 _ I2 q2) fun iv s3 ⟨y,H3,I3,ry,a,H4,ex,g,q3⟩=>?_) hs;subst ex;obtain rfl:u=Value.ref a:=rx;exact Oj hu I3 g ry rv fun s4 I4=>⟨σ,H4,I4,q3⟩
end
theorem Lh {P:Program}{w:World}{H:Hp}(h:Heap)(hb:sysModules<h.objs.size):ObjOk P w H (h.push { cls:=.type "dict",data:=.dict #[] }) h.objs.size (.dK []) :=
 ⟨qyB _,beq_eq_false_iff_ne.mpr (Ne.symm (quB hb)),[],.nil,Heap.DictOf.new h⟩
theorem dt_empty {P:Program}{w:World}{H:Hp}(h:Heap)(hb:sysModules<h.objs.size):ObjOk P w H (h.push { cls:=.type "dict",data:=.dict #[] }) h.objs.size (.dT []) :=
 ⟨qyB _,beq_eq_false_iff_ne.mpr (Ne.symm (quB hb)),[],.nil,_,#[],0,qgB _ rfl,⟨rfl,rfl,rfl⟩,rfl,rfl,List.nodup_nil⟩
def tDNewK:TE:=fun _ H Q=>∀ p,H p=none->Q (.ref p) (upd H p (.dK []))
def MT:TE:=fun _ H Q=>∀ p,H p=none->Q (.ref p) (upd H p (.dT []))
section
variable {X:Cx}{pos:Pos}
theorem Lo:PE X (.Dict [] [] pos) tDNewK:=fun pins s σ H Q I h =>
 wpAny_Dict_empty ⟨.ref s.heap.objs.size,_,I.laid (a:=s.heap.objs.size) (o:=.dK []) (t':=s.toks) (fun _ _ q=>qfB _ q) (qaB _) (Lh s.heap I.big),rfl,h _ (I.hok.fresh (qaB _))⟩
theorem pe_dnewT:PE X (.Dict [] [] pos) MT:=fun pins s σ H Q I h =>
 wpAny_Dict_empty ⟨.ref s.heap.objs.size,_,I.laid (a:=s.heap.objs.size) (o:=.dT []) (t':=s.toks) (fun _ _ q=>qfB _ q) (qaB _) (dt_empty s.heap I.big),rfl,h _ (I.hok.fresh (qaB _))⟩
end
def Mc:List (TE × TE)->St->Hp->(List (V × V)->Hp->Prop)->Prop
 | [],_,H,Q=>Q [] H
 | (tk,tv)::r,σ,H,Q=>tk σ H fun x H1=>tv σ H1 fun y H2=>Mc r σ H2 fun ps H3=>Q ((x,y)::ps) H3
abbrev VV:List (V × V)->List (Value × Value)->Prop:=Paired fun p q=>RelV p.1 q.1/\RelV p.2 q.2
def PPs (X:Cx)(pos:Pos)(keys:List (Option Expr))(values:List Expr)(trs:List (TE × TE)):Prop :=
 ∀ (pins:List (Addr × Obj)) (s:Shared) (σ:St) (H:Hp) (Q:List (V × V)->Hp->Prop),Inv X pins σ H s->Mc trs σ H Q ->
  wpAny (model X.prog X.w) X.A (evalPairs (pairTrees keys values X.env pos)) (fun vs s'=>∃ ps H',Inv X pins σ H' s'/\VV ps vs/\Q ps H') X.xe s
theorem NQ {X:Cx}{pos:Pos}:PPs X pos [] [] []:=fun pins s σ H Q I h=>pairTrees_nil_walk ⟨[],H,I,.nil,h⟩
theorem M0 {X:Cx}{pos:Pos}{k v:Expr}{ks:List (Option Expr)}{vs:List Expr}{tk tv:TE}{trs:List (TE × TE)}(hk:PE X k tk)(hv:PE X v tv)(hr:PPs X pos ks vs trs) :
  PPs X pos (some k::ks) (v::vs) ((tk,tv)::trs):=fun pins s σ H Q I h =>
 pairTrees_cons_walk (thn (hk pins s σ H _ I h) fun u s1 ⟨x,H1,I1,rx,q1⟩=>thn (hv pins s1 σ H1 _ I1 q1) fun w2 s2 ⟨y,H2,I2,ry,q2⟩ =>
  thn (hr pins s2 σ H2 _ I2 q2) fun ws s3 ⟨ps,H3,I3,rel,q3⟩=>⟨(x,y)::ps,H3,I3,.cons ⟨rx,ry⟩ rel,q3⟩)
def Hm (kvs more:List (Key × V)):List (Key × V):=more.foldl (fun acc kv=>FS acc kv.1 kv.2) kvs
theorem KV.merge:∀ {more:List (Key × V)}{rs:List (Key × Value)}{kvs:List (Key × V)}{vs:List (Key × Value)},KV more rs->KV kvs vs->KV (Hm kvs more) (merged vs rs):=by
 intro more rs kvs vs r;unfold KV at r
 induction r generalizing kvs vs with
 | nil=>intro q;exact q
 | @cons p q ps qs h t ih =>
  intro r0
  have e:KV (FS kvs p.1 p.2) (stored vs q.1 q.2):=by
   have:=r0.put p.1 h.2;rw [<- h.1];exact this
  exact ih e
theorem GN:∀ (more kvs:List (Key × V)),(Hm kvs more).length<=kvs.length+more.length
 | [],kvs=>by show kvs.length<=kvs.length+0;omega
 | p::r,kvs=>by
  have h1:=GN r (FS kvs p.1 p.2);have h2:=Fp kvs p.1 p.2;show (Hm (FS kvs p.1 p.2) r).length<=_;rw [qfA];omega
theorem JM {P:Program}{w:World}:∀ {kvs:List (Key × V)}{ws:List (Value × Value)},VV (kvs.map fun kv=>(kV kv.1,kv.2)) ws->∃ rs,Carries (C8 P w) ws rs/\KV kvs rs
 | [],_,r=>by rw [List.map_nil] at r;cases r;exact ⟨[],True.intro,.nil⟩
 | p::kvs,_,r=>by
  rw [qxA] at r
  cases r with
  | @cons a b as bs h t =>
   obtain ⟨rs,c,q⟩:=JM (P:=P) (w:=w) t;obtain ⟨b1,b2⟩:=b;exact ⟨(p.1,b2)::rs,⟨LF h.1,rfl,c⟩,.cons ⟨rfl,h.2⟩ q⟩
def tDisp (trs:List (TE × TE)):TE:=fun σ H Q=>∀ p,H p=none->Mc trs σ (upd H p (.dK [])) fun ps H2=>H2 p=some (.dK [])/\∃ kvs:List (Key × V),ps=kvs.map (fun kv=>(kV kv.1,kv.2))/\kvs.length<=15/\Q (.ref p) (upd H2 p (.dK (Hm [] kvs)))
theorem Nq {X:Cx}{pos:Pos}{keys:List (Option Expr)}{values:List Expr}{trs:List (TE × TE)}(h:PPs X pos keys values trs)(hall:keys.all (·.isSome)=true)(hl:keys.length=values.length)(h0:keys ≠ [])
  (h15:keys.length<=15):PE X (.Dict keys values pos) (tDisp trs):=by
 intro pins s σ H Q I q;have hn:=I.hok.fresh (qaB s.heap.objs.size);have I1:=I.laid (a:=s.heap.objs.size) (o:=.dK []) (h':=s.heap.push { cls:=.type "dict",data:=.dict #[] }) (t':=s.toks) (fun _ _ q=>qfB _ q) (qaB _) (Lh s.heap I.big);refine wpAny_Dict_walk (knd:=C8 X.prog X.w) hall hl h0 h15 (thn (h pins _ σ _ _ I1 (q _ hn)) fun ws s2 ⟨ps,H2,I2,rel,e,kvs,ep,lk,q2⟩=>?_);subst ep;obtain ⟨rs,c,rk⟩:=JM (P:=X.prog) (w:=X.w) rel;obtain ⟨z,hd,vs0,r0,dd⟩:=dk_of I2.hok e;cases r0;refine ⟨rs,c,dd,fun h' dd' hs=>⟨.ref s.heap.objs.size,_,?_,rfl,q2⟩⟩
 have hz:(Hm [] kvs).length<=sizeLine:=by
  have h1:=GN kvs [];rw [List.length_nil] at h1;rw [qhB];omega
 have he:∃ q,h'.get? s.heap.objs.size=some q:=let ⟨q,_,_,hq,_⟩:=dd';⟨q,hq⟩
 exact L9 I2 (by rw [e];exact True.intro) hs he (dk_new hz hd (rk.merge .nil) dd')
theorem len_app (x y:Str):(x++y).length=x.length+y.length:=by
 show (x.cps++y.cps).size=_;rw [Array.size_append]
 rfl
theorem IU (a b:Nat):([a] < [b]) ↔ a<b:=by
 rw [List.cons_lt_cons_iff];simp
def Hk (scope:Scope)(env:Env):List (Str × Addr) :=
 (scope.names.filterMap fun p=>if p.2 == NameKind.free then (env.cells.lookup p.1).map fun c=>(p.1,c) else none).reverse
theorem F0 {env:Env}:∀ (names:List (Str × NameKind)) (acc:List (Str × Addr)),(∀ y∈names,y.2 = .free->∃ c,env.cells.lookup y.1=some c) ->
  (forIn names acc fun (x:Str × NameKind) (cs:List (Str × Addr))=>(match x with
   | (name,kind)=>if (kind == NameKind.free)=true then do
     let c <- cellOf env name
     pure (ForInStep.yield ((name,c)::cs))
    else pure (ForInStep.yield cs):Sem (ForInStep (List (Str × Addr))))) =
   pure ((names.filterMap fun p=>if p.2 == NameKind.free then (env.cells.lookup p.1).map fun c=>(p.1,c) else none).reverse++acc)
 | [],acc,_=>rfl
 | (n,k)::r,acc,h=>by
  rw [List.forIn_cons];by_cases hk:k = .free
  ·subst hk;obtain ⟨c,hc⟩:=h (n,.free) qoA rfl;have e1:cellOf env n=pure c:=by unfold cellOf;rw [hc]
   have ih:=F0 r ((n,c)::acc) fun y hy=>h y (qpA _ hy);simp only [beq_self_eq_true,if_true,e1,pure_bind,List.filterMap_cons,hc,Option.map_some,List.reverse_cons,qyA,List.singleton_append];exact ih
  ·have hb:(k == NameKind.free)=false:=by simpa using hk
   have ih:=F0 r acc fun y hy=>h y (qpA _ hy);simp only [hb,Bool.false_eq_true,if_false,pure_bind,List.filterMap_cons];exact ih
theorem Jl {scope:Scope}{env:Env}(h:∀ y∈scope.names,y.2 = .free->∃ c,env.cells.lookup y.1=some c):closureFor scope env=pure (Hk scope env):=by
 have e:=F0 (env:=env) scope.names [] h;unfold closureFor;rw [qzA] at e;exact (congrArg (· >>= pure) e).trans (by rfl)
theorem clOf_mem {scope:Scope}{env:Env}{y:Str}{c:Addr}(h:(y,c)∈Hk scope env):(y,NameKind.free)∈scope.names/\env.cells.lookup y=some c:=by
 unfold Hk at h;obtain ⟨⟨n,k⟩,hp,e⟩:=List.mem_filterMap.mp (List.mem_reverse.mp h);by_cases hk:k = .free
 ·subst hk;simp only [beq_self_eq_true,if_true] at e
  cases hc:env.cells.lookup n with
  | none=>rw [hc] at e;cases e
  | some c' =>
   rw [hc] at e;have e':(n,c')=(y,c):=qdB e;cases e';exact ⟨hp,hc⟩
 ·have hb:(k == NameKind.free)=false:=by simpa using hk
  simp only [hb,Bool.false_eq_true,if_false] at e;cases e
theorem CU {scope:Scope}{env:Env}{y:Str}{c:Addr}(h:(Hk scope env).lookup y=some c):env.cells.lookup y=some c:=(clOf_mem (PySem.mem_of_lookup h)).2
theorem GS {α:Type}{y:Str}:∀ {l:List (Str × α)}{c:α},(y,c)∈l->∃ c',l.lookup y=some c'
 | (n,a)::r,c,h=>by
  by_cases e:y=n
  ·subst e;exact ⟨a,by simp [List.lookup_cons]⟩
  ·have hb:(y == n)=false:=by simpa using e
   rcases qkA.mp h with h|h
   ·cases h;exact absurd rfl e
   ·obtain ⟨c',h'⟩:=GS h;exact ⟨c',by simp [List.lookup_cons,hb,h']⟩
theorem HD {scope:Scope}{env:Env}{y:Str}{c:Addr}(h1:(y,NameKind.free)∈scope.names)(h2:env.cells.lookup y=some c):(Hk scope env).lookup y=some c:=by
 have m:(y,c)∈Hk scope env:=by
  unfold Hk;exact List.mem_reverse.mpr (List.mem_filterMap.mpr ⟨(y,.free),h1,by simp [h2]⟩)
 obtain ⟨c',h'⟩:=GS m;have:=CU h';rw [h2] at this;cases this;exact h'
theorem HF {scope:Scope}{env:Env}(hcell:∀ y∈scope.names,y.2 ≠ .cell){y:Str}(h:(relabel scope env).names.lookup y=some .cell\/(relabel scope env).names.lookup y=some .free):(y,NameKind.free)∈scope.names:=by
 have m:∃ k,(k = .cell\/k = .free)/\(y,k)∈(relabel scope env).names:=by
  rcases h with h|h
  ·exact ⟨_,.inl rfl,PySem.mem_of_lookup h⟩
  ·exact ⟨_,.inr rfl,PySem.mem_of_lookup h⟩
 obtain ⟨k,hk,hm⟩:=m;unfold relabel at hm;obtain ⟨⟨n,k'⟩,hp,e⟩:=qmA.mp hm;dsimp only at e;by_cases hf:k' = .free
 ·subst hf;split at e<;>(cases e;exact hp)
 ·have hb:(k' == NameKind.free)=false:=by simpa using hf
  rw [hb,Bool.false_and,Bool.false_and,if_neg (by decide)] at e;cases e;rcases hk with hk|hk
  ·exact absurd hk (hcell _ hp)
  ·exact absurd hk hf
def BO (X:Cx)(N:List Str)(scope:Scope)(C:Addr)(s:Shared)(H:Hp)(fp:List Addr):Cx where
 prog:=X.prog
 w:=X.w
 K:=X.K
 mg:=X.mg
 base:=X.base
 A:=X.A
 N:=N
 s₀:=s
 H₀:=H
 env:=compEnvC scope (Hk scope X.env) C X.env
 outer:=X.stack
 stack:=X.stack
 ex:=fp
 fn:=fun _=>false
 calm:=true
 pn:=[]
 xe:=fun _ _=>False
def Caps (X:Cx)(scope:Scope):List Str->List Nat->Prop
 | [],[]=>True
 | x::xs,i::is=>(X.N[i]? = some x/\(X.env.scope.names.lookup x=some .cell\/X.env.scope.names.lookup x=some .free)/\scope.names.lookup x=some .free)/\Caps X scope xs is
 | _,_=>False
theorem Caps.len {X:Cx}{scope:Scope}:∀ {xs:List Str}{is:List Nat},Caps X scope xs is->is.length=xs.length
 | [],[],_=>rfl
 | _::_,_::_,h=>congrArg (· + 1) (Caps.len h.2)
 | [],_::_,h=>h.elim
 | _::_,[],h=>h.elim
theorem Caps.at {X:Cx}{scope:Scope}:∀ {xs:List Str}{is:List Nat}{j:Nat}{x:Str},Caps X scope xs is->xs[j]? = some x->∃ i,is[j]? = some i/\X.N[i]? = some x/\(X.env.scope.names.lookup x=some .cell\/X.env.scope.names.lookup x=some .free)/\scope.names.lookup x=some .free
 | [],[],_,_,_,e=>by simp at e
 | y::_,i::_,0,x,h,e=>by
  simp at e;subst e;exact ⟨i,rfl,h.1⟩
 | _::xs,_::is,j+1,x,h,e=>by
  obtain ⟨i,h1,h2⟩:=Caps.at (j:=j) h.2 (by simpa using e);exact ⟨i,by simpa using h1,h2⟩
 | [],_::_,_,_,h,_=>h.elim
 | _::_,[],_,_,h,_=>h.elim
def inner (cap:List Nat)(σ:St):St:=none::cap.map fun i=>(σ[i]?).join
def PTs (X:Cx)(ifs:List Expr)(t:TT):Prop :=
 ∀ (pins:List (Addr × Obj)) (s:Shared) (σ:St) (H:Hp) (Q:Bool->Hp->Prop),Inv X pins σ H s->t σ H Q ->
  wpAny (model X.prog X.w) X.A (forIn ifs true fun c r=>if r=true then do let ok <- isTrue c X.env (eval c X.env);pure (ForInStep.yield ok) else pure (ForInStep.yield r)) (TP X pins σ Q) X.xe s
def Jh:TT:=fun _ H Q=>Q true H
theorem Er {X:Cx}:PTs X [] Jh:=fun _ _ _ H _ I h=>wpAny_tests_nil ⟨H,I,h⟩
theorem HH {prog:Program}{w:World}{A:Around}{R:Result->Shared->Prop}{s:Shared}{elt target iter:Expr}{ifs:List Expr}{scope:Scope}{pos:Pos}{it acc:Value}{env:Env}(I:Nat->Shared->Prop)
  (turn:∀ n s,I n s->wpAny (model prog w) A (pyNext it) (fun r s₁=>match r with
   | none=>R (.ok .next) s₁
   | some v=>wpAny (model prog w) A (letOwnedTupleGo target it v) (fun _ s₁'=>wpAny (model prog w) A (assign target env v) (fun _ s₂ =>
     wpAny (model prog w) A (forIn ifs true fun c r=>if r=true then do let ok <- isTrue c env (eval c env);pure (ForInStep.yield ok) else pure (ForInStep.yield r)) (fun ok s₃ =>
      if ok=true then wpAny (model prog w) A (eval elt env) (fun x s₄ =>
       wpAny (model prog w) A (call (.builtin "list.append") [acc,x]) (fun _ s₅=>∃ m,m<n/\I m s₅) (fun _ _=>False) s₄) (fun _ _=>False) s₃
      else ∃ m,m<n/\I m s₃) (fun _ _=>False) s₂) (fun _ _=>False) s₁') (fun _ _=>False) s₁) (fun _ _=>False) s)
  (n:Nat) (h:I n s) :
  codeAny (model prog w) A (.compLoop (.ListComp elt [⟨target,iter,ifs,0⟩] scope pos) 0 it acc env) R s:=by
 refine codeAny_loop rfl I (fun n s hI=>?_) n h;show wpAny _ A ((compTurn (.ListComp elt [⟨target,iter,ifs,0⟩] scope pos) 0 it acc env).onRaise (fun x=>do noteFrame x env;theTreesLotGoes x)) _ _ s;refine wpAny_noted ?_;rw [compTurn_list];refine qbA (wpAny_standAt (qbA (wpAny_mono (turn n s hI) (fun r s₁ h₁=>?_) fun _ _ h'=>h'.elim)))
 cases r with
 | none=>exact qcA h₁
 | some v =>
  refine qbA (wpAny_mono h₁ (fun _ s₁' h₁'=>?_) fun _ _ h'=>h'.elim);refine qbA (wpAny_mono h₁' (fun _ s₂ h₂=>qbA (wpAny_mono h₂ (fun ok s₃ h₃=>?_) fun _ _ h'=>h'.elim)) fun _ _ h'=>h'.elim)
  cases ok with
  | false=>exact qcA ⟨rfl,h₃⟩
  | true =>
   exact qbA (qbA (wpAny_mono h₃ (fun x s₄ h₄=>qbA (wpAny_mono h₄ (fun _ s₅ h₅=>qcA (qcA ⟨rfl,h₅⟩)) fun _ _ h'=>h'.elim)) fun _ _ h'=>h'.elim))
def Jb (cap:List Nat)(wi:TI)(tc:TT)(te:TE):TE:=fun σ H Q=>wi σ H fun J H1=>∀ p,H1 p=none ->
 ∃ W:Nat->Nat->List V->Hp->Prop,(∃ m,W 0 m [] (upd H1 p (.lst [])))/\∀ i m xs H2,W i m xs H2 ->
  (J.stop i H2/\Q (.ref p) H2)\/(J.go i H2/\∃ N:List V->Hp->Prop,(∀ xs' H',N xs' H'->∃ m',m'<m/\W (i+1) m' xs' H') /\
   ∀ x H3,J.yld i H2 x H3->tc ((inner cap σ).set 0 (some x)) H3 fun b H5=>if b=true then te ((inner cap σ).set 0 (some x)) H5 fun v H6=>H6 p=some (.lst xs)/\xs.length<sizeLine/\N (xs++[v]) (upd H6 p (.lst (xs++[v]))) else N xs H5)
section
variable {X:Cx}{pins:List (Addr × Obj)}{σ:St}
structure CompScope (X:Cx)(scope:Scope):Prop where
 cell:∀ y∈scope.names,y.2 ≠ .cell
 kind:scope.kind = .function
 names:∀ y∈scope.names,y.2 = .local -> scope.names.lookup y.1=some .local
 free:∀ y∈scope.names,y.2 = .free->X.env.scope.names.lookup y.1=some .cell\/X.env.scope.names.lookup y.1=some .free
theorem CompScope.clos {scope:Scope}{H:Hp}{s:Shared}(S:CompScope X scope)(I:Inv X pins σ H s):closureFor scope X.env=pure (Hk scope X.env) :=
 Jl fun y hy hf=>I.ok.has y.1 (S.free y hy hf)
theorem Mr {scope:Scope}{x:Str}{cn:List Str}{cap:List Nat}{s3:Shared}{H3:Hp}{fp:List Addr}{h₁:Heap}{tk:Nat}{H2:Hp}(S:CompScope X scope)(I:Inv X pins σ H3 s3)(hc:X.calm=true)(hcap:Caps X scope cn cap)
  (f2:∀ b∈fp,GK X pins H2 b) (lt:∀ b∈fp,b<s3.heap.objs.size) (keep:∀ b o,s3.heap.get? b=some o->h₁.get? b=some o) (hns:h₁.Ns s3.heap.objs.size fun _=>none) :
  Inv (BO X (x::cn) scope s3.heap.objs.size s3 H3 fp) [] (inner cap σ) H3 { s3 with heap:=h₁,toks:=tk }:=by
 have noS:∀ b o,X.base.get? b=some o->b<X.s₀.heap.objs.size:=fun b o e=>qwB (qeB e) I.ok.bsz
 refine ⟨⟨I.ok.mod,S.kind,I.ok.glob,I.ok.blt,qaB _,fun y z c h1 h2=>I.ok.inj y z c (CU h1) (CU h2),fun y hy=>?_,fun y c h=>?_,fun _=>I.ok.hd hc,I.ok.frames,.inl rfl,fun b hb=>⟨quB (lt b hb),fun y c h=>(f2 b hb).2.2.2.2.1 y c (CU h)⟩,
  I.bs,qbB I.ok.bsz I.sz,fun b o e hb=>?_,fun b hb z=>?_,I.stack,I.stkFree⟩,rfl,I.bare,Un.kept keep,⟨_,hns,fun i y v e1 e2 e3=>?_⟩,fun y c e=>?_,I.hok.fresh (qaB _),fun y c e=>I.freeC y c (CU e),fun p hp=>absurd (show p∈([]:List (Addr × Obj)) from hp) (by simp),I.hok.kept keep,?_⟩
 ·have m:=HF S.cell hy;obtain ⟨c,hc'⟩:=I.ok.has y (S.free _ m rfl);exact ⟨c,HD m hc'⟩
 ·cases h
 ·rcases (f2 b hb).2.2.2.1 with z|z
  ·exact I.ok.noex b o e z
  ·exact absurd (qwB (noS b o e) z) (qcB _)
 ·rcases qkA.mp (I.stkSub b z) with e|e
  ·exact (f2 b hb).2.1 e
  ·exact (f2 b hb).2.2.1 e
 ·cases i with
  | zero =>
   have e2:(some none:Option (Option V))=some (some v):=e2;cases e2
  | succ j =>
   have e1:cn[j]? = some y:=e1;obtain ⟨k,hk,hN,hkind,hfr⟩:=hcap.at e1;have e2:(cap.map fun i=>(σ[i]?).join)[j]? = some (some v):=e2;rw [qvA,hk] at e2;have e2:(σ[k]?).join=some v:=qdB e2
   have e2:σ[k]? = some (some v):=by
    cases q:σ[k]? with
    | none=>rw [q] at e2;cases e2
    | some o=>rw [q] at e2;cases o with
     | none=>cases e2
     | some v'=>have e2:some v'=some v:=e2;rw [e2]
   obtain ⟨m,hn,hl⟩:=I.loc;obtain ⟨u,r,l⟩:=hl k y v hN e2 (.inr hkind);refine ⟨u,r,?_⟩;rcases l with ⟨kl,_⟩ | ⟨_,c,hc',o,ho,hd⟩
   ·have kl:X.env.scope.names.lookup y=some .local := kl;rw [kl] at hkind;rcases hkind with z|z<;>cases z
   ·refine .inr ⟨?_,c,HD (PySem.mem_of_lookup hfr) hc',o,keep c o ho,hd⟩;rcases e3 with z|z
    ·
     exfalso;have z:(relabel scope X.env).names.lookup y=some .local := z;have hm:=PySem.mem_of_lookup z;unfold relabel at hm;obtain ⟨⟨n,k'⟩,hp,e⟩:=qmA.mp hm;dsimp only at e
     have hl2:(y,NameKind.local)∈scope.names:=by
      split at e
      ·cases e
      ·cases e;exact hp
     have:=S.names _ hl2 rfl;rw [hfr] at this;cases this
    ·exact z
 ·obtain ⟨v,o,ho,hd⟩:=I.cell y c (CU e);exact ⟨v,o,keep c o ho,hd⟩
 ·show (inner cap σ).length=(x::cn).length;unfold inner;rw [qfA,qdA,hcap.len,qfA]
theorem Je {scope:Scope}{N:List Str}{C:Addr}{s3 s':Shared}{H2 H3 Hf:Hp}{fp:List Addr}{pins':List (Addr × Obj)}{σ':St}(I:Inv X pins σ H3 s3)(J:Inv (BO X N scope C s3 H3 fp) pins' σ' Hf s')(f2:∀ b∈fp,GK X pins H2 b):Inv X pins σ Hf s' :=
 I.call' (ch:=fp) J.os J.base J.hok J.bare fun b hb=>⟨(f2 b hb).2.2.2.1,(f2 b hb).2.1,(f2 b hb).2.2.2.2.1,(f2 b hb).2.2.2.2.2⟩
theorem K7 {scope:Scope}{x:Str}{px pos:Pos}{elt iter:Expr}{ifs:List Expr}{cn:List Str}{cap:List Nat}{s2:Shared}{H2:Hp}{it:Addr}{fp:List Addr}{tn:Nat->Heap->Prop}{J:It}{tc:TT}{te:TE}{Q:VK}{RR:Value->Addr->Result->Shared->Prop}{E:Value->Shared->Prop}
  (S:CompScope X scope) (I2:Inv X pins σ H2 s2) (hc:X.calm=true) (hcap:Caps X scope cn cap) (hx:scope.names.lookup x=some .local) (hnd:(x::cn).Nodup)
  (T:Turn X.prog X.w X.K (.Name x px) J fp it tn) (st2:tn 0 s2.heap) (f2:∀ b∈fp,GK X pins H2 b)
  (body:∀ (C:Addr) (s:Shared) (H:Hp) (fp:List Addr),PTs (BO X (x::cn) scope C s H fp) ifs tc/\PE (BO X (x::cn) scope C s H fp) elt te)
  (q:∀ p,H2 p=none->∃ W:Nat->Nat->List V->Hp->Prop,(∃ m,W 0 m [] (upd H2 p (.lst [])))/\∀ i m xs H3,W i m xs H3 ->
   (J.stop i H3/\Q (.ref p) H3)\/(J.go i H3/\∃ N:List V->Hp->Prop,(∀ xs' H',N xs' H'->∃ m',m'<m/\W (i+1) m' xs' H') /\
    ∀ v H4,J.yld i H3 v H4->tc ((inner cap σ).set 0 (some v)) H4 fun b H5=>if b=true then te ((inner cap σ).set 0 (some v)) H5 fun v H6=>H6 p=some (.lst xs)/\xs.length<sizeLine/\N (xs++[v]) (upd H6 p (.lst (xs++[v]))) else N xs H5))
  (hRR:∀ (p C:Addr) (s3 s':Shared) (H3 Hf:Hp) (σ':St),Inv X pins σ H3 s3->s3.heap.objs.size=C->Inv (BO X (x::cn) scope C s3 H3 fp) [] σ' Hf s'->Q (.ref p) Hf->RR (.ref p) C (.ok .next) s') :
  wpAny (model X.prog X.w) X.A (newList []) (fun acc s₃=>wpAny (model X.prog X.w) X.A (newFunctionEnv scope X.env.globals (Hk scope X.env) [] X.env.qual none .none (some X.env)) (fun cenv s₄ =>
   codeAny (model X.prog X.w) X.A (.compStart (.ListComp elt [⟨.Name x px,iter,ifs,0⟩] scope pos) 0 (.ref it) acc { cenv with scope:=relabel scope X.env }) (RR acc cenv.locals) s₄) E s₃) E s2:=by
 refine wpAny_newObj_type (wpAny_newFunctionEnv S.cell (by intro y hy;simp at hy) (fun h₁ hns₁ hsb₁=>?_) S.kind);dsimp only at hns₁ hsb₁ ⊢;have hfr:H2 s2.heap.objs.size=none:=I2.hok.fresh (qaB _);obtain ⟨W,⟨m0,w0⟩,turn⟩:=q _ hfr
 have I3:Inv X pins σ (upd H2 s2.heap.objs.size (.lst [])) { s2 with heap:=s2.heap.push { cls:=.type "list",data:=.seq ([]:List Value).toArray } } :=
  I2.lnew (its:=[]) (t':=s2.toks) .nil (qyB _)
 generalize hs3:({ s2 with heap:=s2.heap.push { cls:=.type "list",data:=.seq ([]:List Value).toArray } }:Shared)=s3 at I3;have hs3h:s3.heap=s2.heap.push { cls:=.type "list",data:=.seq ([]:List Value).toArray }:=by rw [<- hs3]
 have hst3:tn 0 s3.heap:=T.keep _ _ _ st2 fun b hb o e=>by rw [hs3h];exact qfB _ e
 have ltf:∀ b∈fp,b<s3.heap.objs.size:=fun b hb=>by
  obtain ⟨o,e,_⟩:=T.obj _ _ hst3 b hb;exact qeB e
 have hC:(s2.heap.push { cls:=.type "list",dict:=none,data:=.seq ([]:List Value).toArray }).objs.size=s3.heap.objs.size:=by rw [hs3h]
 rw [hC] at hns₁ hsb₁ ⊢
 have keep:∀ b o,s3.heap.get? b=some o->h₁.get? b=some o:=fun b o e=>by
  refine hsb₁.extBut b o (quB (qeB e)) (qfB _ ?_);rw [hs3h] at e;exact e
 have J4:Inv (BO X (x::cn) scope s3.heap.objs.size s3 (upd H2 s2.heap.objs.size (.lst [])) fp) [] (inner cap σ) (upd H2 s2.heap.objs.size (.lst [])) { s3 with heap:=h₁,toks:=s2.toks+([]:List (Str × Value)).length } :=
  Mr S I3 hc hcap f2 ltf keep hns₁
 have st4:tn 0 h₁:=T.keep _ _ _ hst3 fun b hb o e=>keep b o e
 have fr4:∀ b∈fp,(upd H2 s2.heap.objs.size (.lst [])) b=none:=fun b hb=>by
  obtain ⟨o,e,_⟩:=T.obj _ _ st2 b hb;rw [Aj (quB (qeB e))];exact (f2 b hb).1
 have hst:({ s2 with heap:=h₁,toks:=s2.toks+([]:List (Str × Value)).length }:Shared) = { s3 with heap:=h₁,toks:=s2.toks+([]:List (Str × Value)).length }:=by rw [<- hs3]
 have loop:codeAny (model X.prog X.w) X.A (.compLoop (.ListComp elt [⟨.Name x px,iter,ifs,0⟩] scope pos) 0 (.ref it) (.ref s2.heap.objs.size) (compEnvC scope (Hk scope X.env) s3.heap.objs.size X.env))
   (RR (.ref s2.heap.objs.size) s3.heap.objs.size) { s2 with heap:=h₁,toks:=s2.toks+([]:List (Str × Value)).length }:=by
  rw [hst];generalize hX':BO X (x::cn) scope s3.heap.objs.size s3 (upd H2 s2.heap.objs.size (.lst [])) fp=X' at J4
  have hfpk:∀ {Hc:Hp},(∀ b∈fp,Hc b=none)->∀ b∈fp,GK X' [] Hc b:=fun {Hc} hn b hb=>by
   subst hX';refine ⟨hn b hb,(J4.ok.exf b hb).1,J4.ok.exfs b hb,.inl hb,(J4.ok.exf b hb).2,fun p hp=>absurd (show p∈([]:List (Addr × Obj)) from hp) (by simp)⟩
  refine HH (fun n s'=>∃ i xs Hc,Inv X' [] (inner cap σ) Hc s'/\tn i s'.heap/\(∀ b∈fp,Hc b=none)/\W i n xs Hc) ?_ m0 ⟨0,[],_,J4,st4,fr4,w0⟩;rintro n s5 ⟨i,xs,Hc,I5,st5,fr5,w5⟩;have B:=body s3.heap.objs.size s3 (upd H2 s2.heap.objs.size (.lst [])) fp;rcases turn i n xs Hc w5 with ⟨stop,qn⟩ | ⟨go,N,hN,step⟩
  ·subst hX';refine thn (T.done (BO X (x::cn) scope s3.heap.objs.size s3 (upd H2 s2.heap.objs.size (.lst [])) fp) rfl rfl rfl rfl i [] s5 (inner cap σ) Hc (fun _ _=>False) I5 (hfpk fr5) st5 stop) fun r s6 ⟨hr,I6⟩=>?_;subst hr;exact hRR _ _ s3 s6 _ Hc _ I3 rfl I6 qn
  ·subst hX';refine thn (T.item (BO X (x::cn) scope s3.heap.objs.size s3 (upd H2 s2.heap.objs.size (.lst [])) fp) rfl rfl rfl rfl i [] s5 (inner cap σ) Hc (fun _ _=>False) I5 (hfpk fr5) st5 go) fun r s6 ⟨u,hr,h6⟩=>?_;subst hr;refine thn h6 fun _ s7 ⟨v,H7,I7,r7,y7,st7,fr7⟩=>?_;have I7':=I7.pinned (hfpk fr7) (T.obj _ _ st7);have hlook:(relabel scope X.env).names.lookup x=some .local := lookup_relabel_local hx;refine wpAny_assign_Name (Gp (X:=BO X (x::cn) scope s3.heap.objs.size s3 (upd H2 s2.heap.objs.size (.lst [])) fp) I7' (i:=0) hnd rfl (.inl hlook) r7 (fun s8 I8=>?_) (.inr hlook))
   have again:∀ {s9:Shared}{H9:Hp}{ys:List V},Inv (BO X (x::cn) scope s3.heap.objs.size s3 (upd H2 s2.heap.objs.size (.lst [])) fp) ([]++Hq fp s7.heap) ((inner cap σ).set 0 (some v)) H9 s9->N ys H9 ->
     ∃ m,m<n/\∃ i xs Hc,Inv (BO X (x::cn) scope s3.heap.objs.size s3 (upd H2 s2.heap.objs.size (.lst [])) fp) [] (inner cap σ) Hc s9/\tn i s9.heap/\(∀ b∈fp,Hc b=none)/\W i m xs Hc:=fun {s9 H9 ys} I9 n9=>by
    obtain ⟨m',hm,w9⟩:=hN ys H9 n9;refine ⟨m',hm,i+1,ys,H9,(I9.unpinned (pins:=[])).weak (by simp [inner]) (fun j w e=>?_),T.keep _ _ _ st7 fun b hb o e=>(I9.pin (b,o) (qxB _ (qxB _ (DK hb e)))).1,fun b hb=>?_,w9⟩
    ·cases j with
     | zero =>
      have e:(some none:Option (Option V))=some (some w):=e;cases e
     | succ j=>exact e
    ·obtain ⟨o,e,_⟩:=T.obj _ _ st7 b hb;exact (I9.pin (b,o) (qxB _ (qxB _ (DK hb e)))).2.1
   refine thn (B.1 _ s8 _ H7 _ I8 (step v H7 y7)) fun ok s9 ⟨H9,I9,q9⟩=>?_
   cases ok with
   | false =>
    rw [if_neg qnB] at q9 ⊢;exact again I9 q9
   | true =>
    rw [if_pos rfl] at q9 ⊢;refine thn (B.2 _ s9 _ H9 _ I9 q9) fun uy s10 ⟨y,H10,I10,r10,hp,hl,n10⟩=>?_;refine thn (Ho _ s10 _ H10 (.ref s2.heap.objs.size) [y] (.ref s2.heap.objs.size) [uy] (fun _ H11=>N (xs++[y]) H11) I10 rfl (.cons r10 .nil) ⟨_,xs,y,rfl,rfl,hp,hl,n10⟩) fun _ s11 ⟨_,H11,I11,_,n11⟩=>?_;exact again I11 n11
 exact codeAny_compStart_list loop (T.self _ _ _ _ _ st4 loop)
theorem Go {scope:Scope}{x:Str}{px pos:Pos}{elt iter:Expr}{ifs:List Expr}{cn:List Str}{cap:List Nat}{wi:TI}{tc:TT}{te:TE}
  (hc:X.calm=true) (S:CompScope X scope) (hx:scope.names.lookup x=some .local) (hnd:(x::cn).Nodup) (hcap:Caps X scope cn cap) (hi:PI X (.Name x px) iter wi)
  (body:∀ (C:Addr) (s:Shared) (H:Hp) (fp:List Addr),PTs (BO X (x::cn) scope C s H fp) ifs tc/\PE (BO X (x::cn) scope C s H fp) elt te)
  (hs:∀ x,foldedSetIterable iter X.env x=pure x:=by intro _;rfl):PE X (.ListComp elt [⟨.Name x px,iter,ifs,0⟩] scope pos) (Jb cap wi tc te):=by
 intro pins s σ H Q I h;rw [eval_ListComp];refine wpAny_comprehension_free (use:=none) rfl hs (S.clos I) S.kind S.names (thn (hi pins s σ H _ I h) fun xv s1 h1=>thn h1 fun itv s2 h2=>?_);obtain ⟨it,fp,tn,J,H2,e,I2,T,st2,f2,q⟩:=h2;subst e;refine K7 (RR:=fun acc C=>compPost (model X.prog X.w) X.A X.xe none (EP X pins σ Q) acc C) S I2 hc hcap hx hnd T st2 f2 body q ?_;intro p C s3 s' H3 Hf σ' I3 hC J' qf;subst hC;have I4:=Je I3 J' f2;obtain ⟨m,hn,_⟩:=J'.loc;refine ⟨m,hn,fun h' hs'=>?_⟩;refine ⟨.ref p,Hf,?_,rfl,qf⟩;have f:=I3.fpOk (H':=Hf) (qaB _) J'.free;exact I4.turned (t':=s'.toks) (it:=s3.heap.objs.size) (fun b o hb e=>(hs'.2 b hb).trans e) f.1 f.2.1 f.2.2.2.1 f.2.2.2.2.1 f.2.2.2.2.2
theorem MN {scope:Scope}{x y:Str}{px py pos spos:Pos}{elt iter:Expr}{ifs:List Expr}{cn:List Str}{cap:List Nat}{wi:TI}{tc:TT}{te:TE}{i:Nat}
  (hN:X.N.Nodup) (hi:X.N[i]? = some y) (hy:Loc X.env.scope y) (hc:X.calm=true) (S:CompScope X scope) (hx:scope.names.lookup x=some .local) (hnd:(x::cn).Nodup) (hcap:Caps X scope cn cap) (hit:PI X (.Name x px) iter wi)
  (body:∀ (C:Addr) (s:Shared) (H:Hp) (fp:List Addr),PTs (BO X (x::cn) scope C s H fp) ifs tc/\PE (BO X (x::cn) scope C s H fp) elt te)
  (hsw:swapsWith (.ListComp elt [⟨.Name x px,iter,ifs,0⟩] scope pos) (some (.Name y py)) spos.line X.env=pure true:=by rfl)
  (hf:X.fn y=true\/X.env.scope.names.lookup y=some .local := by first|exact .inl rfl|exact .inr rfl|assumption)
  (hs:∀ x,foldedSetIterable iter X.env x=pure x:=by intro _;rfl):PS X (.Assign [.Name y py] (.ListComp elt [⟨.Name x px,iter,ifs,0⟩] scope pos) spos) (FI (Jb cap wi tc te) (CY i)):=by
 intro pins s σ H D I h;rw [exec_Assign_Name_used _ _ _ _ hsw];refine qbA (wpAny_standAt (qbA ?_));show wpAny _ X.A (do let _ <- comprehension (.ListComp elt [⟨.Name x px,iter,ifs,0⟩] scope pos) scope X.env _ (newList []) false (eval iter X.env) (some (assign (.Name y py) X.env))) _ _ s
 refine qbA (wpAny_mono (wpAny_comprehension_free (use:=some (assign (.Name y py) X.env)) (Q:=fun _ s'=>SP X pins D .next s') rfl hs (S.clos I) S.kind S.names
  (thn (hit pins s σ H _ I h) fun xv s1 h1=>thn h1 fun itv s2 h2=>?_)) (fun _ s' hq=>qcA (qcA hq)) fun _ _ e=>e)
 obtain ⟨it,fp,tn,J,H2,e,I2,T,st2,f2,q⟩:=h2;subst e;refine K7 (Q:=fun v H1=>CY i v σ H1 D.nx) (RR:=fun acc C=>compPost (model X.prog X.w) X.A X.xe (some (assign (.Name y py) X.env)) (fun _ s'=>SP X pins D .next s') acc C) S I2 hc hcap hx hnd T st2 f2 body q ?_;intro p C s3 s' H3 Hf σ' I3 hC J' qf;subst hC;have I4:=Je I3 J' f2;obtain ⟨m,hn,_⟩:=J'.loc;have f:=I3.fpOk (H':=Hf) (qaB _) J'.free;show wpAny _ X.A (assign (.Name y py) X.env (.ref p)) _ _ _;refine wpAny_assign_Name (Ju (v:=V.ref p) I4 hN hi hy rfl (fun s'' I5 ch=>?_) hf);obtain ⟨a,hsb,ha⟩:=ch
 have hCa:s3.heap.objs.size≠a:=by
  rcases ha with rfl|ha
  ·exact f.2.1
  ·exact fun z=>f.2.2.2.2.1 y a ha z.symm
 refine ⟨m,hn.sameBut hsb hCa,fun h' hs'=>?_⟩;exact ⟨_,Hf,I5.turned (t':=s''.toks) (it:=s3.heap.objs.size) (fun b o hb e=>(hs'.2 b hb).trans e) f.1 f.2.1 f.2.2.2.1 f.2.2.2.2.1 f.2.2.2.2.2,qf⟩
end
theorem bt_len:bootBuiltins "len" = some (.builtin "len"):=by decide +kernel
theorem B4:bootBuiltins "isinstance" = some (.builtin "isinstance"):=by decide +kernel
theorem bt_max:bootBuiltins "max" = some (.builtin "max"):=by decide +kernel
theorem bt_min:bootBuiltins "min" = some (.builtin "min"):=by decide +kernel
theorem bt_all:bootBuiltins "all" = some (.builtin "all"):=by decide +kernel
theorem IS:bootBuiltins "list" = some (.type "list"):=by decide +kernel
theorem HL:bootBuiltins "tuple" = some (.type "tuple"):=by decide +kernel
theorem bt_str:bootBuiltins "str" = some (.type "str"):=by decide +kernel
theorem Lz {X:Cx}{x:Str}{i:Int}{pos:Pos}(hg:Gl X x)(h:∃ t,X.mg x=some (.int i t))(hd:(x == ("__debug__" : Str))=false:=by decide):PE X (.Name x pos) (tC (.int i)):=by
 obtain ⟨t,h⟩:=h;exact Ck (u:=.int i t) hg h ⟨t,rfl⟩ hd
def kitC (T c:String):Option Bool:=if (T == c)=true then some true else if PySem.W.kitMeta c=true then (fastBuiltinMro T).map (·.contains (.type c)) else none
theorem kit_of {K:FZ9}{T c:String}{b:Bool}(h:kitC T c=some b):PySem.W.kitOne K (.type T) (.type c)=some b:=by
 unfold kitC at h;unfold PySem.W.kitOne;by_cases e:T=c
 ·subst e;rw [if_pos (by simp)] at h;rw [if_pos (by simp)];exact h
 ·rw [if_neg (by simpa using e)] at h;rw [if_neg (by intro z;exact e (by simpa using z))];exact h
structure DefOk (P:Program)(w:World)(K:FZ9)(mg:Str->Option Value)(base:Heap)(x:Str)(k:Nat)(ps:List Str)(sp:Sp):Prop where
 ex:∃ f fd,FnOk P w K mg base CX0 k f fd ps sp/\mg x=some (.ref f)/\qrB K (.ref f)=true/\Binds K fd ps []
section
variable {X:Cx}{x:Str}{k j:Nat}{ps:List Str}{sp:Sp}{e:Expr}{es:List Expr}{t:TA}{p pos:Pos}
theorem Ab (F:DefOk X.prog X.w X.K X.mg X.base x k ps sp)(hr:Room j X.A)(hj:k<=j)(hg:Gl X x)(ha:PA X (e::es) t)(hdb:(x == ("__debug__" : Str))=false:=by decide)
  (he:starEach (e::es) X.env=(false,eval e X.env)::starEach es X.env:=by rfl) (hpl:(backTo pos (starEach es X.env)).any (·.1)=false:=by rfl) :
  PE X (.Call (.Name x p) (e::es) [] pos) (DG sp [] E0 t):=by
 obtain ⟨f,fd,G,m,kp,b⟩:=F.ex;exact pe_call G (hr.mono hj) hg m kp b .nil pass0 ha hdb he hpl
end
theorem JQ {P:Program}{w:World}{K:FZ9}{mg:Str->Option Value}{base:Heap}{x:Str}{st:Stmt}{f:Addr}{fd:FuncData}{k:Nat}{ps:List Str}{sp:Sp}(F:Fun K x x st f fd)(m:mg x=some (.ref f))(b:Binds K fd ps [])(G:FnOk P w K mg base CX0 k f fd ps sp):DefOk P w K mg base x k ps sp :=
 ⟨f,fd,G,m,F.kp,b⟩
theorem FE {X:Cx}{scope:Scope}(h:(scope.names.all fun p=>p.2 != .free || X.env.scope.names.lookup p.1 == some .cell || X.env.scope.names.lookup p.1 == some .free)=true) :
  ∀ y∈scope.names,y.2 = .free->X.env.scope.names.lookup y.1=some .cell\/X.env.scope.names.lookup y.1=some .free:=fun y hy hf=>by
 have:=List.all_eq_true.mp h y hy;rw [hf] at this
 simpa using this
theorem Same.new {H:Hp}{p:Addr}{o:HO}(h:H p=none):Same H (upd H p o):=fun b u e=>by rw [Aj (CT e h)];exact e
theorem Same.put {H H':Hp}{p:Addr}{o:HO}(s:Same H H')(h:H p=none):Same H (upd H' p o):=fun b u e=>by rw [Aj (CT e h)];exact s b u e
def Its (x:Str):It:=⟨fun i _=>i<x.cps.size,fun i H v H'=>H'=H/\∃ c,x.cps[i]? = some c/\v = .str ⟨#[c]⟩,fun i _=>i=x.cps.size⟩
def StrIt (it:Addr)(x:Str)(t:Tok)(i:Nat)(h:Heap):Prop:=h.IsStrIter it "str_ascii_iterator" x t i\/h.IsStrIter it "str_iterator" x t i
theorem LX {P:Program}{w:World}{K:FZ9}{tg:Expr}(x:Str)(t:Tok)(it:Addr):Turn P w K tg (Its x) [it] it (StrIt it x t) where
 mem:=by simp
 obj:=fun i h st b hb=>by
  have e:b=it:=by simpa using hb
  subst e;rcases st with ⟨o,e,c,d⟩ | ⟨o,e,c,d⟩<;>exact ⟨o,e,fun v z=>by rw [d] at z;cases z⟩
 keep:=fun i h h' st k=>by
  rcases st with ⟨o,e,r⟩ | ⟨o,e,r⟩
  ·exact .inl ⟨o,k it (by simp) o e,r⟩
  ·exact .inr ⟨o,k it (by simp) o e,r⟩
 item:=by
  intro X hP hw hK hc i pins s σ H E I hf st hg;subst hP hw hK;obtain ⟨f0,f1,f2,f3,f4,f5⟩:=hf it (by simp);rcases st with st|st
  ·refine (Walks.strAscii (prog:=X.prog) (w:=X.w) (I.ok.hd hc) it x t).item i s _ _ hg st fun v h' tk hv st' kk=>?_;obtain ⟨c,u,hcx,rfl⟩:=hv;have I1:=I.turned (h':=h') (t':=tk) (fun b o hb e=>kk b o (by simpa using hb) e) f0 f1 f3 f4 f5;obtain ⟨o,e,hc',d⟩:=id st';exact ⟨_,rfl,KD (s:={ s with heap:=h',toks:=tk }) e hc' d (by decide) ⟨.str ⟨#[c]⟩,H,I1,⟨u,rfl⟩,⟨rfl,c,hcx,rfl⟩,.inl st',fun b hb=>(hf b hb).1⟩⟩
  ·refine (Walks.strWide (prog:=X.prog) (w:=X.w) (I.ok.hd hc) it x t).item i s _ _ hg st fun v h' tk hv st' kk=>?_;obtain ⟨c,u,hcx,rfl⟩:=hv;have I1:=I.turned (h':=h') (t':=tk) (fun b o hb e=>kk b o (by simpa using hb) e) f0 f1 f3 f4 f5;obtain ⟨o,e,hc',d⟩:=id st';exact ⟨_,rfl,KD (s:={ s with heap:=h',toks:=tk }) e hc' d (by decide) ⟨.str ⟨#[c]⟩,H,I1,⟨u,rfl⟩,⟨rfl,c,hcx,rfl⟩,.inr st',fun b hb=>(hf b hb).1⟩⟩
 done:=by
  intro X hP hw hK hc i pins s σ H E I hf st hg;subst hP hw hK;obtain ⟨f0,f1,f2,f3,f4,f5⟩:=hf it (by simp);have hg:i=x.cps.size:=hg;subst hg;rcases st with st|st
  ·exact (Walks.strAscii (prog:=X.prog) (w:=X.w) (I.ok.hd hc) it x t).done s _ _ st fun h' tk kk=>⟨rfl,I.turned (fun b o hb e=>kk b o (by simpa using hb) e) f0 f1 f3 f4 f5⟩
  ·exact (Walks.strWide (prog:=X.prog) (w:=X.w) (I.ok.hd hc) it x t).done s _ _ st fun h' tk kk=>⟨rfl,I.turned (fun b o hb e=>kk b o (by simpa using hb) e) f0 f1 f3 f4 f5⟩
 self:=fun _ _ _ _ _ st h=>by
  rcases st with st|st
  ·exact wpAny_pyIter_striter_ascii st h
  ·exact wpAny_pyIter_striter_wide st h
section
variable {X:Cx}{tg:Expr}
def Jj (K:FZ9)(tl:TE):TI:=fun σ H R=>tl σ H fun v H1=>match v with
 | .str x=>R (Its x) H1
 | .ref a=>((∃ xs,SqL K H1 a xs)/\R (Itl K a) H1)\/((∃ xs,SqT K H1 a xs)/\R (Itt K a) H1)
 | _=>False
theorem pi_any {l:Expr}{tl:TE}(hl:PE X l tl):PI X tg l (Jj X.K tl):=by
 intro pins s σ H R I h;refine thn (hl pins s σ H _ I h) fun v s1 ⟨x,H1,I1,r1,q1⟩=>?_
 have one:∀ b∈[s1.heap.objs.size],GK X pins H1 b:=fun b hb=>by
  have e:b=s1.heap.objs.size:=by simpa using hb
  subst e;exact I1.fpOk (qaB _) (I1.hok.fresh (qaB _))
 cases x with
 | str z =>
  obtain ⟨t,rfl⟩:=r1;have q1:R (Its z) H1:=q1;cases ha:z.cps.all (· < 128)
  ·exact wpAny_pyIter_wide ha ⟨s1.heap.objs.size,[s1.heap.objs.size],_,_,H1,rfl,I1.kept (t':=s1.toks) fun b o e=>qfB _ e,LX z t _,.inr ⟨_,qgB _ rfl,rfl,rfl⟩,one,q1⟩
  ·exact wpAny_pyIter_ascii ha ⟨s1.heap.objs.size,[s1.heap.objs.size],_,_,H1,rfl,I1.kept (t':=s1.toks) fun b o e=>qfB _ e,LX z t _,.inl ⟨_,qgB _ rfl,rfl,rfl⟩,one,q1⟩
 | ref a =>
  cases r1;have q1:((∃ xs,SqL X.K H1 a xs)/\R (Itl X.K a) H1)\/((∃ xs,SqT X.K H1 a xs)/\R (Itt X.K a) H1):=q1;rcases q1 with ⟨⟨xs,hq⟩,q⟩ | ⟨⟨xs,hq⟩,q⟩
  ·obtain ⟨its,rv,p,hz⟩:=I1.list hq;exact wpAny_pyIter_list p.isList ⟨s1.heap.objs.size,[s1.heap.objs.size],_,_,H1,rfl,I1.kept (t':=s1.toks) fun b o e=>qfB _ e,OF a _,⟨_,qgB _ rfl,rfl,rfl⟩,one,q⟩
  ·obtain ⟨its,rv,p,hz⟩:=I1.tuple hq;exact wpAny_pyIter_tuple (show s1.heap.IsTuple a its.toArray from p) ⟨s1.heap.objs.size,[s1.heap.objs.size],_,_,H1,rfl,I1.kept (t':=s1.toks) fun b o e=>qfB _ e,N5 a _,⟨_,qgB _ rfl,rfl,rfl⟩,one,q⟩
 | _=>exact (show False from q1).elim
end
structure Yields (J:It)(H:Hp)(xs:List V):Prop where
 go:∀ i H',Same H H'->i<xs.length->J.go i H'
 stop:∀ H',Same H H'->J.stop xs.length H'
 yld:∀ i H' x H'',Same H H'->i<xs.length->J.yld i H' x H''->H''=H'/\xs[i]? = some x
def ER (x:Str):List V:=x.cps.toList.map fun c=>.str ⟨#[c]⟩
theorem Mi (x:Str)(H:Hp):Yields (Its x) H (ER x) where
 go:=fun i H' _ hi=>by
  have:(ER x).length=x.cps.size:=by simp [ER]
  show i<x.cps.size;omega
 stop:=fun H' _=>by
  show (ER x).length=x.cps.size;simp [ER]
 yld:=fun i H' v H'' _ _ y=>by
  obtain ⟨rfl,c,hc,rfl⟩:=y;refine ⟨rfl,?_⟩;simp only [ER,qvA,Array.getElem?_toList,hc,Option.map_some]
theorem L4 (lo:Int)(n:Nat)(H:Hp):Yields (Itr lo n) H ((List.range n).map fun (i:Nat)=>V.int (lo+(i:Int))) where
 go:=fun i H' _ hi=>by
  show i<n
  simpa using hi
 stop:=fun H' _=>by
  show n<=((List.range n).map fun (i:Nat)=>V.int (lo+(i:Int))).length;simp
 yld:=fun i H' v H'' _ hi y=>by
  obtain ⟨rfl,rfl⟩:=y;rw [qdA,qhA] at hi;refine ⟨rfl,?_⟩;simp [hi]
theorem I0 {K:FZ9}{a:Addr}{xs:List V}{H:Hp}(h:SqL K H a xs):Yields (Itl K a) H xs where
 go:=fun i H' s hi=>⟨xs,xs[i],s.seq h,by simp [hi]⟩
 stop:=fun H' s=>⟨xs,s.seq h,qaB _⟩
 yld:=fun i H' v H'' s _ y=>⟨y.1,y.2 xs (s.seq h)⟩
section
variable {X:Cx}
def KP (K:FZ9):R2:=fun x y H Q=>match x,y with
 | .int i,.int j=>Q (.int (i+j)) H
 | .str a,.str b=>a.length+b.length<=sizeLine/\Q (.str (a++b)) H
 | .ref a,.ref b=>∃ xs ys,Rd H a (.lst xs)/\Rd H b (.lst ys)/\xs.length+ys.length<=sizeLine/\∀ p,H p=none->Q (.ref p) (upd H p (.lst (xs++ys)))
 | _,_=>False
theorem op_catS:OpR X (binaryOp .Add) (fun x y H Q=>∃ a b xs ys,x = .ref a/\y = .ref b/\Rd H a (.lst xs)/\Rd H b (.lst ys)/\xs.length+ys.length<=sizeLine/\∀ p,H p=none->Q (.ref p) (upd H p (.lst (xs++ys)))):=by
 intro pins s σ H x y v u Q I rx ry h;obtain ⟨l,b,xs,zs,rfl,rfl,hH,hB,hz,q⟩:=h;cases rx;cases ry;obtain ⟨z,its,n,r,e⟩:=hH.ok I.hok;obtain ⟨z2,its2,n2,r2,e2⟩:=hB.ok I.hok;have hl:=r.length;have hl2:=r2.length;refine PySem.P.add_list e e2 ?_ (by rw [qoB,qoB];omega);have ea:its.toArray++its2.toArray=(its++its2).toArray:=by simp
 rw [ea];exact ⟨.ref _,_,I.lnew (t':=s.toks) (r.append r2) (by rw [qeA];omega),rfl,q _ I.fresh⟩
theorem op_plus:OpR X (binaryOp .Add) (KP X.K):=by
 intro pins s σ H x y v u Q I rx ry h
 cases x with
 | int i=>cases y with
  | int j=>exact op_add pins s σ H _ _ v u Q I rx ry ⟨i,j,rfl,rfl,h⟩
  | _=>exact (show False from h).elim
 | str a=>cases y with
  | str b=>exact Me pins s σ H _ _ v u Q I rx ry ⟨a,b,rfl,rfl,h.1,h.2⟩
  | _=>exact (show False from h).elim
 | ref a=>cases y with
  | ref b =>
   obtain ⟨xs,ys,h1,h2,h3,h4⟩:=h;exact op_catS pins s σ H _ _ v u Q I rx ry ⟨a,b,xs,ys,rfl,rfl,h1,h2,h3,h4⟩
  | _=>exact (show False from h).elim
 | _=>exact (show False from h).elim
def O3 (fi:Int->Int->Bool)(fs:List Nat->List Nat->Bool):R2:=fun x y H Q=>match x,y with
 | .int i,.int j=>Q (.bl (fi i j)) H
 | .str a,.str b=>Q (.bl (fs a.cps.toList b.cps.toList)) H
 | _,_=>False
theorem Mx {f:Value->Value->Sem Value}{fi:Int->Int->Bool}{fs:List Nat->List Nat->Bool}(hi:OpR X f (rI0 fun i j=>.bl (fi i j)))
  (hs:∀ (s:Shared) (a b:Str) (t u:Tok) (Q:Value->Shared->Prop),Q (.bool (fs a.cps.toList b.cps.toList)) s->wpAny (model X.prog X.w) X.A (f (.str a t) (.str b u)) Q X.xe s):OpR X f (O3 fi fs):=by
 intro pins s σ H x y v u Q I rx ry h
 cases x with
 | int i=>cases y with
  | int j=>exact hi pins s σ H _ _ v u Q I rx ry ⟨i,j,rfl,rfl,h⟩
  | _=>exact (show False from h).elim
 | str a=>cases y with
  | str b =>
   obtain ⟨t,rfl⟩:=rx;obtain ⟨t',rfl⟩:=ry;exact hs s a b t t' _ ⟨.bl _,H,I,rfl,h⟩
  | _=>exact (show False from h).elim
 | _=>exact (show False from h).elim
theorem Mg:OpR X (compareOp .Lt) (O3 (fun i j=>decide (i<j)) fun a b=>decide (a<b)):=Mx op_lt fun _ _ _ _ _ _ h=>lt_str h
theorem op_leU:OpR X (compareOp .LtE) (O3 (fun i j=>decide (i<=j)) fun a b=>!decide (b<a)):=Mx op_le fun _ _ _ _ _ _ h=>PySem.P.le_str h
theorem Kq:OpR X (compareOp .Gt) (O3 (fun i j=>decide (j<i)) fun a b=>decide (b<a)):=Mx op_gt fun _ _ _ _ _ _ h=>PySem.P.gt_str h
def rSl (K:FZ9):V->Option Int->Option Int->Hp->VK->Prop:=fun x lo hi H Q=>match x with
 | .str z=>z.length<=sizeLine/\Q (.str (Txt.slice z lo hi)) H
 | .ref a=>(∃ xs,SqL K H a xs/\∀ p,H p=none->Q (.ref p) (upd H p (.lst (Jg xs lo hi))))
 | _=>False
theorem sl_str:SlR X (fun x lo hi H Q=>∃ z,x = .str z/\z.length<=sizeLine/\Q (.str (Txt.slice z lo hi)) H):=by
 intro pins s σ H x v vl vu lo hi sl Q I rx hs pl pu h;obtain ⟨z,rfl,hz,q⟩:=h;obtain ⟨t,rfl⟩:=rx;refine ⟨"str",_,F.slot_str_getitem.lookup,typeIs_str _ _ _,?_⟩;have fin:∀ (t':Tok) (k:Nat),EP X pins σ Q (.str (Txt.slice z lo hi) t') { s with toks:=k }:=fun t' k=>⟨.str _,H,I.tok k,⟨t',rfl⟩,q⟩
 cases pl with
 | none=>cases pu with
  | none=>exact wpAny_getItem_str_slice (l:=none) (u:=none) (st:=none) hs rfl (post_val_or_str ⟨qbB (Txt.slice_le z _ _) hz,fin⟩)
  | int j uj=>exact wpAny_getItem_str_slice (l:=none) (u:=some (j,uj)) (st:=none) hs rfl (post_val_or_str ⟨qbB (Txt.slice_le z _ _) hz,fin⟩)
 | int i ui=>cases pu with
  | none=>exact wpAny_getItem_str_slice (l:=some (i,ui)) (u:=none) (st:=none) hs rfl (post_val_or_str ⟨qbB (Txt.slice_le z _ _) hz,fin⟩)
  | int j uj=>exact wpAny_getItem_str_slice (l:=some (i,ui)) (u:=some (j,uj)) (st:=none) hs rfl (post_val_or_str ⟨qbB (Txt.slice_le z _ _) hz,fin⟩)
theorem sl_any:SlR X (rSl X.K):=by
 intro pins s σ H x v vl vu lo hi sl Q I rx hs pl pu h
 cases x with
 | str z=>exact sl_str pins s σ H _ v vl vu lo hi sl Q I rx hs pl pu ⟨z,rfl,h.1,h.2⟩
 | ref a =>
  obtain ⟨xs,h1,h2⟩:=h;exact sl_list pins s σ H _ v vl vu lo hi sl Q I rx hs pl pu ⟨a,xs,rfl,h1,h2⟩
 | _=>exact (show False from h).elim
def rAt (K:FZ9):R2:=fun x y H Q=>match x,y with
 | .str z,.int i=>z.length<=sizeLine/\∃ c,atI z.cps.toList i=some c/\Q (.str ⟨#[c]⟩) H
 | .ref p,.int i=>(∃ xs v,SqL K H p xs/\atI xs i=some v/\Q v H)\/(∃ xs v,SqT K H p xs/\atI xs i=some v/\Q v H)
 | _,_=>False
theorem ix_any:IxR X (rAt X.K):=by
 intro value slice pins s σ H x y v u Q I rx ry q hs
 cases x with
 | str z=>cases y with
  | int i =>
   obtain ⟨hz,c,hc,q⟩:=q;exact ix_str value slice pins s σ H _ _ v u Q I rx ry ⟨z,i,c,rfl,rfl,hz,hc,q⟩ hs
  | _=>exact (show False from q).elim
 | ref p=>cases y with
  | int i =>
   rcases q with ⟨xs,w',h1,h2,h3⟩ | ⟨xs,w',h1,h2,h3⟩
   ·exact ix_list value slice pins s σ H _ _ v u Q I rx ry ⟨p,xs,i,w',rfl,rfl,h1,h2,h3⟩ hs
   ·exact ix_tup value slice pins s σ H _ _ v u Q I rx ry ⟨p,xs,i,w',rfl,rfl,h1,h2,h3⟩ hs
  | _=>exact (show False from q).elim
 | _=>exact (show False from q).elim
def LO (K:FZ9):List V->Hp->VK->Prop:=fun vs H Q=>match vs with
 | [.str z]=>z.length<=sizeLine/\Q (.int z.length) H
 | [.ref p]=>∃ ys,(SqL K H p ys\/SqT K H p ys)/\Q (.int ys.length) H
 | _=>False
theorem OQ:De X (.builtin "len") (LO X.K):=by
 intro pins s σ H vs us Q I r h
 match vs,h with
 | [.str z],h=>exact Kn pins s σ H _ us Q I r ⟨z,rfl,h.1,h.2⟩
 | [.ref p],h =>
  obtain ⟨ys,h1,h2⟩:=h;exact Kr pins s σ H _ us Q I r ⟨p,ys,rfl,h1,h2⟩
end
structure EqTy (K:FZ9)(k:Nat){α:Type}[DecidableEq α](R:Hp->V->α->Prop):Prop where
 fn:∀ {X:Cx}{pins:List (Addr × Obj)}{σ:St}{H:Hp}{s:Shared}{x:V}{a b:α},X.K=K->Inv X pins σ H s->R H x a->R H x b->a=b
 eq:∀ {X:Cx}{pins:List (Addr × Obj)}{σ:St}{H:Hp}{s:Shared}{x y:V}{u v:Value}{a b:α}(A:Around),X.K=K->Inv X pins σ H s->A.units+k<cLine->RelV x u->RelV y v->R H x a->R H y b->SeqAt.EqAt A s u v (decide (a=b))
 rc:∀ {X:Cx}{pins:List (Addr × Obj)}{σ:St}{H:Hp}{s:Shared}{x y:V}{u v:Value}{a b:α}(A:Around),X.K=K->Inv X pins σ H s->A.units+k<cLine->RelV x u->RelV y v->R H x a->R H y b->SeqAt.RcAt A s u v (decide (a=b))/\SeqAt.RcNeAt A s u v (!decide (a=b))
def isBl:Hp->V->Bool->Prop:=fun _ x a=>x = .bl a
theorem Nl {α:Type}[DecidableEq α][BEq α][LawfulBEq α](a b:α):(a == b)=decide (a=b):=by
 by_cases h:a=b
 ·subst h;simp
 ·rw [decide_eq_false h];simpa using h
theorem eqBl {K:FZ9}:EqTy K 0 isBl where
 fn:=fun _ _ h1 h2=>by cases h1;cases h2;rfl
 eq:=fun A _ _ _ r1 r2 h1 h2=>by
  cases h1;cases h2;cases r1;cases r2;rw [<- Nl];exact SeqAt.EqAt.bool_bool _ _
 rc:=fun A _ _ _ r1 r2 h1 h2=>by
  cases h1;cases h2;cases r1;cases r2;rw [<- Nl];exact ⟨SeqAt.RcAt.bool_bool _ _,SeqAt.RcNeAt.bool_bool _ _⟩
theorem Paired.at' {α β:Type}{F:α->β->Prop}:∀ {l₁:List α}{l₂:List β}{i:Nat}{a:α}{b:β},Paired F l₁ l₂->l₁[i]? = some a->l₂[i]? = some b->F a b
 | _,_,_,_,_,.nil,e,_=>by simp at e
 | _,_,0,_,_,.cons h _,e1,e2=>by simp at e1 e2;subst e1;subst e2;exact h
 | _,_,i+1,_,_,.cons _ t,e1,e2=>Paired.at' (i:=i) t (by simpa using e1) (by simpa using e2)
theorem KC {α β:Type}{F:α->β->Prop}(hf:∀ a b c,F a b->F a c->b=c):∀ {xs:List α}{as bs:List β},Paired F xs as->Paired F xs bs->as=bs
 | _,_,_,.nil,.nil=>rfl
 | _,_,_,.cons h t,.cons h' t'=>by rw [hf _ _ _ h h',KC hf t t']
theorem all_dec {α:Type}[DecidableEq α]:∀ (as bs:List α) (hl:as.length=bs.length),((List.range as.length).all fun j=>decide (as[j]? = bs[j]?))=decide (as=bs):=by
 intro as bs hl;apply Bool.eq_iff_iff.mpr;rw [decide_eq_true_iff,List.all_eq_true];constructor
 ·intro h;apply List.ext_getElem?;intro i;by_cases hi:i<as.length
  ·exact of_decide_eq_true (h i (List.mem_range.mpr hi))
  ·rw [List.getElem?_eq_none (by omega),List.getElem?_eq_none (by omega)]
 ·rintro rfl i _;simp
def LH (K:FZ9){α:Type}(R:Hp->V->α->Prop):Hp->V->List α->Prop:=fun H x as=>∃ l xs,x = .ref l/\SqL K H l xs/\Paired (R H) xs as
theorem MH {K:FZ9}{k:Nat}{α:Type}[DecidableEq α]{R:Hp->V->α->Prop}(E:EqTy K k R){X:Cx}{pins:List (Addr × Obj)}{σ:St}{H:Hp}{s:Shared}{A:Around}(hK:X.K=K)(I:Inv X pins σ H s)(hu:A.units+(k+1)<cLine)
  {xs ys:List V}{us vs:List Value}{as bs:List α}(rx:Vals xs us) (ry:Vals ys vs) (px:Paired (R H) xs as) (py:Paired (R H) ys bs) :
  ∀ j (h1:j<us.toArray.size) (h2:j<vs.toArray.size),SeqAt.EqAt A.in1 s us.toArray[j] vs.toArray[j] (decide (as[j]? = bs[j]?)):=by
 intro j h1 h2;have h1':j<us.length:=by simpa using h1
 have h2':j<vs.length:=by simpa using h2
 have lx:=rx.length;have ly:=ry.length;have lpx:=Paired.length px;have lpy:=Paired.length py;have ex:xs[j]? = some xs[j]:=qsA (by omega);have ey:ys[j]? = some ys[j]:=qsA (by omega);have ea:as[j]? = some as[j]:=qsA (by omega);have eb:bs[j]? = some bs[j]:=qsA (by omega);obtain ⟨u,hu',ru⟩:=rx.get ex;obtain ⟨v,hv',rv⟩:=ry.get ey
 have e1:us.toArray[j]=u:=by
  rw [qsA h1'] at hu'
  simpa using hu'
 have e2:vs.toArray[j]=v:=by
  rw [qsA h2'] at hv'
  simpa using hv'
 rw [e1,e2,ea,eb];have:=E.eq A.in1 hK I (show A.units+1+k<cLine by omega) ru rv (Paired.at' px ex ea) (Paired.at' py ey eb);have e3:decide (some as[j]=some bs[j])=decide (as[j]=bs[j]):=by simp
 rw [e3];exact this
theorem eqLst {K:FZ9}{k:Nat}{α:Type}[DecidableEq α]{R:Hp->V->α->Prop}(E:EqTy K k R):EqTy K (k+1) (LH K R):=by
 have fn:∀ {X:Cx}{pins:List (Addr × Obj)}{σ:St}{H:Hp}{s:Shared}{x:V}{a b:List α},X.K=K->Inv X pins σ H s->LH K R H x a->LH K R H x b->a=b:=by
  intro X pins σ H s x a b hK I ha hb;obtain ⟨l,xs,rfl,h1,p1⟩:=ha;obtain ⟨l',ys,e,h2,p2⟩:=hb;cases e;subst hK;have:=I.list_inj h1 h2;subst this;exact KC (F:=R H) (fun _ _ _ p q=>E.fn rfl I p q) p1 p2
 have rc:∀ {X:Cx}{pins:List (Addr × Obj)}{σ:St}{H:Hp}{s:Shared}{x y:V}{u v:Value}{a b:List α}(A:Around),X.K=K->Inv X pins σ H s->A.units+(k+1)<cLine->RelV x u->RelV y v->LH K R H x a->LH K R H y b ->
   SeqAt.RcAt A s u v (decide (a=b))/\SeqAt.RcNeAt A s u v (!decide (a=b)):=by
  intro X pins σ H s x y u v a b A hK I hu r1 r2 ha hb;obtain ⟨l,xs,rfl,h1,p1⟩:=ha;obtain ⟨l',ys,rfl,h2,p2⟩:=hb;cases r1;cases r2;subst hK;obtain ⟨us,rx,plx,_⟩:=I.list h1;obtain ⟨vs,ry,ply,_⟩:=I.list h2;have lx:=rx.length;have ly:=ry.length;have lpx:=Paired.length p1;have lpy:=Paired.length p2;by_cases hl:a.length=b.length
  ·have hsz:us.toArray.size=vs.toArray.size:=by simp;omega
   have it:=MH E rfl I hu rx ry p1 p2
   have ed:((List.range us.toArray.size).all fun j=>decide (a[j]? = b[j]?))=decide (a=b):=by
    rw [<- all_dec a b hl,qoB,<- lx,lpx]
   rw [<- ed];exact ⟨SeqAt.RcAt.lists plx.isList ply.isList hsz (by omega) it,SeqAt.RcNeAt.lists plx.isList ply.isList hsz (by omega) it⟩
  ·have hsz:(us.toArray.size != vs.toArray.size)=true:=by simp;omega
   have ne:a≠b:=fun e=>hl (by rw [e]);rw [decide_eq_false ne];exact ⟨SeqAt.RcAt.lists_lengths plx.isList ply.isList hsz (by omega),SeqAt.RcNeAt.lists_lengths plx.isList ply.isList hsz (by omega)⟩
 refine ⟨fn,?_,rc⟩;intro X pins σ H s x y u v a b A hK I hu r1 r2 ha hb;have h:=(rc A hK I hu r1 r2 ha hb).1;obtain ⟨l,xs,rfl,h1,p1⟩:=id ha;obtain ⟨l',ys,rfl,h2,p2⟩:=id hb;cases r1;cases r2;by_cases e:l=l'
 ·subst e;have:a=b:=fn hK I ha hb;rw [decide_eq_true this];exact SeqAt.EqAt.same _
 ·exact SeqAt.EqAt.of_refs e h
section
variable {X:Cx}
theorem op_eqD {k j:Nat}{α:Type}[DecidableEq α]{R:Hp->V->α->Prop}(E:EqTy X.K k R)(hr:Room j X.A)(hk:k<=10):OpR X (compareOp .Eq) (fun x y H Q=>∃ a b,R H x a/\R H y b/\Q (.bl (decide (a=b))) H):=by
 intro pins s σ H x y v u Q I rx ry h;obtain ⟨a,b,h1,h2,q⟩:=h;exact (E.rc X.A rfl I (by have:=hr.un;omega) rx ry h1 h2).1 _ _ _ _ ⟨.bl _,H,I,rfl,q⟩
end
class Rp (α:Type) where
 rel:FZ9->Hp->V->α->Prop
 mono:∀ {K:FZ9}{H H':Hp}{v:V}{a:α},Same H H'->rel K H v a->rel K H' v a
theorem Same.rd {H H':Hp}{a:Addr}{u:HO}(s:Same H H')(h:Rd H a u):Rd H' a u:=by
 rcases h with h | ⟨o,h⟩
 ·exact .inl (s _ _ h)
 ·exact .inr ⟨o,s _ _ h⟩
theorem Same.tup {K:FZ9}{H H':Hp}{a:Addr}{xs:List V}(e:Same H H')(h:SqT K H a xs):SqT K H' a xs:=by
 rcases h with h|h
 ·exact .inl (e.rd h)
 ·exact .inr h
instance rpInt:Rp Int:=⟨fun _ _ v a=>v = .int a,fun _ h=>h⟩
instance rpBool:Rp Bool:=⟨fun _ _ v a=>v = .bl a,fun _ h=>h⟩
instance rpStr:Rp Str:=⟨fun _ _ v a=>v = .str a/\a.length<=sizeLine,fun _ h=>h⟩
instance rpUnit:Rp Unit:=⟨fun _ _ v _=>v = .non,fun _ h=>h⟩
instance rpList {α:Type}[Rp α]:Rp (List α) :=
 ⟨fun K H v as=>∃ l xs,v = .ref l/\Rd H l (.lst xs)/\xs.length<=sizeLine/\Paired (Rp.rel K H) xs as,
  fun s ⟨l,xs,e,h,z,p⟩=>⟨l,xs,e,s.rd h,z,Paired.imp' (fun _ _ r=>Rp.mono s r) p⟩⟩
instance rpPair {α β:Type}[Rp α][Rp β]:Rp (α × β) :=
 ⟨fun K H v p=>∃ t a b,v = .ref t/\SqT K H t [a,b]/\Rp.rel K H a p.1/\Rp.rel K H b p.2,
  fun s ⟨t,a,b,e,h,r1,r2⟩=>⟨t,a,b,e,s.tup h,Rp.mono s r1,Rp.mono s r2⟩⟩
structure T3 (α β γ:Type) where
 a:α
 b:β
 c:γ
 deriving DecidableEq
structure T4 (α β γ δ:Type) where
 a:α
 b:β
 c:γ
 d:δ
 deriving DecidableEq
structure Tp (α:Type) where
 l:List α
 deriving DecidableEq
instance rpTp {α:Type}[Rp α]:Rp (Tp α) :=
 ⟨fun K H v as=>∃ t xs,v = .ref t/\SqT K H t xs/\xs.length<=sizeLine/\Paired (Rp.rel K H) xs as.l,
  fun s ⟨l,xs,e,h,z,p⟩=>⟨l,xs,e,s.tup h,z,Paired.imp' (fun _ _ r=>Rp.mono s r) p⟩⟩
instance rpOpt {α:Type}[Rp α]:Rp (Option α) :=
 ⟨fun K H v o=>match o with|none=>v = .non|some a=>Rp.rel K H v a,
  fun {K H H' v o} s h=>by cases o with|none=>exact h|some a=>exact Rp.mono (α:=α) s h⟩
class RpA (α:Type) where
 n:Nat
 rel:FZ9->Hp->List V->α->Prop
 mono:∀ {K:FZ9}{H H':Hp}{v:List V}{a:α},Same H H'->rel K H v a->rel K H' v a
 len:∀ {K:FZ9}{H:Hp}{v:List V}{a:α},rel K H v a->v.length=n
instance raNil:RpA Unit:=⟨0,fun _ _ vs _=>vs=[],fun _ h=>h,fun h=>by rw [h];rfl⟩
instance raCons {α β:Type}[Rp α][RpA β]:RpA (α × β) :=
 ⟨RpA.n β+1,fun K H vs p=>∃ v r,vs=v::r/\Rp.rel K H v p.1/\RpA.rel K H r p.2,
  fun s ⟨v,r,e,h1,h2⟩=>⟨v,r,e,Rp.mono s h1,RpA.mono s h2⟩,fun ⟨v,r,e,h1,h2⟩=>by rw [e,qfA,RpA.len h2]⟩
structure Ext (G H G' H':Hp):Prop where
 gg:Same G G'
 gh:Same G' H'
 hh:Same H H'
 no:∀ b,G b=none->H b≠none->G' b=none
section
variable {G H G1 H1 G2 H2 G0 H0:Hp}{p:Addr}{o:HO}
theorem Ext.refl (s:Same G H):Ext G H G H:=⟨.refl _,s,.refl _,fun _ h _=>h⟩
theorem Ext.trans (x:Ext G H G1 H1)(y:Ext G1 H1 G2 H2):Ext G H G2 H2 :=
 ⟨x.gg.trans y.gg,y.gh,x.hh.trans y.hh,fun b h1 h2=>y.no b (x.no b h1 h2) fun z=>h2 (x.hh.free z)⟩
theorem Same.both (s:Same G H):Same (upd G p o) (upd H p o):=fun b u e=>by
 by_cases hb:b=p
 ·subst hb;rw [AQ] at e ⊢;exact e
 ·rw [Aj hb] at e ⊢;exact s b u e
theorem Ext.new (s:Same G H)(h:H p=none):Ext G H (upd G p o) (upd H p o) :=
 ⟨Same.new (s.free h),s.both,Same.new h,fun b h1 h2=>by
  have hb:b≠p:=fun z=>h2 (by rw [z];exact h);rw [Aj hb]
  exact h1⟩
theorem Ext.own (s:Same G H)(h:H p=none):Ext G H G (upd H p o):=⟨.refl _,s.trans (Same.new h),Same.new h,fun _ h _=>h⟩
theorem Ext.put (x:Ext G0 H0 G H)(h0:H0 p=none)(hg:G p=none):Ext G0 H0 G (upd H p o):=⟨x.gg,x.gh.put hg,x.hh.put h0,x.no⟩
theorem Ext.frz (x:Ext G0 H0 G H)(h0:H0 p=none)(hg:G p=none)(hh:H p=some o):Ext G0 H0 (upd G p o) H :=
 ⟨x.gg.trans (Same.new hg),fun b u e=>by
  by_cases hb:b=p
  ·subst hb;rw [AQ] at e;rw [hh];exact e
  ·rw [Aj hb] at e
   exact x.gh b u e,x.hh,fun b h1 h2=>by
  have hb:b≠p:=fun z=>h2 (by rw [z];exact h0);rw [Aj hb]
  exact x.no b h1 h2⟩
end
section
variable {K:FZ9}{σ:St}{G:Hp}
def EV (K:FZ9){α:Type}[Rp α](te:TE)(σ:St)(G:Hp)(m:Option α):Prop :=
 ∀ G1,Same G G1->∀ a,m=some a->∀ H,Same G1 H->∀ Q:VK,(∀ v G2 H2,Ext G1 H G2 H2->Rp.rel K G2 v a->Q v H2)->te σ H Q
def TV (t:TT)(σ:St)(G:Hp)(m:Option Bool):Prop :=
 ∀ G1,Same G G1->∀ a,m=some a->∀ H,Same G1 H->∀ Q:Bool->Hp->Prop,(∀ G2 H2,Ext G1 H G2 H2->Q a H2)->t σ H Q
def AV (K:FZ9){α:Type}[RpA α](t:TA)(σ:St)(G:Hp)(m:Option α):Prop :=
 ∀ G1,Same G G1->∀ a,m=some a->∀ H,Same G1 H->∀ Q:List V->Hp->Prop,(∀ vs G2 H2,Ext G1 H G2 H2->RpA.rel K G2 vs a->Q vs H2)->t σ H Q
def LV (K:FZ9){α:Type}[Rp α](t:TA)(σ:St)(G:Hp)(n:Nat)(m:Option (List α)):Prop :=
 ∀ G1,Same G G1->∀ a,m=some a->∀ H,Same G1 H->∀ Q:List V->Hp->Prop,(∀ vs G2 H2,Ext G1 H G2 H2->vs.length=n->Paired (Rp.rel K G2) vs a->Q vs H2)->t σ H Q
def OV (t:TO)(σ:St)(G:Hp)(m:Option (Option Int)):Prop :=
 ∀ G1,Same G G1->∀ a,m=some a->∀ H,Same G1 H->∀ Q:Option Int->Hp->Prop,(∀ G2 H2,Ext G1 H G2 H2->Q a H2)->t σ H Q
def FV (K:FZ9){α:Type}[Rp α](te:TE)(σ:St)(G:Hp)(m:Option (List α)):Prop :=
 ∀ G1,Same G G1->∀ a,m=some a->∀ H,Same G1 H->∀ Q:VK,(∀ p vs G2 H2,Ext G1 H G2 H2->H p=none->G2 p=none->H2 p=some (.lst vs)->vs.length<=sizeLine->Paired (Rp.rel K G2) vs a->Q (.ref p) H2)->te σ H Q
section
variable {α β γ δ:Type}[Rp α][Rp β][Rp γ][Rp δ]{ta tb tc td:TE}{ma:Option α}{mb:Option β}{mc:Option γ}
theorem EV.run {te:TE}{H:Hp}{a:α}{Q:VK}{m:Option α}(e:EV K te σ G m)(hm:m=some a)(s:Same G H)(k:∀ v G2 H2,Ext G H G2 H2->Rp.rel K G2 v a->Q v H2):te σ H Q:=e G (.refl G) a hm H s Q k
theorem TV.run {t:TT}{H:Hp}{a:Bool}{Q:Bool->Hp->Prop}{m:Option Bool}(e:TV t σ G m)(hm:m=some a)(s:Same G H)(k:∀ G2 H2,Ext G H G2 H2->Q a H2):t σ H Q:=e G (.refl G) a hm H s Q k
theorem EV.of {te:TE}{m m':Option α}(e:EV K te σ G m)(h:m=m'):EV K te σ G m':=h ▸ e
theorem FV.ev {te:TE}{m:Option (List α)}(e:FV K te σ G m):EV K te σ G m:=by
 intro G1 s1 a ha H sH Q k;refine e G1 s1 a ha H sH Q fun p vs G2 H2 x h0 hg hh hz hp=>?_;exact k _ _ _ (x.frz h0 hg hh) ⟨p,vs,rfl,.inl AQ,hz,Paired.imp' (fun _ _ r=>Rp.mono (Same.new hg) r) hp⟩
theorem GW {i:Nat}{v:V}{a:α}(h:σ[i]? = some (some v))(r:Rp.rel K G v a):EV K (Ba i) σ G (some a):=fun G1 s a' e H sH Q k=>by
 cases e;exact ⟨v,h,k v G1 H (.refl sH) (Rp.mono s r)⟩
theorem Ia {v:V}{a:α}(h:∀ G,Rp.rel K G v a):EV K (tC v) σ G (some a):=fun G1 s a' e H sH Q k=>by
 cases e;exact k v G1 H (.refl sH) (h _)
theorem An {i:Int}:EV K (tC (.int i)) σ G (some i):=Ia fun _=>rfl
theorem F7 {b:Bool}:EV K (tC (.bl b)) σ G (some b):=Ia fun _=>rfl
theorem Ai {x:Str}(h:x.length<=sizeLine:=by decide +kernel):EV K (tC (.str x)) σ G (some x):=Ia fun _=>⟨rfl,h⟩
theorem LB:EV K (tC .non) σ G (some ()):=Ia fun _=>rfl
theorem IQ {te:TE}{m:Option α}(e:EV K te σ G m):EV K te σ G (m.bind fun a=>some (some a)):=by
 clear 7;obtain ⟨a,ha,hc⟩:=qaA.mp hc;cases hc;exact e G1 s1 a ha H sH Q k
theorem CK {r:R2}{f:α->β->Option γ}
  (h:∀ {G H:Hp}{v u:V}{a:α}{b:β}{c:γ},Same G H->Rp.rel K G v a->Rp.rel K G u b->f a b=some c->∀ {Q:VK},(∀ w G2 H2,Ext G H G2 H2->Rp.rel K G2 w c->Q w H2)->r v u H Q)
  (ea:EV K ta σ G ma) (eb:EV K tb σ G mb):EV K (tOp r ta tb) σ G (ma.bind fun a=>mb.bind fun b=>f a b):=by
 clear 7;obtain ⟨a,ha,hc⟩:=qaA.mp hc;obtain ⟨b,hb,hc⟩:=qaA.mp hc;clear 8 ea a ha;refine eb G2 (s1.trans x2.gg) b hb H2 x2.gh _ fun u G3 H3 x3 r3=>?_;exact h x3.gh (Rp.mono x3.gg r2) r3 hc fun w G4 H4 x4 r4=>k w G4 H4 ((x2.trans x3).trans x4) r4
theorem ev_un {r:V->Hp->VK->Prop}{f:α->Option γ}
  (h:∀ {G H:Hp}{v:V}{a:α}{c:γ},Same G H->Rp.rel K G v a->f a=some c->∀ {Q:VK},(∀ w G2 H2,Ext G H G2 H2->Rp.rel K G2 w c->Q w H2)->r v H Q)
  (ea:EV K ta σ G ma):EV K (tUn r ta) σ G (ma.bind fun a=>f a):=by
 clear 7;obtain ⟨a,ha,hc⟩:=qaA.mp hc;clear 8 ea a ha;exact h x2.gh r2 hc fun w G4 H4 x4 r4=>k w G4 H4 (x2.trans x4) r4
instance decDiv (i j:Int):Decidable (Mn i j):=by unfold Mn;infer_instance
instance decPow (i j:Int):Decidable (CPow i j):=by unfold CPow;infer_instance
def Jp (a b:Int):Option Int:=if Mn a b then some (a / b) else none
def HJ (a b:Int):Option Int:=if 0<b then some (a % b) else none
def powO (a b:Int):Option Int:=if CPow a b then some (a ^ b.toNat) else none
theorem BC {p:Prop}[Decidable p]{α:Type}{a c:α}(h:(if p then some a else none)=some c):p/\a=c:=by
 by_cases hp:p
 ·rw [if_pos hp] at h;exact ⟨hp,qdB h⟩
 ·rw [if_neg hp] at h;cases h
section
variable {ia ib:Option Int}
theorem FA (ea:EV K ta σ G ia)(eb:EV K tb σ G ib):EV K (tOp (KP K) ta tb) σ G (ia.bind fun a=>ib.bind fun b=>some (a+b)) :=
 CK (fun s ra rb e Q k=>by cases ra;cases rb;cases e;exact k _ _ _ (.refl s) rfl) ea eb
theorem N0 (ea:EV K ta σ G ia)(eb:EV K tb σ G ib):EV K (tOp (rI0 fun i j=>.int (i - j)) ta tb) σ G (ia.bind fun a=>ib.bind fun b=>some (a - b)) :=
 CK (fun s ra rb e Q k=>by cases ra;cases rb;cases e;exact ⟨_,_,rfl,rfl,k _ _ _ (.refl s) rfl⟩) ea eb
theorem Fj (ea:EV K ta σ G ia)(eb:EV K tb σ G ib):EV K (tOp (rI (fun _ j=>0<j) fun i j=>.int (i % j)) ta tb) σ G (ia.bind fun a=>ib.bind fun b=>HJ a b) :=
 CK (fun s ra rb e Q k=>by cases ra;cases rb;obtain ⟨h,rfl⟩:=BC e;exact ⟨_,_,rfl,rfl,h,k _ _ _ (.refl s) rfl⟩) ea eb
theorem Il (ea:EV K ta σ G ia)(eb:EV K tb σ G ib):EV K (tOp (rI Mn fun i j=>.int (i / j)) ta tb) σ G (ia.bind fun a=>ib.bind fun b=>Jp a b) :=
 CK (fun s ra rb e Q k=>by cases ra;cases rb;obtain ⟨h,rfl⟩:=BC e;exact ⟨_,_,rfl,rfl,h,k _ _ _ (.refl s) rfl⟩) ea eb
theorem MM (ea:EV K ta σ G ia)(eb:EV K tb σ G ib):EV K (tOp (rI CPow fun i j=>.int (i ^ j.toNat)) ta tb) σ G (ia.bind fun a=>ib.bind fun b=>powO a b) :=
 CK (fun s ra rb e Q k=>by cases ra;cases rb;obtain ⟨h,rfl⟩:=BC e;exact ⟨_,_,rfl,rfl,h,k _ _ _ (.refl s) rfl⟩) ea eb
theorem ev_neg (ea:EV K ta σ G ia):EV K (tUn (rU fun i=>.int (-i)) ta) σ G (ia.bind fun a=>some (-a)) :=
 ev_un (fun s ra e Q k=>by cases ra;cases e;exact ⟨_,rfl,k _ _ _ (.refl s) rfl⟩) ea
theorem Ip {p:Int->Int->Bool}{q:List Nat->List Nat->Bool}(ea:EV K ta σ G ia)(eb:EV K tb σ G ib):EV K (tOp (O3 p q) ta tb) σ G (ia.bind fun a=>ib.bind fun b=>some (p a b)) :=
 CK (fun s ra rb e Q k=>by cases ra;cases rb;cases e;exact k _ _ _ (.refl s) rfl) ea eb
theorem Dm (ea:EV K ta σ G ia)(eb:EV K tb σ G ib):EV K (tOp rEq ta tb) σ G (ia.bind fun a=>ib.bind fun b=>some (decide (a=b))) :=
 CK (fun s ra rb e Q k=>by cases ra;cases rb;cases e;exact ⟨rfl,k _ _ _ (.refl s) (by show V.bl _=V.bl _;congr 1;simp)⟩) ea eb
theorem ev_neI (ea:EV K ta σ G ia)(eb:EV K tb σ G ib):EV K (tOp rNe ta tb) σ G (ia.bind fun a=>ib.bind fun b=>some (!decide (a=b))) :=
 CK (fun s ra rb e Q k=>by cases ra;cases rb;cases e;exact ⟨rfl,k _ _ _ (.refl s) (by show V.bl _=V.bl _;congr 1;simp)⟩) ea eb
end
section
variable {ba bb:Option Bool}
theorem ev_neB (ea:EV K ta σ G ba)(eb:EV K tb σ G bb):EV K (tOp rNe ta tb) σ G (ba.bind fun a=>bb.bind fun b=>some (!decide (a=b))) :=
 CK (fun s ra rb e Q k=>by cases ra;cases rb;cases e;exact ⟨rfl,k _ _ _ (.refl s) (by show V.bl _=V.bl _;congr 1;simp)⟩) ea eb
theorem JH (ea:EV K ta σ G ba):EV K (tNotV ta) σ G (ba.bind fun a=>some (!a)):=by
 clear 7;obtain ⟨a,ha,hc⟩:=qaA.mp hc;cases hc;clear 8 ea a ha;cases r2;exact ⟨_,rfl,k _ _ _ x2 rfl⟩
theorem Dl (ea:EV K ta σ G ba)(eb:EV K tb σ G bb):EV K (tAndV ta tb) σ G (ba.bind fun a=>cond a bb (some false)):=by
 clear 7;obtain ⟨a,ha,hc⟩:=qaA.mp hc;clear 8 ea a ha;cases r2;refine ⟨_,rfl,?_⟩
 cases a with
 | false=>cases hc;exact Bd (k _ _ _ x2 rfl)
 | true=>exact Bo (eb G2 (s1.trans x2.gg) c hc H2 x2.gh _ fun u G3 H3 x3 r3=>k _ _ _ (x2.trans x3) r3)
theorem ev_or (ea:EV K ta σ G ba)(eb:EV K tb σ G bb):EV K (tOrV ta tb) σ G (ba.bind fun a=>cond a (some true) bb):=by
 clear 7;obtain ⟨a,ha,hc⟩:=qaA.mp hc;clear 8 ea a ha;cases r2;refine ⟨_,rfl,?_⟩
 cases a with
 | true=>cases hc;exact Bo (k _ _ _ x2 rfl)
 | false=>exact Bd (eb G2 (s1.trans x2.gg) c hc H2 x2.gh _ fun u G3 H3 x3 r3=>k _ _ _ (x2.trans x3) r3)
theorem Ao (ea:EV K ta σ G ba):TV (tTest ta) σ G ba:=by
 clear 7;clear 8 ea c hc;cases r2;exact ⟨_,rfl,k _ _ x2⟩
theorem DD {t:TT}(ea:TV t σ G ba):TV (tNot t) σ G (ba.bind fun a=>some (!a)):=by
 clear 7;obtain ⟨a,ha,hc⟩:=qaA.mp hc;cases hc;exact ea G1 s1 a ha H sH _ fun G2 H2 x2=>k _ _ x2
theorem FM {t u:TT}(ea:TV t σ G ba)(eb:TV u σ G bb):TV (tOr t u) σ G (ba.bind fun a=>cond a (some true) bb):=by
 clear 7;obtain ⟨a,ha,hc⟩:=qaA.mp hc;refine ea G1 s1 a ha H sH _ fun G2 H2 x2=>?_
 cases a with
 | true=>cases hc;exact Bo (k _ _ x2)
 | false=>exact Bd (eb G2 (s1.trans x2.gg) c hc H2 x2.gh _ fun G3 H3 x3=>k _ _ (x2.trans x3))
theorem tv_tru {f:α->Bool}(h:∀ {G:Hp}{v:V}{a:α},Rp.rel K G v a->TruV K v G (f a))(mn:∀ {G H:Hp}{v:V}{k:Bool},Same G H->TruV K v G k->TruV K v H k)(ea:EV K ta σ G ma) :
  TV (fun σ H Q=>ta σ H fun x H'=>∃ k,TruV K x H' k/\Q k H') σ G (ma.bind fun a=>some (f a)):=by
 clear 7;obtain ⟨a,ha,hc⟩:=qaA.mp hc;cases hc;clear 8 ea a ha;exact ⟨_,mn x2.gh (h r2),k _ _ x2⟩
end
end
end
section
variable {K:FZ9}{σ:St}{G:Hp}{α β γ δ:Type}[Rp α][Rp β][Rp γ][Rp δ]{ta tb tc td:TE}{ma:Option α}{mb:Option β}{mc:Option γ}{md:Option δ}
section
variable {sa sb:Option Str}{ia ib:Option Int}
def HP (a b:Str):Option Str:=if a.length+b.length<=sizeLine then some (a++b) else none
theorem EN (ea:EV K ta σ G sa)(eb:EV K tb σ G sb):EV K (tOp (KP K) ta tb) σ G (sa.bind fun a=>sb.bind fun b=>HP a b) :=
 CK (fun s ra rb e Q k=>by
  obtain ⟨rfl,z1⟩:=ra;obtain ⟨rfl,z2⟩:=rb;obtain ⟨h,rfl⟩:=BC e
  exact ⟨h,k _ _ _ (.refl s) ⟨rfl,by rw [len_app];exact h⟩⟩) ea eb
theorem L5 {p:Int->Int->Bool}{q:List Nat->List Nat->Bool}(ea:EV K ta σ G sa)(eb:EV K tb σ G sb):EV K (tOp (O3 p q) ta tb) σ G (sa.bind fun a=>sb.bind fun b=>some (q a.cps.toList b.cps.toList)) :=
 CK (fun s ra rb e Q k=>by obtain ⟨rfl,z1⟩:=ra;obtain ⟨rfl,z2⟩:=rb;cases e;exact k _ _ _ (.refl s) rfl) ea eb
theorem C5 (ea:EV K ta σ G sa)(eb:EV K tb σ G sb):EV K (tOp rEq ta tb) σ G (sa.bind fun a=>sb.bind fun b=>some (decide (a=b))) :=
 CK (fun s ra rb e Q k=>by obtain ⟨rfl,z1⟩:=ra;obtain ⟨rfl,z2⟩:=rb;cases e;exact ⟨rfl,k _ _ _ (.refl s) (by show V.bl _=V.bl _;congr 1;simp)⟩) ea eb
def inS (a b:Str):Bool:=!(Builtin.Str.occurrences b a 0 b.length 1).isEmpty
theorem ev_inS (ea:EV K ta σ G sa)(eb:EV K tb σ G sb):EV K (tOp (fun x y H Q=>∃ i j,x = .str i/\y = .str j/\Q (.bl (!(Builtin.Str.occurrences j i 0 j.length 1).isEmpty)) H) ta tb) σ G (sa.bind fun a=>sb.bind fun b=>some (inS a b)) :=
 CK (fun s ra rb e Q k=>by obtain ⟨rfl,z1⟩:=ra;obtain ⟨rfl,z2⟩:=rb;cases e;exact ⟨_,_,rfl,rfl,k _ _ _ (.refl s) rfl⟩) ea eb
theorem ev_atS (ea:EV K ta σ G sa)(eb:EV K tb σ G ib):EV K (tOp (rAt K) ta tb) σ G (sa.bind fun a=>ib.bind fun i=>(atI a.cps.toList i).bind fun c=>some (⟨#[c]⟩:Str)) :=
 CK (fun s ra rb e Q k=>by
  obtain ⟨rfl,z1⟩:=ra;cases rb;obtain ⟨c,hc,e⟩:=qaA.mp e;cases e
  exact ⟨z1,c,hc,k _ _ _ (.refl s) ⟨rfl,by show 1<=sizeLine;decide⟩⟩) ea eb
end
theorem DP {R:V->α->Prop}{xs:List V}{as:List α}{i:Int}{a:α}(p:Paired R xs as)(h:atI as i=some a):∃ v,atI xs i=some v/\R v a:=by
 have hl:=Paired.length p;unfold atI at h ⊢;obtain ⟨j,hj,h⟩:=qaA.mp h;rw [hl,hj]
 have hlt:j<xs.length:=by
  have:=(qrA.mp h).1;omega
 exact ⟨xs[j],qsA hlt,Paired.at' p (qsA hlt) h⟩
theorem Paired.app {α β:Type}{F:α->β->Prop}:∀ {l1 l2:List α}{m1 m2:List β},Paired F l1 m1->Paired F l2 m2->Paired F (l1++l2) (m1++m2)
 | _,_,_,_,.nil,h=>h
 | _,_,_,_,.cons r t,h=>.cons r (Paired.app t h)
theorem Paired.tk {α β:Type}{F:α->β->Prop}:∀ (n:Nat) {l:List α}{m:List β},Paired F l m->Paired F (l.take n) (m.take n)
 | 0,_,_,_=>by simpa using .nil
 | n+1,_,_,.nil=>by simpa using .nil
 | n+1,_,_,.cons r t=>.cons r (Paired.tk n t)
theorem Paired.dp {α β:Type}{F:α->β->Prop}:∀ (n:Nat) {l:List α}{m:List β},Paired F l m->Paired F (l.drop n) (m.drop n)
 | 0,_,_,h=>h
 | n+1,_,_,.nil=>by simpa using .nil
 | n+1,_,_,.cons r t=>Paired.dp n t
theorem Paired.rep {α β:Type}{F:α->β->Prop}{l:List α}{m:List β}(h:Paired F l m):∀ n:Nat,Paired F (List.replicate n l).flatten (List.replicate n m).flatten
 | 0=>.nil
 | n+1=>by
  rw [List.replicate_succ,List.replicate_succ,List.flatten_cons,List.flatten_cons];exact Paired.app h (Paired.rep h n)
theorem Paired.st {α β:Type}{F:α->β->Prop}{a:α}{b:β}(r:F a b):∀ {l:List α}{m:List β}(j:Nat),Paired F l m->Paired F (l.set j a) (m.set j b)
 | _,_,_,.nil=>.nil
 | _,_,0,.cons _ t=>.cons r t
 | _,_,j+1,.cons q t=>.cons q (Paired.st r j t)
section
variable {la lb:Option (List α)}{ia ib:Option Int}
theorem BU (ea:EV K ta σ G la)(eb:EV K tb σ G ib):EV K (tOp (rAt K) ta tb) σ G (la.bind fun a=>ib.bind fun i=>atI a i) :=
 CK (fun s ra rb e Q k=>by
  obtain ⟨l,xs,rfl,h,z,p⟩:=ra;cases rb;obtain ⟨v,hv,r⟩:=DP p e
  exact .inl ⟨xs,v,.inl (s.rd h),hv,k _ _ _ (.refl s) r⟩) ea eb
theorem CZ {pa:Option (Tp α)}(ea:EV K ta σ G pa)(eb:EV K tb σ G ib):EV K (tOp (rAt K) ta tb) σ G (pa.bind fun a=>ib.bind fun i=>atI a.l i) :=
 CK (fun s ra rb e Q k=>by
  obtain ⟨l,xs,rfl,h,z,p⟩:=ra;cases rb;obtain ⟨v,hv,r⟩:=DP p e
  exact .inr ⟨xs,v,s.tup h,hv,k _ _ _ (.refl s) r⟩) ea eb
theorem NU {τ:Type}[Rp τ]{mt:Option τ}{i:Int}{f:τ->α}(h:∀ {G:Hp}{v:V}{p:τ},Rp.rel K G v p->∃ t xs w,v = .ref t/\SqT K G t xs/\atI xs i=some w/\Rp.rel K G w (f p))(ea:EV K ta σ G mt) :
  EV K (tOp (rAt K) ta (tC (.int i))) σ G (mt.bind fun p=>some (f p)):=by
 clear 7;obtain ⟨a,ha,hc⟩:=qaA.mp hc;cases hc;clear 8 ea a ha;obtain ⟨t,xs,w,rfl,ht,hw,r⟩:=h r2;exact .inr ⟨xs,w,x2.gh.tup ht,hw,k _ _ _ x2 r⟩
theorem MS {mt:Option (α × β)}(ea:EV K ta σ G mt):EV K (tOp (rAt K) ta (tC (.int 0))) σ G (mt.bind fun p=>some p.1) :=
 NU (τ:=α × β) (fun ⟨t,a,b,e,h,r1,r2⟩=>⟨t,_,a,e,h,rfl,r1⟩) ea
theorem ev_snd {mt:Option (α × β)}(ea:EV K ta σ G mt):EV K (tOp (rAt K) ta (tC (.int 1))) σ G (mt.bind fun p=>some p.2) :=
 NU (τ:=α × β) (fun ⟨t,a,b,e,h,r1,r2⟩=>⟨t,_,b,e,h,rfl,r2⟩) ea
theorem Iq {H:Hp}{Q:VK}{as:List α}{G1:Hp}(s:Same G1 H){vs:List V}(hz:vs.length<=sizeLine)(hp:Paired (Rp.rel K G1) vs as)
  (k:∀ p vs G2 H2,Ext G1 H G2 H2->H p=none->G2 p=none->H2 p=some (.lst vs)->vs.length<=sizeLine->Paired (Rp.rel K G2) vs as->Q (.ref p) H2):∀ p,H p=none->Q (.ref p) (upd H p (.lst vs)) :=
 fun p h=>k p vs G1 _ (.own s h) h (s.free h) AQ hz hp
theorem FV.mono {H H' G1 G2:Hp}{as:List α}{Q:VK}(x:Ext G1 H G2 H')
  (k:∀ p vs G3 H3,Ext G1 H G3 H3->H p=none->G3 p=none->H3 p=some (.lst vs)->vs.length<=sizeLine->Paired (Rp.rel K G3) vs as->Q (.ref p) H3) :
  ∀ p vs G3 H3,Ext G2 H' G3 H3->H' p=none->G3 p=none->H3 p=some (.lst vs)->vs.length<=sizeLine->Paired (Rp.rel K G3) vs as->Q (.ref p) H3 :=
 fun p vs G3 H3 y h0=>k p vs G3 H3 (x.trans y) (x.hh.free h0)
def JG {α:Type}(a b:List α):Option (List α):=if a.length+b.length<=sizeLine then some (a++b) else none
theorem Et (ea:EV K ta σ G la)(eb:EV K tb σ G lb):FV K (tOp (KP K) ta tb) σ G (la.bind fun a=>lb.bind fun b=>JG a b):=by
 clear 7;obtain ⟨a,ha,hc⟩:=qaA.mp hc;obtain ⟨b,hb,hc⟩:=qaA.mp hc;obtain ⟨hl,rfl⟩:=BC hc;clear 8 ea a ha;refine eb G2 (s1.trans x2.gg) b hb H2 x2.gh _ fun u G3 H3 x3 r3=>?_;obtain ⟨l1,xs,rfl,h1,z1,p1⟩:=Rp.mono x3.gg r2;obtain ⟨l2,ys,rfl,h2,z2,p2⟩:=r3;have e1:=Paired.length p1;have e2:=Paired.length p2;have hz:(xs++ys).length<=sizeLine:=by rw [qeA];omega
 exact ⟨xs,ys,x3.gh.rd h1,x3.gh.rd h2,by rw [qeA] at hz;exact hz,Iq x3.gh hz (Paired.app p1 p2) (FV.mono (x2.trans x3) k)⟩
def D4 {α:Type}(xs:List α)(lo hi:Option Int):List α:=(xs.drop (HT.sIx xs.length 0 lo)).take (HT.sIx xs.length xs.length hi - HT.sIx xs.length 0 lo)
theorem Paired.cut {α:Type}{R:V->α->Prop}{xs:List V}{as:List α}(p:Paired R xs as)(lo hi:Option Int):Paired R (Jg xs lo hi) (D4 as lo hi):=by
 unfold Jg D4;rw [Paired.length p];exact Paired.tk _ (Paired.dp _ p)
section
variable {t1 t2:TO}{m1 m2:Option (Option Int)}
theorem Bz:OV Nw σ G (some none):=fun G1 s1 a ha H sH Q k=>by
 cases ha;exact k _ _ (.refl sH)
theorem By (ea:EV K ta σ G ia):OV (tPart ta) σ G (ia.bind fun i=>some (some i)):=by
 clear 7;obtain ⟨a,ha,hc⟩:=qaA.mp hc;cases hc;clear 8 ea a ha;cases r2;exact ⟨_,rfl,k _ _ x2⟩
theorem CC (ea:EV K ta σ G la)(e1:OV t1 σ G m1)(e2:OV t2 σ G m2):FV K (tSl (rSl K) ta t1 t2) σ G (la.bind fun a=>m1.bind fun lo=>m2.bind fun hi=>some (D4 a lo hi)):=by
 clear 7;obtain ⟨a,ha,hc⟩:=qaA.mp hc;obtain ⟨lo,hlo,hc⟩:=qaA.mp hc;obtain ⟨hi,hhi,hc⟩:=qaA.mp hc;cases hc;clear 8 ea a ha;refine e1 G2 (s1.trans x2.gg) lo hlo H2 x2.gh _ fun G3 H3 x3=>?_;refine e2 G3 (s1.trans (x2.trans x3).gg) hi hhi H3 x3.gh _ fun G4 H4 x4=>?_;obtain ⟨l,xs,rfl,h,z,p⟩:=Rp.mono (x3.trans x4).gg r2;exact ⟨xs,.inl (x4.gh.rd h),Iq x4.gh (qbB (Db _ _ _) z) (Paired.cut p lo hi) (FV.mono ((x2.trans x3).trans x4) k)⟩
end
end
section
variable {t:TA}{n:Nat}{ml:Option (List α)}
theorem AF:LV K Bb σ G 0 (some ([]:List α)):=fun G1 s1 a ha H sH Q k=>by
 cases ha;exact k _ _ _ (.refl sH) rfl .nil
theorem A5 (ea:EV K ta σ G ma)(er:LV K t σ G n ml):LV K (AX ta t) σ G (n+1) (ma.bind fun a=>ml.bind fun r=>some (a::r)):=by
 clear 7;obtain ⟨a,ha,hc⟩:=qaA.mp hc;obtain ⟨r,hr,hc⟩:=qaA.mp hc;cases hc;clear 8 ea a ha;refine er G2 (s1.trans x2.gg) r hr H2 x2.gh _ fun vs G3 H3 x3 hl hp=>?_;exact k _ _ _ (x2.trans x3) (by rw [qfA,hl]) (.cons (Rp.mono x3.gg r2) hp)
theorem B3 (e:LV K t σ G n ml)(hn:n<=sizeLine:=by decide):FV K (tLst t) σ G ml:=by
 clear 7;refine e G1 s1 c hc H sH _ fun vs G2 H2 x2 hl hp=>?_;exact ⟨by omega,Iq x2.gh (by omega) hp (FV.mono x2 k)⟩
theorem AZ (e:LV K t σ G n ml)(hn:n<=sizeLine:=by decide):EV K (Ih t) σ G (ml.bind fun l=>some (Tp.mk l)):=by
 clear 7;obtain ⟨l,hl,hc⟩:=qaA.mp hc;cases hc;refine e G1 s1 l hl H sH _ fun vs G2 H2 x2 hl hp=>⟨by omega,fun p h=>?_⟩;exact k _ _ _ (x2.trans (.new x2.gh h)) ⟨p,vs,rfl,SqT.of AQ,by omega,Paired.imp' (fun _ _ r=>Rp.mono (Same.new (x2.gh.free h)) r) hp⟩
theorem GA (ea:EV K ta σ G ma)(eb:EV K tb σ G mb):EV K (Ih (AX ta (AX tb Bb))) σ G (ma.bind fun a=>mb.bind fun b=>some (a,b)):=by
 clear 7;obtain ⟨a,ha,hc⟩:=qaA.mp hc;obtain ⟨b,hb,hc⟩:=qaA.mp hc;cases hc;clear 8 ea a ha;refine eb G2 (s1.trans x2.gg) b hb H2 x2.gh _ fun u G3 H3 x3 r3=>⟨by show 2<=sizeLine;decide,fun p h=>?_⟩;have s:=Same.new (o:=.tup [v,u]) (x3.gh.free h);exact k _ _ _ ((x2.trans x3).trans (.new x3.gh h)) ⟨p,v,u,rfl,SqT.of AQ,Rp.mono (x3.gg.trans s) r2,Rp.mono s r3⟩
end
section
variable {t:TA}{A B:Type}[RpA A][RpA B]{mA:Option A}
theorem av_nil:AV K Bb σ G (some ()):=fun G1 s1 a ha H sH Q k=>by
 cases ha;exact k _ _ _ (.refl sH) rfl
theorem av_cons (ea:EV K ta σ G ma)(er:AV K t σ G mA):AV K (AX ta t) σ G (ma.bind fun a=>mA.bind fun r=>some (a,r)):=by
 clear 7;obtain ⟨a,ha,hc⟩:=qaA.mp hc;obtain ⟨r,hr,hc⟩:=qaA.mp hc;cases hc;clear 8 ea a ha;refine er G2 (s1.trans x2.gg) r hr H2 x2.gh _ fun vs G3 H3 x3 hp=>?_;exact k _ _ _ (x2.trans x3) ⟨v,vs,rfl,Rp.mono x3.gg r2,hp⟩
def spM (K:FZ9){A:Type}{ρ:Type}[RpA A][Rp ρ](m:A->Option ρ):Sp:=fun vs H Q _ =>
 ∃ G a r,Same G H/\RpA.rel K G vs a/\m a=some r/\∀ v G2 H2,Ext G H G2 H2->Rp.rel K G2 v r->Q v H2
theorem F6 {A:Type}{ρ:Type}[RpA A][Rp ρ]{m:A->Option ρ}{vs:List V}{H:Hp}{Q:VK}{E:XK}(h:spM K m vs H Q E):vs.length=RpA.n A:=by
 obtain ⟨G,a,r,_,h,_⟩:=h;exact RpA.len h
theorem ev_def {m:A->Option α}(ea:AV K t σ G mA):EV K (DG (spM K m) [] E0 t) σ G (mA.bind fun a=>m a):=by
 clear 7;obtain ⟨a,ha,hc⟩:=qaA.mp hc;refine ea G1 s1 a ha H sH _ fun vs G2 H2 x2 hp=>?_;show spM K m (vs++[]) H2 Q E0;rw [qzA];exact ⟨G2,a,c,x2.gh,hp,hc,fun v G3 H3 x3 r3=>k v G3 H3 (x2.trans x3) r3⟩
theorem EQ {la:Option (List α)}(ea:EV K ta σ G la):EV K (tCB (LO K) (AX ta Bb)) σ G (la.bind fun a=>some (a.length:Int)):=by
 clear 7;obtain ⟨a,ha,hc⟩:=qaA.mp hc;cases hc;clear 8 ea a ha;obtain ⟨l,xs,rfl,h,z,p⟩:=r2;exact ⟨xs,.inl (.inl (x2.gh.rd h)),by rw [Paired.length p];exact k _ _ _ x2 rfl⟩
theorem ev_lenT {la:Option (Tp α)}(ea:EV K ta σ G la):EV K (tCB (LO K) (AX ta Bb)) σ G (la.bind fun a=>some (a.l.length:Int)):=by
 clear 7;obtain ⟨a,ha,hc⟩:=qaA.mp hc;cases hc;clear 8 ea a ha;obtain ⟨l,xs,rfl,h,z,p⟩:=r2;exact ⟨xs,.inr (x2.gh.tup h),by rw [Paired.length p];exact k _ _ _ x2 rfl⟩
theorem Km {la:Option (List α)}(ea:EV K ta σ G la):FV K (tCB (fun xs H Q=>∃ p ys,xs=[.ref p]/\(SqL K H p ys\/SqT K H p ys)/\∀ l,H l=none->Q (.ref l) (upd H l (.lst ys))) (AX ta Bb)) σ G la:=by
 intro G1 s1 a ha H sH Q k;clear 8 ea a ha;obtain ⟨l,xs,rfl,h,z,p⟩:=r2;exact ⟨l,xs,rfl,.inl (.inl (x2.gh.rd h)),Iq x2.gh z p (FV.mono x2 k)⟩
end
inductive TyS (K:FZ9)(H:Hp):V->String->Prop where
 | non:TyS K H .non "NoneType"
 | bl (x:Bool):TyS K H (.bl x) "bool"
 | int (i:Int):TyS K H (.int i) "int"
 | str (x:Str):TyS K H (.str x) "str"
 | lst {a:Addr}{xs:List V}(e:SqL K H a xs):TyS K H (.ref a) "list"
 | tup {a:Addr}{xs:List V}(e:SqT K H a xs):TyS K H (.ref a) "tuple"
 | dK {a:Addr}{kvs:List (Key × V)}(e:Rd H a (.dK kvs)):TyS K H (.ref a) "dict"
 | dT {a:Addr}{kvs:List (List Key × V)}(e:Rd H a (.dT kvs)):TyS K H (.ref a) "dict"
def rInst (K:FZ9):List V->Hp->VK->Prop:=fun vs H Q=>∃ x t T b,vs=[x,.ty T]/\TyS K H x t/\kitC t T=some b/\Q (.bl b) H
theorem OG {X:Cx}:De X (.builtin "isinstance") (rInst X.K):=by
 intro pins s σ H vs us Q I r h;obtain ⟨x,t,T,b,rfl,ty,e,q⟩:=h;obtain ⟨u,w',rfl,rx,r2⟩:=vals2 r;obtain rfl:w'=Value.type T:=r2;have e:=kit_of (K:=X.K) e;have fin:∀ tk,EP X pins σ Q (.bool b) { s with toks:=tk }:=fun tk=>⟨.bl b,H,I.tok tk,rfl,q⟩
 cases ty with
 | non=>cases (show u=Value.none from rx);exact PySem.W.kia_one PySem.W.kitx_none I.kIn True.intro e (fun z=>nomatch z) fin
 | bl y=>cases (show u=Value.bool y from rx);exact PySem.W.kia_one PySem.W.kitx_bool I.kIn True.intro e (fun z=>nomatch z) fin
 | int i=>obtain ⟨t,q'⟩:=(show ∃ t,u=Value.int i t from rx);cases q';exact PySem.W.kia_one PySem.W.kitx_int I.kIn True.intro e (fun z=>nomatch z) fin
 | str y=>obtain ⟨t,q'⟩:=(show ∃ t,u=Value.str y t from rx);cases q';exact PySem.W.kia_one PySem.W.kitx_str I.kIn True.intro e (fun z=>nomatch z) fin
 | @lst a xs ea =>
  cases (show u=Value.ref a from rx);obtain ⟨its,_,pl,_⟩:=I.list ea;obtain ⟨o,n,h1,h2,_⟩:=pl;exact PySem.W.kia_one PySem.W.kitx_list I.kIn ⟨o,h1,h2⟩ e (fun z=>nomatch z) fin
 | @tup a xs ea =>
  cases (show u=Value.ref a from rx);obtain ⟨its,_,pl,_⟩:=I.tuple ea;obtain ⟨o,h1,h2,_⟩:=pl;exact PySem.W.kia_one PySem.W.kitx_tuple I.kIn ⟨o,h1,h2⟩ e (fun z=>nomatch z) fin
 | @dK a kvs ea =>
  cases (show u=Value.ref a from rx);obtain ⟨_,_,vs,_,p⟩:=ea.ok I.hok;obtain ⟨o,es,ep,h1,h2,_⟩:=p;exact PySem.W.kia_one PySem.W.kitx_dict I.kIn ⟨o,h1,h2.1⟩ e (fun z=>nomatch z) fin
 | @dT a kvs ea =>
  cases (show u=Value.ref a from rx);obtain ⟨_,_,xs,_,o,es,ep,h1,h2,_⟩:=ea.ok I.hok;exact PySem.W.kia_one PySem.W.kitx_dict I.kIn ⟨o,h1,h2.1⟩ e (fun z=>nomatch z) fin
class RpT (α:Type) [Rp α] where
 tn:String
 ty:∀ {K:FZ9}{H:Hp}{v:V}{a:α},Rp.rel K H v a->TyS K H v tn
theorem TyS.mono {H H':Hp}{v:V}{t:String}(s:Same H H')(h:TyS K H v t):TyS K H' v t:=by
 cases h with
 | non=>exact .non
 | bl=>exact .bl _
 | int=>exact .int _
 | str=>exact .str _
 | lst e=>exact .lst (s.seq e)
 | tup e=>exact .tup (s.tup e)
 | dK e=>exact .dK (s.rd e)
 | dT e=>exact .dT (s.rd e)
theorem EqTy.imp {k:Nat}{α:Type}[DecidableEq α]{R R':Hp->V->α->Prop}(E:EqTy K k R)(h:∀ H v a,R' H v a->R H v a):EqTy K k R' :=
 ⟨fun hK I a b=>E.fn hK I (h _ _ _ a) (h _ _ _ b),fun A hK I hu r1 r2 a b=>E.eq A hK I hu r1 r2 (h _ _ _ a) (h _ _ _ b),fun A hK I hu r1 r2 a b=>E.rc A hK I hu r1 r2 (h _ _ _ a) (h _ _ _ b)⟩
class RpE (α:Type) [Rp α] [DecidableEq α] where
 k:Nat
 ty:∀ K:FZ9,EqTy K k (Rp.rel (α:=α) K)
instance reBool:RpE Bool:=⟨0,fun _=>eqBl⟩
instance reList {α:Type}[Rp α][DecidableEq α][RpE α]:RpE (List α):=⟨RpE.k α+1,fun K=>(eqLst (RpE.ty K)).imp fun _ _ _ ⟨l,xs,e,h,_,p⟩=>⟨l,xs,e,.inl h,p⟩⟩
section
variable {α:Type}[Rp α][DecidableEq α]{m1 m2:Option α}
def rEqD (K:FZ9)(α:Type)[Rp α][DecidableEq α]:R2:=fun x y H Q=>∃ a b:α,Rp.rel K H x a/\Rp.rel K H y b/\Q (.bl (decide (a=b))) H
theorem op_eqM {X:Cx}{j:Nat}(α:Type)[Rp α][DecidableEq α][RpE α](hr:Room j X.A)(hk:RpE.k α<=10):OpR X (compareOp .Eq) (rEqD X.K α):=op_eqD (RpE.ty X.K) hr hk
theorem ev_eq (ea:EV K ta σ G m1)(eb:EV K tb σ G m2):EV K (tOp (rEqD K α) ta tb) σ G (m1.bind fun a=>m2.bind fun b=>some (decide (a=b))) :=
 CK (fun s ra rb e Q k=>by cases e;exact ⟨_,_,Rp.mono s ra,Rp.mono s rb,k _ _ _ (.refl s) rfl⟩) ea eb
end
end
inductive Fl (S ρ:Type) where
 | nx (s:S)
 | bk (s:S)
 | rt (r:ρ)
def ES {α S ρ:Type}(f:α->S->Option (Fl S ρ)):List α->S->Option (Fl S ρ)
 | [],s=>some (.nx s)
 | a::as,s=>(f a s).bind fun fl=>match fl with
  | .nx s'=>ES f as s'
  | .bk s'=>some (.nx s')
  | .rt r=>some (.rt r)
def Gm {S ρ:Type}(c:S->Option Bool)(f:S->Option (Fl S ρ)):Nat->S->Option (Fl S ρ)
 | 0,_=>none
 | n+1,s=>(c s).bind fun b=>cond b ((f s).bind fun fl=>match fl with
  | .nx s'=>Gm c f n s'
  | .bk s'=>some (.nx s')
  | .rt r=>some (.rt r)) (some (.nx s))
def NN:Nat:=16777216
def ID {α β:Type}(fc:α->Option Bool)(fe:α->Option β):List α->Option (List β)
 | []=>some []
 | a::r=>(fc a).bind fun b=>cond b ((fe a).bind fun y=>(ID fc fe r).bind fun ys=>some (y::ys)) (ID fc fe r)
def FU {α β:Type}(fe:α->Option β):List α->Option (List β)
 | []=>some []
 | a::r=>(fe a).bind fun y=>(FU fe r).bind fun ys=>some (y::ys)
theorem JE {α β:Type}(fe:α->Option β):∀ as,ID (fun _=>some true) fe as=FU fe as
 | []=>rfl
 | a::r=>by
  show ((fe a).bind fun y=>(ID (fun _=>some true) fe r).bind fun ys=>some (y::ys))=_;rw [JE fe r]
  rfl
def OW (lo hi:Int):Option (List Int):=if (-(2 ^ 62)<=lo/\lo<2 ^ 62/\-(2 ^ 62)<=hi/\hi<2 ^ 62)/\(hi - lo).toNat<=sizeLine then some ((List.range (hi - lo).toNat).map fun (i:Nat)=>lo+(i:Int)) else none
section
variable {K:FZ9}{σ:St}{G:Hp}{α β γ δ:Type}[Rp α][Rp β][Rp γ][Rp δ]{ta tb tc td:TE}{ma:Option α}{mb:Option β}{mc:Option γ}{md:Option δ}
def IW (K:FZ9){α:Type}[Rp α](wi:TI)(σ:St)(G:Hp)(m:Option (List α)):Prop :=
 ∀ G1,Same G G1->∀ a,m=some a->∀ H,Same G1 H->∀ R:It->Hp->Prop,(∀ J vs G2 H2,Ext G1 H G2 H2->Yields J G2 vs->vs.length<=sizeLine->Paired (Rp.rel K G2) vs a->R J H2)->wi σ H R
theorem Ii {a:Addr}{xs:List V}{H:Hp}(h:SqT K H a xs):Yields (Itt K a) H xs where
 go:=fun i H' s hi=>⟨xs,xs[i],s.tup h,by simp [hi]⟩
 stop:=fun H' s=>⟨xs,s.tup h,qaB _⟩
 yld:=fun i H' v H'' s _ y=>⟨y.1,y.2 xs (s.tup h)⟩
theorem GI {la:Option (List α)}(ea:EV K ta σ G la):IW K (Jj K ta) σ G la:=by
 intro G1 s1 a ha H sH R k;clear 8 ea a ha;obtain ⟨l,xs,rfl,h,z,p⟩:=r2;exact .inl ⟨⟨xs,.inl (x2.gh.rd h)⟩,k _ xs G2 H2 x2 (I0 (.inl h)) z p⟩
theorem iw_tup {la:Option (Tp α)}(ea:EV K ta σ G la):IW K (Jj K ta) σ G (la.bind fun a=>some a.l):=by
 intro G1 s1 a ha H sH R k;obtain ⟨b,hb,ha⟩:=qaA.mp ha;cases ha;clear 8 ea b hb;obtain ⟨l,xs,rfl,h,z,p⟩:=r2;exact .inr ⟨⟨xs,x2.gh.tup h⟩,k _ xs G2 H2 x2 (Ii h) z p⟩
def MW (x:Str):List Str:=x.cps.toList.map fun c=>(⟨#[c]⟩:Str)
theorem Kd (x:Str)(H:Hp):Paired (Rp.rel K H) (ER x) (MW x):=by
 unfold ER MW
 induction x.cps.toList with
 | nil=>exact .nil
 | cons c r ih=>exact .cons ⟨rfl,by show 1<=sizeLine;decide⟩ ih
theorem Fq (H:Hp)(f:Nat->Int):∀ l:List Nat,Paired (Rp.rel K H) (l.map fun i=>V.int (f i)) (l.map fun i=>f i)
 | []=>.nil
 | a::r=>.cons rfl (Fq H f r)
theorem IL {ia:Option Int}(ea:EV K ta σ G ia):IW K (iRng1 (AX ta Bb)) σ G (ia.bind fun j=>OW 0 j):=by
 intro G1 s1 a ha H sH R k;obtain ⟨j,hj,ha⟩:=qaA.mp ha;obtain ⟨⟨hb,hz⟩,rfl⟩:=BC ha;clear 8 ea j hj;cases r2;refine ⟨j,rfl,hb.2.2.1,hb.2.2.2,?_⟩;have e:(j - 0).toNat=j.toNat:=by omega
 rw [e] at hz k;exact k (Itr 0 j.toNat) _ G2 H2 x2 (L4 0 j.toNat G2) (by rw [qdA,qhA];exact hz) (Fq G2 (fun i=>(0:Int)+(i:Int)) _)
theorem tv_yes:TV Jh σ G (some true):=fun G1 s1 a ha H sH Q k=>by
 cases ha;exact k _ _ (.refl sH)
theorem Paired.getR {F:V->α->Prop}:∀ {xs:List V}{as:List α}{i:Nat}{v:V},Paired F xs as->xs[i]? = some v->∃ a,as[i]? = some a/\F v a
 | _,_,_,_,.nil,e=>by simp at e
 | _,_,0,_,.cons r _,e=>by simp at e;subst e;exact ⟨_,rfl,r⟩
 | _,_,i+1,_,.cons _ t,e=>Paired.getR (i:=i) t (by simpa using e)
theorem fv_comp {cap:List Nat}{wi:TI}{tt:TT}{te:TE}{mi:Option (List α)}{fc:α->Option Bool}{fe:α->Option β}(ei:IW K wi σ G mi)
  (hb:∀ (x:V) (a:α) (G1:Hp),Same G G1->Rp.rel K G1 x a->TV tt ((inner cap σ).set 0 (some x)) G1 (fc a)/\EV K te ((inner cap σ).set 0 (some x)) G1 (fe a)) :
  FV K (Jb cap wi tt te) σ G (mi.bind fun as=>ID fc fe as):=by
 clear 7;obtain ⟨as,has,hc⟩:=qaA.mp hc;refine ei G1 s1 as has H sH _ fun J vs Ga Ha xa Y hz pr p hp=>?_;have hla:=Paired.length pr
 refine ⟨fun i m ys H2=>m=vs.length - i/\i<=vs.length/\∃ G2 bs cs,Ext Ga Ha G2 H2/\G2 p=none/\H2 p=some (.lst ys)/\ys.length<=i/\Paired (Rp.rel K G2) ys bs/\ID fc fe (as.drop i)=some cs/\c=bs++cs,
  ⟨vs.length,by simp,qyB _,Ga,[],c,.own xa.gh hp,xa.gh.free hp,AQ,qaB _,.nil,hc,rfl⟩,?_⟩
 rintro i m ys H2 ⟨rfl,hi,G2,bs,cs,x2,hg,hh,hy,hpr,hcs,rfl⟩;by_cases hlt:i<vs.length
 ·refine .inr ⟨Y.go i _ (x2.gg.trans x2.gh) hlt,fun ys' H'=>∃ G2 bs' cs',Ext Ga Ha G2 H'/\G2 p=none/\H' p=some (.lst ys')/\ys'.length<=i+1/\Paired (Rp.rel K G2) ys' bs'/\ID fc fe (as.drop (i+1))=some cs'/\bs++cs=bs'++cs',
   fun ys' H' ⟨G3,bs',cs',h⟩=>⟨vs.length - (i+1),by omega,rfl,hlt,G3,bs',cs',h⟩,fun x H3 y=>?_⟩
  obtain ⟨rfl,hx⟩:=Y.yld i _ x H3 (x2.gg.trans x2.gh) hlt y;obtain ⟨a,hai,ra⟩:=Paired.getR pr hx
  have hd:as.drop i=a::as.drop (i+1):=by
   obtain ⟨h1,h2⟩:=qrA.mp hai;rw [List.drop_eq_getElem_cons h1,h2]
  rw [hd] at hcs;obtain ⟨b,hbb,hcs⟩:=qaA.mp hcs;have B:=hb x a G2 (s1.trans (xa.gg.trans x2.gg)) (Rp.mono x2.gg ra);refine B.1 G2 (.refl _) b hbb _ x2.gh _ fun G5 H5 x5=>?_;have hp5:H5 p=some (.lst ys):=x5.hh _ _ hh;have hg5:G5 p=none:=x5.no p hg (by rw [hh];exact fun z=>nomatch z)
  cases b with
  | false =>
   rw [if_neg qnB];exact ⟨G5,bs,cs,x2.trans x5,hg5,hp5,by omega,Paired.imp' (fun _ _ r=>Rp.mono x5.gg r) hpr,hcs,rfl⟩
  | true =>
   rw [if_pos rfl];obtain ⟨z,hze,hcs⟩:=qaA.mp hcs;obtain ⟨cs',hcs',hcs⟩:=qaA.mp hcs;cases hcs;refine B.2 G5 x5.gg z hze H5 x5.gh _ fun v G6 H6 x6 r6=>?_;have hp6:H6 p=some (.lst ys):=x6.hh _ _ hp5;have hg6:G6 p=none:=x6.no p hg5 (by rw [hp5];exact fun z=>nomatch z);refine ⟨hp6,by omega,G6,bs++[z],cs',((x2.trans x5).trans x6).put hp hg6,hg6,AQ,?_,Paired.app (Paired.imp' (fun _ _ r=>Rp.mono (x5.trans x6).gg r) hpr) (.cons r6 .nil),hcs',by simp⟩;rw [qeA,qgA];omega
 ·have e:i=vs.length:=by omega
  subst e;have hd:as.drop vs.length=[]:=List.drop_eq_nil_of_le (by omega);rw [hd] at hcs;cases hcs;refine .inl ⟨Y.stop _ (x2.gg.trans x2.gh),?_⟩;rw [qzA] at k;exact k p ys G2 H2 (xa.trans x2) (xa.hh.free hp) hg hh (by omega) hpr
theorem JY {cap:List Nat}{wi:TI}{te:TE}{mi:Option (List α)}{fe:α->Option β}(ei:IW K wi σ G mi)
  (hb:∀ (x:V) (a:α) (G1:Hp),Same G G1->Rp.rel K G1 x a->EV K te ((inner cap σ).set 0 (some x)) G1 (fe a)) :
  FV K (Jb cap wi Jh te) σ G (mi.bind fun as=>FU fe as):=by
 have h:=fv_comp (tt:=Jh) (fc:=fun _=>some true) ei fun x a G1 s r=>⟨tv_yes,hb x a G1 s r⟩;have e:(fun as=>ID (fun _=>some true) fe as)=fun as=>FU fe as:=funext (JE fe);rw [e] at h;exact h
def repL {α:Type}(a:List α)(k:Int):Option (List α):=if (-(2 ^ 63)<=k/\k<2 ^ 63)/\a.length * k.toNat<=sizeLine then some (List.replicate k.toNat a).flatten else none
theorem ev_isN {mo:Option (Option α)}(hn:∀ {G:Hp}{v:V}{a:α},Rp.rel K G v a->v ≠ .non)(ea:EV K ta σ G mo) :
  EV K (tOp (fun x y H Q=>y = .non/\Q (.bl (decide (x = .non))) H) ta (tC .non)) σ G (mo.bind fun o=>some o.isNone):=by
 clear 7;obtain ⟨a,ha,hc⟩:=qaA.mp hc;cases hc;refine ea G1 s1 a ha H sH _ fun v G2 H2 x2 r2=>⟨rfl,?_⟩;refine k _ _ _ x2 ?_;show V.bl _=V.bl _
 congr 1
 cases a with
 | none=>exact decide_eq_true r2
 | some a=>exact decide_eq_false (hn r2)
theorem ev_notN {mo:Option (Option α)}(hn:∀ {G:Hp}{v:V}{a:α},Rp.rel K G v a->v ≠ .non)(ea:EV K ta σ G mo) :
  EV K (tOp (fun x y H Q=>y = .non/\Q (.bl (!decide (x = .non))) H) ta (tC .non)) σ G (mo.bind fun o=>some o.isSome):=by
 clear 7;obtain ⟨a,ha,hc⟩:=qaA.mp hc;cases hc;refine ea G1 s1 a ha H sH _ fun v G2 H2 x2 r2=>⟨rfl,?_⟩;refine k _ _ _ x2 ?_;show V.bl _=V.bl _
 congr 1
 cases a with
 | none=>rw [decide_eq_true (show v=V.non from r2)];rfl
 | some a=>rw [decide_eq_false (hn (show Rp.rel K G2 v a from r2))];rfl
end
section
variable {K:FZ9}{σ:St}{G H:Hp}{α β:Type}[Rp α][Rp β]{te:TE}{tt:TT}{t u rest:TS}{D:Ends}{i:Nat}{a:α}{m:Option α}
theorem Ak (e:EV K te σ G m)(hm:m=some a)(s:Same G H)(k:∀ v G2 H2,Ext G H G2 H2->Rp.rel K G2 v a->rest D (σ.set i (some v)) H2):CG (FI te (CY i)) rest D σ H:=e.run hm s k
theorem AY (e:EV K te σ G m)(hm:m=some a)(s:Same G H)(k:∀ v G2 H2,Ext G H G2 H2->Rp.rel K G2 v a->D.rt v H2):CG (Jo te) rest D σ H:=e.run hm s k
theorem BE {b:Bool}{m:Option Bool}(e:TV tt σ G m)(hm:m=some b)(s:Same G H)(k:∀ G2 H2,Ext G H G2 H2->if b=true then t { D with nx:=rest D } σ H2 else u { D with nx:=rest D } σ H2) :
  CG (ON tt t u) rest D σ H:=e.run hm s k
theorem sv_join (Pv:St->Hp->Prop)(h:∀ nx:St->Hp->Prop,(∀ σ' H',Pv σ' H'->nx σ' H')->CG t BD { D with nx:=nx } σ H)(key:∀ σ' H',Pv σ' H'->rest D σ' H'):CG t rest D σ H:=h (rest D) key
structure LoopOb (K:FZ9){α S ρ:Type}[Rp α](RR:ρ->V->Hp->Hp->Prop)(f:α->S->Option (Fl S ρ))(g:TG)(tb:TS)(D:Ends)(σ:St)(G2 H2:Hp)(as:List α)(s0:S)(res:Fl S ρ)(RS:S->St->Hp->Hp->Prop):Prop where
 start:RS s0 σ G2 H2
 keep:∀ s σ' G' H',RS s σ' G' H'->Same G2 G'/\Same G' H'
 step:∀ (x:V) (a:α) (s:S) (σ1:St) (G1 H1:Hp) (fl:Fl S ρ),a∈as->RS s σ1 G1 H1->Rp.rel K G1 x a->f a s=some fl->∀ D':Ends,(∀ s' σ' G' H',fl = .nx s'->RS s' σ' G' H'->D'.nx σ' H')->(∀ s' σ' G' H',fl = .nx s'->RS s' σ' G' H'->D'.ct σ' H') ->
  (∀ s' σ' G' H',fl = .bk s'->RS s' σ' G' H'->D'.bk σ' H')->(∀ r v G' H',fl = .rt r->RR r v G' H'->D'.rt v H')->g x σ1 H1 fun σ2 H2=>tb D' σ2 H2
 nxt:∀ s σ' G' H',res = .nx s->RS s σ' G' H'->D.nx σ' H'
 rtn:∀ r v G' H',res = .rt r->RR r v G' H'->D.rt v H'
theorem F1 {S ρ:Type}{RR:ρ->V->Hp->Hp->Prop}{f:α->S->Option (Fl S ρ)}{wi:TI}{g:TG}{tb:TS}{mi:Option (List α)}{as:List α}{s0:S}{res:Fl S ρ}(ei:IW K wi σ G mi)(hm:mi=some as)(hf:ES f as s0=some res)(sg:Same G H)
  (k:∀ G2 H2,Ext G H G2 H2->∃ RS,LoopOb K RR f g tb { D with nx:=rest D } σ G2 H2 as s0 res RS):CG (tFor wi g tb) rest D σ H:=by
 refine ei G (.refl G) as hm H sg _ fun J vs G2 H2 x2 Y hz pr=>?_;obtain ⟨RS,L⟩:=k G2 H2 x2;have hla:=Paired.length pr;refine ⟨fun i m σ' H'=>m=vs.length - i/\i<=vs.length/\∃ s G',RS s σ' G' H'/\ES f (as.drop i) s=some res,⟨vs.length,by simp,qyB _,s0,G2,L.start,hf⟩,?_⟩;rintro i m σ' H' ⟨rfl,hi,s,G',rs,hfo⟩;obtain ⟨k1,k2⟩:=L.keep _ _ _ _ rs;by_cases hlt:i<vs.length
 ·refine .inr ⟨Y.go i _ (k1.trans k2) hlt,fun σ'' H''=>∃ s' G'',RS s' σ'' G'' H''/\ES f (as.drop (i+1)) s'=some res,fun σ'' H'' ⟨s',G'',h⟩=>⟨vs.length - (i+1),by omega,rfl,hlt,s',G'',h⟩,fun x H3 y=>?_⟩;obtain ⟨rfl,hx⟩:=Y.yld i _ x H3 (k1.trans k2) hlt y;obtain ⟨a,hai,ra⟩:=Paired.getR pr hx
  have hd:as.drop i=a::as.drop (i+1):=by
   obtain ⟨h1,h2⟩:=qrA.mp hai;rw [List.drop_eq_getElem_cons h1,h2]
  rw [hd] at hfo;obtain ⟨fl,hfl,hfo⟩:=qaA.mp hfo;refine L.step x a s σ' G' _ fl (qqA hai) rs (Rp.mono k1 ra) hfl _ ?_ ?_ ?_ ?_
  ·intro s' σ'' G'' H'' e r;subst e;exact ⟨s',G'',r,hfo⟩
  ·intro s' σ'' G'' H'' e r;subst e;exact ⟨s',G'',r,hfo⟩
  ·intro s' σ'' G'' H'' e r;subst e;exact L.nxt s' σ'' G'' H'' (qdB hfo).symm r
  ·intro r v G'' H'' e rl;subst e;exact L.rtn r v G'' H'' (qdB hfo).symm rl
 ·have e:i=vs.length:=by omega
  subst e;have hd:as.drop vs.length=[]:=List.drop_eq_nil_of_le (by omega);rw [hd] at hfo;exact .inl ⟨Y.stop _ (k1.trans k2),L.nxt s σ' G' H' (qdB hfo).symm rs⟩
structure WhileOb (K:FZ9){S ρ:Type}(RR:ρ->V->Hp->Hp->Prop)(c:S->Option Bool)(f:S->Option (Fl S ρ))(tt:TT)(tb:TS)(D:Ends)(σ:St)(G2 H2:Hp)(s0:S)(res:Fl S ρ)(RS:S->St->Hp->Hp->Prop):Prop where
 start:RS s0 σ G2 H2
 keep:∀ s σ' G' H',RS s σ' G' H'->Same G' H'
 test:∀ s σ' G' H' b,RS s σ' G' H'->c s=some b->∀ Q:Bool->Hp->Prop,(∀ G'' H'',RS s σ' G'' H''->Q b H'')->tt σ' H' Q
 step:∀ (s:S) (σ1:St) (G1 H1:Hp) (fl:Fl S ρ),RS s σ1 G1 H1->f s=some fl->c s=some true->∀ D':Ends,(∀ s' σ' G' H',fl = .nx s'->RS s' σ' G' H'->D'.nx σ' H')->(∀ s' σ' G' H',fl = .nx s'->RS s' σ' G' H'->D'.ct σ' H') ->
  (∀ s' σ' G' H',fl = .bk s'->RS s' σ' G' H'->D'.bk σ' H')->(∀ r v G' H',fl = .rt r->RR r v G' H'->D'.rt v H')->tb D' σ1 H1
 nxt:∀ s σ' G' H',res = .nx s->RS s σ' G' H'->D.nx σ' H'
 rtn:∀ r v G' H',res = .rt r->RR r v G' H'->D.rt v H'
theorem sv_while {S ρ:Type}{RR:ρ->V->Hp->Hp->Prop}{c:S->Option Bool}{f:S->Option (Fl S ρ)}{tb:TS}{n:Nat}{s0:S}{res:Fl S ρ}(hf:Gm c f n s0=some res)(RS:S->St->Hp->Hp->Prop)
  (L:WhileOb K RR c f tt tb { D with nx:=rest D } σ G H s0 res RS):CG (tWhile tt tb) rest D σ H:=by
 refine ⟨fun m σ' H'=>∃ s G',RS s σ' G' H'/\Gm c f m s=some res,⟨n,s0,G,L.start,hf⟩,?_⟩;rintro m σ' H' ⟨s,G',rs,hw⟩
 cases m with
 | zero=>cases hw
 | succ m =>
  obtain ⟨b,hb,hw⟩:=qaA.mp hw;refine L.test s σ' G' H' b rs hb _ fun G'' H'' rs'=>?_
  cases b with
  | false=>exact Bd (L.nxt s σ' G'' H'' (qdB hw).symm rs')
  | true =>
   obtain ⟨fl,hfl,hw⟩:=qaA.mp hw;refine Bo ⟨fun σ2 H2=>∃ s' G2,RS s' σ2 G2 H2/\Gm c f m s'=some res,fun σ2 H2 h=>⟨m,Nat.lt_succ_self m,h⟩,?_⟩;refine L.step s σ' G'' H'' fl rs' hfl hb _ ?_ ?_ ?_ ?_
   ·intro s' σ2 G2 H2 e r;subst e;exact ⟨s',G2,r,hw⟩
   ·intro s' σ2 G2 H2 e r;subst e;exact ⟨s',G2,r,hw⟩
   ·intro s' σ2 G2 H2 e r;subst e;exact L.nxt s' σ2 G2 H2 (qdB hw).symm r
   ·intro r v G2 H2 e rl;subst e;exact L.rtn r v G2 H2 (qdB hw).symm rl
end
structure Own (K:FZ9){α:Type}[Rp α](G H:Hp)(v:V)(p:Addr)(vs:List V)(as:List α):Prop where
 v:v = .ref p
 g:G p=none
 h:H p=some (.lst vs)
 z:vs.length<=sizeLine
 p:Paired (Rp.rel K G) vs as
section
variable {K:FZ9}{σ:St}{G H G1 H1 G0 H0:Hp}{α β:Type}[Rp α][Rp β]{te ti:TE}{tt:TT}{t u rest:TS}{D:Ends}{i:Nat}{a:α}{m:Option α}{as:List α}{v:V}{p q:Addr}{vs:List V}
theorem Own.ext (o:Own K G H v p vs as)(x:Ext G H G1 H1):Own K G1 H1 v p vs as :=
 ⟨o.v,x.no p o.g (by rw [o.h];exact fun z=>nomatch z),x.hh _ _ o.h,o.z,Paired.imp' (fun _ _ r=>Rp.mono x.gg r) o.p⟩
theorem Own.put {ho:HO}(o:Own K G H v p vs as)(h:p≠q):Own K G (upd H q ho) v p vs as:=⟨o.v,o.g,by rw [Aj h];exact o.h,o.z,o.p⟩
theorem Own.tell (o:Own K G H v p vs as):Rp.rel K (upd G p (.lst vs)) v as:=⟨p,vs,o.v,.inl AQ,o.z,Paired.imp' (fun _ _ r=>Rp.mono (Same.new o.g) r) o.p⟩
theorem Own.same (o:Own K G H v p vs as)(s:Same G H):Same (upd G p (.lst vs)) H:=fun b x e=>by
 by_cases hb:b=p
 ·subst hb;rw [AQ] at e;rw [o.h];exact e
 ·rw [Aj hb] at e;exact s b x e
theorem J8 {m:Option (List α)}{as:List α}(e:FV K te σ G m)(hm:m=some as)(s:Same G H)(k:∀ p vs G2 H2,Ext G H G2 H2->H p=none->Own K G2 H2 (.ref p) p vs as->rest D (σ.set i (some (.ref p))) H2):CG (FI te (CY i)) rest D σ H :=
 e G (.refl G) as hm H s _ fun p vs G2 H2 x h0 hg hh hz hp=>k p vs G2 H2 x h0 ⟨rfl,hg,hh,hz,hp⟩
def Ll {α:Type}(as:List α)(a:α):Option (List α):=if as.length<sizeLine then some (as++[a]) else none
theorem OP {as':List α}(hσ:σ[i]? = some (some v))(o:Own K G H v p vs as)(e:EV K te σ G m)(hm:m=some a)(hp:Ll as a=some as')(s:Same G H)
  (k:∀ G2 H2 w,Ext G H G2 H2->Own K G2 (upd H2 p (.lst (vs++[w]))) v p (vs++[w]) as'->rest D σ (upd H2 p (.lst (vs++[w])))):CG (K4 (tBM K "list" Gv (Ba i) (AX te Bb))) rest D σ H:=by
 obtain ⟨hl,rfl⟩:=BC hp;have hlen:=Paired.length o.p;obtain ⟨rfl,og,oh,oz,op⟩:=o;refine ⟨_,hσ,.inl ⟨rfl,_,SqL.of oh⟩,?_⟩;refine e.run hm s fun w G2 H2 x r=>?_;refine ⟨p,vs,w,rfl,rfl,x.hh _ _ oh,by omega,?_⟩;refine k G2 H2 w x ⟨rfl,x.no p og (by rw [oh];exact fun z=>nomatch z),AQ,?_,Paired.app (Paired.imp' (fun _ _ r=>Rp.mono x.gg r) op) (.cons r .nil)⟩;rw [qeA,qgA];omega
structure TupK (H H':Hp):Prop where
 rd:∀ b xs,Rd H b (.tup xs)->Rd H' b (.tup xs)
 eq:∀ b xs,H b=some (.tup xs)->H' b=some (.tup xs)
class Imm (α:Type) [Rp α]:Prop where
 im:∀ {K:FZ9}{H H':Hp}{v:V}{a:α},TupK H H'->Rp.rel K H v a->Rp.rel K H' v a
instance imInt:Imm Int:=⟨fun _ h=>h⟩
instance imBool:Imm Bool:=⟨fun _ h=>h⟩
def del (G:Hp)(p:Addr):Hp:=fun b=>if b=p then none else G b
theorem HW {G:Hp}{p b:Addr}(h:b≠p):del G p b=G b:=by unfold del;rw [if_neg h]
theorem LJ {G:Hp}{p:Addr}:del G p p=none:=by unfold del;rw [if_pos rfl]
theorem Ext.del {ho:HO}{G2 H2:Hp}(hg:G p=none)(x:Ext (upd G p ho) H G2 H2):Ext G H (L2.del G2 p) H2 :=
 ⟨fun b o e=>by
  have hb:b≠p:=CT e hg;rw [HW hb]
  exact x.gg b o (by rw [Aj hb];exact e),fun b o e=>by
  by_cases hb:b=p
  ·subst hb;rw [LJ] at e;cases e
  ·rw [HW hb] at e
   exact x.gh b o e,x.hh,fun b h1 h2=>by
  by_cases hb:b=p
  ·subst hb;exact LJ
  ·rw [HW hb]
   exact x.no b (by rw [Aj hb];exact h1) h2⟩
theorem Imm.del {β:Type}[Rp β][Imm β]{G2:Hp}{w:V}{c:β}{ys:List V}(h:G2 p=some (.lst ys))(r:Rp.rel K G2 w c):Rp.rel K (L2.del G2 p) w c :=
 Imm.im ⟨fun b xs e=>by
  have hb:b≠p:=fun z=>by
   subst z;rcases e with e | ⟨o,e⟩<;>(rw [h] at e;cases e)
  rcases e with e | ⟨o,e⟩
  ·exact .inl (by rw [HW hb];exact e)
  ·exact .inr ⟨o,by rw [HW hb];exact e⟩,fun b xs e=>by
  have hb:b≠p:=fun z=>by
   subst z;rw [h] at e;cases e
  rw [HW hb]
  exact e⟩ r
theorem EV.runB {β:Type}[Rp β][Imm β]{mb:Option β}{b:β}{Q:VK}(o:Own K G H v p vs as)(e:EV K te σ (upd G p (.lst vs)) mb)(hm:mb=some b)(s:Same G H)(k:∀ w G2 H2,Ext G H G2 H2->Rp.rel K G2 w b->Q w H2):te σ H Q :=
 e.run hm (o.same s) fun w G2 H2 x r=>k w (del G2 p) H2 (x.del o.g) (Imm.del (x.gg _ _ AQ) r)
theorem TV.runB {mb:Option Bool}{b:Bool}{Q:Bool->Hp->Prop}(o:Own K G H v p vs as)(e:TV tt σ (upd G p (.lst vs)) mb)(hm:mb=some b)(s:Same G H)(k:∀ G2 H2,Ext G H G2 H2->Q b H2):tt σ H Q :=
 e.run hm (o.same s) fun G2 H2 x=>k (del G2 p) H2 (x.del o.g)
end
section
variable {K:FZ9}{σ:St}{G:Hp}
theorem BA {ρ A0:Type}[Rp ρ][Rp A0]{t0:TE}{m0:Option A0}{m:A0 × Unit->Option ρ}(e0:EV K t0 σ G m0):EV K (DG (spM K m) [] E0 (AX t0 Bb)) σ G (m0.bind fun a0=>m (a0,())):=by
 clear 7;obtain ⟨a0,ha0,hc⟩:=qaA.mp hc;refine e0 G1 s1 a0 ha0 H sH _ fun v0 G2 H2 x0 r0=>?_;have y0:=x0;exact ⟨G2,_,c,y0.gh,⟨v0,_,rfl,r0,rfl⟩,hc,fun v G9 H9 x9 r9=>k v G9 H9 (y0.trans x9) r9⟩
theorem CQ {ρ A0 A1:Type}[Rp ρ][Rp A0][Rp A1]{t0 t1:TE}{m0:Option A0}{m1:Option A1}{m:A0 × A1 × Unit->Option ρ}(e0:EV K t0 σ G m0)(e1:EV K t1 σ G m1):EV K (DG (spM K m) [] E0 (AX t0 (AX t1 Bb))) σ G (m0.bind fun a0=>m1.bind fun a1=>m (a0,a1,())):=by
 clear 7;obtain ⟨a0,ha0,hc⟩:=qaA.mp hc;obtain ⟨a1,ha1,hc⟩:=qaA.mp hc;refine e0 G1 s1 a0 ha0 H sH _ fun v0 G2 H2 x0 r0=>?_;have y0:=x0;refine e1 G2 (s1.trans y0.gg) a1 ha1 H2 y0.gh _ fun v1 G3 H3 x1 r1=>?_;have y1:=y0.trans x1;exact ⟨G3,_,c,y1.gh,⟨v0,_,rfl,(Rp.mono x1.gg r0),⟨v1,_,rfl,r1,rfl⟩⟩,hc,fun v G9 H9 x9 r9=>k v G9 H9 (y1.trans x9) r9⟩
theorem DX {ρ A0 A1 A2:Type}[Rp ρ][Rp A0][Rp A1][Rp A2]{t0 t1 t2:TE}{m0:Option A0}{m1:Option A1}{m2:Option A2}{m:A0 × A1 × A2 × Unit->Option ρ}(e0:EV K t0 σ G m0)(e1:EV K t1 σ G m1)(e2:EV K t2 σ G m2):EV K (DG (spM K m) [] E0 (AX t0 (AX t1 (AX t2 Bb)))) σ G (m0.bind fun a0=>m1.bind fun a1=>m2.bind fun a2=>m (a0,a1,a2,())):=by
 clear 7;obtain ⟨a0,ha0,hc⟩:=qaA.mp hc;obtain ⟨a1,ha1,hc⟩:=qaA.mp hc;obtain ⟨a2,ha2,hc⟩:=qaA.mp hc;refine e0 G1 s1 a0 ha0 H sH _ fun v0 G2 H2 x0 r0=>?_;have y0:=x0;refine e1 G2 (s1.trans y0.gg) a1 ha1 H2 y0.gh _ fun v1 G3 H3 x1 r1=>?_;have y1:=y0.trans x1;refine e2 G3 (s1.trans y1.gg) a2 ha2 H3 y1.gh _ fun v2 G4 H4 x2 r2=>?_;have y2:=y1.trans x2;exact ⟨G4,_,c,y2.gh,⟨v0,_,rfl,(Rp.mono x2.gg (Rp.mono x1.gg r0)),⟨v1,_,rfl,(Rp.mono x2.gg r1),⟨v2,_,rfl,r2,rfl⟩⟩⟩,hc,fun v G9 H9 x9 r9=>k v G9 H9 (y2.trans x9) r9⟩
theorem ev_def4 {ρ A0 A1 A2 A3:Type}[Rp ρ][Rp A0][Rp A1][Rp A2][Rp A3]{t0 t1 t2 t3:TE}{m0:Option A0}{m1:Option A1}{m2:Option A2}{m3:Option A3}{m:A0 × A1 × A2 × A3 × Unit->Option ρ}(e0:EV K t0 σ G m0)(e1:EV K t1 σ G m1)(e2:EV K t2 σ G m2)(e3:EV K t3 σ G m3):EV K (DG (spM K m) [] E0 (AX t0 (AX t1 (AX t2 (AX t3 Bb))))) σ G (m0.bind fun a0=>m1.bind fun a1=>m2.bind fun a2=>m3.bind fun a3=>m (a0,a1,a2,a3,())):=by
 clear 7;obtain ⟨a0,ha0,hc⟩:=qaA.mp hc;obtain ⟨a1,ha1,hc⟩:=qaA.mp hc;obtain ⟨a2,ha2,hc⟩:=qaA.mp hc;obtain ⟨a3,ha3,hc⟩:=qaA.mp hc;refine e0 G1 s1 a0 ha0 H sH _ fun v0 G2 H2 x0 r0=>?_;have y0:=x0;refine e1 G2 (s1.trans y0.gg) a1 ha1 H2 y0.gh _ fun v1 G3 H3 x1 r1=>?_;have y1:=y0.trans x1;refine e2 G3 (s1.trans y1.gg) a2 ha2 H3 y1.gh _ fun v2 G4 H4 x2 r2=>?_;have y2:=y1.trans x2;refine e3 G4 (s1.trans y2.gg) a3 ha3 H4 y2.gh _ fun v3 G5 H5 x3 r3=>?_;have y3:=y2.trans x3;exact ⟨G5,_,c,y3.gh,⟨v0,_,rfl,(Rp.mono x3.gg (Rp.mono x2.gg (Rp.mono x1.gg r0))),⟨v1,_,rfl,(Rp.mono x3.gg (Rp.mono x2.gg r1)),⟨v2,_,rfl,(Rp.mono x3.gg r2),⟨v3,_,rfl,r3,rfl⟩⟩⟩⟩,hc,fun v G9 H9 x9 r9=>k v G9 H9 (y3.trans x9) r9⟩
section
variable {ta tb:TE}{a b:Bool}{tt tu:TT}{mb:Option Bool}
theorem ev_andP (ea:EV K ta σ G (some a))(eb:EV K tb σ G (some b)):EV K (tAndV ta tb) σ G (some (a && b)):=(Dl ea eb).of (by cases a<;>rfl)
theorem TV.of {m m':Option Bool}(e:TV tt σ G m)(h:m=m'):TV tt σ G m':=h ▸ e
theorem tv_orP (ea:TV tt σ G (some a))(eb:TV tu σ G (some b)):TV (tOr tt tu) σ G (some (a || b)):=(FM ea eb).of (by cases a<;>rfl)
theorem MI {α:Type}[Rp α]{te:TE}{mo:Option (Option α)}(e:EV K te σ G mo):EV K te σ G (mo.bind fun o=>o):=by
 clear 7;obtain ⟨o,ho,hc⟩:=qaA.mp hc;subst hc;exact e G1 s1 _ ho H sH Q k
theorem TruV.mono {G H:Hp}{v:V}{k:Bool}(s:Same G H)(h:TruV K v G k):TruV K v H k:=by
 cases v with
 | ref p =>
  rcases h with ⟨xs,hx,e⟩ | ⟨xs,hx,e⟩ | ⟨kvs,hx,e⟩
  ·exact .inl ⟨xs,s.seq hx,e⟩
  ·exact .inr (.inl ⟨xs,s.tup hx,e⟩)
  ·exact .inr (.inr ⟨kvs,s _ _ hx,e⟩)
 | _=>exact h
theorem FT {mb:Option Bool}(ea:EV K ta σ G mb):TV (fun σ H Q=>ta σ H fun x H'=>∃ k,TruV K x H' k/\Q k H') σ G mb:=by
 have h:=tv_tru (K:=K) (f:=fun (a:Bool)=>a) (fun {G v a}(r:Rp.rel K G v a)=>by cases r;exact rfl) (fun s=>TruV.mono s) ea;refine h.of ?_;cases mb<;>rfl
end
theorem cT {α:Type}{A B:Option α}{r:Option α}(h:cond true A B=r):A=r:=h
theorem cF {α:Type}{A B:Option α}{r:Option α}(h:cond false A B=r):B=r:=h
theorem EG {i:Nat}{x:V}{σ:St}{H:Hp}{tb:TS}{D:Ends}(h:tb D (σ.set i (some x)) H):CY i x σ H fun σ2 H2=>tb D σ2 H2:=h
end
section
variable {K:FZ9}{σ:St}{G H:Hp}{α β γ:Type}[Rp α][Rp β][Rp γ]{ta tb te:TE}{ia ib:Option Int}{c:Int}{rest t u:TS}{D:Ends}{i j:Nat}{tt:TT}
theorem Bi (ea:EV K ta σ G ia)(hc:0<c:=by decide):EV K (tOp (rI (fun _ j=>0<j) fun i j=>.int (i % j)) ta (tC (.int c))) σ G (ia.bind fun a=>some (a % c)):=by
 have h:=Fj ea (An (K:=K) (σ:=σ) (G:=G) (i:=c))
 have e:(ia.bind fun a=>(some c).bind fun b=>HJ a b)=ia.bind fun a=>some (a % c):=by
  congr 1;funext a
  show HJ a c=_;unfold HJ;rw [if_pos hc]
 exact h.of e
theorem Kk (ea:EV K ta σ G ia)(eb:EV K tb σ G (some c))(hc:0<c):EV K (tOp (rI (fun _ j=>0<j) fun i j=>.int (i % j)) ta tb) σ G (ia.bind fun a=>some (a % c)):=by
 have h:=Fj ea eb
 have e:(ia.bind fun a=>(some c).bind fun b=>HJ a b)=ia.bind fun a=>some (a % c):=by
  congr 1;funext a
  show HJ a c=_;unfold HJ;rw [if_pos hc]
 exact h.of e
theorem BY (ea:EV K ta σ G ia)(hc:0<c/\c<1073741824:=by decide):EV K (tOp (rI Mn fun i j=>.int (i / j)) ta (tC (.int c))) σ G (ia.bind fun a=>some (a / c)):=by
 have h:=Il ea (An (K:=K) (σ:=σ) (G:=G) (i:=c))
 have e:(ia.bind fun a=>(some c).bind fun b=>Jp a b)=ia.bind fun a=>some (a / c):=by
  congr 1;funext a
  show Jp a c=_;unfold Jp;rw [if_pos (show Mn a c from hc)]
 exact h.of e
structure Scr where
 l:List Int
instance rpScr:Rp Scr:=⟨fun K H v a=>∃ l,v = .ref l/\SqL K H l (a.l.map V.int),fun s ⟨l,e,h⟩=>⟨l,e,s.seq h⟩⟩
theorem ev_lenX {ma:Option Scr}(ea:EV K ta σ G ma):EV K (tCB (LO K) (AX ta Bb)) σ G (ma.bind fun a=>some (a.l.length:Int)):=by
 clear 7;obtain ⟨a,ha,hc⟩:=qaA.mp hc;cases hc;clear 8 ea a ha;obtain ⟨l,rfl,h⟩:=r2;exact ⟨_,.inl (x2.gh.seq h),by rw [qdA];exact k _ _ _ x2 rfl⟩
theorem NF {H:Hp}:∀ ns:List Int,Paired (Rp.rel K H) (ns.map V.int) ns
 | []=>.nil
 | _::r=>.cons rfl (NF r)
theorem ev_atX {ma:Option Scr}(ea:EV K ta σ G ma)(eb:EV K tb σ G ib):EV K (tOp (rAt K) ta tb) σ G (ma.bind fun a=>ib.bind fun i=>atI a.l i) :=
 CK (fun s ra rb e Q k=>by
  obtain ⟨l,rfl,h⟩:=ra;cases rb;obtain ⟨v,hv,r⟩:=DP (NF (K:=K) _) e
  exact .inl ⟨_,v,s.seq h,hv,k _ _ _ (.refl s) r⟩) ea eb
theorem Nr {X:Cx}:OpR X (binaryOp .Mult) (fun x y H Q=>∃ l k xs,x = .ref l/\y = .int k/\Rd H l (.lst xs)/\-(2 ^ 63)<=k/\k<2 ^ 63/\xs.length * k.toNat<=sizeLine/\∀ p,H p=none->Q (.ref p) (upd H p (.lst (List.replicate k.toNat xs).flatten))):=by
 intro pins s σ H x y v u Q I rx ry h;obtain ⟨l,k,xs,rfl,rfl,hH,h1,h2,hz,q⟩:=h;cases rx;obtain ⟨t,rfl⟩:=ry;obtain ⟨z,its,n,r,e⟩:=hH.ok I.hok;have hl:=r.length;have hlen:its.toArray.size * k.toNat<=sizeLine:=by rw [qoB,<- hl];exact hz
 have hcap:¬ its.toArray.size * k.toNat > (2 ^ 63 - 1) / 8:=by
  have:(sizeLine:Nat)<=(2 ^ 63 - 1) / 8:=by decide
  omega
 have hfit:¬ (!Builtin.List.listFitsIndex k)=true:=by
  rw [fitsIndex_both h1 h2];exact qnB
 have hlong:¬ Builtin.List.listTooLong (its.toArray.size * k.toNat)=true:=by
  rw [M8 hlen];exact qnB
 have hnew:List.foldl (fun x1 x2=>x1++x2) #[] (List.replicate (if its.toArray.isEmpty=true then 0 else k.toNat) its.toArray)=(List.replicate k.toNat its).flatten.toArray:=by
  have f0:∀ m:Nat,List.foldl (fun x1 x2=>x1++x2) #[] (List.replicate m its.toArray)=(List.replicate m its).flatten.toArray:=fun m=>by
   have:=KF its m [];rw [List.nil_append] at this;exact this
  rw [f0]
  cases its with
  | nil=>simp
  | cons a r'=>rw [if_neg (by simp)]
 refine wpAny_binaryOp_repeat_ref (T := "list") (U := "int") (by decide) ⟨_,e,rfl⟩ (fun s'=>typeIs_int s' k t) noFill_list_mul F.fills_int_mul F.slot_int_rmul repeat_list F.slot_int_index.lookup
  (call_meets F.slot_int_rmul (typeIs_int s k t) F.entry_int_rmul (F.args_int_rmul_2 _ _) (int___rmul___int_list k t l its.toArray n)
   ⟨e,rfl,⟨_,e,rfl⟩,call_meets F.slot_list_mul ⟨_,e,rfl⟩ F.entry_list_mul (F.args_list_mul_2 _ _) (AutoListH.list___mul___list_int_3 l its.toArray n k t hfit hcap hlong) ⟨e,?_⟩⟩)
 rw [hnew];exact ⟨.ref _,_,I.lnew (t':=s.toks) (r.rep k.toNat) (by rw [NB,Nat.mul_comm];exact hz),rfl,q _ I.fresh⟩
theorem fv_rep {la:Option (List α)}(ea:EV K ta σ G la)(eb:EV K tb σ G ib) :
  FV K (tOp (fun x y H Q=>∃ l k xs,x = .ref l/\y = .int k/\Rd H l (.lst xs)/\-(2 ^ 63)<=k/\k<2 ^ 63/\xs.length * k.toNat<=sizeLine/\∀ p,H p=none->Q (.ref p) (upd H p (.lst (List.replicate k.toNat xs).flatten))) ta tb) σ G (la.bind fun a=>ib.bind fun b=>repL a b):=by
 clear 7;obtain ⟨a,ha,hc⟩:=qaA.mp hc;obtain ⟨b,hb,hc⟩:=qaA.mp hc;obtain ⟨⟨hl,hz⟩,rfl⟩:=BC hc;clear 8 ea a ha;refine eb G2 (s1.trans x2.gg) b hb H2 x2.gh _ fun u G3 H3 x3 r3=>?_;obtain ⟨l1,xs,rfl,h1,z1,p1⟩:=Rp.mono x3.gg r2;cases r3;have e1:=Paired.length p1;rw [<- e1] at hz;exact ⟨l1,b,xs,rfl,rfl,x3.gh.rd h1,hl.1,hl.2,hz,Iq x3.gh (by rw [NB,Nat.mul_comm];exact hz) (Paired.rep p1 _) (FV.mono (x2.trans x3) k)⟩
theorem sv_setB {a:α}{m:Option α}[Imm α]{v:V}{p:Addr}{vs:List V}{as:List β}(o:Own K G H v p vs as)(e:EV K te σ (upd G p (.lst vs)) m)(hm:m=some a)(s:Same G H)(k:∀ v G2 H2,Ext G H G2 H2->Rp.rel K G2 v a->rest D (σ.set i (some v)) H2) :
  CG (FI te (CY i)) rest D σ H:=EV.runB o e hm s k
theorem sv_ifB {b:Bool}{m:Option Bool}{v:V}{p:Addr}{vs:List V}{as:List β}(o:Own K G H v p vs as)(e:TV tt σ (upd G p (.lst vs)) m)(hm:m=some b)(s:Same G H)(k:∀ G2 H2,Ext G H G2 H2->if b=true then t { D with nx:=rest D } σ H2 else u { D with nx:=rest D } σ H2) :
  CG (ON tt t u) rest D σ H:=TV.runB o e hm s k
def Ix {α:Type}(as:List α)(k:Int)(a:α):Option (List α):=(ixN as.length k).bind fun j=>some (as.set j a)
theorem JD {a:α}{m:Option α}{ti:TE}{mi:Option Int}{k':Int}{as as':List α}{v:V}{p:Addr}{vs:List V}(hσ:σ[i]? = some (some v))(o:Own K G H v p vs as)(e:EV K te σ G m)(hm:m=some a)(ei:EV K ti σ G mi)(hi:mi=some k')(hs:Ix as k' a=some as')(s:Same G H)
  (k:∀ G2 H2 w j,Ext G H G2 H2->Own K G2 (upd H2 p (.lst (vs.set j w))) v p (vs.set j w) as'->rest D σ (upd H2 p (.lst (vs.set j w)))):CG (FI te (gSub (Ba i) ti rSetL)) rest D σ H:=by
 obtain ⟨j,hj,e'⟩:=qaA.mp hs;cases e';have hlen:=Paired.length o.p;refine e.run hm s fun w G2 H2 x r=>?_;have o2:=o.ext x;refine ⟨v,hσ,?_⟩;refine ei G2 x.gg k' hi H2 x.gh _ fun u G3 H3 x3 r3=>?_;cases r3;have o3:=o2.ext x3;refine ⟨p,vs,k',j,o3.v,rfl,o3.h,by rw [hlen];exact hj,?_⟩;refine k G3 H3 w j (x.trans x3) ⟨o3.v,o3.g,AQ,by rw [List.length_set];exact o3.z,Paired.st (Rp.mono x3.gg r) j o3.p⟩
end
structure Own2 (K:FZ9){α β:Type}[Rp α][Rp β](G H:Hp)(v:V)(p q:Addr)(vs ws:List V)(a:List α × List β):Prop where
 t:∃ t,v = .ref t/\G t=some (.tup [.ref p,.ref q])
 o1:Own K G H (.ref p) p vs a.1
 o2:Own K G H (.ref q) q ws a.2
 ne:p≠q
section
variable {K:FZ9}{σ:St}{G H G1 H1 G0 H0:Hp}{α β γ:Type}[Rp α][Rp β][Rp γ]{ta tb te ti:TE}{tt:TT}{t u rest:TS}{D:Ends}{i j:Nat}{v:V}{p q r:Addr}{vs ws:List V}{a:List α × List β}
def two (G:Hp)(p q:Addr)(vs ws:List V):Hp:=upd (upd G p (.lst vs)) q (.lst ws)
theorem Own2.g2 (o:Own2 K G H v p q vs ws a):(upd G p (.lst vs)) q=none:=by rw [Aj (Ne.symm o.ne)];exact o.o2.g
theorem Own2.up (o:Own2 K G H v p q vs ws a):Same G (two G p q vs ws):=(Same.new o.o1.g).trans (Same.new o.g2)
theorem Own2.tell (o:Own2 K G H v p q vs ws a):Rp.rel K (two G p q vs ws) v a:=by
 obtain ⟨t,rfl,ht⟩:=o.t;refine ⟨t,.ref p,.ref q,rfl,SqT.of (o.up _ _ ht),⟨p,vs,rfl,.inl ?_,o.o1.z,Paired.imp' (fun _ _ r=>Rp.mono o.up r) o.o1.p⟩,⟨q,ws,rfl,.inl AQ,o.o2.z,Paired.imp' (fun _ _ r=>Rp.mono o.up r) o.o2.p⟩⟩;unfold two;rw [Aj o.ne];exact AQ
theorem Own2.frz (o:Own2 K G H v p q vs ws a)(x:Ext G0 H0 G H)(h1:H0 p=none)(h2:H0 q=none):Ext G0 H0 (two G p q vs ws) H :=
 (x.frz h1 o.o1.g o.o1.h).frz h2 o.g2 o.o2.h
def NV (K:FZ9){α β:Type}[Rp α][Rp β](te:TE)(σ:St)(G:Hp)(m:Option (List α × List β)):Prop :=
 ∀ G1,Same G G1->∀ a,m=some a->∀ H,Same G1 H->∀ Q:VK,(∀ v p q vs ws G2 H2,Ext G1 H G2 H2->H p=none->H q=none->Own2 K G2 H2 v p q vs ws a->Q v H2)->te σ H Q
theorem NV.ev {m:Option (List α × List β)}(e:NV K te σ G m):EV K te σ G m:=by
 intro G1 s1 a ha H sH Q k;refine e G1 s1 a ha H sH Q fun v p q vs ws G2 H2 x h1 h2 o=>?_;exact k v _ H2 (o.frz x h1 h2) o.tell
def spN (K:FZ9){A:Type}[RpA A]{α β:Type}[Rp α][Rp β](m:A->Option (List α × List β)):Sp:=fun vs H Q _ =>
 ∃ G a r,Same G H/\RpA.rel K G vs a/\m a=some r/\∀ v p q vs ws G2 H2,Ext G H G2 H2->H p=none->H q=none->Own2 K G2 H2 v p q vs ws r->Q v H2
def spL (K:FZ9){A:Type}[RpA A]{α:Type}[Rp α](m:A->Option (List α)):Sp:=fun vs H Q _ =>
 ∃ G a r,Same G H/\RpA.rel K G vs a/\m a=some r/\∀ p vs G2 H2,Ext G H G2 H2->H p=none->Own K G2 H2 (.ref p) p vs r->Q (.ref p) H2
theorem spN_len {A:Type}[RpA A]{m:A->Option (List α × List β)}{vs:List V}{H:Hp}{Q:VK}{E:XK}(h:spN K m vs H Q E):vs.length=RpA.n A:=by
 obtain ⟨G,a,r,_,h,_⟩:=h;exact RpA.len h
theorem ND {A:Type}[RpA A]{m:A->Option (List α)}{vs:List V}{H:Hp}{Q:VK}{E:XK}(h:spL K m vs H Q E):vs.length=RpA.n A:=by
 obtain ⟨G,a,r,_,h,_⟩:=h;exact RpA.len h
theorem nv_def1 {A0:Type}[Rp A0]{t0:TE}{m0:Option A0}{m:A0 × Unit->Option (List α × List β)}(e0:EV K t0 σ G m0):NV K (DG (spN K m) [] E0 (AX t0 Bb)) σ G (m0.bind fun a0=>m (a0,())):=by
 clear 7;obtain ⟨a0,ha0,hc⟩:=qaA.mp hc;refine e0 G1 s1 a0 ha0 H sH _ fun v0 G2 H2 x0 r0=>?_;have y0:=x0;exact ⟨G2,_,c,y0.gh,⟨v0,_,rfl,r0,rfl⟩,hc,fun v p q vs ws G9 H9 x9 h1 h2 o=>k v p q vs ws G9 H9 (y0.trans x9) (y0.hh.free h1) (y0.hh.free h2) o⟩
theorem fv_def3 {A0 A1 A2:Type}[Rp A0][Rp A1][Rp A2]{t0 t1 t2:TE}{m0:Option A0}{m1:Option A1}{m2:Option A2}{m:A0 × A1 × A2 × Unit->Option (List α)}(e0:EV K t0 σ G m0)(e1:EV K t1 σ G m1)(e2:EV K t2 σ G m2):FV K (DG (spL K m) [] E0 (AX t0 (AX t1 (AX t2 Bb)))) σ G (m0.bind fun a0=>m1.bind fun a1=>m2.bind fun a2=>m (a0,a1,a2,())):=by
 clear 7;obtain ⟨a0,ha0,hc⟩:=qaA.mp hc;obtain ⟨a1,ha1,hc⟩:=qaA.mp hc;obtain ⟨a2,ha2,hc⟩:=qaA.mp hc;refine e0 G1 s1 a0 ha0 H sH _ fun v0 G2 H2 x0 r0=>?_;have y0:=x0;refine e1 G2 (s1.trans y0.gg) a1 ha1 H2 y0.gh _ fun v1 G3 H3 x1 r1=>?_;have y1:=y0.trans x1;refine e2 G3 (s1.trans y1.gg) a2 ha2 H3 y1.gh _ fun v2 G4 H4 x2 r2=>?_;have y2:=y1.trans x2;exact ⟨G4,_,c,y2.gh,⟨v0,_,rfl,(Rp.mono x2.gg (Rp.mono x1.gg r0)),⟨v1,_,rfl,(Rp.mono x2.gg r1),⟨v2,_,rfl,r2,rfl⟩⟩⟩,hc,fun p vs G9 H9 x9 h1 o=>k p vs G9 H9 (y2.trans x9) (y2.hh.free h1) o.g o.h o.z o.p⟩
theorem fv_def4 {A0 A1 A2 A3:Type}[Rp A0][Rp A1][Rp A2][Rp A3]{t0 t1 t2 t3:TE}{m0:Option A0}{m1:Option A1}{m2:Option A2}{m3:Option A3}{m:A0 × A1 × A2 × A3 × Unit->Option (List α)}(e0:EV K t0 σ G m0)(e1:EV K t1 σ G m1)(e2:EV K t2 σ G m2)(e3:EV K t3 σ G m3):FV K (DG (spL K m) [] E0 (AX t0 (AX t1 (AX t2 (AX t3 Bb))))) σ G (m0.bind fun a0=>m1.bind fun a1=>m2.bind fun a2=>m3.bind fun a3=>m (a0,a1,a2,a3,())):=by
 clear 7;obtain ⟨a0,ha0,hc⟩:=qaA.mp hc;obtain ⟨a1,ha1,hc⟩:=qaA.mp hc;obtain ⟨a2,ha2,hc⟩:=qaA.mp hc;obtain ⟨a3,ha3,hc⟩:=qaA.mp hc;refine e0 G1 s1 a0 ha0 H sH _ fun v0 G2 H2 x0 r0=>?_;have y0:=x0;refine e1 G2 (s1.trans y0.gg) a1 ha1 H2 y0.gh _ fun v1 G3 H3 x1 r1=>?_;have y1:=y0.trans x1;refine e2 G3 (s1.trans y1.gg) a2 ha2 H3 y1.gh _ fun v2 G4 H4 x2 r2=>?_;have y2:=y1.trans x2;refine e3 G4 (s1.trans y2.gg) a3 ha3 H4 y2.gh _ fun v3 G5 H5 x3 r3=>?_;have y3:=y2.trans x3;exact ⟨G5,_,c,y3.gh,⟨v0,_,rfl,(Rp.mono x3.gg (Rp.mono x2.gg (Rp.mono x1.gg r0))),⟨v1,_,rfl,(Rp.mono x3.gg (Rp.mono x2.gg r1)),⟨v2,_,rfl,(Rp.mono x3.gg r2),⟨v3,_,rfl,r3,rfl⟩⟩⟩⟩,hc,fun p vs G9 H9 x9 h1 o=>k p vs G9 H9 (y3.trans x9) (y3.hh.free h1) o.g o.h o.z o.p⟩
theorem FJ {as:List α}{m:Option (List α)}(e:FV K te σ G m)(hm:m=some as)(s:Same G H)(k:∀ p vs G2 H2,Ext G H G2 H2->H p=none->Own K G2 H2 (.ref p) p vs as->D.rt (.ref p) H2):CG (Jo te) rest D σ H :=
 e G (.refl G) as hm H s _ fun p vs G2 H2 x h0 hg hh hz hp=>k p vs G2 H2 x h0 ⟨rfl,hg,hh,hz,hp⟩
theorem sv_retO2 {v1 v2:V}{as:List α}{bs:List β}(h1:σ[i]? = some (some v1))(h2:σ[j]? = some (some v2))(o1:Own K G H v1 p vs as)(o2:Own K G H v2 q ws bs)(ne:p≠q)(s:Same G H)
  (k:∀ v G2 H2,Ext G H G2 H2->Own2 K G2 H2 v p q vs ws (as,bs)->D.rt v H2):CG (Jo (Ih (AX (Ba i) (AX (Ba j) Bb)))) rest D σ H:=by
 obtain ⟨rfl,g1,hh1,z1,p1⟩:=o1;obtain ⟨rfl,g2,hh2,z2,p2⟩:=o2;refine ⟨_,h1,_,h2,by show 2<=sizeLine;decide,fun t ht=>?_⟩;have x4:Ext G H (upd G t (.tup [.ref p,.ref q])) (upd H t (.tup [.ref p,.ref q])):=.new s ht;exact k (.ref t) _ _ x4 ⟨⟨t,rfl,AQ⟩,Own.ext ⟨rfl,g1,hh1,z1,p1⟩ x4,Own.ext ⟨rfl,g2,hh2,z2,p2⟩ x4,ne⟩
end
section
variable {X:Cx}{K:FZ9}
theorem op_plusK (h:X.K=K):OpR X (binaryOp .Add) (KP K):=h ▸ op_plus
theorem CP (h:X.K=K):SlR X (rSl K):=h ▸ sl_any
theorem ix_anyK (h:X.K=K):IxR X (rAt K):=h ▸ ix_any
theorem Oh (h:X.K=K):De X (.builtin "len") (LO K):=h ▸ OQ
theorem EC (h:X.K=K):De X (.builtin "isinstance") (rInst K):=h ▸ OG
theorem op_eqK {j:Nat}(h:X.K=K)(α:Type)[Rp α][DecidableEq α][RpE α](hr:Room j X.A)(hk:RpE.k α<=10):OpR X (compareOp .Eq) (rEqD K α):=h ▸ op_eqM α hr hk
theorem GY (h:X.K=K):De X (.type "list") (fun xs H Q=>∃ p ys,xs=[.ref p]/\(SqL K H p ys\/SqT K H p ys)/\∀ l,H l=none->Q (.ref l) (upd H l (.lst ys))):=h ▸ KU
theorem Dq {tg l:Expr}{tl:TE}(h:X.K=K)(hl:PE X l tl):PI X tg l (Jj K tl):=h ▸ pi_any hl
theorem OB {a:Expr}{ta:TE}(h:X.K=K)(ha:PE X a ta)(he:∀ whole,isTrue a X.env whole=(do let v <- whole;standAt a.pos;holding [v] (truthy v))) :
  PT X a (fun σ H Q=>ta σ H fun x H'=>∃ k,TruV K x H' k/\Q k H'):=h ▸ pt_truth ha he
section
variable {o e:Expr}{es:List Expr}{to:TE}{t:TA}{name:Str}{apos cpos:Pos}{T id:String}{r:V->List V->Hp->VK->Prop}
theorem pe_bmK (h:X.K=K)(pa:PlainAttrs T)(slot:Slot T name id)(hty:typeOf (.builtin id)=pure (.type "method_descriptor"))(hm:MtR X id r)(ho:PE X o to)(ha:PA X (e::es) t)
  (hbase:attributeBase o name X.env (eval o X.env)=eval o X.env:=by rfl)
  (hfew:((backTo cpos (starEach (e::es) X.env)).all (fun x=>!x.1) && (backToKw cpos (keywordEach [] X.env)).all (fun x=>x.1.isSome)
   && decide ((e::es).length+([]:List Keyword).length+(if ([]:List Keyword).isEmpty then 0 else 1)<30))=true:=by rfl)
  (hline:(apos.endLine == cpos.line)=true:=by rfl) (hs:starEach (e::es) X.env=(false,eval e X.env)::starEach es X.env:=by rfl) (hplain:(backTo cpos (starEach es X.env)).any (·.1)=false:=by rfl) :
  PE X (.Call (.Attribute o name apos) (e::es) [] cpos) (tBM K T r to t):=h ▸ pe_bm pa slot hty hm ho ha hbase hfew hline hs hplain
end
end
theorem Gq {f:St->Hp->Prop}{rt:VK}{bk ct:St->Hp->Prop}{σ:St}{H:Hp}(h:f σ H):({ nx:=f,rt:=rt,bk:=bk,ct:=ct }:Ends).nx σ H:=h
section
variable {K:FZ9}{σ:St}{G H:Hp}{α β γ:Type}[Rp α][Rp β][Rp γ]{ta tb te:TE}{rest t u:TS}{D:Ends}{i j:Nat}
def extO {α:Type}(as bs:List α):Option (List α):=if as.length+bs.length<=sizeLine then some (as++bs) else none
end
inductive D where
 | non
 | bl (b:Bool)
 | int (i:Int)
 | str (x:Str)
 | lst (l:List D)
 | tup (l:List D)
 | dic
mutual
inductive RelD (K:FZ9)(H:Hp):V->D->Prop where
 | non:RelD K H .non .non
 | bl (b:Bool):RelD K H (.bl b) (.bl b)
 | int (i:Int):RelD K H (.int i) (.int i)
 | str (x:Str) (z:x.length<=sizeLine):RelD K H (.str x) (.str x)
 | lst {a:Addr}{xs:List V}{ds:List D}(h:Rd H a (.lst xs)) (z:xs.length<=sizeLine) (r:RelDs K H xs ds):RelD K H (.ref a) (.lst ds)
 | tup {a:Addr}{xs:List V}{ds:List D}(h:SqT K H a xs) (z:xs.length<=sizeLine) (r:RelDs K H xs ds):RelD K H (.ref a) (.tup ds)
 | dK {a:Addr}{kvs:List (Key × V)}(h:Rd H a (.dK kvs)):RelD K H (.ref a) .dic
inductive RelDs (K:FZ9)(H:Hp):List V->List D->Prop where
 | nil:RelDs K H [] []
 | cons {x:V}{d:D}{xs:List V}{ds:List D}(h:RelD K H x d) (t:RelDs K H xs ds):RelDs K H (x::xs) (d::ds)
end
mutual
theorem RelD.mono {K:FZ9}{H H':Hp}(s:Same H H'):∀ {v:V}{d:D},RelD K H v d->RelD K H' v d
 | _,_,.non=>.non
 | _,_,.bl b=>.bl b
 | _,_,.int i=>.int i
 | _,_,.str x z=>.str x z
 | _,_,.lst h z r=>.lst (s.rd h) z (RelDs.mono s r)
 | _,_,.tup h z r=>.tup (s.tup h) z (RelDs.mono s r)
 | _,_,.dK h=>.dK (s.rd h)
theorem RelDs.mono {K:FZ9}{H H':Hp}(s:Same H H'):∀ {v:List V}{d:List D},RelDs K H v d->RelDs K H' v d
 | _,_,.nil=>.nil
 | _,_,.cons h t=>.cons (RelD.mono s h) (RelDs.mono s t)
end
instance rpD:Rp D:=⟨RelD,fun s h=>RelD.mono s h⟩
theorem Ei {K:FZ9}{H:Hp}:∀ {xs:List V}{ds:List D},Paired (Rp.rel K H) xs ds->RelDs K H xs ds
 | _,_,.nil=>.nil
 | _,_,.cons h t=>.cons h (Ei t)
theorem EE {K:FZ9}{H:Hp}:∀ {xs:List V}{ds:List D},RelDs K H xs ds->Paired (Rp.rel K H) xs ds
 | _,_,.nil=>.nil
 | _,_,.cons h t=>.cons h (EE t)
class ToD (α:Type) [Rp α] where
 to:α->D
 rel:∀ {K:FZ9}{H:Hp}{v:V}{a:α},Rp.rel K H v a->RelD K H v (to a)
theorem toDs {K:FZ9}{H:Hp}{α:Type}[Rp α][ToD α]:∀ {xs:List V}{as:List α},Paired (Rp.rel K H) xs as->Paired (Rp.rel (α:=D) K H) xs (as.map ToD.to)
 | _,_,.nil=>.nil
 | _,_,.cons h t=>.cons (ToD.rel h) (toDs t)
instance tdD:ToD D:=⟨id,fun h=>h⟩
instance tdInt:ToD Int:=⟨.int,fun h=>by cases h;exact .int _⟩
instance tdBool:ToD Bool:=⟨.bl,fun h=>by cases h;exact .bl _⟩
instance tdStr:ToD Str:=⟨.str,fun h=>by obtain ⟨rfl,z⟩:=h;exact .str _ z⟩
instance tdUnit:ToD Unit:=⟨fun _=>.non,fun h=>by cases h;exact .non⟩
instance tdList {α:Type}[Rp α][ToD α]:ToD (List α):=⟨fun l=>.lst (l.map ToD.to),fun ⟨l,xs,e,h,z,p⟩=>by subst e;exact .lst h z (Ei (toDs p))⟩
instance tdTp {α:Type}[Rp α][ToD α]:ToD (Tp α):=⟨fun l=>.tup (l.l.map ToD.to),fun ⟨l,xs,e,h,z,p⟩=>by subst e;exact .tup h z (Ei (toDs p))⟩
instance tdPair {α β:Type}[Rp α][ToD α][Rp β][ToD β]:ToD (α × β):=⟨fun p=>.tup [ToD.to p.1,ToD.to p.2],fun ⟨t,x,y,e,h,r1,r2⟩=>by subst e;exact .tup h (by show 2<=sizeLine;decide) (.cons (ToD.rel r1) (.cons (ToD.rel r2) .nil))⟩
def DZ:D->Option Str
 | .str x=>some x
 | _=>none
def dk:D->String
 | .non => "NoneType"
 | .bl _ => "bool"
 | .int _ => "int"
 | .str _ => "str"
 | .lst _ => "list"
 | .tup _ => "tuple"
 | .dic => "dict"
def isK (T:String)(d:D):Bool:=dk d == T || (T == "int" && dk d == "bool")
def Eu:D->Option Int
 | .str x=>some (x.length:Int)
 | .lst l=>some (l.length:Int)
 | .tup l=>some (l.length:Int)
 | _=>none
def atD:D->Int->Option D
 | .lst l,i=>atI l i
 | .tup l,i=>atI l i
 | .str x,i=>(atI x.cps.toList i).bind fun c=>some (.str ⟨#[c]⟩)
 | _,_=>none
def NX:D->Option (List D)
 | .lst l=>some l
 | .tup l=>some l
 | .str x=>some ((MW x).map D.str)
 | _=>none
section
variable {K:FZ9}{σ:St}{G:Hp}{α β:Type}[Rp α][Rp β]{ta tb te:TE}{md:Option D}
theorem AA [ToD α]{m:Option α}(e:EV K te σ G m):EV K te σ G (m.bind fun a=>some (ToD.to a)):=by
 clear 7;obtain ⟨a,ha,hc⟩:=qaA.mp hc;cases hc;exact e G1 s1 a ha H sH Q fun v G2 H2 x r=>k v G2 H2 x (ToD.rel r)
theorem DB (e:EV K te σ G md):EV K te σ G (md.bind fun d=>DZ d):=by
 clear 7;obtain ⟨d,hd,hc⟩:=qaA.mp hc;refine e G1 s1 d hd H sH Q fun v G2 H2 x r=>?_
 cases d with
 | str y =>
  cases hc
  cases r with
  | str _ z=>exact k _ _ _ x ⟨rfl,z⟩
 | _=>cases hc
theorem RelD.ty {H:Hp}{v:V}{d:D}(r:RelD K H v d):TyS K H v (dk d):=by
 cases r with
 | non=>exact .non
 | bl=>exact .bl _
 | int=>exact .int _
 | str=>exact .str _
 | lst h=>exact .lst (.inl h)
 | tup h=>exact .tup h
 | dK h=>exact .dK h
theorem kit_all:∀ n∈["NoneType","bool","int","str","list","tuple","dict"],∀ T∈["str","list","tuple","bool","int","dict"],kitC n T=some (n == T || (T == "int" && n == "bool")):=by decide +kernel
theorem isK_ok {T:String}(hT:T∈["str","list","tuple","bool","int","dict"])(d:D):kitC (dk d) T=some (isK T d):=by
 unfold isK;exact kit_all (dk d) (by cases d<;>simp [dk]) T hT
theorem FY {T:String}(hT:T∈["str","list","tuple","bool","int","dict"])(ea:EV K ta σ G md):EV K (tCB (rInst K) (AX ta (AX (tC (.ty T)) Bb))) σ G (md.bind fun d=>some (isK T d)):=by
 clear 7;obtain ⟨a,ha,hc⟩:=qaA.mp hc;cases hc;clear 8 ea a ha;exact ⟨_,_,_,_,rfl,(RelD.ty r2).mono x2.gh,isK_ok hT a,k _ _ _ x2 rfl⟩
theorem RelDs.len {H:Hp}{xs:List V}{ds:List D}(r:RelDs K H xs ds):xs.length=ds.length:=Paired.length (EE r)
theorem FB (ea:EV K ta σ G md):EV K (tCB (LO K) (AX ta Bb)) σ G (md.bind fun d=>Eu d):=by
 clear 7;obtain ⟨a,ha,hc⟩:=qaA.mp hc;clear 8 ea a ha
 cases r2 with
 | str x z=>cases hc;exact ⟨z,k _ _ _ x2 rfl⟩
 | lst h z r=>cases hc;exact ⟨_,.inl (.inl (x2.gh.rd h)),by rw [r.len];exact k _ _ _ x2 rfl⟩
 | tup h z r=>cases hc;exact ⟨_,.inr (x2.gh.tup h),by rw [r.len];exact k _ _ _ x2 rfl⟩
 | _=>cases hc
theorem Ev {ib:Option Int}(ea:EV K ta σ G md)(eb:EV K tb σ G ib):EV K (tOp (rAt K) ta tb) σ G (md.bind fun d=>ib.bind fun i=>atD d i) :=
 CK (fun s ra rb e Q k=>by
  cases rb
  cases ra with
  | str x z =>
   obtain ⟨c,hc,e⟩:=qaA.mp e;cases e;exact ⟨z,c,hc,k _ _ _ (.refl s) (.str _ (by show 1<=sizeLine;decide))⟩
  | lst h z r =>
   obtain ⟨v,hv,r⟩:=DP (EE r) e;exact .inl ⟨_,v,.inl (s.rd h),hv,k _ _ _ (.refl s) r⟩
  | tup h z r =>
   obtain ⟨v,hv,r⟩:=DP (EE r) e;exact .inr ⟨_,v,s.tup h,hv,k _ _ _ (.refl s) r⟩
  | _=>cases e) ea eb
theorem iw_any (ea:EV K ta σ G md):IW K (Jj K ta) σ G (md.bind fun d=>NX d):=by
 intro G1 s1 a ha H sH R k;obtain ⟨b,hb,ha⟩:=qaA.mp ha;clear 8 ea b hb
 cases r2 with
 | str x z =>
  cases ha;exact k _ (ER x) G2 H2 x2 (Mi x G2) (by unfold ER;rw [qdA];exact z) (toDs (Kd x G2))
 | lst h z r=>cases ha;exact .inl ⟨⟨_,.inl (x2.gh.rd h)⟩,k _ _ G2 H2 x2 (I0 (.inl h)) z (EE r)⟩
 | tup h z r=>cases ha;exact .inr ⟨⟨_,x2.gh.tup h⟩,k _ _ G2 H2 x2 (Ii h) z (EE r)⟩
 | _=>cases ha
theorem KN {X:Cx}(h:X.K=K):De X (.type "tuple") (fun xs H Q=>∃ p ys,xs=[.ref p]/\((SqL K H p ys/\∀ l,H l=none->Q (.ref l) (upd H l (.tup ys)))\/(SqT K H p ys/\Q (.ref p) H))):=h ▸ Ji
theorem Li {la:Option (List α)}(ea:EV K ta σ G la):EV K (tCB (fun xs H Q=>∃ p ys,xs=[.ref p]/\((SqL K H p ys/\∀ l,H l=none->Q (.ref l) (upd H l (.tup ys)))\/(SqT K H p ys/\Q (.ref p) H))) (AX ta Bb)) σ G (la.bind fun a=>some (Tp.mk a)):=by
 clear 7;obtain ⟨a,ha,hc⟩:=qaA.mp hc;cases hc;clear 8 ea a ha;obtain ⟨l,xs,rfl,h,z,p⟩:=r2;refine ⟨l,xs,rfl,.inl ⟨.inl (x2.gh.rd h),fun q hq=>?_⟩⟩;exact k _ _ _ (x2.trans (.new x2.gh hq)) ⟨q,xs,rfl,SqT.of AQ,z,Paired.imp' (fun _ _ r=>Rp.mono (Same.new (x2.gh.free hq)) r) p⟩
theorem NA:EV K tDNewK σ G (some D.dic):=by
 clear 7;cases hc;exact fun p hp=>k _ _ _ (.new sH hp) (.dK (.inl AQ))
theorem LU {x:Str}{m:Option α}(e:EV K te σ G m):EV K (tDisp [(tC (.str x),te)]) σ G (m.bind fun _=>some D.dic):=by
 clear 7;obtain ⟨a,ha,hc⟩:=qaA.mp hc;cases hc;intro p hp;have x0:Ext G1 H G1 (upd H p (.dK [])):=.own sH hp;refine e G1 s1 a ha _ x0.gh _ fun v G2 H2 x2 r2=>?_;have hg:G2 p=none:=x2.no p (sH.free hp) (by rw [AQ];exact fun z=>nomatch z);refine ⟨x2.hh _ _ AQ,[(Sum.inr x,v)],rfl,by show 1<=15;decide,?_⟩;have xt:=(x0.trans x2).put (o:=.dK (Hm [] [(Sum.inr x,v)])) hp hg;exact k _ _ _ (xt.frz hp hg AQ) (.dK (.inl AQ))
end
section
variable {K:FZ9}{σ:St}{G:Hp}{ta:TE}
def rAllB (K:FZ9):List V->Hp->VK->Prop:=fun vs H Q=>∃ (l:Addr) (bs:List Bool),vs=[.ref l]/\SqL K H l (bs.map V.bl)/\Q (.bl (bs.all id)) H
theorem bools_at {bs:List Bool}{its:List Value}(r:Vals (bs.map V.bl) its){i:Nat}{v:Value}(h:its.toArray[i]? = some v):v = .bool (bs.getD i true):=by
 have h:its[i]? = some v:=by simpa using h
 have hl:=r.length;rw [qdA] at hl;obtain ⟨hi,_⟩:=qrA.mp h
 have e:(bs.map V.bl)[i]? = some (V.bl (bs.getD i true)):=by
  have:i<bs.length:=by omega
  simp [this]
 obtain ⟨u,hu,ru⟩:=r.get e;rw [h] at hu;cases hu;exact ru
theorem O2 {X:Cx}(hc:X.calm=true)(h:X.K=K):De X (.builtin "all") (rAllB K):=by
 subst h;intro pins s σ H vs us Q I r h;obtain ⟨l,bs,rfl,hl,q⟩:=h;obtain ⟨u,rfl,ru⟩:=JC r;cases ru;obtain ⟨its,rv,pl,_⟩:=I.list hl;have hL:=pl.isList;have hlt:l<s.heap.objs.size:=by obtain ⟨_,e,_⟩:=hL;exact qeB e
 have hlen:=rv.length;rw [qdA] at hlen;refine call_all_walk (wpAny_pyIter_list hL ?_);refine ⟨_,_,_,_,_,_,fun i=>bs.getD i true,rfl,Walks.list (A:=X.A.in1) (I.ok.hd hc) _ l (quB hlt) its.toArray,⟨⟨_,qgB _ rfl,rfl,rfl⟩,hL.push _⟩,?_,fun h' tk hk=>?_⟩
 ·intro i v s' Q' E' hP hQ;rw [bools_at rv hP];exact wpAny_truthy_bool hQ
 ·have e:(List.range its.toArray.size).all (fun i=>bs.getD i true)=bs.all id:=by
   rw [qoB,<- hlen];apply Bool.eq_iff_iff.mpr;rw [List.all_eq_true,List.all_eq_true];constructor
   ·intro hh b hb;obtain ⟨i,hi⟩:=List.mem_iff_getElem?.mp hb;have hi2:=(qrA.mp hi).1;have:=hh i (List.mem_range.mpr hi2);rw [qwA,hi] at this;exact this
   ·intro hh i hi;have hi2:=List.mem_range.mp hi;have:=hh bs[i] (List.getElem_mem hi2);rw [qwA,qsA hi2];exact this
  rw [e];refine ⟨.bl _,H,I.kept fun b o eb=>?_,rfl,q⟩;refine hk b o (fun hm=>?_) (qfB _ eb);have:b=s.heap.objs.size:=by simpa using hm
  exact absurd (this ▸ qeB eb) (qcB _)
theorem Gz {H:Hp}:∀ {xs:List V}{ys:List Bool},Paired (Rp.rel K H) xs ys->xs=ys.map V.bl
 | _,_,.nil=>rfl
 | _,_,.cons r t=>by
  cases r;rw [Gz t]
  rfl
theorem ev_all {lb:Option (List Bool)}(ea:EV K ta σ G lb):EV K (tCB (rAllB K) (AX ta Bb)) σ G (lb.bind fun bs=>some (bs.all id)):=by
 clear 7;obtain ⟨a,ha,hc⟩:=qaA.mp hc;cases hc;clear 8 ea a ha;obtain ⟨l,xs,rfl,h,z,p⟩:=r2;obtain rfl:=Gz p;exact ⟨l,a,rfl,.inl (x2.gh.rd h),k _ _ _ x2 rfl⟩
end
def OK {α:Type}(m:Option α)(P:α->Prop):Prop:=∃ a,m=some a/\P a
section
variable {α β S ρ:Type}{m:Option α}{P Q:α->Prop}{R:β->Prop}
theorem OK.mono (h:OK m P)(k:∀ a,P a->Q a):OK m Q:=let ⟨a,e,p⟩:=h;⟨a,e,k a p⟩
theorem AI {a:α}(h:P a):OK (some a) P:=⟨a,rfl,h⟩
theorem AE {f:α->Option β}(h:OK m fun a=>OK (f a) R):OK (m.bind f) R:=by
 obtain ⟨a,rfl,h⟩:=h;exact h
theorem ok_bC {f:α->Option β}(a:α)(e:m=some a)(h:OK (f a) R):OK (m.bind f) R:=AE ⟨a,e,h⟩
theorem FL {f:α->Option β}(h:OK m P)(k:∀ a,P a->OK (f a) R):OK (m.bind f) R:=AE (h.mono k)
theorem B6 {b:Bool}{x y:Option α}(h1:b=true->OK x P)(h2:b=false->OK y P):OK (cond b x y) P:=by
 cases b with
 | true=>exact h1 rfl
 | false=>exact h2 rfl
theorem OK.eq {a:α}(h:OK m fun b=>b=a):m=some a:=by obtain ⟨b,e,rfl⟩:=h;exact e
theorem OK.of {a:α}(e:m=some a)(h:P a):OK m P:=⟨a,e,h⟩
theorem Ag {α β:Type}(a:α)(f:α->Option β):(some a).bind f=f a:=by rw [Option.bind_some]
theorem AO {α:Type}(m:Option α):(m.bind fun x=>some x)=m:=by cases m<;>rfl
theorem HY {a b:Int}{P:Int->Prop}(hb:0<b)(h:P (a % b)):OK (HJ a b) P:=⟨_,if_pos hb,h⟩
theorem Ks {a b:Int}{P:Int->Prop}(hb:0<b/\b<1073741824)(h:P (a / b)):OK (Jp a b) P:=⟨_,if_pos hb,h⟩
theorem Dt {a b:List α}{P:List α->Prop}(hb:a.length+b.length<=sizeLine)(h:P (a++b)):OK (JG a b) P:=⟨_,if_pos hb,h⟩
theorem NS {a:List α}{b:α}{P:List α->Prop}(hb:a.length<sizeLine)(h:P (a++[b])):OK (Ll a b) P:=⟨_,if_pos hb,h⟩
theorem ok_rep {a:List α}{k:Nat}{P:List α->Prop}(hk:a.length * k<=sizeLine)(hs:k<4611686018427387904)(h:P (List.replicate k a).flatten):OK (repL a (k:Int)) P :=
 ⟨_,if_pos ⟨⟨by omega,by omega⟩,by rw [Int.toNat_natCast];exact hk⟩,by rw [Int.toNat_natCast];exact h⟩
theorem L6 {lo hi:Int}{n:Nat}{P:List Int->Prop}(hn:hi - lo=n)(h0:-1000000000<=lo/\lo<=1000000000)(h1:n<=sizeLine)(h:P ((List.range n).map fun (i:Nat)=>lo+(i:Int))):OK (OW lo hi) P:=by
 have hs:sizeLine=16777216:=qhB;have e:(hi - lo).toNat=n:=by omega
 refine ⟨_,if_pos ⟨⟨by omega,by omega,by omega,by omega⟩,by omega⟩,?_⟩;rw [e];exact h
theorem FX {a:List α}{i:Int}(h0:0<=i)(h1:i<a.length)(h:∀ x,a[i.toNat]? = some x->P x):OK (atI a i) P:=by
 obtain ⟨k,rfl⟩:=qjB h0;have hk:k<a.length:=by omega
 refine ⟨a[k],BM (by simp [hk]),h _ ?_⟩;rw [Int.toNat_natCast];simp [hk]
theorem ok_for {f:α->S->Option (Fl S ρ)}{as:List α}{s0:S}(I:Nat->S->Prop)(J:S->Prop)(R:ρ->Prop){P:Fl S ρ->Prop}(h0:I 0 s0)
  (hs:∀ (i:Nat) a s,as[i]? = some a->I i s->OK (f a s) fun fl=>match fl with | .nx s'=>I (i+1) s' | .bk s'=>J s' | .rt r=>R r)
  (hn:∀ s,I as.length s->P (.nx s)) (hj:∀ s,J s->P (.nx s)) (hr:∀ r,R r->P (.rt r)):OK (ES f as s0) P:=by
 have key:∀ (n i:Nat) (s:S),n=as.length - i->i<=as.length->I i s->OK (ES f (as.drop i) s) P:=by
  intro n
  induction n with
  | zero =>
   intro i s hn0 hi hI;have e:i=as.length:=by omega
   subst e;rw [List.drop_length];exact AI (hn s hI)
  | succ n ih =>
   intro i s hn0 hi hI;have hlt:i<as.length:=by omega
   rw [List.drop_eq_getElem_cons hlt];obtain ⟨fl,e,h⟩:=hs i as[i] s (by simp [hlt]) hI;show OK ((f as[i] s).bind _) P;rw [e]
   cases fl with
   | nx s'=>exact ih (i+1) s' (by omega) hlt h
   | bk s'=>exact AI (hj s' h)
   | rt r=>exact AI (hr r h)
 exact key as.length 0 s0 (by omega) (qyB _) h0
theorem FC {f:α->S->Option (Fl S ρ)}{as:List α}{s0:S}(I:Nat->S->Prop){P:Fl S ρ->Prop}(h0:I 0 s0)
  (hs:∀ (i:Nat) a s,as[i]? = some a->I i s->OK (f a s) fun fl=>∃ s',fl = .nx s'/\I (i+1) s') (hn:∀ s,I as.length s->P (.nx s)):OK (ES f as s0) P :=
 ok_for I (fun _=>False) (fun _=>False) h0 (fun i a s ha hI=>(hs i a s ha hI).mono fun fl ⟨s',e,h⟩=>by subst e;exact h) hn (fun _ h=>h.elim) fun _ h=>h.elim
theorem LG {c:S->Option Bool}{f:S->Option (Fl S ρ)}{s0:S}(I:S->Prop)(J:S->Prop)(R:ρ->Prop)(μ:S->Nat){P:Fl S ρ->Prop}(h0:I s0)(hμ:μ s0<1000000)
  (hs:∀ s,I s->OK (c s) fun b=>if b=true then OK (f s) fun fl=>match fl with | .nx s'=>I s'/\μ s'<μ s | .bk s'=>J s' | .rt r=>R r else P (.nx s))
  (hj:∀ s,J s->P (.nx s)) (hr:∀ r,R r->P (.rt r)):OK (Gm c f NN s0) P:=by
 have key:∀ (n:Nat) (s:S),μ s<n->I s->OK (Gm c f n s) P:=by
  intro n
  induction n with
  | zero=>intro s h;exact absurd h (Nat.not_lt_zero _)
  | succ n ih =>
   intro s hlt hI;obtain ⟨b,e,h⟩:=hs s hI;show OK ((c s).bind _) P;rw [e]
   cases b with
   | false =>
    rw [if_neg qnB] at h;exact AI h
   | true =>
    rw [if_pos rfl] at h;obtain ⟨fl,e2,h⟩:=h;show OK ((f s).bind _) P;rw [e2]
    cases fl with
    | nx s'=>exact ih s' (by have:=h.2;omega) h.1
    | bk s'=>exact AI (hj s' h)
    | rt r=>exact AI (hr r h)
 exact key NN s0 (by unfold NN;omega) h0
theorem JF {f:α->Option β}{g:α->β}{P:List β->Prop}:∀ {as:List α},(∀ a∈as,f a=some (g a))->P (as.map g)->OK (FU f as) P:=by
 intro as
 have key:∀ as:List α,(∀ a∈as,f a=some (g a))->FU f as=some (as.map g):=by
  intro as
  induction as with
  | nil=>intro _;rfl
  | cons a r ih =>
   intro h;show ((f a).bind fun y=>(FU f r).bind fun ys=>some (y::ys))=_;rw [h a qoA,ih fun x hx=>h x (qpA _ hx)]
   rfl
 exact fun h p=>⟨_,key as h,p⟩
theorem ok_mapR {f:α->Option β}{R:α->β->Prop}{P:List β->Prop}:∀ {as:List α},(∀ a∈as,OK (f a) (R a))->(∀ bs:List β,bs.length=as.length->(∀ b∈bs,∃ a∈as,R a b)->(∀ (i:Nat) a b,as[i]? = some a->bs[i]? = some b->R a b)->P bs)->OK (FU f as) P:=by
 intro as
 have key:∀ as:List α,(∀ a∈as,OK (f a) (R a))->OK (FU f as) fun bs=>bs.length=as.length/\(∀ b∈bs,∃ a∈as,R a b)/\∀ (i:Nat) a b,as[i]? = some a->bs[i]? = some b->R a b:=by
  intro as
  induction as with
  | nil=>intro _;exact AI ⟨rfl,fun b h=>by simp at h,fun i a b h=>by simp at h⟩
  | cons a r ih =>
   intro h;refine FL (h a qoA) fun y hy=>FL (ih fun x hx=>h x (qpA _ hx)) fun ys ⟨h1,h2,h3⟩=>AI ⟨by simp [h1],?_,?_⟩
   ·intro b hb;rcases qkA.mp hb with e|e
    ·subst e;exact ⟨a,qoA,hy⟩
    ·obtain ⟨x,hx,hr⟩:=h2 b e;exact ⟨x,qpA _ hx,hr⟩
   ·intro i x b hx hb
    cases i with
    | zero=>simp at hx hb;subst hx;subst hb;exact hy
    | succ i=>exact h3 i x b (by simpa using hx) (by simpa using hb)
 exact fun h p=>(key as h).mono fun bs ⟨h1,h2,h3⟩=>p bs h1 h2 h3
end
end L2
namespace Lasso
variable {α β:Type}
end Lasso
namespace Lasso
variable {α:Type}[DecidableEq α]
end Lasso
namespace L2
open PySem PySem.Spec PyProof.Rows
section
variable {X:Cx}{K:FZ9}{o:Expr}{to:TE}{name:Str}{apos cpos:Pos}{T id:String}{r:V->List V->Hp->VK->Prop}
theorem NZ (h:X.K=K)(pa:PlainAttrs T)(slot:Slot T name id)(hty:typeOf (.builtin id)=pure (.type "method_descriptor"))(hm:MtR X id r)(ho:PE X o to)
  (hbase:attributeBase o name X.env (eval o X.env)=eval o X.env:=by rfl) (hline:(apos.endLine == cpos.line)=true:=by rfl):PE X (.Call (.Attribute o name apos) [] [] cpos) (tBM0 K T r to):=h ▸ pe_bm0 pa slot hty hm ho hbase hline
end
section
variable {K:FZ9}{σ:St}{G H G1 H1 G0 H0:Hp}{α β:Type}[Rp α][Rp β]{te ti:TE}{tt:TT}{t u rest:TS}{D:Ends}{i j:Nat}{a:α}{m:Option α}{as:List α}{v:V}{p q:Addr}{vs:List V}
def era (H:Hp)(C:List Addr):Hp:=fun a=>if a∈C then none else H a
theorem KZ {C:List Addr}{b:Addr}(h:b∈C):era H C b=none:=if_pos h
theorem IP {C:List Addr}{b:Addr}(h:b ∉ C):era H C b=H b:=if_neg h
theorem era_same {C:List Addr}:Same (era H C) H:=fun b o e=>by
 by_cases h:b∈C
 ·rw [KZ h] at e;cases e
 ·rw [IP h] at e;exact e
theorem Ext.begin {C:List Addr}(s:Same G H):Ext G (era H C) G H:=⟨.refl _,s,era_same,fun _ h _=>h⟩
theorem Ext.past {C:List Addr}(x:Ext G0 H0 G H)(h0:∀ b∈C,H0 b=none)(y:Ext G (era H C) G1 H1):Ext G0 H0 G1 H1:=by
 refine ⟨x.gg.trans y.gg,y.gh,fun b o e=>?_,fun b g h=>?_⟩
 ·have hb:b ∉ C:=fun hc=>by
   rw [h0 b hc] at e;cases e
  exact y.hh b o (by rw [IP hb];exact x.hh b o e)
 ·have hb:b ∉ C:=fun hc=>h (h0 b hc);refine y.no b (x.no b g h) ?_;rw [IP hb]
  cases e:H0 b with
  | none=>exact absurd e h
  | some o =>
   rw [x.hh b o e];exact fun z=>nomatch z
end
inductive Nt where
 | txt (x:Str)
 | tup (l:List Nt)
 | int (n:Int)
mutual
def Nt.dec:(a b:Nt)->Decidable (a=b)
 | .txt x,.txt y=>if h:x=y then .isTrue (by rw [h]) else .isFalse fun e=>h (by cases e;rfl)
 | .txt _,.tup _=>.isFalse fun e=>by cases e
 | .tup _,.txt _=>.isFalse fun e=>by cases e
 | .int m,.int n=>if h:m=n then .isTrue (by rw [h]) else .isFalse fun e=>h (by cases e;rfl)
 | .int _,.txt _=>.isFalse fun e=>by cases e
 | .int _,.tup _=>.isFalse fun e=>by cases e
 | .txt _,.int _=>.isFalse fun e=>by cases e
 | .tup _,.int _=>.isFalse fun e=>by cases e
 | .tup l,.tup m=>match Nt.decs l m with
  | .isTrue h=>.isTrue (by rw [h])
  | .isFalse h=>.isFalse fun e=>h (by cases e;rfl)
def Nt.decs:(l m:List Nt)->Decidable (l=m)
 | [],[]=>.isTrue rfl
 | [],_::_=>.isFalse fun e=>by cases e
 | _::_,[]=>.isFalse fun e=>by cases e
 | a::l,b::m=>match Nt.dec a b with
  | .isFalse h=>.isFalse fun e=>h (by cases e;rfl)
  | .isTrue h=>match Nt.decs l m with
   | .isTrue h2=>.isTrue (by rw [h,h2])
   | .isFalse h2=>.isFalse fun e=>h2 (by cases e;rfl)
end
mutual
def Nt.dep:Nt->Nat
 | .txt _=>0
 | .int _=>0
 | .tup l=>Nt.deps l+1
def Nt.deps:List Nt->Nat
 | []=>0
 | a::l=>max (Nt.dep a) (Nt.deps l)
end
mutual
inductive RelN (K:FZ9)(H:Hp):V->Nt->Prop where
 | txt (x:Str) (z:x.length<=sizeLine):RelN K H (.str x) (.txt x)
 | int (n:Int):RelN K H (.int n) (.int n)
 | tup {a:Addr}{xs:List V}{ds:List Nt}(h:SqT K H a xs) (z:xs.length<=sizeLine) (r:RelNs K H xs ds) (l:ds[0]? = some (.txt "lamp")->H a=some (.tup xs)):RelN K H (.ref a) (.tup ds)
inductive RelNs (K:FZ9)(H:Hp):List V->List Nt->Prop where
 | nil:RelNs K H [] []
 | cons {x:V}{d:Nt}{xs:List V}{ds:List Nt}(h:RelN K H x d) (t:RelNs K H xs ds):RelNs K H (x::xs) (d::ds)
end
mutual
theorem RelN.mono {K:FZ9}{H H':Hp}(s:Same H H'):∀ {v:V}{d:Nt},RelN K H v d->RelN K H' v d
 | _,_,.txt x z=>.txt x z
 | _,_,.int n=>.int n
 | _,_,.tup h z r l=>.tup (s.tup h) z (RelNs.mono s r) fun e=>s _ _ (l e)
theorem RelNs.mono {K:FZ9}{H H':Hp}(s:Same H H'):∀ {v:List V}{d:List Nt},RelNs K H v d->RelNs K H' v d
 | _,_,.nil=>.nil
 | _,_,.cons h t=>.cons (RelN.mono s h) (RelNs.mono s t)
end
instance rpN:Rp Nt:=⟨RelN,fun s h=>RelN.mono s h⟩
theorem Ly {K:FZ9}{H:Hp}:∀ {xs:List V}{ds:List Nt},Paired (Rp.rel K H) xs ds->RelNs K H xs ds
 | _,_,.nil=>.nil
 | _,_,.cons h t=>.cons h (Ly t)
theorem LK {K:FZ9}{H:Hp}:∀ {xs:List V}{ds:List Nt},RelNs K H xs ds->Paired (Rp.rel K H) xs ds
 | _,_,.nil=>.nil
 | _,_,.cons h t=>.cons h (LK t)
theorem SqT.keep {K:FZ9}{H H':Hp}{a:Addr}{xs:List V}(s:TupK H H')(h:SqT K H a xs):SqT K H' a xs:=by
 rcases h with h|h
 ·exact .inl (s.rd _ _ h)
 ·exact .inr h
mutual
theorem RelN.keep {K:FZ9}{H H':Hp}(s:TupK H H'):∀ {v:V}{d:Nt},RelN K H v d->RelN K H' v d
 | _,_,.txt x z=>.txt x z
 | _,_,.int n=>.int n
 | _,_,.tup h z r l=>.tup (SqT.keep s h) z (RelNs.keep s r) fun e=>s.eq _ _ (l e)
theorem RelNs.keep {K:FZ9}{H H':Hp}(s:TupK H H'):∀ {v:List V}{d:List Nt},RelNs K H v d->RelNs K H' v d
 | _,_,.nil=>.nil
 | _,_,.cons h t=>.cons (RelN.keep s h) (RelNs.keep s t)
end
instance imN:Imm Nt:=⟨fun s h=>RelN.keep s h⟩
section
variable {K:FZ9}{σ:St}{G:Hp}{ta tb te:TE}{m1 m2 md:Option Nt}
theorem Ae {m:Option Str}(e:EV K te σ G m):EV K te σ G (m.bind fun x=>some (Nt.txt x)):=by
 clear 7;obtain ⟨x,hx,hc⟩:=qaA.mp hc;cases hc;exact e G1 s1 x hx H sH Q fun v G2 H2 x2 ⟨e,z⟩=>k v G2 H2 x2 (by subst e;exact .txt _ z)
def Em:Nt->Option Str
 | .txt x=>some x
 | _=>none
def Cw:Nt->Option (Tp Nt)
 | .tup l=>some ⟨l⟩
 | _=>none
theorem Fd (e:EV K te σ G md):EV K te σ G (md.bind fun d=>Em d):=by
 clear 7;obtain ⟨d,hd,hc⟩:=qaA.mp hc;refine e G1 s1 d hd H sH Q fun v G2 H2 x r=>?_
 cases r with
 | txt y z =>
  cases hc;exact k _ _ _ x ⟨rfl,z⟩
 | int n=>cases hc
 | tup h z r l=>cases hc
theorem CV (e:EV K te σ G md):EV K te σ G (md.bind fun d=>Cw d):=by
 clear 7;obtain ⟨d,hd,hc⟩:=qaA.mp hc;refine e G1 s1 d hd H sH Q fun v G2 H2 x r=>?_
 cases r with
 | txt y z=>cases hc
 | int n=>cases hc
 | tup h z r l =>
  cases hc;exact k _ _ _ x ⟨_,_,rfl,h,z,LK r⟩
end
section
variable {X:Cx}{K:FZ9}
theorem NH (h:X.K=K):SlR X (rSlT K):=h ▸ sl_tup
end
section
variable {K:FZ9}{σ:St}{G:Hp}{α:Type}[Rp α]{ta tb tc te:TE}{t1 t2:TO}{ia ib ic:Option Int}{m1 m2:Option (Option Int)}
def Ik {α:Type}(l:List α)(lo hi:Option Int):Option (Tp α):=if ¬ (HT.sIx l.length 0 lo=0/\HT.sIx l.length l.length hi=l.length) then some ⟨D4 l lo hi⟩ else none
theorem K6 {ma:Option (Tp α)}(ea:EV K ta σ G ma)(e1:OV t1 σ G m1)(e2:OV t2 σ G m2):EV K (tSl (rSlT K) ta t1 t2) σ G (ma.bind fun a=>m1.bind fun lo=>m2.bind fun hi=>Ik a.l lo hi):=by
 clear 7;obtain ⟨a,ha,hc⟩:=qaA.mp hc;obtain ⟨lo,hlo,hc⟩:=qaA.mp hc;obtain ⟨hi,hhi,hc⟩:=qaA.mp hc;obtain ⟨hw,rfl⟩:=BC hc;clear 8 ea a ha;refine e1 G2 (s1.trans x2.gg) lo hlo H2 x2.gh _ fun G3 H3 x3=>?_;refine e2 G3 (s1.trans (x2.trans x3).gg) hi hhi H3 x3.gh _ fun G4 H4 x4=>?_;obtain ⟨l,xs,rfl,h,z,p⟩:=Rp.mono (x3.trans x4).gg r2;have hl:=Paired.length p;refine ⟨l,xs,rfl,x4.gh.tup h,by rw [hl];exact hw,fun q hq=>?_⟩;have hg:G4 q=none:=x4.gh.free hq;refine k _ (upd G4 q (.tup (Jg xs lo hi))) _ (((x2.trans x3).trans x4).trans ⟨Same.new hg,fun b o e=>?_,Same.new hq,fun b h1 h2=>?_⟩) ⟨q,_,rfl,.inl (.inl AQ),qbB (Db _ _ _) z,Paired.imp' (fun _ _ r=>Rp.mono (Same.new hg) r) (Paired.cut p lo hi)⟩
 ·by_cases hb:b=q
  ·subst hb;rw [AQ] at e ⊢;exact e
  ·rw [Aj hb] at e ⊢;exact x4.gh b o e
 ·have hb:b≠q:=fun e=>h2 (by rw [e];exact hq);rw [Aj hb];exact h1
class Flat (α:Type) [Rp α] [DecidableEq α]:Prop where
 fl:∀ {K:FZ9}{H:Hp}{v:V}{a:α},Rp.rel K H v a->flatV v=true
 eq:∀ {K:FZ9}{H H':Hp}{v u:V}{a b:α},Rp.rel K H v a->Rp.rel K H' u b->eqV v u=decide (a=b)
end
mutual
def Nt.toD:Nt->D
 | .txt x=>.str x
 | .int n=>.int n
 | .tup l=>.tup (Nt.toDs l)
def Nt.toDs:List Nt->List D
 | []=>[]
 | a::l=>Nt.toD a::Nt.toDs l
end
mutual
theorem RelN.toD {K:FZ9}{H:Hp}:∀ {v:V}{a:Nt},RelN K H v a->RelD K H v a.toD
 | _,_,.txt x z=>by unfold Nt.toD;exact .str x z
 | _,_,.int n=>by unfold Nt.toD;exact .int n
 | _,_,.tup h z r _=>by unfold Nt.toD;exact .tup h z (RelNs.toD r)
theorem RelNs.toD {K:FZ9}{H:Hp}:∀ {xs:List V}{l:List Nt},RelNs K H xs l->RelDs K H xs (Nt.toDs l)
 | _,_,.nil=>by unfold Nt.toDs;exact .nil
 | _,_,.cons h t=>by unfold Nt.toDs;exact .cons (RelN.toD h) (RelNs.toD t)
end
instance tdN:ToD Nt:=⟨Nt.toD,fun h=>RelN.toD h⟩
section
variable {K:FZ9}{σ:St}{G H G1 H1 G2 H2 G0 H0:Hp}{α β γ δ:Type}[Rp α][Rp β][Rp γ][Rp δ]{te ta tb ti:TE}{t:TA}{tt:TT}{rest:TS}{D:Ends}{i j n:Nat}{as as':List α}{v w:V}{p q:Addr}{vs ws:List V}
def cutX (x:Scr)(lo hi:Option Int):Option (List Int):=if x.l.length<=sizeLine then some (D4 x.l lo hi) else none
theorem JV (H:Hp):∀ l:List Int,Paired (Rp.rel K H) (l.map V.int) l
 | []=>.nil
 | a::r=>.cons rfl (JV H r)
theorem OJ {t1 t2:TO}{m1 m2:Option (Option Int)}{ma:Option Scr}(ea:EV K ta σ G ma)(e1:OV t1 σ G m1)(e2:OV t2 σ G m2):FV K (tSl (rSl K) ta t1 t2) σ G (ma.bind fun a=>m1.bind fun lo=>m2.bind fun hi=>cutX a lo hi):=by
 clear 7;obtain ⟨a,ha,hc⟩:=qaA.mp hc;obtain ⟨lo,hlo,hc⟩:=qaA.mp hc;obtain ⟨hi,hhi,hc⟩:=qaA.mp hc;obtain ⟨z,rfl⟩:=BC hc;clear 8 ea a ha;refine e1 G2 (s1.trans x2.gg) lo hlo H2 x2.gh _ fun G3 H3 x3=>?_;refine e2 G3 (s1.trans (x2.trans x3).gg) hi hhi H3 x3.gh _ fun G4 H4 x4=>?_;obtain ⟨l,rfl,h⟩:=Rp.mono (x3.trans x4).gg r2;exact ⟨_,x4.gh.seq h,Iq x4.gh (qbB (Db _ _ _) (by rw [qdA];exact z)) (Paired.cut (JV G4 a.l) lo hi) (FV.mono ((x2.trans x3).trans x4) k)⟩
end
theorem D3 {X:Cx}{x:Str}{a:Addr}{pos:Pos}(hg:Gl X x)(h:X.mg x=some (.ref a))(hd:(x == ("__debug__" : Str))=false:=by decide):PE X (.Name x pos) (tC (.ref a)) :=
 Ck (u:=.ref a) hg h rfl hd
theorem rel_tup1 {K:FZ9}{a:Addr}{od:Option Addr}{n:Nat}{osl:Array (Option Value)}{x:Str}{t:Tok}(h:K.lookup a=some ⟨.type "tuple",od,.seq #[.str x t] n,osl⟩)(z:x.length<=sizeLine)(G:Hp)(hx:x ≠ "lamp" := by decide +kernel) :
  Rp.rel K G (.ref a) (Nt.tup [Nt.txt x]) :=
 RelN.tup (xs:=[.str x]) (.inr ⟨_,_,_,h,rfl,rfl,(by show 1<=sizeLine;decide),.cons ⟨t,rfl⟩ .nil⟩) (by show 1<=sizeLine;decide) (.cons (.txt x z) .nil) fun e=>absurd (Nt.txt.inj (qdB e)) hx
section
variable {K:FZ9}{σ:St}{G:Hp}{ta:TE}
theorem Av {t:TA}{n:Nat}{ml:Option (List Nt)}(e:LV K t σ G n ml)(z:n<=sizeLine:=by decide):EV K (Ih t) σ G (ml.bind fun l=>some (Nt.tup l)) :=
 fun G1 s1 c hc H sH Q k=>by
  obtain ⟨l,hl,hc⟩:=qaA.mp hc;cases hc;refine e G1 s1 l hl H sH _ fun vs G2 H2 x2 hl hp=>⟨by omega,fun p h=>?_⟩;exact k _ _ _ (x2.trans (.new x2.gh h)) (.tup (SqT.of AQ) (by omega) (Ly (Paired.imp' (fun _ _ r=>Rp.mono (Same.new (x2.gh.free h)) r) hp)) fun _=>AQ)
end
theorem vals3' {x y z:V}{us:List Value}(h:Vals [x,y,z] us):∃ a b c,us=[a,b,c]/\RelV x a/\RelV y b/\RelV z c:=by
 cases h with
 | cons r t=>cases t with
  | cons r' t'=>cases t' with
   | cons r'' t''=>cases t'';exact ⟨_,_,_,rfl,r,r',r''⟩
class NoN (α:Type) [Rp α]:Prop where
 no_non:∀ {K:FZ9}{H:Hp}{x:V}{a:α},Rp.rel K H x a->x ≠ .non
 ne:∀ {K:FZ9}{X:Cx}{pins:List (Addr × Obj)}{σ:St}{H:Hp}{s:Shared}{x:V}{u:Value}{a:α}(A:Around),X.K=K->Inv X pins σ H s->A.units<cLine->RelV x u->Rp.rel K H x a ->
  (SeqAt.EqAt A s .none u false/\SeqAt.RcAt A s .none u false/\SeqAt.RcNeAt A s .none u true)/\SeqAt.EqAt A s u .none false/\SeqAt.RcAt A s u .none false/\SeqAt.RcNeAt A s u .none true
class Fix (α:Type) [Rp α]:Prop where
 fx:∀ {K:FZ9}{G G':Hp}{v:V}{a:α},Rp.rel K G v a->Rp.rel K G' v a
def Itd (lo:Int)(n:Nat):It:=⟨fun i _=>i<n,fun i H x H'=>H'=H/\x = .int (lo - i),fun i _=>n<=i⟩
theorem OD {P:Program}{w:World}{K:FZ9}{tg:Expr}(it:Addr)(lo:Int)(n:Nat):Turn P w K tg (Itd lo n) [it] it (fun i h=>IsRangeIter h it (lo+(i:Nat) * (-1)) ((n:Int) - (i:Nat)) (-1)) where
 mem:=by simp
 obj:=fun i h st b hb=>by
  have e:b=it:=by simpa using hb
  subst e
  exact ⟨_,st,fun v z=>by
   have z':Data.fields _=Data.cell v:=z
   cases z'⟩
 keep:=fun i h h' st k=>k it (by simp) _ st
 item:=by
  intro X hP hw hK hc i pins s σ H E I hf st hg;subst hP hw hK;obtain ⟨f0,f1,f2,f3,f4,f5⟩:=hf it (by simp);have W:=Walks.range (prog:=X.prog) (w:=X.w) (I.ok.hd hc) it lo (-1) n;refine W.item i s _ _ hg st fun v h' tk hv st' kk=>?_;obtain ⟨t,rfl⟩:=hv;have I1:Inv X pins σ H { s with heap:=h',toks:=tk }:=I.turned (fun b o hb e=>kk b o (by simpa using hb) e) f0 f1 f3 f4 f5;refine ⟨_,rfl,KD (s:={ s with heap:=h',toks:=tk }) (n := "range_iterator") st' rfl rfl (by decide) ⟨.int (lo - i),H,I1,⟨t,?_⟩,⟨rfl,rfl⟩,st',fun b hb=>(hf b hb).1⟩⟩;have e:lo+(i:Int) * (-1)=lo - i:=by omega
  rw [e]
 done:=by
  intro X hP hw hK hc i pins s σ H E I hf st hg;subst hP hw hK;obtain ⟨f0,f1,f2,f3,f4,f5⟩:=hf it (by simp);exact wpAny_pyNext_range_end (I.ok.hd hc) st (by have:n<=i:=hg;omega) fun h' eb=>⟨rfl,I.turned (t':=s.toks) (fun b o hb e=>eb b o hb e) f0 f1 f3 f4 f5⟩
 self:=fun _ _ _ _ _ st h=>wpAny_pyIter_rangeiter st h
theorem Fz (a b:Int):Builtin.Range.rangeSize a b (-1)=((a - b).toNat:Int):=by
 unfold Builtin.Range.rangeSize;rw [if_neg (by decide)];have e:-(-1:Int)=1:=rfl;rw [e,Int.ediv_one];split<;>omega
theorem Md {a b:Int}(ha:-(2 ^ 62)<=a)(ha':a<2 ^ 62)(hb:-(2 ^ 62)<=b)(hb':b<2 ^ 62):Builtin.Range.small a b (-1)=true:=by
 unfold Builtin.Range.small;rw [Fz];simp only [Builtin.Range.rangeFitsLong,qzB,Bool.or_eq_true,decide_eq_true_eq,beq_iff_eq];rw [if_neg (by decide:¬ ((-1:Int) > 0))];simp only [qzB,decide_eq_true_eq];omega
def iRngD (ta:TA):TI:=fun σ H R=>ta σ H fun vs H1=>∃ i j:Int,vs=[.int i,.int j,.int (-1)]/\(-(2 ^ 62)<=i/\i<2 ^ 62/\-(2 ^ 62)<=j/\j<2 ^ 62)/\R (Itd i (i - j).toNat) H1
theorem KG {X:Cx}{tg:Expr}{a b c:Expr}{ta:TA}{p pos:Pos}(hg:Gl X "range")(hm:X.mg "range" = none)(ha:PA X [a,b,c] ta)(hs:starEach [a,b,c] X.env=[(false,eval a X.env),(false,eval b X.env),(false,eval c X.env)]:=by rfl)(hs2:starEach [b,c] X.env=[(false,eval b X.env),(false,eval c X.env)]:=by rfl) :
  PI X tg (.Call (.Name "range" p) [a,b,c] [] pos) (iRngD ta):=by
 intro pins s σ H R I h;refine Call_ (Hr I hg hm boot_range (PyProof.Rows.callWith_type1 (thn (ha pos pins s σ H _ I h) fun us s1 ⟨vs,H1,I1,r1,q1⟩=>?_) (by rw [hs,hs2]) (by rw [hs2];rfl)));obtain ⟨i,j,e,⟨q1,q2,q3,q4⟩,q⟩:=q1;subst e;obtain ⟨u1,u2,u3,rfl,⟨t,rfl⟩,⟨t',rfl⟩,⟨t'',rfl⟩⟩:=vals3' r1;refine call_range_3 (by decide) ?_ (.inl (PyProof.noPylong_small (by decide)));refine wpAny_pyIter_range (IsRange.new ..) (Md q1 q2 q3 q4) ?_;have I2:Inv X pins σ H1 { s1 with heap:=s1.heap.push { cls:=.type "range",data:=.fields #[.int i t,.int j t',.int (-1) t''] },toks:=s1.toks }:=I1.kept fun b o e=>qfB _ e
 refine ⟨(s1.heap.push { cls:=.type "range",data:=.fields #[.int i t,.int j t',.int (-1) t''] }).objs.size,[(s1.heap.push { cls:=.type "range",data:=.fields #[.int i t,.int j t',.int (-1) t''] }).objs.size],_,_,H1,rfl,
  I2.kept (t':=s1.toks) fun b o e=>qfB _ e,OD _ i (i - j).toNat,?_,fun b hb=>?_,q⟩
 ·have e1:i+((0:Nat):Int) * (-1)=i:=by simp
  have e2:(((i - j).toNat:Nat):Int) - ((0:Nat):Int)=Builtin.Range.rangeSize i j (-1):=by rw [Fz];omega
  show IsRangeIter _ _ (i+((0:Nat):Int) * (-1)) ((((i - j).toNat:Nat):Int) - ((0:Nat):Int)) (-1);rw [e1,e2];exact qgB _ rfl
 ·have e:b=(s1.heap.push { cls:=.type "range",data:=.fields #[.int i t,.int j t',.int (-1) t''] }).objs.size:=by simpa using hb
  subst e;exact I2.fpOk (qaB _) (I2.hok.fresh (qaB _))
def rngD (lo hi:Int):Option (List Int):=if (-(2 ^ 62)<=lo/\lo<2 ^ 62/\-(2 ^ 62)<=hi/\hi<2 ^ 62)/\(lo - hi).toNat<=sizeLine then some ((List.range (lo - hi).toNat).map fun (i:Nat)=>lo - (i:Int)) else none
theorem Lp (lo:Int)(n:Nat)(H:Hp):Yields (Itd lo n) H ((List.range n).map fun (i:Nat)=>V.int (lo - (i:Int))) where
 go:=fun i H' _ hi=>by
  have hi:i<n:=by simpa using hi
  exact hi
 stop:=fun H' _=>by simp [Itd]
 yld:=fun i H' v H'' _ hi y=>⟨y.1,by
  have hi:i<n:=by simpa using hi
  rw [y.2]
  simp [hi]⟩
section
variable {K:FZ9}{σ:St}{G:Hp}{ta tb:TE}
theorem N7 {ia ib:Option Int}(ea:EV K ta σ G ia)(eb:EV K tb σ G ib):IW K (iRngD (AX ta (AX tb (AX (tUn (rU fun i=>.int (-i)) (tC (.int 1))) Bb)))) σ G (ia.bind fun i=>ib.bind fun j=>rngD i j):=by
 intro G1 s1 a ha H sH R k;obtain ⟨i,hi,ha⟩:=qaA.mp ha;obtain ⟨j,hj,ha⟩:=qaA.mp ha;obtain ⟨⟨hb,hz⟩,rfl⟩:=BC ha;clear 8 ea i hi;refine eb G2 (s1.trans x2.gg) j hj H2 x2.gh _ fun u G3 H3 x3 r3=>?_;cases r2;cases r3;exact ⟨1,rfl,i,j,rfl,hb,k (Itd i (i - j).toNat) _ G3 H3 (x2.trans x3) (Lp i (i - j).toNat G3) (by rw [qdA,qhA];exact hz) (Fq G3 (fun n=>i - (n:Int)) _)⟩
end
end L2
namespace L3
open PySem
end L3
namespace L2
open PySem PySem.Spec PyProof.Rows
def Co (cap:List Nat)(σ:St):St:=none::none::cap.map fun i=>(σ[i]?).join
abbrev gTwo (K:FZ9):TG:=gTup K 2 (gCons (CY 0) (gCons (CY 1) gNil))
theorem gTwo_at {K:FZ9}{v:V}{σ:St}{H:Hp}{Q:St->Hp->Prop}(h:gTwo K v σ H Q):gTwo K v σ H fun σ2 H2=>(∃ v0 v1,σ2=(σ.set 0 (some v0)).set 1 (some v1))/\Q σ2 H2:=by
 obtain ⟨a,xs,e,hs,hl,v0,r,e1,v1,r',e2,e3,q⟩:=h;exact ⟨a,xs,e,hs,hl,v0,r,e1,v1,r',e2,e3,⟨v0,v1,rfl⟩,q⟩
def tComp2 (K:FZ9)(cap:List Nat)(wi:TI)(tc:TT)(te:TE):TE:=fun σ H Q=>wi σ H fun J H1=>∀ p,H1 p=none ->
 ∃ W:Nat->Nat->List V->Hp->Prop,(∃ m,W 0 m [] (upd H1 p (.lst [])))/\∀ i m xs H2,W i m xs H2 ->
  (J.stop i H2/\Q (.ref p) H2)\/(J.go i H2/\∃ N:List V->Hp->Prop,(∀ xs' H',N xs' H'->∃ m',m'<m/\W (i+1) m' xs' H') /\
   ∀ x H3,J.yld i H2 x H3->gTwo K x (Co cap σ) H3 fun σ2 H4=>tc σ2 H4 fun b H5=>if b=true then te σ2 H5 fun v H6=>H6 p=some (.lst xs)/\xs.length<sizeLine/\N (xs++[v]) (upd H6 p (.lst (xs++[v]))) else N xs H5)
section
variable {X:Cx}{pins:List (Addr × Obj)}{σ:St}
theorem Ld {scope:Scope}{x x':Str}{cn:List Str}{cap:List Nat}{s3:Shared}{H3:Hp}{fp:List Addr}{h₁:Heap}{tk:Nat}{H2:Hp}(S:CompScope X scope)(I:Inv X pins σ H3 s3)(hc:X.calm=true)(hcap:Caps X scope cn cap)
  (f2:∀ b∈fp,GK X pins H2 b) (lt:∀ b∈fp,b<s3.heap.objs.size) (keep:∀ b o,s3.heap.get? b=some o->h₁.get? b=some o) (hns:h₁.Ns s3.heap.objs.size fun _=>none) :
  Inv (BO X (x::x'::cn) scope s3.heap.objs.size s3 H3 fp) [] (Co cap σ) H3 { s3 with heap:=h₁,toks:=tk }:=by
 have noS:∀ b o,X.base.get? b=some o->b<X.s₀.heap.objs.size:=fun b o e=>qwB (qeB e) I.ok.bsz
 refine ⟨⟨I.ok.mod,S.kind,I.ok.glob,I.ok.blt,qaB _,fun y z c h1 h2=>I.ok.inj y z c (CU h1) (CU h2),fun y hy=>?_,fun y c h=>?_,fun _=>I.ok.hd hc,I.ok.frames,.inl rfl,fun b hb=>⟨quB (lt b hb),fun y c h=>(f2 b hb).2.2.2.2.1 y c (CU h)⟩,
  I.bs,qbB I.ok.bsz I.sz,fun b o e hb=>?_,fun b hb z=>?_,I.stack,I.stkFree⟩,rfl,I.bare,Un.kept keep,⟨_,hns,fun i y v e1 e2 e3=>?_⟩,fun y c e=>?_,I.hok.fresh (qaB _),fun y c e=>I.freeC y c (CU e),fun p hp=>absurd (show p∈([]:List (Addr × Obj)) from hp) (by simp),I.hok.kept keep,?_⟩
 ·have m:=HF S.cell hy;obtain ⟨c,hc'⟩:=I.ok.has y (S.free _ m rfl);exact ⟨c,HD m hc'⟩
 ·cases h
 ·rcases (f2 b hb).2.2.2.1 with z|z
  ·exact I.ok.noex b o e z
  ·exact absurd (qwB (noS b o e) z) (qcB _)
 ·rcases qkA.mp (I.stkSub b z) with e|e
  ·exact (f2 b hb).2.1 e
  ·exact (f2 b hb).2.2.1 e
 ·cases i with
  | zero =>
   have e2:(some none:Option (Option V))=some (some v):=e2;cases e2
  | succ j =>
   cases j with
   | zero =>
   have e2:(some none:Option (Option V))=some (some v):=e2;cases e2
   | succ j =>
   have e1:cn[j]? = some y:=e1;obtain ⟨k,hk,hN,hkind,hfr⟩:=hcap.at e1;have e2:(cap.map fun i=>(σ[i]?).join)[j]? = some (some v):=e2;rw [qvA,hk] at e2;have e2:(σ[k]?).join=some v:=qdB e2
   have e2:σ[k]? = some (some v):=by
    cases q:σ[k]? with
    | none=>rw [q] at e2;cases e2
    | some o=>rw [q] at e2;cases o with
     | none=>cases e2
     | some v'=>have e2:some v'=some v:=e2;rw [e2]
   obtain ⟨m,hn,hl⟩:=I.loc;obtain ⟨u,r,l⟩:=hl k y v hN e2 (.inr hkind);refine ⟨u,r,?_⟩;rcases l with ⟨kl,_⟩ | ⟨_,c,hc',o,ho,hd⟩
   ·have kl:X.env.scope.names.lookup y=some .local := kl;rw [kl] at hkind;rcases hkind with z|z<;>cases z
   ·refine .inr ⟨?_,c,HD (PySem.mem_of_lookup hfr) hc',o,keep c o ho,hd⟩;rcases e3 with z|z
    ·
     exfalso;have z:(relabel scope X.env).names.lookup y=some .local := z;have hm:=PySem.mem_of_lookup z;unfold relabel at hm;obtain ⟨⟨n,k'⟩,hp,e⟩:=qmA.mp hm;dsimp only at e
     have hl2:(y,NameKind.local)∈scope.names:=by
      split at e
      ·cases e
      ·cases e;exact hp
     have:=S.names _ hl2 rfl;rw [hfr] at this;cases this
    ·exact z
 ·obtain ⟨v,o,ho,hd⟩:=I.cell y c (CU e);exact ⟨v,o,keep c o ho,hd⟩
 ·show (Co cap σ).length=(x::x'::cn).length;unfold Co;rw [qfA,qfA,qdA,hcap.len,qfA,qfA]
theorem Mf {scope:Scope}{x x':Str}{px px' pt pos:Pos}{k0:Nat}{elt iter:Expr}{ifs:List Expr}{cn:List Str}{cap:List Nat}{s2:Shared}{H2:Hp}{it:Addr}{fp:List Addr}{tn:Nat->Heap->Prop}{J:It}{tc:TT}{te:TE}{Q:VK}{RR:Value->Addr->Result->Shared->Prop}{E:Value->Shared->Prop}
  (S:CompScope X scope) (I2:Inv X pins σ H2 s2) (hc:X.calm=true) (hcap:Caps X scope cn cap) (hx:scope.names.lookup x=some .local) (hx':scope.names.lookup x'=some .local) (hnd:(x::x'::cn).Nodup)
  (T:Turn X.prog X.w X.K (.Tuple [.Name x px,.Name x' px'] k0 pt) J fp it tn) (st2:tn 0 s2.heap) (f2:∀ b∈fp,GK X pins H2 b)
  (body:∀ (C:Addr) (s:Shared) (H:Hp) (fp:List Addr),PTs (BO X (x::x'::cn) scope C s H fp) ifs tc/\PE (BO X (x::x'::cn) scope C s H fp) elt te)
  (q:∀ p,H2 p=none->∃ W:Nat->Nat->List V->Hp->Prop,(∃ m,W 0 m [] (upd H2 p (.lst [])))/\∀ i m xs H3,W i m xs H3 ->
   (J.stop i H3/\Q (.ref p) H3)\/(J.go i H3/\∃ N:List V->Hp->Prop,(∀ xs' H',N xs' H'->∃ m',m'<m/\W (i+1) m' xs' H') /\
    ∀ v H4,J.yld i H3 v H4->gTwo X.K v (Co cap σ) H4 fun σ2 H4=>tc σ2 H4 fun b H5=>if b=true then te σ2 H5 fun v H6=>H6 p=some (.lst xs)/\xs.length<sizeLine/\N (xs++[v]) (upd H6 p (.lst (xs++[v]))) else N xs H5))
  (hRR:∀ (p C:Addr) (s3 s':Shared) (H3 Hf:Hp) (σ':St),Inv X pins σ H3 s3->s3.heap.objs.size=C->Inv (BO X (x::x'::cn) scope C s3 H3 fp) [] σ' Hf s'->Q (.ref p) Hf->RR (.ref p) C (.ok .next) s') :
  wpAny (model X.prog X.w) X.A (newList []) (fun acc s₃=>wpAny (model X.prog X.w) X.A (newFunctionEnv scope X.env.globals (Hk scope X.env) [] X.env.qual none .none (some X.env)) (fun cenv s₄ =>
   codeAny (model X.prog X.w) X.A (.compStart (.ListComp elt [⟨.Tuple [.Name x px,.Name x' px'] k0 pt,iter,ifs,0⟩] scope pos) 0 (.ref it) acc { cenv with scope:=relabel scope X.env }) (RR acc cenv.locals) s₄) E s₃) E s2:=by
 refine wpAny_newObj_type (wpAny_newFunctionEnv S.cell (by intro y hy;simp at hy) (fun h₁ hns₁ hsb₁=>?_) S.kind);dsimp only at hns₁ hsb₁ ⊢;have hfr:H2 s2.heap.objs.size=none:=I2.hok.fresh (qaB _);obtain ⟨W,⟨m0,w0⟩,turn⟩:=q _ hfr
 have I3:Inv X pins σ (upd H2 s2.heap.objs.size (.lst [])) { s2 with heap:=s2.heap.push { cls:=.type "list",data:=.seq ([]:List Value).toArray } } :=
  I2.lnew (its:=[]) (t':=s2.toks) .nil (qyB _)
 generalize hs3:({ s2 with heap:=s2.heap.push { cls:=.type "list",data:=.seq ([]:List Value).toArray } }:Shared)=s3 at I3;have hs3h:s3.heap=s2.heap.push { cls:=.type "list",data:=.seq ([]:List Value).toArray }:=by rw [<- hs3]
 have hst3:tn 0 s3.heap:=T.keep _ _ _ st2 fun b hb o e=>by rw [hs3h];exact qfB _ e
 have ltf:∀ b∈fp,b<s3.heap.objs.size:=fun b hb=>by
  obtain ⟨o,e,_⟩:=T.obj _ _ hst3 b hb;exact qeB e
 have hC:(s2.heap.push { cls:=.type "list",dict:=none,data:=.seq ([]:List Value).toArray }).objs.size=s3.heap.objs.size:=by rw [hs3h]
 rw [hC] at hns₁ hsb₁ ⊢
 have keep:∀ b o,s3.heap.get? b=some o->h₁.get? b=some o:=fun b o e=>by
  refine hsb₁.extBut b o (quB (qeB e)) (qfB _ ?_);rw [hs3h] at e;exact e
 have J4:Inv (BO X (x::x'::cn) scope s3.heap.objs.size s3 (upd H2 s2.heap.objs.size (.lst [])) fp) [] (Co cap σ) (upd H2 s2.heap.objs.size (.lst [])) { s3 with heap:=h₁,toks:=s2.toks+([]:List (Str × Value)).length } :=
  Ld S I3 hc hcap f2 ltf keep hns₁
 have st4:tn 0 h₁:=T.keep _ _ _ hst3 fun b hb o e=>keep b o e
 have fr4:∀ b∈fp,(upd H2 s2.heap.objs.size (.lst [])) b=none:=fun b hb=>by
  obtain ⟨o,e,_⟩:=T.obj _ _ st2 b hb;rw [Aj (quB (qeB e))];exact (f2 b hb).1
 have hst:({ s2 with heap:=h₁,toks:=s2.toks+([]:List (Str × Value)).length }:Shared) = { s3 with heap:=h₁,toks:=s2.toks+([]:List (Str × Value)).length }:=by rw [<- hs3]
 have loop:codeAny (model X.prog X.w) X.A (.compLoop (.ListComp elt [⟨.Tuple [.Name x px,.Name x' px'] k0 pt,iter,ifs,0⟩] scope pos) 0 (.ref it) (.ref s2.heap.objs.size) (compEnvC scope (Hk scope X.env) s3.heap.objs.size X.env))
   (RR (.ref s2.heap.objs.size) s3.heap.objs.size) { s2 with heap:=h₁,toks:=s2.toks+([]:List (Str × Value)).length }:=by
  rw [hst];generalize hX':BO X (x::x'::cn) scope s3.heap.objs.size s3 (upd H2 s2.heap.objs.size (.lst [])) fp=X' at J4
  have hfpk:∀ {Hc:Hp},(∀ b∈fp,Hc b=none)->∀ b∈fp,GK X' [] Hc b:=fun {Hc} hn b hb=>by
   subst hX';refine ⟨hn b hb,(J4.ok.exf b hb).1,J4.ok.exfs b hb,.inl hb,(J4.ok.exf b hb).2,fun p hp=>absurd (show p∈([]:List (Addr × Obj)) from hp) (by simp)⟩
  refine HH (fun n s'=>∃ i xs Hc,Inv X' [] (Co cap σ) Hc s'/\tn i s'.heap/\(∀ b∈fp,Hc b=none)/\W i n xs Hc) ?_ m0 ⟨0,[],_,J4,st4,fr4,w0⟩;rintro n s5 ⟨i,xs,Hc,I5,st5,fr5,w5⟩;have B:=body s3.heap.objs.size s3 (upd H2 s2.heap.objs.size (.lst [])) fp;rcases turn i n xs Hc w5 with ⟨stop,qn⟩ | ⟨go,N,hN,step⟩
  ·subst hX';refine thn (T.done (BO X (x::x'::cn) scope s3.heap.objs.size s3 (upd H2 s2.heap.objs.size (.lst [])) fp) rfl rfl rfl rfl i [] s5 (Co cap σ) Hc (fun _ _=>False) I5 (hfpk fr5) st5 stop) fun r s6 ⟨hr,I6⟩=>?_;subst hr;exact hRR _ _ s3 s6 _ Hc _ I3 rfl I6 qn
  ·subst hX';refine thn (T.item (BO X (x::x'::cn) scope s3.heap.objs.size s3 (upd H2 s2.heap.objs.size (.lst [])) fp) rfl rfl rfl rfl i [] s5 (Co cap σ) Hc (fun _ _=>False) I5 (hfpk fr5) st5 go) fun r s6 ⟨u,hr,h6⟩=>?_;subst hr;refine thn h6 fun _ s7 ⟨v,H7,I7,r7,y7,st7,fr7⟩=>?_;have I7':=I7.pinned (hfpk fr7) (T.obj _ _ st7);have hlook:(relabel scope X.env).names.lookup x=some .local := lookup_relabel_local hx;have hlook':(relabel scope X.env).names.lookup x'=some .local := lookup_relabel_local hx'
   have hg:PG (BO X (x::x'::cn) scope s3.heap.objs.size s3 (upd H2 s2.heap.objs.size (.lst [])) fp) (.Tuple [.Name x px,.Name x' px'] k0 pt) (gTwo X.K) :=
    pg_tup rfl (Lu (Kx (i:=0) hnd rfl (.inl hlook) (.inr hlook)) (Lu (Kx (i:=1) hnd rfl (.inl hlook') (.inr hlook')) pgs_nil))
   refine thn (hg _ s7 _ H7 v u _ I7' r7 (gTwo_at (step v H7 y7))) fun _ s8 ⟨σ8,H8,I8,⟨v0,v1,e8⟩,q8⟩=>?_;subst e8
   have again:∀ {s9:Shared}{H9:Hp}{ys:List V},Inv (BO X (x::x'::cn) scope s3.heap.objs.size s3 (upd H2 s2.heap.objs.size (.lst [])) fp) ([]++Hq fp s7.heap) (((Co cap σ).set 0 (some v0)).set 1 (some v1)) H9 s9->N ys H9 ->
     ∃ m,m<n/\∃ i xs Hc,Inv (BO X (x::x'::cn) scope s3.heap.objs.size s3 (upd H2 s2.heap.objs.size (.lst [])) fp) [] (Co cap σ) Hc s9/\tn i s9.heap/\(∀ b∈fp,Hc b=none)/\W i m xs Hc:=fun {s9 H9 ys} I9 n9=>by
    obtain ⟨m',hm,w9⟩:=hN ys H9 n9;refine ⟨m',hm,i+1,ys,H9,(I9.unpinned (pins:=[])).weak (by simp [Co]) (fun j w e=>?_),T.keep _ _ _ st7 fun b hb o e=>(I9.pin (b,o) (qxB _ (qxB _ (DK hb e)))).1,fun b hb=>?_,w9⟩
    ·cases j with
     | zero =>
      have e:(some none:Option (Option V))=some (some w):=e;cases e
     | succ j =>
      cases j with
      | zero =>
       have e:(some none:Option (Option V))=some (some w):=e;cases e
      | succ j=>exact e
    ·obtain ⟨o,e,_⟩:=T.obj _ _ st7 b hb;exact (I9.pin (b,o) (qxB _ (qxB _ (DK hb e)))).2.1
   refine thn (B.1 _ s8 _ H8 _ I8 q8) fun ok s9 ⟨H9,I9,q9⟩=>?_
   cases ok with
   | false =>
    rw [if_neg qnB] at q9 ⊢;exact again I9 q9
   | true =>
    rw [if_pos rfl] at q9 ⊢;refine thn (B.2 _ s9 _ H9 _ I9 q9) fun uy s10 ⟨y,H10,I10,r10,hp,hl,n10⟩=>?_;refine thn (Ho _ s10 _ H10 (.ref s2.heap.objs.size) [y] (.ref s2.heap.objs.size) [uy] (fun _ H11=>N (xs++[y]) H11) I10 rfl (.cons r10 .nil) ⟨_,xs,y,rfl,rfl,hp,hl,n10⟩) fun _ s11 ⟨_,H11,I11,_,n11⟩=>?_;exact again I11 n11
 exact codeAny_compStart_list loop (T.self _ _ _ _ _ st4 loop)
theorem pe_comp2 {scope:Scope}{x x':Str}{px px' pt pos:Pos}{k0:Nat}{elt iter:Expr}{ifs:List Expr}{cn:List Str}{cap:List Nat}{wi:TI}{tc:TT}{te:TE}
  (hc:X.calm=true) (S:CompScope X scope) (hx:scope.names.lookup x=some .local) (hx':scope.names.lookup x'=some .local) (hnd:(x::x'::cn).Nodup) (hcap:Caps X scope cn cap) (hi:PI X (.Tuple [.Name x px,.Name x' px'] k0 pt) iter wi)
  (body:∀ (C:Addr) (s:Shared) (H:Hp) (fp:List Addr),PTs (BO X (x::x'::cn) scope C s H fp) ifs tc/\PE (BO X (x::x'::cn) scope C s H fp) elt te)
  (hs:∀ x,foldedSetIterable iter X.env x=pure x:=by intro _;rfl):PE X (.ListComp elt [⟨.Tuple [.Name x px,.Name x' px'] k0 pt,iter,ifs,0⟩] scope pos) (tComp2 X.K cap wi tc te):=by
 intro pins s σ H Q I h;rw [eval_ListComp];refine wpAny_comprehension_free (use:=none) rfl hs (S.clos I) S.kind S.names (thn (hi pins s σ H _ I h) fun xv s1 h1=>thn h1 fun itv s2 h2=>?_);obtain ⟨it,fp,tn,J,H2,e,I2,T,st2,f2,q⟩:=h2;subst e;refine Mf (RR:=fun acc C=>compPost (model X.prog X.w) X.A X.xe none (EP X pins σ Q) acc C) S I2 hc hcap hx hx' hnd T st2 f2 body q ?_;intro p C s3 s' H3 Hf σ' I3 hC J' qf;subst hC;have I4:=Je I3 J' f2;obtain ⟨m,hn,_⟩:=J'.loc;refine ⟨m,hn,fun h' hs'=>?_⟩;refine ⟨.ref p,Hf,?_,rfl,qf⟩;have f:=I3.fpOk (H':=Hf) (qaB _) J'.free;exact I4.turned (t':=s'.toks) (it:=s3.heap.objs.size) (fun b o hb e=>(hs'.2 b hb).trans e) f.1 f.2.1 f.2.2.2.1 f.2.2.2.2.1 f.2.2.2.2.2
end
inductive SI where
 | s (x:Str)
 | i (n:Int)
 deriving DecidableEq
def RelSI (v:V):SI->Prop
 | .s x=>v = .str x/\x.length<=sizeLine
 | .i n=>v = .int n
instance rpSI:Rp SI:=⟨fun _ _ v a=>RelSI v a,fun _ h=>h⟩
theorem ML {j:Nat}{A:Around}(hr:Room j A):A.units+1<cLine:=by
 have:=hr.un;omega
def asS:SI->Option Str
 | .s x=>some x
 | .i _=>none
def asI:SI->Option Int
 | .s _=>none
 | .i n=>some n
section
variable {K:FZ9}{σ:St}{G H:Hp}{ta tb te td ti:TE}{α:Type}[Rp α]{md:Option SI}{rest:TS}{D:Ends}{i:Nat}
theorem Hn (e:EV K te σ G md):EV K te σ G (md.bind fun d=>asS d):=by
 clear 7;obtain ⟨d,hd,hc⟩:=qaA.mp hc;refine e G1 s1 d hd H sH Q fun v G2 H2 x r=>?_
 cases d with
 | s y=>cases hc;exact k _ _ _ x r
 | i n=>cases hc
theorem Hb (e:EV K te σ G md):EV K te σ G (md.bind fun d=>asI d):=by
 clear 7;obtain ⟨d,hd,hc⟩:=qaA.mp hc;refine e G1 s1 d hd H sH Q fun v G2 H2 x r=>?_
 cases d with
 | s y=>cases hc
 | i n=>cases hc;exact k _ _ _ x r
end
structure Mp (α:Type) where
 l:List (Int × α)
def EL {α:Type}(l:List α)(lo hi:Option Int)(st:Int):List α :=
 (sliceRange (sliceBounds lo hi (some st) l.length).1 (sliceBounds lo hi (some st) l.length).2.1 (sliceBounds lo hi (some st) l.length).2.2).filterMap fun i=>l[i]?
theorem Paired.fm {α β:Type}{R:α->β->Prop}{f:Nat->Option α}{g:Nat->Option β}(h:∀ i,(f i=none/\g i=none)\/∃ a b,f i=some a/\g i=some b/\R a b):∀ is:List Nat,Paired R (is.filterMap f) (is.filterMap g)
 | []=>.nil
 | i::is=>by
  rcases h i with ⟨h1,h2⟩ | ⟨a,b,h1,h2,r⟩
  ·rw [List.filterMap_cons_none h1,List.filterMap_cons_none h2];exact Paired.fm h is
  ·rw [List.filterMap_cons_some h1,List.filterMap_cons_some h2];exact .cons r (Paired.fm h is)
theorem Paired.opt {α β:Type}{R:α->β->Prop}:∀ {vs:List α}{as:List β}(_:Paired R vs as) (i:Nat),(vs[i]? = none/\as[i]? = none)\/∃ a b,vs[i]? = some a/\as[i]? = some b/\R a b
 | _,_,.nil,i=>.inl ⟨by simp,by simp⟩
 | _,_,.cons r t,0=>.inr ⟨_,_,rfl,rfl,r⟩
 | _,_,.cons r t,i+1=>by
  rw [List.getElem?_cons_succ,List.getElem?_cons_succ];exact Paired.opt t i
theorem Paired.pick {α β:Type}{R:α->β->Prop}{vs:List α}{as:List β}(p:Paired R vs as)(lo hi:Option Int)(st:Int):Paired R (EL vs lo hi st) (EL as lo hi st):=by
 unfold EL;rw [Paired.length p];exact Paired.fm (Paired.opt p) _
theorem HI {α:Type}(l:List α)(lo hi:Option Int)(st:Int):(EL l lo hi st).length<=l.length:=by
 have h:=slicePick_size_le (l.map fun _=>Value.none).toArray lo hi (some st)
 have p:Paired (fun _ _=>True) l (l.map fun _=>Value.none):=by
  induction l with
  | nil=>exact .nil
  | cons a l ih=>exact .cons trivial (ih (slicePick_size_le _ _ _ _))
 have e:=Paired.length (Paired.pick p lo hi st)
 have e2:(slicePick (l.map fun _=>Value.none).toArray lo hi (some st)).size=(EL (l.map fun _=>Value.none) lo hi st).length:=by
  unfold slicePick EL;rw [qoB,qoB]
  congr 1
  congr 1
  funext i
  simp
 rw [e2,qoB,qdA] at h;omega
def SlR3 (X:Cx)(r:V->Option Int->Option Int->Option Int->Hp->VK->Prop):Prop :=
 ∀ (pins:List (Addr × Obj)) (s:Shared) (σ:St) (H:Hp) (x:V) (v vl vu vs:Value) (lo hi st:Option Int) (sl:Addr) (Q:VK),Inv X pins σ H s->RelV x v->s.heap.IsSliceOf sl vl vu vs->IsPart vl lo->IsPart vu hi->IsPart vs st->r x lo hi st H Q ->
  ∃ T id,typeLookup (.type T) "__getitem__" = pure (some (.builtin id))/\s.TypeIs v T/\wpAny (model X.prog X.w) X.A (getItem v (.ref sl)) (EP X pins σ Q) X.xe s
abbrev tSl3 (r:V->Option Int->Option Int->Option Int->Hp->VK->Prop)(te:TE)(tl th ts:TO):TE:=fun σ H Q=>te σ H fun x H1=>tl σ H1 fun l H2=>th σ H2 fun u H3=>ts σ H3 fun c H4=>r x l u c H4 Q
def rSl3 (K:FZ9):V->Option Int->Option Int->Option Int->Hp->VK->Prop:=fun x lo hi st H Q=>∃ a xs c,x = .ref a/\SqL K H a xs/\st=some c/\c≠0/\∀ p,H p=none->Q (.ref p) (upd H p (.lst (EL xs lo hi c)))
section
variable {X:Cx}{e:Expr}{te:TE}{lo hi:Option Expr}{se:Expr}{tl th ts:TO}{pos p2:Pos}
theorem O9 {r:V->Option Int->Option Int->Option Int->Hp->VK->Prop}(hr:SlR3 X r)(he:PE X e te)(hl:PO X lo tl)(hu:PO X hi th)(hs:PO X (some se) ts):PE X (.Subscript e (.Slice lo hi (some se) p2) pos) (tSl3 r te tl th ts):=by
 intro pins s σ H Q I h;refine Subscript_ (thn (he pins s σ H _ I h) fun v s1 ⟨x,H1,I1,r1,q1⟩=>?_);refine wpAny_Slice (thn (hl pins s1 σ H1 _ I1 q1) fun vl s2 ⟨l,H2,I2,pl,q2⟩=>thn (hu pins s2 σ H2 _ I2 q2) fun vu s3 ⟨u,H3,I3,pu,q3⟩=>thn (hs pins s3 σ H3 _ I3 q3) fun vs s4 ⟨c,H4,I4,pc,q4⟩=>?_);have I5:Inv X pins σ H4 { s4 with heap:=s4.heap.push { cls:=.type "slice",data:=.fields #[vl,vu,vs] } }:=I4.kept (t':=s4.toks) fun b ob q=>qfB _ q;obtain ⟨T,id,hT,ht,hg⟩:=hr pins { s4 with heap:=s4.heap.push { cls:=.type "slice",data:=.fields #[vl,vu,vs] } } σ H4 x v vl vu vs l u c s4.heap.objs.size Q I5 r1 (Heap.IsSliceOf.new ..) pl pu pc q4;show wpAny (model X.prog X.w) X.A (subscriptTail e (.Slice lo hi (some se) p2) v (.ref s4.heap.objs.size)) (EP X pins σ Q) X.xe { s4 with heap:=s4.heap.push { cls:=.type "slice",data:=.fields #[vl,vu,vs] } };exact tail_any (ops:=[v,.ref s4.heap.objs.size]) ht hT hg (by with_unfolding_all rfl)
theorem sl3_list {K:FZ9}(h:X.K=K):SlR3 X (rSl3 K):=by
 subst h;intro pins s σ H x v vl vu vs lo hi st sl Q I rx hs pl pu ps h;obtain ⟨a,xs,c,rfl,hx,rfl,hc,q⟩:=h;cases rx;obtain ⟨its,r,ht,hz⟩:=I.list hx;have hlen:=r.length;refine ⟨"list",_,slot_list_getitem.lookup,ht.isList.typeIs,?_⟩;refine wpAny_getItem_list_slice ht.isList hs pl pu ps (fun z=>hc (qdB z)) ?_ (by rw [qoB]<;>omega)
 have e:slicePick its.toArray lo hi (some c)=(EL its lo hi c).toArray:=by
  unfold slicePick EL;rw [qoB]
  congr 1
  congr 1
  funext i
  simp
 rw [e];refine ⟨.ref s.heap.objs.size,_,I.laid (t':=s.toks) (o:=.lst (EL xs lo hi c)) (fun b ob q=>qfB _ q) (qaB _) ?_,rfl,q _ (I.hok.fresh (qaB _))⟩;exact ⟨qbB (HI xs lo hi c) hz,_,0,Paired.pick r lo hi c,qgB _ rfl⟩
end
section
variable {K:FZ9}{σ:St}{G H:Hp}{ta t3:TE}{t1 t2:TO}{α:Type}[Rp α]{m1 m2:Option (Option Int)}{c:Int}
theorem OY {la:Option (List α)}(ea:EV K ta σ G la)(e1:OV t1 σ G m1)(e2:OV t2 σ G m2)(e3:EV K t3 σ G (some c))(hc:c≠0:=by decide):FV K (tSl3 (rSl3 K) ta t1 t2 (tPart t3)) σ G (la.bind fun a=>m1.bind fun lo=>m2.bind fun hi=>some (EL a lo hi c)):=by
 intro G1 s1 z hz H sH Q k;obtain ⟨a,ha,hz⟩:=qaA.mp hz;obtain ⟨lo,hlo,hz⟩:=qaA.mp hz;obtain ⟨hi,hhi,hz⟩:=qaA.mp hz;cases hz;clear 8 ea a ha;refine e1 G2 (s1.trans x2.gg) lo hlo H2 x2.gh _ fun G3 H3 x3=>?_;refine e2 G3 (s1.trans (x2.trans x3).gg) hi hhi H3 x3.gh _ fun G4 H4 x4=>?_;refine e3 G4 (s1.trans ((x2.trans x3).trans x4).gg) c rfl H4 x4.gh _ fun w G5 H5 x5 r5=>?_;cases r5;obtain ⟨l,xs,rfl,h,z,p⟩:=Rp.mono ((x3.trans x4).trans x5).gg r2;exact ⟨c,rfl,l,xs,c,rfl,.inl (x5.gh.rd h),rfl,hc,Iq x5.gh (qbB (HI _ _ _ _) z) (Paired.pick p lo hi c) (FV.mono (((x2.trans x3).trans x4).trans x5) k)⟩
end
theorem Inv.turnedL {X:Cx}{pins:List (Addr × Obj)}{σ:List (Option V)}{H:Hp}{s:Shared}{h':Heap}{t':Nat}(fs:List Addr)(I:Inv X pins σ H s)(k:∀ b o,b ∉ fs->s.heap.get? b=some o->h'.get? b=some o)(ff:∀ b∈fs,GK X pins H b) :
  Inv X pins σ H { s with heap:=h',toks:=t' }:=by
 have nit:∀ b u,H b=some u->b ∉ fs:=fun b u q z=>by rw [(ff b z).1] at q;cases q
 refine I.step (g':=s.gens) (d':=s.drawn) (ch:=fs) (fun b hb=>?_) (fun b o _ _ hc q _=>k b o hc q) (fun b o _ _ hc q _=>⟨o.slots,k b o hc q⟩) (fun _ _ _ _ n=>n)
  (fun b o hc q=>⟨o,k b o hc q⟩) (fun _ _ q=>q) (fun _ _ _ q=>q) (fun b ps q=>⟨#[],by rw [q];simp⟩) (fun m hm=>?_) (fun b u q=>?_) I.bare
 ·have f:=ff b hb;exact ⟨f.2.2.2.1,f.2.1,f.2.2.2.2.1,f.2.2.2.2.2⟩
 ·obtain ⟨o,es,ep,ho,r⟩:=hm;exact ⟨o,es,ep,k _ o (fun z=>(ff _ z).2.1 rfl) ho,r⟩
 ·refine (I.hok b u q).stay (fun c v hc z=>?_) (fun _ z=>z) fun _ _ z=>z;rcases hc with y|y
  ·rw [y] at z ⊢;exact k b v (nit b u q) z
  ·exact k c v (nit c _ y) z
def Itz (K:FZ9)(a b:Addr):It :=
 ⟨fun i H=>∃ xs ys x y,SqL K H a xs/\SqL K H b ys/\xs[i]? = some x/\ys[i]? = some y,
  fun i H z H'=>∃ t v w,z = .ref t/\H t=none/\H'=upd H t (.tup [v,w])/\(∀ xs,SqL K H a xs->xs[i]? = some v)/\∀ ys,SqL K H b ys->ys[i]? = some w,
  fun i H=>∃ xs ys,SqL K H a xs/\SqL K H b ys/\(xs.length<=i\/ys.length<=i)⟩
theorem turn_zip {P:Program}{w:World}{K:FZ9}{elts:List Expr}{x1:_}{pos:Pos}{z TI TO i1 i2 l1 l2:Addr}(D:ZipApart z TI TO i1 i2 l1 l2) :
  Turn P w K (.Tuple elts x1 pos) (Itz K l1 l2) [z,TI,TO,i1,i2] z (fun i h=>IsZip h z TI TO .none/\IsPair h TI (.ref i1) (.ref i2)/\(∃ a b,IsPair h TO a b)/\h.IsListIter i1 l1 i/\h.IsListIter i2 l2 i) where
 mem:=by simp
 obj:=fun i h st b hb=>by
  obtain ⟨hz,hTI,⟨a,c,hTO⟩,⟨o1,q1,c1,d1⟩,⟨o2,q2,c2,d2⟩⟩:=st;simp only [qkA,qvB,or_false] at hb;rcases hb with e|e|e|e|e
  ·subst e
   exact ⟨_,hz,fun v z=>by
    have z':Data.fields _=Data.cell v:=z
    cases z'⟩
  ·subst e
   exact ⟨_,hTI,fun v z=>by
    have z':Data.seq _ _=Data.cell v:=z
    cases z'⟩
  ·subst e
   exact ⟨_,hTO,fun v z=>by
    have z':Data.seq _ _=Data.cell v:=z
    cases z'⟩
  ·subst e;exact ⟨o1,q1,fun v z=>by rw [d1] at z;cases z⟩
  ·subst e;exact ⟨o2,q2,fun v z=>by rw [d2] at z;cases z⟩
 keep:=fun i h h' st k=>by
  obtain ⟨hz,hTI,⟨a,c,hTO⟩,h1,h2⟩:=st;exact ⟨k z (by simp) _ hz,k TI (by simp) _ hTI,⟨a,c,k TO (by simp) _ hTO⟩,h1.at fun o q=>k i1 (by simp) o q,h2.at fun o q=>k i2 (by simp) o q⟩
 item:=by
  intro X hP hw hK hc i pins s σ H E I hf st hg;subst hP hw hK;obtain ⟨hz,hTI,⟨a,c,hTO⟩,h1,h2⟩:=st;obtain ⟨xs,ys,x,y,hq1,hq2,hx,hy⟩:=hg;obtain ⟨its1,rv1,p1,_⟩:=I.list hq1;obtain ⟨its2,rv2,p2,_⟩:=I.list hq2;obtain ⟨u1,hu1,ru1⟩:=rv1.get hx;obtain ⟨u2,hu2,ru2⟩:=rv2.get hy;have lz:z<s.heap.objs.size:=qeB hz;have lTI:TI<s.heap.objs.size:=qeB hTI;have lTO:TO<s.heap.objs.size:=qeB hTO;have l_1:i1<s.heap.objs.size:=by obtain ⟨o,q,_⟩:=h1;exact qeB q
  have l_2:i2<s.heap.objs.size:=by obtain ⟨o,q,_⟩:=h2;exact qeB q
  refine wpAny_pyNext_zip_item D hz hTI hTO h1 h2 p1.isList p2.isList (x:=u1) (y:=u2) (by simpa using hu1) (by simpa using hu2) fun h' a1 a2 a3 a4 a5 a6 hk=>?_;refine ⟨_,rfl,wpAny_letOwnedTupleGo_zip a1 fun h2' hz2 hs2=>?_⟩;replace hs2:Heap.SameBut z h' h2':=hs2;have ht2:h2'.get? s.heap.objs.size=some { cls:=.type "tuple",data:=.seq #[u1,u2] }:=(hs2.2 _ (Nat.ne_of_gt lz)).trans a5
  have I1:Inv X pins σ (upd H s.heap.objs.size (.tup [x,y])) { s with heap:=s.heap.push { cls:=.type "tuple",data:=.seq #[u1,u2] },toks:=s.toks } :=
   I.laid (fun b ob q=>qfB _ q) (qaB _) ⟨by show 2<=sizeLine;decide,[u1,u2],.cons ru1 (.cons ru2 .nil),IsTup.new _ _⟩
  have fre:∀ b,b∈[z,TI,TO,i1,i2]->b≠s.heap.objs.size:=fun b hb=>by
   simp only [qkA,qvB,or_false] at hb;rcases hb with e|e|e|e|e<;>(rw [e];exact quB (by assumption))
  have fn:∀ b∈[z,TI,TO,i1,i2],GK X pins (upd H s.heap.objs.size (.tup [x,y])) b:=fun b hb=>⟨by rw [Aj (fre b hb)];exact (hf b hb).1,(hf b hb).2⟩
  have I2:Inv X pins σ (upd H s.heap.objs.size (.tup [x,y])) { s with heap:=h2',toks:=s.toks }:=Inv.turnedL (s:={ s with heap:=s.heap.push { cls:=.type "tuple",data:=.seq #[u1,u2] },toks:=s.toks }) [z,TI,TO,i1,i2] (h':=h2') (t':=s.toks) I1 (fun b o hb q=>by
   replace q:(s.heap.push { cls:=.type "tuple",data:=.seq #[u1,u2] }).get? b=some o:=q;simp only [qkA,qvB,or_false,not_or] at hb;by_cases e:b=s.heap.objs.size
   ·rw [e] at q ⊢;rw [qgB _ rfl] at q;rw [ht2];exact q
   ·have q':s.heap.get? b=some o:=by rw [<- q];exact (Heap.get?_push_ne _ _ _ e).symm
    exact (hs2.2 _ hb.1).trans (hk b o hb.1 hb.2.2.1 hb.2.2.2.1 hb.2.2.2.2 q')) fn
  refine ⟨.ref s.heap.objs.size,_,I2,rfl,⟨_,x,y,rfl,I.hok.fresh (qaB _),rfl,fun zs hy'=>by rw [I.list_inj hy' hq1];exact hx,fun zs hy'=>by rw [I.list_inj hy' hq2];exact hy⟩,⟨hz2,?_,⟨u1,u2,?_⟩,?_,?_⟩,fun b hb=>(fn b hb).1⟩
  ·exact (hs2.2 _ D.TIz).trans (hk _ _ D.TIz D.TITO D.TIi1 D.TIi2 hTI)
  ·exact (hs2.2 _ D.TOz).trans a2
  ·exact a3.extBut hs2.extBut D.i1z
  ·exact a4.extBut hs2.extBut D.i2z
 done:=by
  intro X hP hw hK hc i pins s σ H E I hf st hg;subst hP hw hK;obtain ⟨hz,hTI,⟨a,c,hTO⟩,h1,h2⟩:=st;obtain ⟨xs,ys,hq1,hq2,hx⟩:=hg;obtain ⟨its1,rv1,p1,_⟩:=I.list hq1;obtain ⟨its2,rv2,p2,_⟩:=I.list hq2;have hl1:=rv1.length;have hl2:=rv2.length;refine wpAny_pyNext_zip_end (I.ok.hd hc) D hz hTI hTO h1 h2 p1.isList p2.isList (hx.imp (fun h=>by simp;omega) fun h=>by simp;omega) fun h' eb=>⟨rfl,Inv.turnedL [z,TI,TO,i1,i2] (t':=s.toks) I (fun b o hb q=>?_) hf⟩;simp only [qkA,qvB,or_false,not_or] at hb;exact eb b o hb.1 hb.2.2.1 hb.2.2.2.1 hb.2.2.2.2 q
 self:=fun _ _ _ _ _ st h=>wpAny_pyIter_zip st.1 h
def iZip (K:FZ9)(ta:TA):TI:=fun σ H R=>ta σ H fun vs H1=>∃ a b,vs=[.ref a,.ref b]/\(∃ xs,SqL K H1 a xs)/\(∃ ys,SqL K H1 b ys)/\R (Itz K a b) H1
theorem pi_zip {X:Cx}{K:FZ9}{elts:List Expr}{x1:_}{tp:Pos}{a b:Expr}{ta:TA}{p pos:Pos}(hK:X.K=K)(hg:Gl X "zip")(hm:X.mg "zip" = none)(ha:PA X [a,b] ta)(hs:starEach [a,b] X.env=[(false,eval a X.env),(false,eval b X.env)]:=by rfl)(hs2:starEach [b] X.env=[(false,eval b X.env)]:=by rfl) :
  PI X (.Tuple elts x1 tp) (.Call (.Name "zip" p) [a,b] [] pos) (iZip K ta):=by
 subst hK;intro pins s σ H R I h;refine Call_ (Hr I hg hm boot_zip (PyProof.Rows.callWith_type1 (thn (ha pos pins s σ H _ I h) fun us s1 ⟨vs,H1,I1,r1,q1⟩=>?_) (by rw [hs,hs2]) (by rw [hs2];rfl)));obtain ⟨l1,l2,e,⟨xs,hq1⟩,⟨ys,hq2⟩,q⟩:=q1;subst e;obtain ⟨u1,u2,rfl,r1,r2⟩:=vals2 r1;cases r1;cases r2;obtain ⟨its1,rv1,pl1,_⟩:=I1.list hq1;obtain ⟨its2,rv2,pl2,_⟩:=I1.list hq2;have lt1:l1<s1.heap.objs.size:=by obtain ⟨_,e,_⟩:=pl1.isList;exact qeB e
 have lt2:l2<s1.heap.objs.size:=by obtain ⟨_,e,_⟩:=pl2.isList;exact qeB e
 refine call_zip_2 pl1.isList pl2.isList fun h' hz hTI hTO hi1 hi2 _ hk=>?_;refine wpAny_pyIter_zip (s:={ s1 with heap:=h' }) hz ?_;have I2:Inv X pins σ H1 { s1 with heap:=h' }:=I1.kept (t':=s1.toks) hk;refine ⟨s1.heap.objs.size+4,[s1.heap.objs.size+4,s1.heap.objs.size+2,s1.heap.objs.size+3,s1.heap.objs.size,s1.heap.objs.size+1],_,_,H1,rfl,I2,turn_zip (zipApart_new lt1 lt2),⟨hz,hTI,⟨_,_,hTO⟩,hi1,hi2⟩,fun b hb=>?_,q⟩;simp only [qkA,qvB,or_false] at hb;rcases hb with e|e|e|e|e<;>(subst e;exact I1.fpOk (by omega) (I1.hok.fresh (by omega)))
structure YieldsZ (J:It)(H:Hp)(xs ys:List V):Prop where
 go:∀ i H',Same H H'->i<min xs.length ys.length->J.go i H'
 stop:∀ H',Same H H'->J.stop (min xs.length ys.length) H'
 yld:∀ (i:Nat) (H':Hp) (x:V) (H'':Hp),Same H H'->i<min xs.length ys.length->J.yld i H' x H''->∃ t v w,x = .ref t/\H' t=none/\H''=upd H' t (.tup [v,w])/\xs[i]? = some v/\ys[i]? = some w
section
variable {K:FZ9}{σ:St}{G:Hp}{α β γ:Type}[Rp α][Rp β][Rp γ]{ta tb:TE}
def IZ (K:FZ9){α β:Type}[Rp α][Rp β](wi:TI)(σ:St)(G:Hp)(m:Option (List (α × β))):Prop :=
 ∀ G1,Same G G1->∀ ps,m=some ps->∀ H,Same G1 H->∀ R:It->Hp->Prop,(∀ J vs ws as bs G2 H2,Ext G1 H G2 H2->YieldsZ J G2 vs ws->vs.length<=sizeLine->Paired (Rp.rel K G2) vs as->Paired (Rp.rel K G2) ws bs->ps=as.zip bs->R J H2)->wi σ H R
theorem iz_lists {la:Option (List α)}{lb:Option (List β)}(ea:EV K ta σ G la)(eb:EV K tb σ G lb):IZ K (iZip K (AX ta (AX tb Bb))) σ G (la.bind fun a=>lb.bind fun b=>some (a.zip b)):=by
 intro G1 s1 ps hps H sH R k;obtain ⟨a,ha,hps⟩:=qaA.mp hps;obtain ⟨b,hb,hps⟩:=qaA.mp hps;cases hps;clear 8 ea a ha;refine eb G2 (s1.trans x2.gg) b hb H2 x2.gh _ fun w G3 H3 x3 r3=>?_;obtain ⟨l,xs,rfl,h,z,p⟩:=Rp.mono x3.gg r2;obtain ⟨l',ys,rfl,h',z',p'⟩:=r3;refine ⟨l,l',rfl,⟨xs,.inl (x3.gh.rd h)⟩,⟨ys,.inl (x3.gh.rd h')⟩,k _ xs ys a b G3 H3 (x2.trans x3) ⟨fun i H' s hi=>?_,fun H' s=>⟨xs,ys,.inl (s.rd h),.inl (s.rd h'),by omega⟩,fun i H' y H'' s hi hy=>?_⟩ z p p' rfl⟩
 ·exact ⟨xs,ys,xs[i]'(by omega),ys[i]'(by omega),.inl (s.rd h),.inl (s.rd h'),qsA (by omega),qsA (by omega)⟩
 ·obtain ⟨t,v,w,e1,e2,e3,e4,e5⟩:=hy;exact ⟨t,v,w,e1,e2,e3,e4 xs (.inl (s.rd h)),e5 ys (.inl (s.rd h'))⟩
theorem fv_mapZ {cap:List Nat}{wi:TI}{te:TE}{mi:Option (List (α × β))}{fe:α × β->Option γ}(ei:IZ K wi σ G mi)
  (hb:∀ (x y:V) (a:α × β) (G1:Hp),Same G G1->Rp.rel K G1 x a.1->Rp.rel K G1 y a.2->EV K te (((Co cap σ).set 0 (some x)).set 1 (some y)) G1 (fe a)) :
  FV K (tComp2 K cap wi Jh te) σ G (mi.bind fun ps=>FU fe ps):=by
 have hb':∀ (x y:V) (a:α × β) (G1:Hp),Same G G1->Rp.rel K G1 x a.1->Rp.rel K G1 y a.2->TV Jh (((Co cap σ).set 0 (some x)).set 1 (some y)) G1 (some true)/\EV K te (((Co cap σ).set 0 (some x)).set 1 (some y)) G1 (fe a):=fun x y a G1 s r r'=>⟨tv_yes,hb x y a G1 s r r'⟩;clear 7;obtain ⟨ps,hps,hc⟩:=qaA.mp hc;refine ei G1 s1 ps hps H sH _ fun J vs ws as bs Ga Ha xa Y hz pr1 pr2 eps p hp=>?_;have hl1:=Paired.length pr1;have hl2:=Paired.length pr2;have hle:ps.length=min vs.length ws.length:=by rw [eps,List.length_zip,hl1,hl2]
 refine ⟨fun i m ys H2=>m=ps.length - i/\i<=ps.length/\∃ G2 ds cs,Ext Ga Ha G2 H2/\G2 p=none/\H2 p=some (.lst ys)/\ys.length<=i/\Paired (Rp.rel K G2) ys ds/\FU fe (ps.drop i)=some cs/\c=ds++cs,
  ⟨ps.length,by simp,qyB _,Ga,[],c,.own xa.gh hp,xa.gh.free hp,AQ,qaB _,.nil,hc,rfl⟩,?_⟩
 rintro i m ys H2 ⟨rfl,hi,G2,ds,cs,x2,hg,hh,hy,hpr,hcs,rfl⟩;by_cases hlt:i<ps.length
 ·refine .inr ⟨Y.go i _ (x2.gg.trans x2.gh) (by omega),fun ys' H'=>∃ G2 ds' cs',Ext Ga Ha G2 H'/\G2 p=none/\H' p=some (.lst ys')/\ys'.length<=i+1/\Paired (Rp.rel K G2) ys' ds'/\FU fe (ps.drop (i+1))=some cs'/\ds++cs=ds'++cs',
   fun ys' H' ⟨G3,ds',cs',h⟩=>⟨ps.length - (i+1),by omega,rfl,hlt,G3,ds',cs',h⟩,fun x H3 y=>?_⟩
  obtain ⟨t,v,w,rfl,ht,rfl,hv,hw⟩:=Y.yld i _ x H3 (x2.gg.trans x2.gh) (by omega) y;obtain ⟨a,hai,ra⟩:=Paired.getR pr1 hv;obtain ⟨b,hbi,rb⟩:=Paired.getR pr2 hw;have hge:ps[i]? = some (a,b):=by rw [eps,List.getElem?_zip_eq_some];exact ⟨hai,hbi⟩
  have hd:ps.drop i=(a,b)::ps.drop (i+1):=by
   obtain ⟨h1,h2⟩:=qrA.mp hge;rw [List.drop_eq_getElem_cons h1,h2]
  rw [hd] at hcs;have xn:=Ext.new (o:=.tup [v,w]) x2.gh ht;have x2:=x2.trans xn;have ne:p≠t:=fun e=>by rw [e,ht] at hh;cases hh
  have hh:(upd H2 t (.tup [v,w])) p=some (.lst ys):=by rw [Aj ne];exact hh
  have hg:(upd G2 t (.tup [v,w])) p=none:=by rw [Aj ne];exact hg
  have hpr:=Paired.imp' (fun _ _ r=>Rp.mono xn.gg r) hpr;have B:=hb' v w (a,b) _ (s1.trans (xa.gg.trans x2.gg)) (Rp.mono x2.gg ra) (Rp.mono x2.gg rb);refine ⟨t,_,rfl,SqT.of AQ,rfl,_,_,rfl,_,_,rfl,rfl,?_⟩;refine B.1 _ (.refl _) true rfl _ x2.gh _ fun G5 H5 x5=>?_;have hp5:H5 p=some (.lst ys):=x5.hh _ _ hh;have hg5:G5 p=none:=x5.no p hg (by rw [hh];exact fun z=>nomatch z);rw [if_pos rfl];obtain ⟨z,hze,hcs⟩:=qaA.mp hcs;obtain ⟨cs',hcs',hcs⟩:=qaA.mp hcs;cases hcs;refine B.2 G5 x5.gg z hze H5 x5.gh _ fun v G6 H6 x6 r6=>?_;have hp6:H6 p=some (.lst ys):=x6.hh _ _ hp5;have hg6:G6 p=none:=x6.no p hg5 (by rw [hp5];exact fun z=>nomatch z);refine ⟨hp6,by omega,G6,ds++[z],cs',((x2.trans x5).trans x6).put hp hg6,hg6,AQ,?_,Paired.app (Paired.imp' (fun _ _ r=>Rp.mono (x5.trans x6).gg r) hpr) (.cons r6 .nil),hcs',by simp⟩;rw [qeA,qgA];omega
 ·have e:i=ps.length:=by omega
  subst e;have hd:ps.drop ps.length=[]:=List.drop_eq_nil_of_le (qaB _);rw [hd] at hcs;cases hcs;refine .inl ⟨by rw [hle];exact Y.stop _ (x2.gg.trans x2.gh),?_⟩;rw [qzA] at k;exact k p ys G2 H2 (xa.trans x2) (xa.hh.free hp) hg hh (by omega) hpr
end
section
variable {K:FZ9}{σ:St}{G H:Hp}{ta tb te:TE}{rest:TS}{D:Ends}{i:Nat}{v:V}{p:Addr}{vs:List V}
theorem LM {δ:Type}[Rp δ][Imm δ]{b:List δ}{m:Option (List δ)}{as as':List (List δ)}(hσ:σ[i]? = some (some v))(o:Own K G H v p vs as)(e:FV K te σ (upd G p (.lst vs)) m)(hm:m=some b)(hp:Ll as b=some as')(s:Same G H)
  (k:∀ G2 H2 w,Ext G H G2 H2->Own K G2 (upd H2 p (.lst (vs++[w]))) v p (vs++[w]) as'->rest D σ (upd H2 p (.lst (vs++[w])))):CG (K4 (tBM K "list" Gv (Ba i) (AX te Bb))) rest D σ H:=by
 obtain ⟨hl,rfl⟩:=BC hp;have hlen:=Paired.length o.p;have ov:=o.v;subst ov;refine ⟨_,hσ,.inl ⟨rfl,_,SqL.of o.h⟩,?_⟩;refine e _ (.refl _) b hm H (o.same s) _ fun l ys G2 H2 x h0 hg hh hz hpr=>?_;have gp:G2 p=some (.lst vs):=x.gg _ _ AQ
 have gl:L2.del G2 p l=none:=by
  unfold L2.del;split
  ·rfl
  ·exact hg
 have x3:Ext G H (upd (L2.del G2 p) l (.lst ys)) H2:=(x.del o.g).frz h0 gl hh;have o2:=o.ext x3;have r:Rp.rel K (upd (L2.del G2 p) l (.lst ys)) (.ref l) b:=⟨l,ys,rfl,.inl AQ,hz,Paired.imp' (fun _ _ r=>Rp.mono (Same.new gl) (Imm.del gp r)) hpr⟩;refine ⟨p,vs,.ref l,rfl,rfl,o2.h,by omega,?_⟩;refine k _ H2 (.ref l) x3 ⟨rfl,o2.g,AQ,?_,Paired.app o2.p (.cons r .nil)⟩;rw [qeA,qgA];omega
end
def rCatTp (K:FZ9):R2:=fun x y H Q=>∃ a b xs ys,x = .ref a/\y = .ref b/\SqT K H a xs/\SqT K H b ys/\xs.length+ys.length<=sizeLine/\(xs=[]->Q (.ref b) H)/\(ys=[]->Q (.ref a) H)/\∀ p,H p=none->Q (.ref p) (upd H p (.tup (xs++ys)))
theorem op_catTp {X:Cx}{K:FZ9}(h:X.K=K):OpR X (binaryOp .Add) (rCatTp K):=by
 subst h;intro pins s σ H x y v u Q I rx ry h;obtain ⟨t,b,xs,ys,rfl,rfl,h1,h2,hz,q0,q1,q2⟩:=h;cases rx;cases ry;obtain ⟨vs,rv,ht,_⟩:=I.tuple h1;obtain ⟨ws,rw',hb,_⟩:=I.tuple h2;have l1:=rv.length;have l2:=rw'.length;obtain ⟨⟨cls,dd,data,sl⟩,ho,hc,n,hd⟩:=id ht;obtain ⟨⟨cls2,dd2,data2,sl2⟩,ho2,hc2,n2,hd2⟩:=id hb;simp only at hc hd hc2 hd2;subst hc hd hc2 hd2;have e:vs.toArray++ws.toArray=(vs++ws).toArray:=by simp
 by_cases hv:vs=[]
 ·have hx:xs=[]:=List.length_eq_zero_iff.mp (by rw [l1,hv];rfl)
  exact concat_meets ⟨_,ho,rfl⟩ ⟨_,ho2,rfl⟩ noFill_tuple_add seq_tuple_add PySem.F.slot_tuple_add PySem.F.entry_tuple_add (PySem.F.args_tuple_add_2 _ _)
   (tuple_addW0 t b vs.toArray ws.toArray n n2 dd dd2 sl sl2 (by simp [hv])) ⟨ho,ho2,⟨.ref b,H,I.tok _,rfl,q0 hx⟩⟩
 ·by_cases hw:ws=[]
  ·have hy:ys=[]:=List.length_eq_zero_iff.mp (by rw [l2,hw];rfl)
   exact concat_meets ⟨_,ho,rfl⟩ ⟨_,ho2,rfl⟩ noFill_tuple_add seq_tuple_add PySem.F.slot_tuple_add PySem.F.entry_tuple_add (PySem.F.args_tuple_add_2 _ _)
    (tuple_addW1 t b vs.toArray ws.toArray n n2 dd dd2 sl sl2 (by simpa using hv) (by simp [hw])) ⟨ho,ho2,⟨.ref t,H,I.tok _,rfl,q1 hy⟩⟩
  ·refine concat_meets ⟨_,ho,rfl⟩ ⟨_,ho2,rfl⟩ noFill_tuple_add seq_tuple_add PySem.F.slot_tuple_add PySem.F.entry_tuple_add (PySem.F.args_tuple_add_2 _ _)
    (tuple_addW2 t b vs.toArray ws.toArray n n2 dd dd2 sl sl2 (by simpa using hv) (by simpa using hw) (by rw [qoB,qoB];omega)) ⟨ho,ho2,?_⟩
   rw [e];exact ⟨.ref s.heap.objs.size,_,I.laid (t':=s.toks) (o:=.tup (xs++ys)) (fun b ob q=>qfB _ q) (qaB _) ⟨by rw [qeA];exact hz,vs++ws,rv.append rw',IsTup.new _ _⟩,rfl,q2 _ (I.hok.fresh (qaB _))⟩
def M1 (K:FZ9):V->List V->Hp->VK->Prop:=fun x vs H Q=>∃ l b xs zs,x = .ref l/\vs=[.ref b]/\H l=some (.lst xs)/\SqT K H b zs/\xs.length+zs.length<=sizeLine/\Q .non (upd H l (.lst (xs++zs)))
theorem N3 {X:Cx}{K:FZ9}(hK:X.K=K):MtM X "list.extend" (M1 K):=by
 subst hK;intro pins s σ H x vs v us Q I rx rv h;obtain ⟨l,b,xs,zs,rfl,rfl,hH,hB,hz,q⟩:=h;cases rx;obtain ⟨u,rfl,ru⟩:=rv.one;cases ru;obtain ⟨z,its,n,r,hl,e⟩:=I.lstM hH;obtain ⟨its2,r2,⟨o2,g2,c2,n2,d2⟩,_⟩:=I.tuple hB;have h1:=r.length;have h2:=r2.length;have hsz:its.toArray.size+its2.toArray.size<=sizeLine:=by rw [qoB,qoB];omega
 refine wpAny_call_entry F.slot_list_extend ⟨_,e,rfl⟩ F.entry_list_extend ?_ (F.args_list_extend_2 _ _);unfold Builtin.«list.extend»;refine qbA (qcA ?_);dsimp only;unfold Builtin.List.listExtendWith;refine qbA (wpAny_typeOf (T := "tuple") ⟨o2,g2,c2⟩ ?_);have ht:(Value.type "tuple" == Value.type "tuple")=true:=by rfl
 rw [if_pos (by rw [ht];simp)];refine qbA (listItems_at g2 d2 (qbA (listItems_at e rfl ?_)));rw [if_neg (by rw [M8 hsz,Bool.and_false];exact qnB)];refine qbA (listUpdate_at e rfl ?_ (by omega) (by rw [Array.size_append];omega));refine qcA ⟨_,rfl,.non,_,I.lset (its':=its++its2) (t':=s.toks) hH e (by simp) (r.append r2) ?_,rfl,q⟩;rw [qeA];omega
structure MpS (α:Type) where
 l:List (Str × α)
def Ch:List (Str × Int)->Str->Option Int
 | [],_=>none
 | (y,i)::r,x=>cond (decide (y=x)) (some i) (Ch r x)
def EntC:List DictEntry->List (Str × Int)->Prop
 | [],[]=>True
 | e::es,q::l=>(∃ t u,e.key = .str q.1 t/\e.val = .int q.2 u)/\EntC es l
 | _,_=>False
structure CDict (w:World)(K:FZ9)(a:Addr)(l:List (Str × Int)):Prop where
 lo:(a == sysModules)=false
 ex:∃ es n,K.lookup a=some ⟨.type "dict",none,.dict es n,#[]⟩/\PySem.W.KeysLit w.params es.toList/\EntC es.toList l
theorem MC:∀ {es:List DictEntry}{l:List (Str × Int)}(x:Str),EntC es l ->
  match Ch l x with
  | some i=>∃ u,(es.find? fun e=>Value.isStrOf x e.key).map (·.val)=some (.int i u)
  | none=>(es.find? fun e=>Value.isStrOf x e.key).map (·.val)=none
 | [],[],x,_=>rfl
 | e::es,(y,i)::l,x,⟨⟨t,u,h1,h2⟩,r⟩=>by
  have ih:=MC x r
  have hk:Value.isStrOf x e.key=decide (y=x):=by
   rw [h1];show Value.isStrOf x (.str y t)=_;by_cases q:y=x
   ·subst q;simp [Value.isStrOf]
   ·rw [decide_eq_false q];simp [Value.isStrOf,q]
  unfold Ch;rw [List.find?_cons,hk];by_cases q:y=x
  ·rw [decide_eq_true q];exact ⟨u,by rw [<- h2];rfl⟩
  ·rw [decide_eq_false q];exact ih
section
variable {X:Cx}{i o:Expr}{ty:TE}{pos:Pos}{a:Addr}{w:World}{K:FZ9}{l:List (Str × Int)}
theorem CDict.map {prog:Program}{h:Heap}(C:CDict w K a l)(X:K.In h):∃ f,h.MapOf (strKind prog w) a f/\∀ x,match Ch l x with
  | some i=>∃ u,f x=some (.int i u)
  | none=>f x=none:=by
 obtain ⟨es,n,hl,hk,he⟩:=C.ex;refine ⟨_,PySem.W.mapOf_K X hl hk,fun x=>?_⟩;have:=MC x he;obtain ⟨es⟩:=es
 show match Ch l x with
  | some i=>∃ u,findBy Value.isStrOf _ x=some (.int i u)
  | none=>findBy Value.isStrOf _ x=none
 unfold findBy;rw [List.find?_toArray];exact this
def tInC (l:List (Str × Int))(ty:TE):TE:=fun σ H Q=>ty σ H fun y H1=>∃ z,y = .str z/\Q (.bl (Ch l z).isSome) H1
def tGetC (l:List (Str × Int))(ty:TE):TE:=fun σ H Q=>ty σ H fun y H1=>∃ z v,y = .str z/\Ch l z=some v/\Q (.int v) H1
theorem pc_inC (hw:X.w=w)(hK:X.K=K)(C:CDict w K a l)(hi:PE X i ty)(ho:PE X o (tC (.ref a))):PC X .In i o (tInC l ty):=by
 subst hw hK;intro pins s σ H Q I h;refine thn (hi pins s σ H _ I h) fun iv s1 ⟨y,H1,I1,ry,z,ey,q1⟩=>thn (ho pins s1 σ H1 (fun v H'=>v = .ref a/\H'=H1) I1 ⟨rfl,rfl⟩) fun u s2 ⟨x,H2,I2,rx,e1,e2⟩=>?_;subst ey e1 e2;obtain ⟨t,rfl⟩:=ry;obtain rfl:u=Value.ref a:=rx;obtain ⟨f,hf,hx⟩:=C.map (prog:=X.prog) (fun b o e=>I2.kIn b o e);refine wpAny_in_of (strKind_is X.prog X.w z t) C.lo hf ⟨.bl (f z).isSome,H2,I2.tok _,rfl,?_⟩;have hz:=hx z
 cases e:Ch l z with
 | some i =>
  rw [e] at hz q1;obtain ⟨u,hz⟩:=hz;rw [hz];exact q1
 | none =>
  rw [e] at hz q1;rw [show f z=none from hz];exact q1
theorem pe_inC (hw:X.w=w)(hK:X.K=K)(C:CDict w K a l)(hi:PE X i ty)(ho:PE X o (tC (.ref a)))(hm:behindInMarks .In o=false):PE X (.Compare i [.In] [o] pos) (tInC l ty):=pe_cmp (pc_inC hw hK C hi ho) hm
theorem pe_getC (hw:X.w=w)(hK:X.K=K)(C:CDict w K a l)(ho:PE X o (tC (.ref a)))(hi:PE X i ty)(hs:NoSl i):PE X (.Subscript o i pos) (tGetC l ty):=by
 subst hw hK;intro pins s σ H Q I h;refine Nb PySem.F.slot_dict_getitem.lookup hs (thn (ho pins s σ H (fun v H'=>v = .ref a/\H'=H) I ⟨rfl,rfl⟩) fun u s1 ⟨x,H1,I1,rx,e1,e2⟩=>?_);subst e1 e2;refine thn (hi pins s1 σ H1 _ I1 h) fun iv s2 ⟨y,H2,I2,ry,z,v,ey,g,q2⟩=>?_;subst ey;obtain ⟨t,rfl⟩:=ry;obtain rfl:u=Value.ref a:=rx;obtain ⟨f,hf,hx⟩:=C.map (prog:=X.prog) (fun b o e=>I2.kIn b o e);have hz:=hx z;rw [g] at hz;obtain ⟨u,hz⟩:=hz;exact ⟨hf.typeIs,wpAny_getItem_of (strKind_is X.prog X.w z t) hf hz ⟨.int v,H2,I2.tok _,⟨u,rfl⟩,q2⟩⟩
end
section
variable {K:FZ9}{σ:St}{G:Hp}{ty:TE}{l:List (Str × Int)}
theorem ev_inC {mx:Option Str}(e:EV K ty σ G mx):EV K (tInC l ty) σ G (mx.bind fun x=>some (Ch l x).isSome):=by
 clear 7;obtain ⟨x,hx,hc⟩:=qaA.mp hc;cases hc;clear 8 e x hx;exact ⟨x,r2.1,k _ G2 H2 x2 rfl⟩
theorem ev_getC {mx:Option Str}(e:EV K ty σ G mx):EV K (tGetC l ty) σ G (mx.bind fun x=>Ch l x):=by
 clear 7;obtain ⟨x,hx,hc⟩:=qaA.mp hc;clear 8 e x hx;exact ⟨x,c,r2.1,hc,k _ G2 H2 x2 rfl⟩
end
end L2
namespace HT
open PySem PySem.Spec PyProof.Rows
end HT
namespace L2
open PySem PySem.Spec PyProof.Rows
theorem se_bin {a b:Expr}{p:Pos}{o:Operator}{es:List Expr}{env:Env}:starEach (.BinOp a o b p::es) env=(false,eval (.BinOp a o b p) env)::starEach es env:=by
 rw [starEach];intro _ _ h;cases h
section
variable {X:Cx}{es:List Expr}{t:TA}{te:TE}{p:Pos}
theorem Jy {o:Operator}{a b:Expr}(h:PE X (.BinOp a o b p) te)(hr:PA X es t):PA X (.BinOp a o b p::es) (AX te t):=A4 h hr se_bin
end
def siK:SI->Key
 | .s x=>.inr x
 | .i n=>.inl n
theorem siK_inj:∀ {a b:SI},siK a=siK b->a=b
 | .s x,.s y,e=>by rw [Sum.inr.inj e]
 | .s _,.i _,e=>nomatch e
 | .i _,.s _,e=>nomatch e
 | .i m,.i n,e=>by rw [Sum.inl.inj e]
theorem M5:∀ {l m:List SI},l.map siK=m.map siK->l=m
 | [],[],_=>rfl
 | [],_::_,e=>nomatch e
 | _::_,[],e=>nomatch e
 | a::l,b::m,e=>by
  rw [qxA,qxA] at e;obtain ⟨h1,h2⟩:=qtB e;rw [siK_inj h1,M5 h2]
def Lg (r:Tp SI):List Key:=r.l.map siK
theorem rowK_inj {a b:Tp SI}(e:Lg a=Lg b):a=b:=by
 cases a;cases b;exact congrArg Tp.mk (M5 e)
def GV:Nat->List (Tp SI)->List (List Key × V)
 | _,[]=>[]
 | i,r::rs=>(Lg r,.int (i:Int))::GV (i+1) rs
def JA:Nat->List (Tp SI)->Tp SI->Option Int
 | _,[],_=>none
 | i,a::rs,r=>if a=r then some (i:Int) else JA (i+1) rs r
theorem Nk (r:Tp SI):∀ (rows:List (Tp SI)) (i:Nat),GJ (GV i rows) (Lg r)=(JA i rows r).map V.int
 | [],_=>rfl
 | a::rs,i=>by
  unfold GV JA;by_cases h:a=r
  ·rw [if_pos h,Da (by rw [h])]
   rfl
  ·rw [if_neg h,Dc (fun e=>h (rowK_inj e))];exact Nk r rs (i+1)
theorem MD:∀ (rows:List (Tp SI)) (i:Nat),(GV i rows).length=rows.length
 | [],_=>rfl
 | a::rs,i=>by
  unfold GV;rw [qfA,qfA,MD rs]
theorem JL (r:Tp SI):∀ (rows:List (Tp SI)) (i:Nat),GV i (rows++[r])=GV i rows++[(Lg r,.int ((i+rows.length:Nat):Int))]
 | [],_=>rfl
 | a::rs,i=>by
  rw [List.cons_append];unfold GV;rw [JL r rs (i+1),List.cons_append,qfA]
  congr 4
  congr 1
  omega
structure Rk where
 l:List SI
instance rpRk:Rp Rk:=⟨fun K H v r=>∃ t xs,v = .ref t/\H t=some (.tup xs)/\xs.length<=sizeLine/\Paired (Rp.rel K H) xs r.l,
 fun s ⟨t,xs,e,h,z,p⟩=>⟨t,xs,e,s _ _ h,z,Paired.imp' (fun _ _ r=>Rp.mono s r) p⟩⟩
def Rk.tp (r:Rk):Tp SI:=⟨r.l⟩
def Rk.of (r:Tp SI):Rk:=⟨r.l⟩
theorem Rk.rel {K:FZ9}{H:Hp}{v:V}{r:Rk}(h:Rp.rel K H v r):Rp.rel K H v r.tp :=
 let ⟨t,xs,e,h,z,p⟩:=h
 ⟨t,xs,e,SqT.of h,z,p⟩
theorem MZ {K:FZ9}{H:Hp}:∀ {xs:List V}{l:List SI},Paired (Rp.rel K H) xs l->xs=(l.map siK).map kV
 | _,_,.nil=>rfl
 | _,_,.cons (b:=.s x) h t=>by
  rw [qxA,qxA,<- MZ t];exact congrArg (·::_) h.1
 | _,_,.cons (b:=.i n) h t=>by
  rw [qxA,qxA,<- MZ t];exact congrArg (·::_) (show _=V.int n from h)
def DH (rows:List (Tp SI))(r:Rk):Option (List (Tp SI) × Int):=match JA 0 rows r.tp with
 | some n=>some (rows,n)
 | none=>if rows.length<sizeLine then some (rows++[r.tp],(rows.length:Int)) else none
structure OwnB (K:FZ9)(G H:Hp)(p q:Addr)(vs:List V)(rows:List (Tp SI)):Prop where
 l:Own K G H (.ref p) p vs rows
 ne:p≠q
 g:G q=none
 h:H q=some (.dT (GV 0 rows))
 t:Paired (Rp.rel K G) vs (rows.map Rk.of)
def spB (K:FZ9){α:Type}[Rp α](m:List (Tp SI)->α->Option (List (Tp SI) × Int)):Sp:=fun vs H Q _ =>
 ∃ G p q v xs rows a r,vs=[.ref p,.ref q,v]/\Same G H/\OwnB K G H p q xs rows/\Rp.rel K G v a/\m rows a=some r /\
  ∀ G2 H2 xs',Ext G (era H [p,q]) G2 H2->OwnB K G2 H2 p q xs' r.1->Q (.int r.2) H2
section
variable {K:FZ9}{σ:St}{G H G1 H1 G0 H0:Hp}{D:Ends}{p q l:Addr}{xs:List V}{rows:List (Tp SI)}
theorem Ko {α:Type}[Rp α]{m:List (Tp SI)->α->Option (List (Tp SI) × Int)}{vs:List V}{Q:VK}{E:XK}(h:spB K m vs H Q E):vs.length=3:=by
 obtain ⟨G,p,q,v,xs,rows,a,r,rfl,_⟩:=h
 rfl
theorem OwnB.ext (o:OwnB K G H p q xs rows)(x:Ext G H G1 H1):OwnB K G1 H1 p q xs rows :=
 ⟨o.l.ext x,o.ne,x.no q o.g (by rw [o.h];exact fun z=>nomatch z),x.hh _ _ o.h,Paired.imp' (fun _ _ r=>Rp.mono x.gg r) o.t⟩
theorem OwnB.put {ho:HO}(o:OwnB K G H p q xs rows)(h1:p≠l)(h2:q≠l):OwnB K G (upd H l ho) p q xs rows :=
 ⟨o.l.put h1,o.ne,o.g,by rw [Aj h2];exact o.h,o.t⟩
theorem Od {v:V}{row:Rk}{r:List (Tp SI) × Int}(s:Same G H)(o:OwnB K G H p q xs rows)(rv:Rp.rel K G v row)(hm:DH rows row=some r)
  (k:∀ G2 H2 xs',Ext G (era H [p,q]) G2 H2->OwnB K G2 H2 p q xs' r.1->D.rt (.int r.2) H2) :
  CG (ON (tB (Nh (Ba 2) (Ba 1)))
    (CG (sDPut (Ba 1) (Ba 2) (tCB (LO K) (AX (Ba 0) Bb))) (CG (K4 (tBM K "list" Gv (Ba 0) (AX (Ba 2) Bb))) BD)) BD)
   (CG (Jo (tDGet (Ba 1) (Ba 2))) BD) D [some (.ref p),some (.ref q),some v] H:=by
 obtain ⟨t,ys,rfl,ht,hz,pr⟩:=id rv;have e1:=MZ pr
 have ht':H t=some (.tup ((Lg row.tp).map kV)):=by
  rw [s _ _ ht,e1]
  rfl
 have hv:=Nk row.tp rows 0;have b0:=Ext.begin (C:=[p,q]) s;refine ⟨_,rfl,_,rfl,q,_,rfl,DGet.t o.h ht',_,rfl,?_⟩;unfold DH at hm
 cases hi:JA 0 rows row.tp with
 | some n =>
  rw [hi] at hm hv;cases hm;rw [hv];refine Bd ?_;exact ⟨_,rfl,_,rfl,q,.int n,rfl,.inr ⟨_,_,t,.inl o.h,rfl,ht',hv.symm⟩,k G H xs b0 o⟩
 | none =>
  rw [hi] at hm hv;obtain ⟨hl,e⟩:=BC hm;cases e;rw [hv];refine Bo ?_;have oh:=o.l.h;have hlen:=Paired.length o.l.p;have npq:p≠q:=o.ne;refine ⟨_,rfl,xs,.inl (SqL.of oh),?_⟩;refine ⟨_,rfl,_,rfl,q,_,rfl,DPut.t o.h ht' (by rw [MD];exact hl),?_⟩
  have enc:FS (GV 0 rows) (Lg row.tp) (.int (xs.length:Int))=GV 0 (rows++[row.tp]):=by
   rw [putK_new _ hv,JL,Nat.zero_add,hlen]
  rw [enc]
  have hp1:upd H q (.dT (GV 0 (rows++[row.tp]))) p=some (.lst xs):=by
   rw [Aj npq];exact oh
  refine ⟨_,rfl,.inl ⟨rfl,_,SqL.of hp1⟩,_,rfl,p,xs,.ref t,rfl,rfl,hp1,by omega,?_⟩
  have tp:t≠p:=fun z=>by
   rw [z,oh] at ht';cases ht'
  have tq:t≠q:=fun z=>by
   rw [z,o.h] at ht';cases ht'
  have hq2:upd (upd H q (.dT (GV 0 (rows++[row.tp])))) p (.lst (xs++[.ref t])) q=some (.dT (GV 0 (rows++[row.tp]))):=by
   rw [Aj (Ne.symm npq)];exact AQ
  have ht2:upd (upd H q (.dT (GV 0 (rows++[row.tp])))) p (.lst (xs++[.ref t])) t=some (.tup ((Lg row.tp).map kV)):=by
   rw [Aj tp,Aj tq];exact ht'
  refine ⟨_,rfl,_,rfl,q,.int (rows.length:Int),rfl,.inr ⟨_,_,t,.inl hq2,rfl,ht2,?_⟩,?_⟩
  ·rw [JL,K0 _ _ _ _ hv,if_pos rfl,Nat.zero_add]
  ·refine k G _ (xs++[.ref t]) ((b0.put (KZ (by simp)) o.g).put (KZ (by simp)) o.l.g) ⟨⟨rfl,o.l.g,AQ,?_,Paired.app o.l.p (.cons (Rk.rel rv) .nil)⟩,npq,o.g,hq2,by rw [List.map_append];exact Paired.app o.t (.cons rv .nil)⟩;rw [qeA,qgA];omega
def sisO:List Nt->Option (List SI)
 | []=>some []
 | .txt x::r=>(sisO r).bind fun l=>some (.s x::l)
 | .tup _::_=>none
 | .int _::_=>none
theorem NP:∀ {xs:List V}{l:List Nt}{ks:List SI},RelNs K G xs l->sisO l=some ks->Paired (Rp.rel K G) xs ks
 | _,_,_,.nil,e=>by
  cases e;exact .nil
 | _,_,_,.cons (.txt x z) t,e=>by
  obtain ⟨l',h,e⟩:=qaA.mp e;cases e;exact .cons ⟨rfl,z⟩ (NP t h)
 | _,_,_,.cons (.tup _ _ _ _) t,e=>nomatch (show (none:Option (List SI))=some _ from e)
 | _,_,_,.cons (.int _) t,e=>nomatch (show (none:Option (List SI))=some _ from e)
def Ij (lay:List (Tp SI)->Nt->Option (List (Tp SI) × Int))(a:Nt)(s:List (Tp SI) × List SI):Option (Fl (List (Tp SI) × List SI) Unit) :=
 (lay s.1 a).bind fun z=>if s.2.length+1<=sizeLine then some (.nx (z.1,s.2++[.i z.2])) else none
def Og:Fl (List (Tp SI) × List SI) Unit->Option (List (Tp SI) × Int)
 | .nx z=>DH z.1 ⟨z.2⟩
 | _=>none
def EF (pm:Nt->Option (Tp Nt)):Nat->List (Tp SI)->Nt->Option (List (Tp SI) × Int)
 | 0=>fun _ _=>none
 | n+1=>fun rows a=>(Cw a).bind fun t=>(atI t.l 0).bind fun b=>(Em b).bind fun w =>
   cond (decide (w = "lamp")) ((sisO t.l).bind fun l=>DH rows ⟨l⟩)
   ((pm a).bind fun ps=>(ES (Ij (EF pm n)) ps.l (rows,[.s w])).bind fun z=>Og z)
theorem lay_body {pm:Nt->Option (Tp Nt)}{mp:Nt × Unit->Option (Tp Nt)}(hpm:∀ a,mp (a,())=pm a){n:Nat}{v:V}{a:Nt}{r:List (Tp SI) × Int}(s:Same G H)(o:OwnB K G H p q xs rows)(rv:Rp.rel K G v a)(hm:EF pm (n+1) rows a=some r)
  (k:∀ G2 H2 xs',Ext G (era H [p,q]) G2 H2->OwnB K G2 H2 p q xs' r.1->D.rt (.int r.2) H2) :
  CG (ON (tTest (tOp rEq (tOp (rAt K) (Ba 2) (tC (.int 0))) (tC (.str "lamp"))))
    (CG (Jo (DG (spB K DH) [] E0 (AX (Ba 0) (AX (Ba 1) (AX (Ba 2) Bb))))) BD) BD)
   (CG (FI (Ih (AX (tOp (rAt K) (Ba 2) (tC (.int 0))) Bb)) (CY 3))
   (CG (tFor (Jj K (DG (spM K mp) [] E0 (AX (Ba 2) Bb))) (CY 4)
    (CG (FI (tOp (rCatTp K) (Ba 3) (Ih (AX (DG (spB K (EF pm n)) [] E0 (AX (Ba 0) (AX (Ba 1) (AX (Ba 4) Bb)))) Bb))) (CY 3)) BD))
   (CG (Jo (DG (spB K DH) [] E0 (AX (Ba 0) (AX (Ba 1) (AX (Ba 3) Bb))))) BD))) D [some (.ref p),some (.ref q),some v,none,none] H:=by
 obtain ⟨t,htu,hm⟩:=qaA.mp (show _=some r from hm);refine bE hm fun b hb hm=>?_;refine bE hm fun w hw hm=>?_;have b0:=Ext.begin (C:=[p,q]) s;have z0:∀ b∈[p,q],era H [p,q] b=none:=fun b hb=>KZ hb
 have hd:((((some a).bind fun d=>Cw d).bind fun a=>(some (0:Int)).bind fun i=>atI a.l i).bind fun d=>Em d)=some w:=by
  rw [Option.bind_some,htu,Option.bind_some,Option.bind_some,hb,Option.bind_some,hw]
 refine BE (Ao (K:=K) (C5 (Fd (CZ (CV (GW rfl rv)) An)) Ai)) (b:=decide (w = "lamp")) (by rw [hd];rfl) s fun G2 H2 x2=>?_;have o2:=o.ext x2;have rv2:=Rp.mono x2.gg rv;have xt:=b0.trans x2;by_cases hl:w = "lamp"
 ·rw [decide_eq_true hl] at hm ⊢;have hmL:((sisO t.l).bind fun l=>DH rows ⟨l⟩)=some r:=hm;obtain ⟨ks,hks,hmK⟩:=qaA.mp hmL;refine Bo ?_
  cases rv2 with
  | txt x z=>cases htu
  | int n=>cases htu
  | @tup ad us ds h z rs hlp =>
   cases htu
   have h0:ds[0]? = some (.txt "lamp"):=by
    have hb':atI ds 0=some b:=hb
    cases ds with
    | nil=>cases hb'
    | cons d ds' =>
     have e0:ixN (d::ds').length (0:Int)=some 0:=by
      unfold ixN;rw [if_pos (by omega),if_pos (by rw [qfA];omega)]
      rfl
     have this:atI (d::ds') (0:Int)=some d:=by
      unfold atI;rw [e0]
      rfl
     rw [this] at hb';have hdb:=qdB hb'
     cases d with
     | txt y =>
      rw [<- hdb] at hw;have hyw:y=w:=qdB hw;rw [hyw,hl]
      rfl
     | tup _ =>
      rw [<- hdb] at hw;cases hw
     | int _ =>
      rw [<- hdb] at hw;cases hw
   have rk:Rp.rel K G2 (.ref ad) (Rk.mk ks):=⟨ad,us,rfl,hlp h0,z,NP rs hks⟩;exact ⟨_,rfl,_,rfl,_,rfl,G2,p,q,_,xs,rows,⟨ks⟩,r,rfl,x2.gh,o2,rk,hmK,fun G3 H3 xs' y o'=>k G3 H3 xs' (xt.past z0 y) o'⟩
 ·rw [decide_eq_false hl] at hm ⊢;replace hm:((pm a).bind fun ps=>(ES (Ij (EF pm n)) ps.l (rows,[.s w])).bind fun z=>Og z)=some r:=hm;refine bE hm fun ps hps hm=>?_;refine bE hm fun res hres hm=>?_;refine Bd ?_;refine (Fd (CZ (CV (GW rfl rv2)) An)).run (K:=K) hd x2.gh fun u G3 H3 x3 r3=>?_;refine ⟨by show 1<=sizeLine;decide,fun t3 ht3=>?_⟩;have x4:Ext G3 H3 (upd G3 t3 (.tup [u])) (upd H3 t3 (.tup [u])):=.new x3.gh ht3;have o4:=(o2.ext x3).ext x4;have xt:=(xt.trans x3).trans x4;have rv4:=Rp.mono x4.gg (Rp.mono x3.gg rv2);have rk:Rp.rel K (upd G3 t3 (.tup [u])) (.ref t3) (Rk.mk [.s w]):=⟨t3,[u],rfl,AQ,by show 1<=sizeLine;decide,.cons (show RelSI u (.s w) from r3) .nil⟩
  refine F1 (K:=K) (RR:=fun _ _ _ _=>False) (iw_tup (ev_def (m:=mp) (av_cons (GW rfl rv4) av_nil))) (as:=ps.l) (by
   show ((some (a,())).bind fun a=>mp a).bind _=_;rw [Option.bind_some,hpm,hps]
   rfl) hres xt.gh fun G5 H5 x5=>⟨fun s σ' G' H'=>∃ u pt ys,σ'=[some (.ref p),some (.ref q),some v,some u,pt]/\Ext G (era H [p,q]) G' H'/\Same G5 G'/\OwnB K G' H' p q ys s.1/\Rp.rel K G' u (Rk.mk s.2)/\s.2 ≠ [],?_⟩
  refine ⟨⟨_,_,_,rfl,xt.trans x5,Same.refl _,o4.ext x5,Rp.mono x5.gg rk,by simp⟩,?_,?_,?_,fun _ _ _ _ _ h=>h.elim⟩
  ·rintro s σ' G' H' ⟨u,pt,ys,rfl,x,m,_⟩;exact ⟨m,x.gh⟩
  ·rintro x a' s1 _ G6 H6 fl - ⟨u',pt,ys,rfl,x6,m6,o6,ru,ne6⟩ ra hf D' kN - - -;obtain ⟨z,hz,hf⟩:=qaA.mp hf;obtain ⟨hle,hf⟩:=BC hf;subst hf;refine ⟨_,rfl,_,rfl,_,rfl,_,rfl,G6,p,q,x,ys,s1.1,a',z,rfl,x6.gh,o6,ra,hz,fun G7 H7 ys' y7 o7=>?_⟩;refine ⟨by show 1<=sizeLine;decide,fun t8 ht8=>?_⟩;have x8:Ext G7 H7 (upd G7 t8 (.tup [.int z.2])) (upd H7 t8 (.tup [.int z.2])):=.new y7.gh ht8;have xt7:=x6.past z0 y7;obtain ⟨tu,us,rfl,hu,hzu,pu⟩:=Rp.mono x8.gg (Rp.mono y7.gg ru);have lu:=Paired.length pu;have lne:us ≠ []:=fun z=>ne6 (List.length_eq_zero_iff.mp (by rw [<- lu,z];rfl));refine ⟨tu,t8,us,[.int z.2],rfl,rfl,SqT.of (x8.gh _ _ hu),SqT.of AQ,by rw [lu];exact hle,(fun z=>absurd z lne),(fun z=>nomatch z),fun t9 ht9=>?_⟩;have x9:Ext (upd G7 t8 (.tup [.int z.2])) (upd H7 t8 (.tup [.int z.2])) (upd (upd G7 t8 (.tup [.int z.2])) t9 (.tup (us++[.int z.2]))) (upd (upd H7 t8 (.tup [.int z.2])) t9 (.tup (us++[.int z.2]))):=.new x8.gh ht9;refine kN (z.1,s1.2++[.i z.2]) _ _ _ rfl ⟨_,_,ys',rfl,(xt7.trans x8).trans x9,m6.trans (y7.gg.trans (x8.gg.trans x9.gg)),(o7.ext x8).ext x9,⟨t9,us++[.int z.2],rfl,AQ,?_,?_⟩,by simp⟩
   ·rw [qeA,qgA,lu];exact hle
   ·exact Paired.app (Paired.imp' (fun _ _ r=>Rp.mono x9.gg r) pu) (.cons rfl .nil)
  ·rintro s1 _ G6 H6 rfl ⟨u',pt,ys,rfl,x6,m6,o6,ru,ne6⟩;replace hm:DH s1.1 ⟨s1.2⟩=some r:=hm;exact ⟨_,rfl,_,rfl,_,rfl,G6,p,q,_,ys,s1.1,⟨s1.2⟩,r,rfl,x6.gh,o6,ru,hm,fun G7 H7 xs' y o'=>k G7 H7 xs' (x6.past z0 y) o'⟩
def Fh (lay:List (Tp SI)->Nt->Option (List (Tp SI) × Int)):List Nt->List (Tp SI)->Option (List (Tp SI) × List Int)
 | [],rows=>some (rows,[])
 | a::r,rows=>(lay rows a).bind fun z=>(Fh lay r z.1).bind fun y=>some (y.1,z.2::y.2)
theorem Mh {β:Type}[Rp β](f:Tp SI->β)(hf:∀ {G:Hp}{xs:List V}{rows:List (Tp SI)},Paired (Rp.rel K G) xs rows->Paired (Rp.rel K G) xs (rows.map Rk.of)->Paired (Rp.rel K G) xs (rows.map f)){lay:List (Tp SI)->Nt->Option (List (Tp SI) × Int)}{v:V}{as:List Nt}{r:List (Tp SI) × List Int}(s:Same G H)(rv:Rp.rel K G v as)(hm:Fh lay as []=some r)
  (k:∀ v p q vs ws G2 H2,Ext G H G2 H2->H p=none->H q=none->Own2 K G2 H2 v p q vs ws (r.1.map f,r.2)->D.rt v H2) :
  CG (FI (tLst Bb) (CY 1)) (CG (FI MT (CY 2))
   (CG (FI (Jb [1,2] (Jj K (Ba 0)) Jh (DG (spB K lay) [] E0 (AX (Ba 1) (AX (Ba 2) (AX (Ba 0) Bb))))) (CY 3))
   (CG (Jo (Ih (AX (Ba 1) (AX (Ba 3) Bb)))) BD))) D [some v,none,none,none] H:=by
 refine ⟨by show 0<=sizeLine;decide,fun p hp q hq=>?_⟩
 have npq:p≠q:=fun z=>by
  rw [z] at hq;rw [AQ] at hq;cases hq
 have hq0:H q=none:=by rwa [Aj (Ne.symm npq)] at hq
 have x1:Ext G H G (upd (upd H p (.lst [])) q (.dT [])):=((Ext.refl s).put hp (s.free hp)).put hq0 (s.free hq0);have o1:OwnB K G (upd (upd H p (.lst [])) q (.dT [])) p q [] []:=⟨⟨rfl,s.free hp,by rw [Aj npq];exact AQ,qyB _,.nil⟩,npq,s.free hq0,AQ,.nil⟩;dsimp only [CY,CG,FI,List.set];show Jb [1,2] (Jj K (Ba 0)) Jh (DG (spB K lay) [] E0 (AX (Ba 1) (AX (Ba 2) (AX (Ba 0) Bb)))) [some v,some (.ref p),some (.ref q),none] (upd (upd H p (.lst [])) q (.dT [])) _;refine (show IW K (Jj K (Ba 0)) [some v,some (.ref p),some (.ref q),none] G (some as) from GI (GW rfl rv)) G (.refl G) as rfl _ x1.gh _ fun J vs Ga Ha xa Y hz pr=>?_;intro l hl;have oa:=o1.ext xa;have xt:=x1.trans xa
 have nlp:p≠l:=fun z=>by
  rw [<- z,oa.l.h] at hl;cases hl
 have nlq:q≠l:=fun z=>by
  rw [<- z,oa.h] at hl;cases hl
 have hl0:H l=none:=xt.hh.free hl;have hla:=Paired.length pr
 have zpq:∀ b∈[p,q],H b=none:=fun b hb=>by
  rcases qkA.mp hb with e|hb
  ·rw [e];exact hp
  ·rw [qnA.mp hb];exact hq0
 refine ⟨fun i m ys H2=>m=vs.length - i/\i<=vs.length/\∃ G2 xs rows ns cs,Ext G H G2 H2/\Same Ga G2/\OwnB K G2 H2 p q xs rows/\G2 l=none/\H2 l=some (.lst ys)/\ys=ns.map V.int/\ys.length<=i/\Fh lay (as.drop i) rows=some (r.1,cs)/\r.2=ns++cs,
  ⟨vs.length,by simp,qyB _,Ga,[],[],[],r.2,xt.trans (.own xa.gh hl),Same.refl _,oa.put nlp nlq,xa.gh.free hl,AQ,rfl,qaB _,hm,rfl⟩,?_⟩
 rintro i m ys H2 ⟨rfl,hi,G2,xs,rows,ns,cs,x2,m2,o2,hg,hh,hys,hy,hcs,hr⟩;by_cases hlt:i<vs.length
 ·refine .inr ⟨Y.go i _ (m2.trans x2.gh) hlt,fun ys' H'=>∃ G2 xs rows ns cs,Ext G H G2 H'/\Same Ga G2/\OwnB K G2 H' p q xs rows/\G2 l=none/\H' l=some (.lst ys')/\ys'=ns.map V.int/\ys'.length<=i+1/\Fh lay (as.drop (i+1)) rows=some (r.1,cs)/\r.2=ns++cs,
   fun ys' H' h=>⟨vs.length - (i+1),by omega,rfl,hlt,h⟩,fun x H3 y=>?_⟩
  obtain ⟨rfl,hx⟩:=Y.yld i _ x H3 (m2.trans x2.gh) hlt y;obtain ⟨a,hai,ra⟩:=Paired.getR pr hx
  have hd:as.drop i=a::as.drop (i+1):=by
   obtain ⟨h1,h2⟩:=qrA.mp hai;rw [List.drop_eq_getElem_cons h1,h2]
  rw [hd] at hcs;obtain ⟨z,hz',hcs⟩:=qaA.mp (show ((lay rows a).bind fun z=>_)=some _ from hcs);obtain ⟨y',hy',hcs⟩:=qaA.mp hcs;obtain ⟨e1,e2⟩:=Prod.mk.inj (qdB hcs);subst e2;have hy2:Fh lay (as.drop (i+1)) z.1=some (r.1,y'.2):=by rw [hy',<- e1]
  dsimp only [Jh];rw [if_pos rfl];refine ⟨_,rfl,_,rfl,_,rfl,G2,p,q,x,xs,rows,a,z,rfl,x2.gh,o2,Rp.mono m2 ra,hz',fun G4 H4 xs' y4 o4=>?_⟩
  have nin:l ∉ [p,q]:=fun hb=>by
   rcases qkA.mp hb with e|hb
   ·exact nlp e.symm
   ·exact nlq (qnA.mp hb).symm
  have e2:era H3 [p,q] l=some (.lst ys):=by rw [IP nin];exact hh
  have hh4:=y4.hh _ _ e2;have hg4:=y4.no l hg (by rw [e2];exact fun z=>nomatch z);have xt4:=x2.past zpq y4;refine ⟨hh4,by omega,G4,xs',z.1,ns++[z.2],y'.2,xt4.put hl0 hg4,m2.trans y4.gg,o4.put nlp nlq,hg4,AQ,by rw [hys,List.map_append];rfl,?_,hy2,by rw [hr,qyA];rfl⟩;rw [qeA,qgA];omega
 ·have e:i=vs.length:=by omega
  subst e;have hd:as.drop vs.length=[]:=List.drop_eq_nil_of_le (by omega);rw [hd] at hcs;obtain ⟨e1,e2⟩:=Prod.mk.inj (qdB (show some (rows,([]:List Int))=some (r.1,cs) from hcs));rw [<- e2,qzA] at hr;refine .inl ⟨Y.stop _ (m2.trans x2.gh),?_⟩
  have ol:Own K G2 H2 (.ref l) l ys r.2:=⟨rfl,hg,hh,by omega,by
   rw [hys,hr];clear hys hr hy hh e2
   induction ns with
   | nil=>exact .nil
   | cons a t ih=>exact .cons rfl ih⟩
  refine sv_retO2 (K:=K) (rest:=BD) rfl rfl (by rw [<- e1];exact ⟨o2.l.v,o2.l.g,o2.l.h,o2.l.z,hf o2.l.p o2.t⟩:Own K G2 H2 (.ref p) p xs (r.1.map f)) ol nlp x2.gh fun v G5 H5 x5 o5=>?_;exact k v p l xs ys G5 H5 (x2.trans x5) hp hl0 o5
theorem OA {lay:List (Tp SI)->Nt->Option (List (Tp SI) × Int)}{v:V}{as:List Nt}{r:List (Tp SI) × List Int}(s:Same G H)(rv:Rp.rel K G v as)(hm:Fh lay as []=some r)
  (k:∀ v p q vs ws G2 H2,Ext G H G2 H2->H p=none->H q=none->Own2 K G2 H2 v p q vs ws r->D.rt v H2) :
  CG (FI (tLst Bb) (CY 1)) (CG (FI MT (CY 2))
   (CG (FI (Jb [1,2] (Jj K (Ba 0)) Jh (DG (spB K lay) [] E0 (AX (Ba 1) (AX (Ba 2) (AX (Ba 0) Bb))))) (CY 3))
   (CG (Jo (Ih (AX (Ba 1) (AX (Ba 3) Bb)))) BD))) D [some v,none,none,none] H :=
 Mh id (fun h _=>by rw [List.map_id];exact h) s rv hm fun v p q vs ws G2 H2 x h1 h2 o=>k v p q vs ws G2 H2 x h1 h2 (by rw [List.map_id] at o;exact o)
end
def N2:D->Option (Tp D)
 | .tup l=>some ⟨l⟩
 | _=>none
section
variable {K:FZ9}{σ:St}{G:Hp}{te ta:TE}
theorem O1 {md:Option D}(e:EV K te σ G md):EV K te σ G (md.bind fun d=>N2 d):=by
 clear 7;obtain ⟨d,hd,hc⟩:=qaA.mp hc;refine e G1 s1 d hd H sH Q fun v G2 H2 x r=>?_
 cases d with
 | tup l =>
  cases hc
  cases r with
  | tup h z r=>exact k _ _ _ x ⟨_,_,rfl,h,z,EE r⟩
 | _=>cases hc
end
section
variable {K:FZ9}{σ:St}{G H:Hp}{α:Type}[Rp α]{tk:TE}{rest:TS}{D:Ends}{i:Nat}{b:Tp α}{as as':List α}{v:V}{p:Addr}{vs:List V}
theorem MF {m:α × Unit->Option (Tp α)}{mi:Option Int}(hσ:σ[i]? = some (some v))(o:Own K G H v p vs as)(ek:EV K tk σ G mi)(hm:((mi.bind fun y=>atI as y).bind fun z=>m (z,()))=some b)(hp:extO as b.l=some as')(s:Same G H)
  (k:∀ G2 H2 ws,Ext G H G2 H2->Own K G2 (upd H2 p (.lst (vs++ws))) v p (vs++ws) as'->rest D σ (upd H2 p (.lst (vs++ws)))) :
  CG (K4 (tBM K "list" (M1 K) (Ba i) (AX (DG (spM K m) [] E0 (AX (tOp (rAt K) (Ba i) tk) Bb)) Bb))) rest D σ H:=by
 obtain ⟨hl,rfl⟩:=BC hp;have hlen:=Paired.length o.p;have ov:=o.v;subst ov;refine bE hm fun a ha hm=>?_;obtain ⟨j,hj,ha⟩:=qaA.mp ha;refine ⟨_,hσ,.inl ⟨rfl,_,SqL.of o.h⟩,?_⟩;refine ⟨_,hσ,?_⟩;refine ek.run hj s fun u G1 H1 x1 r1=>?_;cases r1;have o1:=o.ext x1;obtain ⟨w,hw,rw⟩:=DP o1.p ha;refine .inl ⟨vs,w,SqL.of o1.h,hw,?_⟩;refine ⟨G1,(a,()),b,x1.gh,⟨w,_,rfl,rw,rfl⟩,hm,fun u2 G2 H2 x2 r2=>?_⟩;have x:=x1.trans x2;have o2:=o.ext x;obtain ⟨q,ws,rfl,hq,hz,hpr⟩:=r2;have hlw:=Paired.length hpr;refine ⟨p,q,vs,ws,rfl,rfl,o2.h,x.gh.tup hq,by omega,?_⟩;refine k G2 H2 ws x ⟨rfl,o2.g,AQ,?_,Paired.app o2.p hpr⟩;rw [qeA];omega
end
section
variable {κ:PyProof.Rows.KeyKind}
def ky (κ:PyProof.Rows.KeyKind)(p:Keyed):κ.α:=(κ.keyOf p.1).getD κ.dflt
variable {prog:Program}{w:World}{A:Around}{E:Value->Shared->Prop}{s:Shared}
end
section
variable {κ:PyProof.Rows.KeyKind}
def kl (κ:PyProof.Rows.KeyKind)(x y:Keyed):Prop:=κ.kle (ky κ x) (ky κ y)
end
def sg (st:SortSt)(g:Nat):SortSt:=SortSt.mk' (kindOf st) (arrOf st) (pendingOf st) g (failedOf st)
end L2
set_option maxHeartbeats 2000000
namespace L2
open PySem PySem.Spec PyProof.Rows
end L2
set_option maxHeartbeats 2000000
namespace L2
open PySem PySem.Spec PyProof.Rows
end L2
set_option maxHeartbeats 2000000
namespace L2
open PySem PySem.Spec PyProof.Rows
end L2
set_option maxHeartbeats 2000000
namespace L2
open PySem PySem.Spec PyProof.Rows
end L2
set_option maxHeartbeats 2000000
namespace L2
open PySem PySem.Spec PyProof.Rows
end L2
set_option maxHeartbeats 2000000
namespace L2
open PySem PySem.Spec PyProof.Rows
end L2
set_option maxHeartbeats 2000000
namespace L2
open PySem PySem.Spec PyProof.Rows
end L2
set_option maxHeartbeats 2000000
namespace L2
open PySem PySem.Spec PyProof.Rows
section
variable {κ:PyProof.Rows.KeyKind}{prog:Program}{w:World}{A:Around}{E:Value->Shared->Prop}{s:Shared}
abbrev mk (X:Array Keyed)(p:Array (Nat × Nat × Nat))(g:Nat):SortSt:=SortSt.mk' oneType' X p g none
end
end L2
set_option maxHeartbeats 2000000
namespace L2
open PySem PySem.Spec PyProof.Rows
end L2
set_option maxHeartbeats 2000000
namespace L2
open PySem PySem.Spec PyProof.Rows
structure MpR (α:Type) where
 l:List (Rk × α)
class RpC (γ:Type) [Rp γ] where
 P:FZ9->Hp->HO->γ->Prop
 mono:∀ {K:FZ9}{G G':Hp}{ho:HO}{a:γ},Same G G'->P K G ho a->P K G' ho a
 rel:∀ {K:FZ9}{G:Hp}{ho:HO}{a:γ}{q:Addr},P K G ho a->G q=some ho->Rp.rel K G (.ref q) a
structure MpRF (α:Type) where
 l:List (Rk × α)
structure DIn (K:FZ9)(mg:Str->Option Value)(x:Str)(st:Stmt):Prop where
 ex:∃ f fd,mg x=some (.ref f)/\Fun K x x st f fd
def BnO (x:Str)(st:Stmt)(ps:List Str):Prop:=∀ (kV doc pm:Value) (an:Option Addr) (cdv ct:Value) (us:List Value),us.length=ps.length->bindArgs (qsB x x (DW st) (C2 st) (AJ st) .none kV doc pm an cdv ct) ⟨us,[]⟩=pure (ps.zip us)
abbrev Nn (K:FZ9)(x:Str):Prop:=qpB K mainGlobals x=some none
theorem scm {N ps:List Str}{sc:Scope}(a:sc.kind = .function:=by rfl)(b:sc.isCoroutine=false:=by rfl)(c:sc.isGenerator=false:=by rfl)(d:N.Nodup:=by decide +kernel)(e:N.take ps.length=ps:=by rfl)(f:∀ x∈ps,sc.names.lookup x=some .local \/ sc.names.lookup x=some .cell:=by decide +kernel)(g:∀ y∈sc.names,y.2 ≠ .free:=by decide +kernel):FnScope N ps sc:=⟨a,b,c,d,e,f,g⟩
theorem din {K:FZ9}{h:Heap}{mg:Str->Option Value}{x:Str}{st:Stmt}{f:Addr}{oc:Value}{od an:Option Addr}{osl:Array (Option Value)}{kV doc pm cdv ct:Value}(X:K.In h)(G:h.Ns mainGlobals mg)(a:qpB K mainGlobals x=some (some (.ref f)))
  (l:K.lookup f=some ⟨oc,od,.func (qsB x x (DW st) (C2 st) (AJ st) .none kV doc pm an cdv ct),osl⟩) (c:PySem.W.codeIn K cdv x=true) (k:qrB K (.ref f)=true):DIn K mg x st:=⟨f,_,qqB X G a,fun_mk l c k⟩
section
variable {P:Program}{w:World}{K:FZ9}{mg:Str->Option Value}{base:Heap}{x:Str}{st:Stmt}{N ps:List Str}{k:Nat}{sp:Sp}{ρ:Type}[Rp ρ]
theorem DIn.ok (Z:DIn K mg x st)(S:FnScope N ps (AJ st))(b:BnO x st ps)(len:∀ vs H Q E,sp vs H Q E->vs.length=ps.length)
  (hbody:∀ (f:Addr) (cdv:Value) (A:Around) (outer:List Env) (s:Shared) (H:Hp) (vs:List V) (Q:VK) (E:XK),Room k (A.deeper (envOfC x (AJ st) s.heap.objs.size f cdv))->sp vs H Q E ->
   ∃ t,PSs (Hi CX0 P w K mg base N x (AJ st) f cdv A outer s H E).nox (C2 st) t/\t { nx:=fun _ H'=>Q .non H',rt:=Q } (start N vs) H):DefOk P w K mg base x (k+1) ps sp:=by
 obtain ⟨f,fd,a,F⟩:=Z.ex;exact JQ F a (F.binds b) (F.ok S len fun cdv A outer s H vs Q E hr h=>hbody f cdv A outer s H vs Q E hr h)
theorem bn1 {p0:Str}(h:∀ (kV doc pm:Value) (an:Option Addr) (cdv ct:Value) (a0:Value),bindArgs (qsB x x (DW st) (C2 st) (AJ st) .none kV doc pm an cdv ct) ⟨[a0],[]⟩=pure (List.zip [p0] [a0]):=by intros;rfl):BnO x st [p0]:=fun kV doc pm an cdv ct us hl=>match us,hl with | [a0],_=>h kV doc pm an cdv ct a0
theorem DIn.okM1 {α0:Type}[Rp α0]{p0:Str}{m:α0->Option ρ}(Z:DIn K mg x st)(S:FnScope N [p0] (AJ st))
  (hbody:∀ (f:Addr) (cdv:Value) (A:Around) (outer:List Env) (s:Shared) (H:Hp) (Q:VK) (E:XK),Room k (A.deeper (envOfC x (AJ st) s.heap.objs.size f cdv))->∀ G a0 res v0,Ext G H G H->Rp.rel K G v0 a0->m a0=some res->(∀ v G2 H2,Ext G H G2 H2->Rp.rel K G2 v res->Q v H2) ->
   ∃ t,PSs (Hi CX0 P w K mg base N x (AJ st) f cdv A outer s H E).nox (C2 st) t/\t { nx:=fun _ H'=>Q .non H',rt:=Q } (start N [v0]) H)
  (b:BnO x st [p0]:=by exact bn1):DefOk P w K mg base x (k+1) [p0] (spM K fun x:α0 × Unit=>m x.1) :=
 Z.ok S b (fun vs H Q E h=>(F6 h).trans rfl) fun f cdv A outer s H vs Q E hr h=>by
  obtain ⟨G,⟨a0,⟨⟩⟩,res,sg,⟨v0,_,rfl,r0,rfl⟩,hm,q⟩:=h;exact hbody f cdv A outer s H Q E hr G a0 res v0 (Ext.refl sg) r0 hm q
theorem bn2 {p0 p1:Str}(h:∀ (kV doc pm:Value) (an:Option Addr) (cdv ct:Value) (a0 a1:Value),bindArgs (qsB x x (DW st) (C2 st) (AJ st) .none kV doc pm an cdv ct) ⟨[a0,a1],[]⟩=pure (List.zip [p0,p1] [a0,a1]):=by intros;rfl):BnO x st [p0,p1]:=fun kV doc pm an cdv ct us hl=>match us,hl with | [a0,a1],_=>h kV doc pm an cdv ct a0 a1
theorem DIn.okM2 {α0 α1:Type}[Rp α0][Rp α1]{p0 p1:Str}{m:α0->α1->Option ρ}(Z:DIn K mg x st)(S:FnScope N [p0,p1] (AJ st))
  (hbody:∀ (f:Addr) (cdv:Value) (A:Around) (outer:List Env) (s:Shared) (H:Hp) (Q:VK) (E:XK),Room k (A.deeper (envOfC x (AJ st) s.heap.objs.size f cdv))->∀ G a0 a1 res v0 v1,Ext G H G H->Rp.rel K G v0 a0->Rp.rel K G v1 a1->m a0 a1=some res->(∀ v G2 H2,Ext G H G2 H2->Rp.rel K G2 v res->Q v H2) ->
   ∃ t,PSs (Hi CX0 P w K mg base N x (AJ st) f cdv A outer s H E).nox (C2 st) t/\t { nx:=fun _ H'=>Q .non H',rt:=Q } (start N [v0,v1]) H)
  (b:BnO x st [p0,p1]:=by exact bn2):DefOk P w K mg base x (k+1) [p0,p1] (spM K fun x:α0 × α1 × Unit=>m x.1 x.2.1) :=
 Z.ok S b (fun vs H Q E h=>(F6 h).trans rfl) fun f cdv A outer s H vs Q E hr h=>by
  obtain ⟨G,⟨a0,a1,⟨⟩⟩,res,sg,⟨v0,_,rfl,r0,⟨v1,_,rfl,r1,rfl⟩⟩,hm,q⟩:=h;exact hbody f cdv A outer s H Q E hr G a0 a1 res v0 v1 (Ext.refl sg) r0 r1 hm q
theorem bn3 {p0 p1 p2:Str}(h:∀ (kV doc pm:Value) (an:Option Addr) (cdv ct:Value) (a0 a1 a2:Value),bindArgs (qsB x x (DW st) (C2 st) (AJ st) .none kV doc pm an cdv ct) ⟨[a0,a1,a2],[]⟩=pure (List.zip [p0,p1,p2] [a0,a1,a2]):=by intros;rfl):BnO x st [p0,p1,p2]:=fun kV doc pm an cdv ct us hl=>match us,hl with | [a0,a1,a2],_=>h kV doc pm an cdv ct a0 a1 a2
theorem DIn.okM3 {α0 α1 α2:Type}[Rp α0][Rp α1][Rp α2]{p0 p1 p2:Str}{m:α0->α1->α2->Option ρ}(Z:DIn K mg x st)(S:FnScope N [p0,p1,p2] (AJ st))
  (hbody:∀ (f:Addr) (cdv:Value) (A:Around) (outer:List Env) (s:Shared) (H:Hp) (Q:VK) (E:XK),Room k (A.deeper (envOfC x (AJ st) s.heap.objs.size f cdv))->∀ G a0 a1 a2 res v0 v1 v2,Ext G H G H->Rp.rel K G v0 a0->Rp.rel K G v1 a1->Rp.rel K G v2 a2->m a0 a1 a2=some res->(∀ v G2 H2,Ext G H G2 H2->Rp.rel K G2 v res->Q v H2) ->
   ∃ t,PSs (Hi CX0 P w K mg base N x (AJ st) f cdv A outer s H E).nox (C2 st) t/\t { nx:=fun _ H'=>Q .non H',rt:=Q } (start N [v0,v1,v2]) H)
  (b:BnO x st [p0,p1,p2]:=by exact bn3):DefOk P w K mg base x (k+1) [p0,p1,p2] (spM K fun x:α0 × α1 × α2 × Unit=>m x.1 x.2.1 x.2.2.1) :=
 Z.ok S b (fun vs H Q E h=>(F6 h).trans rfl) fun f cdv A outer s H vs Q E hr h=>by
  obtain ⟨G,⟨a0,a1,a2,⟨⟩⟩,res,sg,⟨v0,_,rfl,r0,⟨v1,_,rfl,r1,⟨v2,_,rfl,r2,rfl⟩⟩⟩,hm,q⟩:=h;exact hbody f cdv A outer s H Q E hr G a0 a1 a2 res v0 v1 v2 (Ext.refl sg) r0 r1 r2 hm q
theorem bn4 {p0 p1 p2 p3:Str}(h:∀ (kV doc pm:Value) (an:Option Addr) (cdv ct:Value) (a0 a1 a2 a3:Value),bindArgs (qsB x x (DW st) (C2 st) (AJ st) .none kV doc pm an cdv ct) ⟨[a0,a1,a2,a3],[]⟩=pure (List.zip [p0,p1,p2,p3] [a0,a1,a2,a3]):=by intros;rfl):BnO x st [p0,p1,p2,p3]:=fun kV doc pm an cdv ct us hl=>match us,hl with | [a0,a1,a2,a3],_=>h kV doc pm an cdv ct a0 a1 a2 a3
theorem DIn.okM4 {α0 α1 α2 α3:Type}[Rp α0][Rp α1][Rp α2][Rp α3]{p0 p1 p2 p3:Str}{m:α0->α1->α2->α3->Option ρ}(Z:DIn K mg x st)(S:FnScope N [p0,p1,p2,p3] (AJ st))
  (hbody:∀ (f:Addr) (cdv:Value) (A:Around) (outer:List Env) (s:Shared) (H:Hp) (Q:VK) (E:XK),Room k (A.deeper (envOfC x (AJ st) s.heap.objs.size f cdv))->∀ G a0 a1 a2 a3 res v0 v1 v2 v3,Ext G H G H->Rp.rel K G v0 a0->Rp.rel K G v1 a1->Rp.rel K G v2 a2->Rp.rel K G v3 a3->m a0 a1 a2 a3=some res->(∀ v G2 H2,Ext G H G2 H2->Rp.rel K G2 v res->Q v H2) ->
   ∃ t,PSs (Hi CX0 P w K mg base N x (AJ st) f cdv A outer s H E).nox (C2 st) t/\t { nx:=fun _ H'=>Q .non H',rt:=Q } (start N [v0,v1,v2,v3]) H)
  (b:BnO x st [p0,p1,p2,p3]:=by exact bn4):DefOk P w K mg base x (k+1) [p0,p1,p2,p3] (spM K fun x:α0 × α1 × α2 × α3 × Unit=>m x.1 x.2.1 x.2.2.1 x.2.2.2.1) :=
 Z.ok S b (fun vs H Q E h=>(F6 h).trans rfl) fun f cdv A outer s H vs Q E hr h=>by
  obtain ⟨G,⟨a0,a1,a2,a3,⟨⟩⟩,res,sg,⟨v0,_,rfl,r0,⟨v1,_,rfl,r1,⟨v2,_,rfl,r2,⟨v3,_,rfl,r3,rfl⟩⟩⟩⟩,hm,q⟩:=h;exact hbody f cdv A outer s H Q E hr G a0 a1 a2 a3 res v0 v1 v2 v3 (Ext.refl sg) r0 r1 r2 r3 hm q
end
section
variable {X:Cx}{K:FZ9}{N ps:List Str}{sc:Scope}{i:Nat}{x:Str}{e a b:Expr}{te ta tb:TE}{pos pos':Pos}{σ:St}{G:Hp}{α:Type}[Rp α]{v:V}{c:α}
theorem AS (S:FnScope N ps sc)(he:PE X e te)(hN:X.N=N:=by rfl)(hi:X.N[i]? = some x:=by rfl)(hx:Loc X.env.scope x:=by first|exact Or.inl rfl|exact Or.inr rfl)(hs:swapsWith e (some (.Name x pos')) pos.line X.env=pure false:=by rfl)(hf:X.fn x=true\/X.env.scope.names.lookup x=some .local := by first|exact .inl rfl|exact .inr rfl|assumption) :
  PS X (.Assign [.Name x pos'] e pos) (FI te (CY i)):=ps_set (hN ▸ S.nd) hi hx he hs hf
theorem D6 (S:FnScope N ps sc)(hN:X.N=N:=by rfl)(hi:X.N[i]? = some x:=by rfl)(hx:Loc X.env.scope x:=by first|exact Or.inl rfl|exact Or.inr rfl)(hf:X.fn x=true\/X.env.scope.names.lookup x=some .local := by first|exact .inl rfl|exact .inr rfl|assumption):PG X (.Name x pos) (CY i):=Kx (hN ▸ S.nd) hi hx hf
theorem AW (K:FZ9)(ha:PE X a ta)(hb:PE X b tb)(hs:NW b:=by exact fun _ _=>rfl)(h:X.K=K:=by rfl):PE X (.Subscript a b pos) (tOp (rAt K) ta tb):=pe_ix (ix_anyK h) ha hb hs
theorem B2 (K:FZ9)(ha:PE X a ta)(hb:PE X b tb)(h:X.K=K:=by rfl):PE X (.BinOp a .Add b pos) (tOp (KP K) ta tb):=As (op_plusK h) ha hb
theorem BZ (K:FZ9)(hm:X.mg "len" = none)(ha:PE X e te)(hg:Gl X "len" := by rfl)(h:X.K=K:=by rfl)(he:starEach [e] X.env=(false,eval e X.env)::starEach [] X.env:=by rfl):PE X (.Call (.Name "len" pos') [e] [] pos) (tCB (LO K) (AX te Bb)):=BN (Oh h) hg hm bt_len (A4 ha A8 he) (by decide) (by decide) he rfl
theorem BR (K:FZ9)(ha:PE X a ta)(he:∀ whole,isTrue a X.env whole=(do let v <- whole;standAt a.pos;holding [v] (truthy v)):=by exact fun _=>rfl)(h:X.K=K:=by rfl):PT X a (fun σ H Q=>ta σ H fun x H'=>∃ k,TruV K x H' k/\Q k H'):=OB h ha he
theorem Gn (K:FZ9)(ha:PE X a ta)(hb:PE X e te)(h:X.K=K:=by rfl)(hbase:attributeBase a "append" X.env (eval a X.env)=eval a X.env:=by rfl)
  (hfew:((backTo pos (starEach [e] X.env)).all (fun x=>!x.1) && (backToKw pos (keywordEach [] X.env)).all (fun x=>x.1.isSome) && decide ([e].length+([]:List Keyword).length+(if ([]:List Keyword).isEmpty then 0 else 1)<30))=true:=by rfl)
  (hline:(pos'.endLine == pos.line)=true:=by rfl) (hs:starEach [e] X.env=(false,eval e X.env)::starEach [] X.env:=by rfl) (hplain:(backTo pos (starEach [] X.env)).any (·.1)=false:=by rfl) :
  PE X (.Call (.Attribute a "append" pos') [e] [] pos) (tBM K "list" Gv ta (AX te Bb)):=pe_bmK h PySem.F.plainAttrs_list PySem.F.slot_list_append PySem.F.type_list_append Ho ha (A4 hb A8 hs) hbase hfew hline hs hplain
theorem nd_of (S:FnScope N ps sc):N.Nodup:=S.nd
theorem A9 (r:Rp.rel K G v c)(h:σ[i]? = some (some v):=by rfl):EV K (Ba i) σ G (some c):=GW h r
end
def n4 {α β γ δ:Type}(a:T4 (List α) (List β) (List γ) (List δ))(x y z u:V):List (V × Nat):=[(x,a.a.length),(y,a.b.length),(z,a.c.length),(u,a.d.length)]
open Builtin Builtin.Str
end L2
namespace PySem
open Sem (wp)
end PySem
namespace L2
open PySem PySem.Spec PyProof.Rows
def OS (h:Heap)(b:Addr):Prop:=∃ o vs,h.get? b=some o/\o.data = .fields vs
def Xo (h:Heap)(ea:Addr)(cls tb:Value):Prop:=∃ oe vs,h.get? ea=some oe/\oe.cls=cls/\oe.data = .fields vs/\vs[1]? = some tb/\oe.dict=none
def To (h:Heap)(T:Addr):Prop:=∃ oT ts,h.get? T=some oT/\oT.data = .fields ts/\3<ts.size
def ExB (Fre:Addr->Prop)(h:Heap)(ea:Addr)(cls:Value):Prop:=Fre ea/\∃ T,Fre T/\T≠ea/\Xo h ea cls (.ref T)/\To h T
def ExA (Fre:Addr->Prop)(h:Heap)(ea:Addr)(cls:Value):Prop:=(Fre ea/\Xo h ea cls .none)\/ExB Fre h ea cls
def Chg (fr c:List Addr)(h h':Heap):Prop:=(∀ b o,b ∉ c->b ∉ fr->h.get? b=some o->h'.get? b=some o)/\(∀ b o,b ∉ c->h.get? b=some o->∃ sl,h'.get? b=some { o with slots:=sl })
theorem dict_map (f:Array Value->Array Value)(o:Obj):(o.mapFields f).dict=o.dict:=by
 obtain ⟨c,d,dt,sl⟩:=o;cases dt<;>rfl
section
variable {M:Model}{A:Around}{E:Value->Shared->Prop}{s:Shared}{base:Heap}{env env':Env}{outer:List Env}{L e:Addr}{Q:Unit->Shared->Prop}{Fre:Addr->Prop}{cls:Value}
theorem KO {oe:Obj}{vs:Array Value}{head:Value}{hadNext:Bool}(hfr:A.frames=some (env::outer))(hl:s.heap.FunFrames base (env::outer))(hf:env.frame=some L)
  (he:s.heap.get? e=some oe) (hd:oe.data = .fields vs) (hsz:1<vs.size) (hdi:oe.dict=none)
  (h:∀ h' T,s.heap.objs.size<=T->T≠e->Xo h' e oe.cls (.ref T)->To h' T->Chg (frs (env::outer)) [e] s.heap h'->Q () { s with heap:=h' }) :
  wpAny M A (do let a <- PySem.frameOf env;let pl <- entryPlaceOf L hadNext;let b <- EntryCells.newEntry head a .none (rawInt L) .none pl;setField (.ref e) 1 b) Q E s:=by
 have hene:e ∉ (env::outer).filterMap (·.frame):=fun hm=>by
  obtain ⟨_,o,ho,hnf⟩:=hl.mem hm;rw [he] at ho;injection ho with ho;subst ho;exact hnf vs hd
 refine qbA (wpAny_frameOf_fun hfr hl hf fun h₁ hs₁=>?_);refine qbA (wpAny_entryPlaceOf fun pl hpl=>?_);unfold EntryCells.newEntry newFields;refine qbA (wpAny_newObj_type ?_ (hpl.sizeOk5 _ _ _ _ _));have he₁:h₁.get? e=some oe:=(hs₁.2.1 e hene).trans he;have he₂:=qfB (h:=h₁) { cls:=.type "traceback",dict:=none,data:=.fields ([head,.ref L,.none,rawInt L,.none]++(if pl.isEmpty then List.replicate 6 Value.none else pl)).toArray } he₁;refine wpAny_setField he₂ hd hsz ?_;have hTe:h₁.objs.size≠e:=Nat.ne_of_gt (qeB he₁);have hd₃:=Obj.data_mapFields hd (·.setIfInBounds 1 (Value.ref h₁.objs.size));have he₃:=Heap.get?_update_self (Obj.mapFields (·.setIfInBounds 1 (Value.ref h₁.objs.size))) he₂ (Obj.isFreed_of_fields hd₃)
 have hT₃:=(Heap.get?_update_other (h₁.push { cls:=.type "traceback",dict:=none,data:=.fields ([head,.ref L,.none,rawInt L,.none]++(if pl.isEmpty then List.replicate 6 Value.none else pl)).toArray })
  (Obj.mapFields (·.setIfInBounds 1 (Value.ref h₁.objs.size))) (Ne.symm hTe)).trans (qgB h₁ rfl)
 refine h _ h₁.objs.size (by rw [hs₁.1];exact qaB _) hTe ⟨_,_,he₃,Obj.cls_mapFields _ _,hd₃,by simp [hsz],(dict_map _ _).trans hdi⟩ ⟨_,_,hT₃,rfl,by simp only [qoB,qeA,qfA,List.length_nil]<;>omega⟩ ⟨fun b o hb hf e=>?_,fun b o hb e=>?_⟩
 ·rw [Heap.get?_update_other _ _ (fun z=>hb (by simp [z]))];exact qfB _ ((hs₁.2.1 b hf).trans e)
 ·obtain ⟨sl,q⟩:=hs₁.2.2 b o e;refine ⟨sl,?_⟩;rw [Heap.get?_update_other _ _ (fun z=>hb (by simp [z]))];exact qfB _ q
theorem LL (hfr:A.frames=some (env::outer))(hl:s.heap.FunFrames base (env::outer))(hf:env.frame=some L)(hf':env'.frame=some L)(hx:ExA Fre s.heap e cls)(hn:∀ b,s.heap.objs.size<=b->Fre b)
  (h:∀ h' c,(∀ b∈c,Fre b/\OS s.heap b)->Chg (frs (env::outer)) c s.heap h'->s.heap.objs.size<=h'.objs.size->ExB Fre h' e cls->Q () { s with heap:=h' }) :
  wpAny M A (noteFrame (.ref e) env') Q E s:=by
 have ef:PySem.frameOf env'=PySem.frameOf env:=by unfold PySem.frameOf;rw [hf,hf']
 unfold noteFrame;simp only [hf',ef];rcases hx with ⟨fe,oe,vs,he,rfl,hd,h1,hdi⟩ | ⟨fe,T,fT,hTe,⟨oe,vs,he,rfl,hd,h1,hdi⟩,oT,ts,hT,hdT,h3⟩
 ·refine qbA (wpAny_field he hd h1 ?_);rw [if_neg (by decide)];refine KO hfr hl hf he hd (Array.getElem?_eq_some_iff.mp h1).1 hdi fun h' T hT hTe hX hTo hc=>?_;refine h h' [e] (fun b hb=>?_) hc ?_ ⟨fe,T,hn T hT,hTe,hX,hTo⟩
  ·rw [qnA.mp hb];exact ⟨fe,oe,vs,he,hd⟩
  ·obtain ⟨oT,_,q,_⟩:=hTo;exact Nat.le_of_lt (Nat.lt_of_le_of_lt hT (qeB q))
 ·refine qbA (wpAny_field he hd h1 ?_);rw [if_pos (show (Value.ref T != Value.none)=true from by simp)];obtain ⟨fl,hfl⟩:∃ fl,ts[3]? = some fl:=⟨_,Array.getElem?_eq_getElem h3⟩;refine qbA (wpAny_field hT hdT hfl ?_)
  cases hq:(fl == rawInt L) with
  | true =>
   rw [if_pos rfl];exact qcA (h s.heap [] (fun b hb=>nomatch hb) ⟨fun _ _ _ _ q=>q,fun _ o _ q=>⟨o.slots,q⟩⟩ (qaB _) ⟨fe,T,fT,hTe,⟨oe,vs,he,rfl,hd,h1,hdi⟩,oT,ts,hT,hdT,h3⟩)
  | false =>
   rw [if_neg qnB];refine qbA (wpAny_setField hT hdT h3 ?_);have other:∀ b,b≠T->(s.heap.update T (Obj.mapFields (·.setIfInBounds 3 Value.none))).get? b=s.heap.get? b:=fun b hb=>Heap.get?_update_other _ _ (Ne.symm hb)
   have noRecord:∀ b o,s.heap.get? b=some o->(∀ vs,o.data ≠ .fields vs)->b≠T:=fun b o hb hnf q=>by
    rw [q,hT] at hb;injection hb with hb;subst hb;exact hnf ts hdT
   have hsz:(s.heap.update T (Obj.mapFields (·.setIfInBounds 3 Value.none))).objs.size=s.heap.objs.size:=by simp [Heap.update]
   refine KO (s:={ s with heap:=s.heap.update T (Obj.mapFields (·.setIfInBounds 3 Value.none)) }) hfr (hl.of_keeps fun b o hb hnf=>⟨o,(other b (noRecord b o hb hnf)).trans hb,rfl⟩) hf ((other e (Ne.symm hTe)).trans he) hd (Array.getElem?_eq_some_iff.mp h1).1 hdi fun h' T' hT' hTe' hX hTo hc=>?_;have hT'':s.heap.objs.size<=T':=by rw [<- hsz];exact hT'
   refine h h' [T,e] (fun b hb=>?_) ⟨fun b o hb hf q=>hc.1 b o (fun z=>hb (by simp [qnA.mp z])) hf ((other b (fun z=>hb (by simp [z]))).trans q),fun b o hb q=>hc.2 b o (fun z=>hb (by simp [qnA.mp z])) ((other b (fun z=>hb (by simp [z]))).trans q)⟩ ?_ ⟨fe,T',hn T' hT'',hTe',hX,hTo⟩
   ·rcases qkA.mp hb with rfl|hb
    ·exact ⟨fT,oT,ts,hT,hdT⟩
    ·rw [qnA.mp hb];exact ⟨fe,oe,vs,he,hd⟩
   ·obtain ⟨oT,_,q,_⟩:=hTo;exact Nat.le_of_lt (Nat.lt_of_le_of_lt hT'' (qeB q))
theorem Gk {fr:List Addr}{f:Option Addr}(hx:ExB Fre s.heap e cls)
  (h:∀ h' c,(∀ b∈c,Fre b/\OS s.heap b)->Chg fr c s.heap h'->s.heap.objs.size<=h'.objs.size->ExB Fre h' e cls->Q () { s with heap:=h' }):wpAny M A (setFlight (.ref e) f) Q E s:=by
 obtain ⟨fe,T,fT,hTe,⟨oe,vs,he,rfl,hd,h1,hdi⟩,oT,ts,hT,hdT,h3⟩:=hx;have other:∀ g:Array Value->Array Value,∀ b,b≠T->(s.heap.update T (Obj.mapFields g)).get? b=s.heap.get? b:=fun g b hb=>Heap.get?_update_other _ _ (Ne.symm hb);unfold setFlight;refine qbA (wpAny_field he hd h1 ?_);rw [if_pos (show (Value.ref T != Value.none)=true from by simp)];refine wpAny_setField hT hdT h3 ?_;refine h _ [T] (fun b hb=>by rw [qnA.mp hb];exact ⟨fT,oT,ts,hT,hdT⟩) ⟨fun b o hb _ q=>(other _ b (fun z=>hb (by simp [z]))).trans q,fun b o hb q=>⟨o.slots,(other _ b (fun z=>hb (by simp [z]))).trans q⟩⟩ (by simp [Heap.update]) ⟨fe,T,fT,hTe,⟨oe,vs,(other _ e (Ne.symm hTe)).trans he,rfl,hd,h1,hdi⟩,?_⟩;exact ⟨_,_,Heap.get?_update_self _ hT (Obj.isFreed_of_fields (Obj.data_mapFields hdT _)),Obj.data_mapFields hdT _,by simp [h3]⟩
theorem OL (hfr:A.frames=some (env::outer))(hl:s.heap.FunFrames base (env::outer))(hf:env.frame=some L)(hx:ExA Fre s.heap e cls)(hn:∀ b,s.heap.objs.size<=b->Fre b)
  (h:∀ h1 h2 c d,(∀ b∈c,Fre b/\OS s.heap b)->Chg (frs (env::outer)) c s.heap h1->(∀ b∈d,Fre b/\OS h1 b)->Chg (frs (env::outer)) d h1 h2->ExB Fre h2 e cls->Q () { s with heap:=h2 }) :
  wpAny M A (leaving env (.ref e)) Q E s:=by
 unfold leaving;refine qbA (LL hfr hl hf hf hx hn fun h1 c hc ch _ x1=>?_);exact Gk (s:={ s with heap:=h1 }) x1 fun h2 d hd ch2 _ x2=>h h1 h2 c d hc ch hd ch2 x2
end
theorem ObjOk.get {P:Program}{w:World}{H:Hp}{h:Heap}{a:Addr}{o:HO}(x:ObjOk P w H h a o):∃ ob,h.get? a=some ob:=by
 cases o with
 | lst xs=>obtain ⟨_,_,_,_,e⟩:=x;exact ⟨_,e⟩
 | tup xs=>obtain ⟨_,_,_,o,e,_⟩:=x;exact ⟨_,e⟩
 | dK kvs=>obtain ⟨_,_,_,_,o,_,_,e,_⟩:=x;exact ⟨_,e⟩
 | dT kvs=>obtain ⟨_,_,_,_,o,_,_,e,_⟩:=x;exact ⟨_,e⟩
 | set S n=>obtain ⟨o,_,_,_,e,_⟩:=x;exact ⟨_,e⟩
 | ins C dx fs=>obtain ⟨_,_,_,e,_⟩:=x;exact ⟨_,e⟩
 | own y=>exact x
 | xd fs=>obtain ⟨_,⟨_,_,_,e,_⟩,_⟩:=x;exact ⟨_,e⟩
 | rng lo hi=>obtain ⟨_,_,_,e⟩:=x;exact ⟨_,e⟩
 | frz ob u=>obtain ⟨e,_⟩:=x;exact ⟨_,e⟩
 | tbl ps=>exact ⟨_,(show h.get? a=some _ from x)⟩
 | met f y=>exact ⟨_,(show h.get? a=some _ from x)⟩
 | ext φ=>obtain ⟨_,e,_⟩:=x;exact e
theorem HOk.none {P:Program}{w:World}{H:Hp}{h:Heap}{a:Addr}(x:HOk P w H h)(e:h.get? a = .none):H a = .none:=by
 cases q:H a with
 | none=>rfl
 | some u =>
  obtain ⟨ob,z⟩:=(x a u q).get;rw [e] at z;cases z
def Fr0 (X:Cx)(H:Hp)(b:Addr):Prop:=H b=none/\(∀ o,X.s₀.heap.get? b=some o->b∈X.ex)/\∀ p∈X.pn,p.1≠b
section
variable {X:Cx}{pins:List (Addr × Obj)}{σ:St}{H H':Hp}{s s':Shared}{E:St->XK}
theorem Inv.new0 (I:Inv X pins σ H s){b:Addr}(h:s.heap.get? b=none):Fr0 X H b:=by
 refine ⟨I.hok.none h,fun o e=>?_,fun p hp z=>?_⟩
 ·by_cases hx:b∈X.ex
  ·exact hx
  ·obtain ⟨o',q⟩:=I.base.there b o e hx;rw [h] at q;cases q
 ·have:=(I.pin p (List.mem_append_left _ hp)).1;rw [z,h] at this;cases this
theorem Inv.newS (I:Inv X pins σ H s){b:Addr}(h:s.heap.objs.size<=b):Fr0 X H b:=I.new0 (Heap.get?_none_of_le h)
theorem Inv.chg {c:List Addr}{h':Heap}(I:Inv X [] σ H s)(hc:∀ b∈c,Fr0 X H b/\OS s.heap b)(ch:Chg (frs X.stack) c s.heap h'):Inv X [] σ H { s with heap:=h' }:=by
 have nS:∀ b o,X.s₀.heap.get? b=some o->b ∉ X.ex->b ∉ c:=fun b o e hx hb=>hx ((hc b hb).1.2.1 o e)
 have nF:∀ b o,X.s₀.heap.get? b=some o->b ∉ X.fs->b ∉ frs X.stack:=fun b o e hf hb=>by
  rcases qkA.mp (I.stkSub b hb) with z|z
  ·exact absurd z (quB (qwB (qeB e) I.ok.above))
  ·exact hf z
 have nL:X.env.locals ∉ c:=fun hb=>by
  obtain ⟨_,o,vs,e,hd⟩:=hc _ hb;obtain ⟨m,⟨o',es,ep,e',hd',_⟩,_⟩:=I.loc;rw [e] at e';cases e';rw [hd] at hd';cases hd'
 have nC:∀ x k,X.env.cells.lookup x=some k->k ∉ c:=fun x k q hb=>by
  obtain ⟨_,o,vs,e,hd⟩:=hc _ hb;obtain ⟨v,o',e',hd'⟩:=I.cell x k q;rw [e] at e';cases e';rw [hd] at hd';cases hd'
 have cK:∀ x k v,X.env.cells.lookup x=some k->s.heap.IsCell k v->h'.IsCell k v:=fun x k v q ⟨o,e,hd⟩=>by
  obtain ⟨sl,z⟩:=ch.2 k o (nC x k q) e;exact ⟨_,z,hd⟩
 refine ⟨I.ok,I.os,I.bare,⟨fun b o e n hb hx=>ch.1 b o (nS b o e hx) (nF b o e hb) (I.base.keep b o e n hb hx),fun b o e n hb hx=>?_,I.base.free,fun b o e hx=>?_,I.base.tups,I.base.frzs,I.base.tbls⟩,?_,fun x k q=>?_,I.free,I.freeC,fun p hp=>?_,fun a o e=>?_,I.len⟩
 ·obtain ⟨sl,e1⟩:=I.base.slot b o e n hb hx;obtain ⟨sl',e2⟩:=ch.2 b _ (nS b o e hx) e1;exact ⟨sl',e2⟩
 ·obtain ⟨o',e1⟩:=I.base.there b o e hx;obtain ⟨sl,e2⟩:=ch.2 b o' (nS b o e hx) e1;exact ⟨_,e2⟩
 ·obtain ⟨m,⟨o,es,ep,ho,r⟩,hl⟩:=I.loc;obtain ⟨sl,hL⟩:=ch.2 _ o nL ho;refine ⟨m,⟨_,es,ep,hL,r⟩,fun i x v e1 e2 e3=>?_⟩;obtain ⟨u,ru,l⟩:=hl i x v e1 e2 e3;refine ⟨u,ru,?_⟩;rcases l with l | ⟨k,c',q,z⟩
  ·exact .inl l
  ·exact .inr ⟨k,c',q,cK x c' _ q z⟩
 ·obtain ⟨v,z⟩:=I.cell x k q;exact ⟨v,cK x k v q z⟩
 ·obtain ⟨e,n,ne,nf,d⟩:=I.pin p hp;rw [qzA] at hp;exact ⟨ch.1 p.1 p.2 (fun z=>(hc _ z).1.2.2 p hp rfl) (fun z=>(qkA.mp (I.stkSub _ z)).elim ne nf) e,n,ne,nf,d⟩
 ·refine (I.hok a o e).stay (fun b u hb q=>ch.1 b u (fun z=>?_) (fun z=>?_) q) (fun _ q=>q) fun _ _ q=>q
  ·have:=(hc b z).1.1;rcases hb with rfl|hb
   ·rw [e] at this;cases this
   ·rw [hb] at this;cases this
  ·have:=I.stkFree b z;rcases hb with rfl|hb
   ·rw [e] at this;cases this
   ·rw [hb] at this;cases this
def CXE (P:Program)(w:World):CXT:=fun outer H s E e s'=>∃ ea cls H',e = .ref ea/\s'.os=s.os/\AllBare s'.gens/\Un (frs outer) [] H H' s.heap s'.heap/\HOk P w H' s'.heap /\
 ExB (fun b=>H' b=none/\s.heap.get? b=none) s'.heap ea cls/\E cls none H'
def Lets (X:Cx)(E:St->XK):Prop:=∀ σ H s ea cls,Inv X [] σ H s->ExA (Fr0 X H) s.heap ea cls->E σ cls none H->X.xe (.ref ea) s
theorem ExB.mono {F G:Addr->Prop}{h:Heap}{ea:Addr}{cls:Value}(x:ExB F h ea cls)(k:∀ b,F b->G b):ExB G h ea cls :=
 let ⟨a,T,b,r⟩:=x
 ⟨k _ a,T,k _ b,r⟩
theorem Lets.passes (L:Lets X E):∀ (pins:List (Addr × Obj)) (σ:St) (H:Hp) (s:Shared) (e:Value) (s':Shared),Inv X pins σ H s->CXE X.prog X.w X.stack H s (E σ) e s'->X.xe e s':=by
 rintro pins σ H s e s' I ⟨ea,cls,H',rfl,os,bare,un,hok,xb,q⟩;have I':Inv X pins σ H' s':=I.call' (ch:=[]) os un hok bare fun b z=>nomatch z;refine L σ H' s' ea cls (I'.pins_of (pins':=[]) fun p hp=>nomatch hp) (.inr (xb.mono fun b hb=>?_)) q;obtain ⟨h1,h2,h3⟩:=I.new0 hb.2;exact ⟨hb.1,h2,h3⟩
theorem IX {P:Program}{w:World}{K:FZ9}{mg:Str->Option Value}{base:Heap}{N:List Str}{qual:Str}{scope:Scope}{f:Addr}{cd:Value}{A:Around}{outer:List Env}{s:Shared}{H:Hp}{E:XK} :
  Lets (Hi (CXE P w) P w K mg base N qual scope f cd A outer s H E) fun _=>E:=by
 intro σ H' s' ea cls I x q;show wpAny _ _ (leaving _ _) _ _ _;refine OL I.ok.frames I.stack rfl x (fun b hb=>I.newS hb) fun h1 h2 c d hc ch1 hd ch2 xb=>?_;have I1:=I.chg hc ch1;have I2:=I1.chg hd ch2
 exact ⟨ea,cls,H',rfl,I2.os,I2.bare,I2.base,I2.hok,xb.mono fun b hb=>⟨hb.1,by
  cases z:s.heap.get? b with
  | none=>rfl
  | some o=>exact absurd (hb.2.1 o z) (fun y=>nomatch y)⟩,q⟩
end
abbrev bmV:List Value:=[.type "ValueError",.type "Exception",.type "BaseException",.type "object"]
def tRaise (E:St->XK)(C:Addr):TS:=fun _ σ H=>E σ (.ref C) none H
section
variable {X:Cx}{pins:List (Addr × Obj)}{σ:St}{H H':Hp}{s s':Shared}{E:St->XK}
theorem Ls {x:Str}{C:Addr}{e₀:Expr}{v:V}{np cpos pos:Pos}(O:OwnCls x C bmV "ValueError.__new__" X.mg X.base)(hc:X.calm=true)(hg:Gl X x)(L:Lets X E)(he:PE X e₀ (tC v))
  (hs:starEach [e₀] X.env=(false,eval e₀ X.env)::starEach [] X.env:=by rfl) (hd:(x == ("__debug__" : Str))=false:=by decide) :
  PS X (.Raise (some (.Call (.Name x np) [e₀] [] cpos)) none pos) (tRaise E C):=by
 intro pins s σ H D I h;obtain ⟨tl,N,nm,q,bs,hdct,sn,sub,ab,col,dd,k0,k1,k2,k3,k5,mN,hC,hN,hni,T⟩:=O.obj
 refine wpAny_Raise_call_subU (C:=C) (nm:=nm) (q:=q) (N:=N) (bs:=bs) (bm:=tl) (hdct:=hdct) (sn:=sn) (sub:=sub) (ab:=ab) (col:=col) (dd:=dd) (k0:=k0) (k1:=k1) (k2:=k2) (k3:=k3) (k5:=k5)
  (Bn := "ValueError") PySem.F.excBase_ValueError (by decide +kernel) PySem.F.excBase_ValueError (mN:=mN) (T.hasType (by decide +kernel)) (I.ok.hd hc) ?_ hni (HK I hg O.bound ⟨rfl,?_⟩ hd)
 ·rw [hs];rfl
 ·have h2:=A4 he A8 hs cpos pins s σ H (fun vs H1=>vs.length=1/\E σ (.ref C) none H1) I ⟨rfl,h⟩;rw [hs] at h2 ⊢;refine Calls.evalArgs_plain (wpAny_mono h2 (fun us s2 ⟨vs,H1,I1,rv,hl,hq⟩=>?_) fun _ _ y=>y);refine ⟨rfl,?_,I1.bk _ _ hC,hN.keeps I1.bk,T.keeps I1.bk,fun h' e hm=>?_⟩
  ·show us.length<=_;rw [<- rv.length,hl]
   decide
  ·obtain ⟨t,ht,_,_⟩:=hm.there;obtain ⟨n1,n2,n3⟩:=I1.new0 hm.new;exact L σ H1 _ e (.ref C) ((I1.kept (t':=s2.toks) hm.keeps).pins_of (pins':=[]) fun p hp=>nomatch hp) (.inl ⟨⟨n1,n2,n3⟩,_,_,ht,rfl,rfl,rfl,rfl⟩) hq
end
abbrev Cx.tr (X:Cx)(pn:List (Addr × Obj))(xe:Value->Shared->Prop):Cx:={ X with pn:=pn,xe:=xe }
abbrev Cx.han (X:Cx)(pn:List (Addr × Obj))(ea:Addr):Cx:={ X with pn:=pn,xe:=fun _ _=>False,A:=X.A.mark (some (.ref ea)),calm:=false }
def Exo (ea:Addr)(cls:Value):HO:=.ext fun h=>∃ oe vs,h.get? ea=some oe/\oe.cls=cls/\oe.dict=none/\oe.data = .fields vs
def gone (i:Nat)(D:Ends):Ends:={ nx:=fun σ H=>D.nx (σ.set i none) H,rt:=D.rt,bk:=fun σ H=>D.bk (σ.set i none) H,ct:=fun σ H=>D.ct (σ.set i none) H }
def tTry (K:FZ9)(C0:Addr)(i:Nat)(tb:(St->XK)->TS)(th:TS):TS:=fun D σ H =>
 tb (fun σ' cls _ H'=>PySem.W.exmOne K cls (.ref C0)=some true/\∀ ea,H' ea=none->th (gone i D) (σ'.set i (some (.ref ea))) (upd H' ea (Exo ea cls))) D σ H
section
variable {X:Cx}{pins:List (Addr × Obj)}{σ:St}{H:Hp}{s:Shared}{xe:Value->Shared->Prop}{ea:Addr}
theorem Inv.toTr (I:Inv X pins σ H s):Inv (X.tr (X.pn++pins) xe) [] σ H s :=
 ⟨⟨I.ok.mod,I.ok.kind,I.ok.glob,I.ok.blt,I.ok.above,I.ok.inj,I.ok.has,I.ok.cab,I.ok.hd,I.ok.frames,I.ok.stk,I.ok.exf,I.ok.bs,I.ok.bsz,I.ok.noex,I.ok.exfs,I.ok.funs,I.ok.frf⟩,I.os,I.bare,I.base,I.loc,I.cell,I.free,I.freeC,fun p hp=>I.pin p (by rw [qzA] at hp;exact hp),I.hok,I.len⟩
theorem Inv.ofTr {p2:List (Addr × Obj)}(I:Inv (X.tr (X.pn++pins) xe) p2 σ H s):Inv X pins σ H s :=
 ⟨⟨I.ok.mod,I.ok.kind,I.ok.glob,I.ok.blt,I.ok.above,I.ok.inj,I.ok.has,I.ok.cab,I.ok.hd,I.ok.frames,I.ok.stk,I.ok.exf,I.ok.bs,I.ok.bsz,I.ok.noex,I.ok.exfs,I.ok.funs,I.ok.frf⟩,I.os,I.bare,I.base,I.loc,I.cell,I.free,I.freeC,fun p hp=>I.pin p (List.mem_append_left _ hp),I.hok,I.len⟩
theorem Inv.toHan (I:Inv X pins σ H s):Inv (X.han (X.pn++pins) ea) [] σ H s :=
 ⟨⟨I.ok.mod,I.ok.kind,I.ok.glob,I.ok.blt,I.ok.above,I.ok.inj,I.ok.has,I.ok.cab,fun z=>(nomatch z),I.ok.frames,I.ok.stk,I.ok.exf,I.ok.bs,I.ok.bsz,I.ok.noex,I.ok.exfs,I.ok.funs,I.ok.frf⟩,I.os,I.bare,I.base,I.loc,I.cell,I.free,I.freeC,fun p hp=>I.pin p (by rw [qzA] at hp;exact hp),I.hok,I.len⟩
theorem Inv.ofHan {p2:List (Addr × Obj)}(ok:X.Ok)(I:Inv (X.han (X.pn++pins) ea) p2 σ H s):Inv X pins σ H s :=
 ⟨ok,I.os,I.bare,I.base,I.loc,I.cell,I.free,I.freeC,fun p hp=>I.pin p (List.mem_append_left _ hp),I.hok,I.len⟩
theorem SP.ofTr {D:Ends}{f:Flow}{s':Shared}(h:SP (X.tr (X.pn++pins) xe) [] D f s'):SP X pins D f s':=by
 cases f with
 | next=>obtain ⟨σ',H',I,q⟩:=h;exact ⟨σ',H',I.ofTr,q⟩
 | brk=>obtain ⟨σ',H',I,q⟩:=h;exact ⟨σ',H',I.ofTr,q⟩
 | cont=>obtain ⟨σ',H',I,q⟩:=h;exact ⟨σ',H',I.ofTr,q⟩
 | ret u=>obtain ⟨v,σ',H',I,r,q⟩:=h;exact ⟨v,σ',H',I.ofTr,r,q⟩
theorem Inv.gone {M:Model}{A:Around}{E:Value->Shared->Prop}{i:Nat}{n:Str}{pos:Pos}{Q:Unit->Shared->Prop}(I:Inv X pins σ H s)(hN:X.N.Nodup)(hi:X.N[i]? = some n)(hl:X.env.scope.names.lookup n=some .local)
  (h:∀ s',Inv X pins (σ.set i none) H s'->Q () s'):wpAny M A (do bindName X.env n .none;unbindBehindTheSuite X.env n pos) Q E s:=by
 obtain ⟨m,hn,hlk⟩:=id I.loc;refine wpAny_nameGoes_keeps hl hn (by rw [I.ok.kind];rfl) fun h' v hn' sb=>h _ ?_
 have I1:=I.weak (σ':=σ.set i none) (by simp) fun j w e=>by
  by_cases hj:i=j
  ·subst hj;rw [List.getElem?_set] at e;simp at e
  ·rwa [List.getElem?_set_ne hj] at e
 obtain ⟨oL,_,_,hoL,_⟩:=id hn;have nL:∀ b o,X.s₀.heap.get? b=some o->b≠X.env.locals:=fun b o e=>quB (qwB (qeB e) I.ok.above);refine ⟨I.ok,I.os,I.bare,⟨fun b o e n hb hx=>(sb.2 b (nL b o e)).trans (I.base.keep b o e n hb hx),fun b o e n hb hx=>?_,I.base.free,fun b o e hx=>?_,I.base.tups,I.base.frzs,I.base.tbls⟩,⟨_,hn',fun j y w e1 e2 e3=>?_⟩,fun y c e=>?_,I.free,I.freeC,fun p hp=>?_,fun a o e=>?_,I1.len⟩
 ·obtain ⟨sl,e1⟩:=I.base.slot b o e n hb hx;exact ⟨sl,(sb.2 b (nL b o e)).trans e1⟩
 ·obtain ⟨o',e1⟩:=I.base.there b o e hx;exact ⟨o',(sb.2 b (nL b o e)).trans e1⟩
 ·have hj:j≠i:=fun z=>by
   subst z;rw [List.getElem?_set] at e2;simp at e2
  rw [List.getElem?_set_ne (Ne.symm hj)] at e2;obtain ⟨u,r,l⟩:=hlk j y w e1 e2 e3;refine ⟨u,r,?_⟩;rcases l with ⟨k,q⟩ | ⟨k,c,q,z⟩
  ·refine .inl ⟨k,?_⟩;have:y≠n:=fun z=>hj (Ic hN e1 (z ▸ hi));simp [this,q]
  ·exact .inr ⟨k,c,q,z.sameBut sb (I.cne y c q)⟩
 ·obtain ⟨w,z⟩:=I.cell y c e;exact ⟨w,z.sameBut sb (I.cne y c e)⟩
 ·obtain ⟨e,n,ne,nf,d⟩:=I.pin p hp;exact ⟨(sb.2 p.1 ne).trans e,n,ne,nf,d⟩
 ·refine (I.hok a o e).stay (fun b u hb q=>(sb.2 b ?_).trans q) (fun _ q=>q) fun _ _ q=>q;rintro rfl;have:=I.free;rcases hb with z|hb
  ·rw [z,e] at this;cases this
  ·rw [hb] at this;cases this
theorem Inv.track {a:Addr}{o:HO}(I:Inv X [] σ H s)(f:Fr0 X H a)(fl:OS s.heap a)(new:ObjOk X.prog X.w (upd H a o) s.heap a o):Inv X [] σ (upd H a o) s:=by
 have ne:∀ b u,H b=some u->b≠a:=fun b u e z=>by rw [z,f.1] at e;cases e
 have nL:X.env.locals≠a:=fun z=>by
  obtain ⟨ob,vs,e,hd⟩:=fl;obtain ⟨m,⟨o',es,ep,e',hd',_⟩,_⟩:=I.loc;rw [z,e] at e';cases e';rw [hd] at hd';cases hd'
 have nC:∀ x k,X.env.cells.lookup x=some k->k≠a:=fun x k q z=>by
  obtain ⟨ob,vs,e,hd⟩:=fl;obtain ⟨v,o',e',hd'⟩:=I.cell x k q;rw [z,e] at e';cases e';rw [hd] at hd';cases hd'
 refine ⟨I.ok,I.os,I.bare,⟨I.base.keep,I.base.slot,fun b ob e n hx=>?_,I.base.there,fun b xs e=>?_,fun b ob u e=>?_,fun b ps e=>?_⟩,I.loc,I.cell,?_,fun x k q=>?_,fun p hp=>?_,fun b u e=>?_,I.len⟩
 ·have hb:b≠a:=fun z=>by
   subst z;exact hx (f.2.1 ob e)
  rw [Aj hb];exact I.base.free b ob e n hx
 ·have:=I.base.tups b xs e;rw [Aj (ne b _ this)];exact this
 ·have:=I.base.frzs b ob u e;rw [Aj (ne b _ this)];exact this
 ·obtain ⟨m,z⟩:=I.base.tbls b ps e;exact ⟨m,by rw [Aj (ne b _ z)];exact z⟩
 ·rw [Aj nL];exact I.free
 ·rw [Aj (nC x k q)];exact I.freeC x k q
 ·obtain ⟨e,n,n2,nf,d⟩:=I.pin p hp;rw [qzA] at hp;exact ⟨e,by rw [Aj (f.2.2 p hp)];exact n,n2,nf,d⟩
 ·by_cases hb:b=a
  ·subst hb;rw [AQ] at e;cases e;exact new
  ·rw [Aj hb] at e;exact (I.hok b u e).stay (fun c v _ q=>q) (fun c q=>by rw [Aj (ne c _ q)];exact q) fun c xs q=>by rw [Aj (ne c _ q)];exact q
theorem ps_try {x n:Str}{C0:Addr}{i:Nat}{body:List Stmt}{b₀:Stmt}{suite:List Stmt}{tb:(St->XK)->TS}{th:TS}{np hpos pos:Pos}
  (hst:X.stack=X.env::X.outer) (hfm:X.env.frame=some X.env.locals) (hx:Gl X x) (hm:X.mg x=some (.ref C0)) (hN:X.N.Nodup) (hi:X.N[i]? = some n) (hl:X.env.scope.names.lookup n=some .local)
  (hb:∀ pn' xe' E,Lets (X.tr pn' xe') E->PSs (X.tr pn' xe') body (tb E)) (hh:∀ pn' ea,PSs (X.han pn' ea) (b₀::suite) th) (hd:(x == ("__debug__" : Str))=false:=by decide) :
  PS X (.Try body [.ExceptHandler (some (.Name x np)) (some n) (b₀::suite) hpos] [] [] pos) (tTry X.K C0 i tb th):=by
 intro pins s σ H D I h;refine wpAny_Try_except ?_
 let Eh:St->XK:=fun σ' cls _ H'=>PySem.W.exmOne X.K cls (.ref C0)=some true/\∀ ea,H' ea=none->th (gone i D) (σ'.set i (some (.ref ea))) (upd H' ea (Exo ea cls))
 let xt:Value->Shared->Prop:=fun ev s'=>∃ σ' H' ea cls,ev = .ref ea/\Inv X pins σ' H' s'/\ExA (Fr0 (X.tr (X.pn++pins) fun _ _=>False) H') s'.heap ea cls/\Eh σ' cls none H'
 have hL:Lets (X.tr (X.pn++pins) xt) Eh:=fun σ' H' s' ea cls I' xa q=>⟨σ',H',ea,cls,rfl,I'.ofTr,xa,q⟩;refine wpAny_mono (hb (X.pn++pins) xt Eh hL [] s σ H D I.toTr h) (fun f s1 hs=>?_) fun ev s1 hx1=>?_
 ·have hs:=hs.ofTr
  cases f with
  | next =>
   obtain ⟨σ',H',I',q⟩:=hs;exact wpAny_execs_nil ⟨σ',H',I',q⟩
  | brk=>exact hs
  | cont=>exact hs
  | ret u=>exact hs
 ·obtain ⟨σ',H',ea,cls,rfl,I1,xa,hm1,hq⟩:=hx1;have J1:Inv (X.tr (X.pn++pins) fun _ _=>False) [] σ' H' s1:=I1.toTr;refine LL (env:=X.env) (outer:=X.outer) (base:=X.base) (by rw [I1.ok.frames,hst]) (by have:=I1.stack;rwa [hst] at this) hfm hfm xa (fun b hb=>J1.newS hb) fun h2 c hc ch _ x2=>?_;rw [<- hst] at ch;have J2:=J1.chg hc ch;refine Gk (fr:=frs X.stack) (s:={ s1 with heap:=h2 }) x2 fun h3 d hd3 ch3 _ x3=>?_;have J3:=J2.chg hd3 ch3;have I3:Inv X pins σ' H' { s1 with heap:=h3 }:=J3.ofTr;have G3:Inv (X.han (X.pn++pins) ea) [] σ' H' { s1 with heap:=h3 }:=I3.toHan;refine wpAny_handleBy_cons (codeAny_handlers_test (HK G3 hx hm ?_ hd)) (by intro q;cases q);obtain ⟨oe,vs,he,hcls,_⟩:=x3.2.choose_spec.2.2.1;have LT:PySem.W.Looks (model X.prog X.w) h3 (typeOf (.ref ea)) cls:=hcls ▸ (PySem.W.Looks.ld he).andThen .now;refine (PySem.W.exm_one (M:=model X.prog X.w) (h:=h3) I3.kIn LT hm1).here ?_;rw [if_pos rfl];refine codeAny_handlers_suite_as ?_;refine Gk (fr:=frs X.stack) (s:={ s1 with heap:=h3 }) x3 fun h4 d4 hd4 ch4 _ x4=>?_;have J4:=J3.chg hd4 ch4;have I4:Inv X pins σ' H' { s1 with heap:=h4 }:=J4.ofTr;have G4:Inv (X.han (X.pn++pins) ea) [] σ' H' { s1 with heap:=h4 }:=I4.toHan;obtain ⟨oe4,vs4,he4,hcls4,hd4',_,hdi4⟩:=x4.2.choose_spec.2.2.1;have G4:Inv (X.han (X.pn++pins) ea) [] σ' (upd H' ea (Exo ea cls)) { s1 with heap:=h4 }:=G4.track x4.1 ⟨_,_,he4,hd4'⟩ ⟨⟨_,_,he4,hcls4,hdi4,hd4'⟩,⟨_,he4⟩,fun h1 h2 ⟨ob,vs,e1,e2⟩ k=>⟨ob,vs,k ob e1,e2⟩⟩;refine Gp (X:=X.han (X.pn++pins) ea) (v:=V.ref ea) G4 (i:=i) hN hi (.inl hl) rfl (fun s5 G5=>?_) (.inr hl);refine wpAny_mono (hh (X.pn++pins) ea [] s5 _ _ (gone i D) G5 (hq ea x4.1.1)) (fun f s6 h6=>?_) fun _ _ z=>False.elim z;show wpAny _ X.A (do bindName X.env n .none;unbindBehindTheSuite X.env n hpos) (fun _ s₃=>SP X pins D f s₃) X.xe s6
  cases f with
  | next =>
   obtain ⟨σ6,H6,G6,q6⟩:=h6;exact (G6.ofHan I.ok).gone hN hi hl fun s7 I7=>⟨_,H6,I7,q6⟩
  | brk =>
   obtain ⟨σ6,H6,G6,q6⟩:=h6;exact (G6.ofHan I.ok).gone hN hi hl fun s7 I7=>⟨_,H6,I7,q6⟩
  | cont =>
   obtain ⟨σ6,H6,G6,q6⟩:=h6;exact (G6.ofHan I.ok).gone hN hi hl fun s7 I7=>⟨_,H6,I7,q6⟩
  | ret u =>
   obtain ⟨v,σ6,H6,G6,r6,q6⟩:=h6;exact (G6.ofHan I.ok).gone hN hi hl fun s7 I7=>⟨v,_,H6,I7,r6,q6⟩
end
end L2
namespace L2
open PySem PySem.Spec PyProof.Rows PySem.W
structure XKit (K:Frag)(D:Addr):Prop where
 cl:(clsIn K D).isSome=true
 ga:findIn K (.ref D) "__getattribute__" = some (some (.builtin "BaseException.__getattribute__"))
 gn:findIn K (.ref D) "__getattr__" = some none
 ca:findIn K (.ref D) "__class__" = some (some (.builtin "object.__class__"))
 hn:specialIn K (.builtin "object.__class__") "__get__" = some (some (.builtin "getset_descriptor.__get__"))
 tk:takesIn K (.builtin "object.__class__")=some true
 mo:mroIn K D (.type "object")=some true
 mb:mroIn K D (.type "BaseException")=some true
section
variable {prog:Program}{w:World}{K:Frag}{A:Around}{E:Value->Shared->Prop}{s:Shared}{x D:Addr}{ox:Obj}
theorem O7 {nameV:Value}{Q:Unit->Shared->Prop}(Z:XKit K D)(X:K.In s.heap)(I:InstAt s.heap x ox D none)(hq:Q () s) :
  wpAny (model prog w) A (checkBuiltinCall "BaseException.__getattribute__" ⟨[.ref x,nameV],[]⟩) Q E s:=by
 have hk:builtinKind "BaseException.__getattribute__" = some .slot:=by decide +kernel
 have hsplit:splitId "BaseException.__getattribute__" = some ("BaseException","__getattribute__"):=by decide +kernel
 have ha:=F.args_bexc_ga (.ref x) nameV;obtain ⟨hh,g,d,t,os⟩:=s;have L0:=I.type (M:=model prog w);have L1:=looks_mroIn (M:=model prog w) X Z.mb;simp only [checkBuiltinCall,hk,hsplit];refine qbA ?_;unfold isInstance
 repeat (any_goals (first|assumption|lk|wp_step))
theorem exc_ca {Q:Option Value->Shared->Prop}(Z:XKit K D)(X:K.In s.heap)(I:InstAt s.heap x ox D none)(h:Q (some (.ref D)) { s with toks:=s.toks+1 }):wpAny (model prog w) A (getAttr? (.ref x) "__class__") Q E s:=by
 have hf:findObj K D none "__class__" = some (.bind (.builtin "getset_descriptor.__get__") (.builtin "object.__class__")):=by
  obtain ⟨cd,hc⟩:=Option.isSome_iff_exists.mp Z.cl;unfold findObj;rw [hc,Option.bind_some,Z.ca,Option.bind_some];simp [Z.hn,Z.tk]
 obtain ⟨hh,g,d,t,os⟩:=s;have L0:=I.type (M:=model prog w);have L1:=looks_findIn (M:=model prog w) X Z.ga;have L2:=looks_findIn (M:=model prog w) X Z.gn;unfold getAttr? getAttrBy? getAttrBy;refine qbA (wpAny_mkText (qbA (wpAny_attempt (wpAny_holding (qbA (L0.at (qbA (L1.at ?_))))))));show wpAny _ _ (getAttrByItsOwn _ _ _ _ _ _) _ _ _;unfold getAttrByItsOwn;refine qbA (L2.at ?_);refine qbA (wpAny_attempt (wpAny_holding ?_));show wpAny _ _ (boundAndCalled _ _ _) _ _ _;unfold boundAndCalled;refine qbA (wpAny_of_eq (F.excAttr_ValueError.ga.bind (.ref x)) ?_);show wpAny _ _ (call (.builtin "BaseException.__getattribute__") [.ref x,.str "__class__" t]) _ _ _;refine wpAny_call (codeAny_call_builtin F.excAttr_ValueError.ga.plain F.entry_bexc_ga (O7 Z X I ?_));have X':K.In (⟨hh,g,d,t+1,os⟩:Shared).heap:=X;have I':InstAt (⟨hh,g,d,t+1,os⟩:Shared).heap x ox D none:=I;have L3:=looks_find (M:=model prog w) X I hf;unfold Builtin.«object.__getattribute__»
 repeat (any_goals (first|assumption|lk|wp_step))
 refine wpAny_run ?_;refine class_get (s:=⟨hh,g,d,t+1,os⟩) (od:=none) X' I' Z.mo ?_;exact qcA (qcA (handed_on rfl (qcA h)))
end
section
variable {K:FZ9}{x D:Addr}
def ExAt (x D:Addr)(h:Heap):Prop:=∃ ox vs,h.get? x=some ox/\ox.cls = .ref D/\ox.dict=none/\ox.data = .fields vs
theorem ExAt.inst {h:Heap}(e:ExAt x D h):∃ ox,PySem.W.InstAt h x ox D none:=by
 obtain ⟨⟨c,d,dt,sl⟩,vs,e1,e2,e3,e4⟩:=e;dsimp only at e2 e3 e4;subst e2 e3 e4;exact ⟨_,e1,rfl,rfl,trivial⟩
theorem Lr (Z:XKit K D):PySem.W.KitX K (.ref x) (.ref D) (ExAt x D) where
 ty:=fun _ _ _ p=>by
  obtain ⟨ox,I⟩:=p.inst;exact I.type
 it:=fun _ _ X _=>by
  obtain ⟨cd,hc⟩:=Option.isSome_iff_exists.mp Z.cl;unfold PySem.W.clsIn at hc;split at hc
  ·rename_i c' d' cd' sl' ho;intro A' Q' E' s' k q;unfold isType loadHead;exact qbA (wpAny_loadPart (k _ _ (X _ _ ho)) (qcA q))
  ·cases hc
 ne:=fun h tp dd its n sl X htp=>by
  obtain ⟨cd,hc⟩:=Option.isSome_iff_exists.mp Z.cl;refine Bool.eq_false_iff.mpr fun q=>?_;have e:D=tp:=Value.ref.inj (beq_iff_eq.mp q);subst e;unfold PySem.W.clsIn at hc;split at hc
  ·rename_i c' d' cd' sl' ho;have z:=(X _ _ ho).symm.trans htp;cases z
  ·cases hc
 ca:=fun X p k=>by
  obtain ⟨ox,I⟩:=p.inst;exact exc_ca Z X I k
end
def rInstX (K:FZ9):List V->Hp->VK->Prop:=fun vs H Q=>∃ ea D b c u,vs=[.ref ea,c]/\H ea=some (Exo ea (.ref D))/\XKit K D/\(∀ z,RelV c z->z=u)/\PySem.W.kitOne K (.ref D) u=some b/\Q (.bl b) H
theorem Cq {X:Cx}{K:FZ9}(h:X.K=K):De X (.builtin "isinstance") (rInstX K):=by
 subst h;intro pins s σ H xs us Q I rv q;obtain ⟨ea,D,b,c,u,rfl,he,Z,hc,hk,q⟩:=q
 cases rv with
 | cons r1 rv=>cases rv with
  | cons r2 rv=>cases rv with
   | nil =>
    obtain rfl:=hc _ r2;rename_i w1 _;have e1:w1=Value.ref ea:=r1;subst e1;obtain ⟨p,_⟩:=I.hok ea _ he;exact PySem.W.kia_one (Lr Z) I.kIn p hk (fun z=>nomatch z) fun tk=>⟨.bl b,H,I.tok tk,rfl,q⟩
structure DefE (P:Program)(w:World)(K:FZ9)(mg:Str->Option Value)(base:Heap)(x:Str)(k:Nat)(ps:List Str)(sp:Sp):Prop where
 ex:∃ f fd,FnOk P w K mg base (CXE P w) k f fd ps sp/\mg x=some (.ref f)/\qrB K (.ref f)=true/\Binds K fd ps []
def tCallS (sp:Sp)(E:St->XK)(t:TA):TE:=fun σ H Q=>t σ H fun vs H1=>sp vs H1 Q (E σ)
section
variable {X:Cx}{x:Str}{k j:Nat}{ps:List Str}{sp:Sp}{e:Expr}{es:List Expr}{t:TA}{p pos:Pos}{E:St->XK}
theorem LD (F:DefE X.prog X.w X.K X.mg X.base x k ps sp)(hr:Room j X.A)(hj:k<=j)(hg:Gl X x)(L:Lets X E)(ha:PA X (e::es) t)(hdb:(x == ("__debug__" : Str))=false:=by decide)
  (he:starEach (e::es) X.env=(false,eval e X.env)::starEach es X.env:=by rfl) (hpl:(backTo pos (starEach es X.env)).any (·.1)=false:=by rfl) :
  PE X (.Call (.Name x p) (e::es) [] pos) (tCallS sp E t):=by
 obtain ⟨f,fd,G,m,kp,b⟩:=F.ex;intro pins s σ H Q I h;refine wpAny_Call_Name_kw (HK I hg m ?_ hdb);refine PySem.W.callWith_K (h₀:=X.base) I.ok.mod.kin kp (thn (ha pos pins s σ H _ I h) fun us s1 ⟨vs,H1,I1,r,q⟩=>⟨I1.kIn,?_⟩) he hpl;have hl:us.length=ps.length:=by rw [<- r.length];exact G.len _ _ _ _ q
 have bb:=b s1 us I1.kIn (by rw [qzA];exact hl);rw [qzA] at bb;refine wpAny_call (codeAny_mono (G.run X.A X.stack s1 H1 ⟨us,[]⟩ us vs Q (E σ) (hr.mono hj) I1.env0 bb r q) fun r' s' hq=>?_)
 cases r' with
 | error e=>exact L.passes pins σ H1 s1 e s' I1 hq
 | ok fl =>
  cases fl with
  | ret u=>exact I1.after hq
  | next=>exact False.elim hq
  | brk=>exact False.elim hq
  | cont=>exact False.elim hq
end
theorem DIn.okE {P:Program}{w:World}{K:FZ9}{mg:Str->Option Value}{base:Heap}{x:Str}{st:Stmt}{N ps:List Str}{k:Nat}{sp:Sp}(Z:DIn K mg x st)(S:FnScope N ps (AJ st))(b:BnO x st ps)(len:∀ vs H Q E,sp vs H Q E->vs.length=ps.length)
  (hbody:∀ (f:Addr) (cdv:Value) (A:Around) (outer:List Env) (s:Shared) (H:Hp) (vs:List V) (Q:VK) (E:XK),Room k (A.deeper (envOfC x (AJ st) s.heap.objs.size f cdv))->sp vs H Q E ->
   ∃ t,PSs (Hi (CXE P w) P w K mg base N x (AJ st) f cdv A outer s H E) (C2 st) t/\t { nx:=fun _ H'=>Q .non H',rt:=Q } (start N vs) H):DefE P w K mg base x (k+1) ps sp:=by
 obtain ⟨f,fd,a,F⟩:=Z.ex;have bb:=F.binds b;obtain ⟨oc,od,kV,doc,pm,an,cdv,ct,osl,rfl,lk,hcd⟩:=F.ex;exact ⟨f,_,fn_of lk hcd S len fun A outer s H vs Q E hr hsp=>hbody f cdv A outer s H vs Q E hr hsp,a,F.kp,bb⟩
theorem DefE.to0 {P:Program}{w:World}{K:FZ9}{mg:Str->Option Value}{base:Heap}{x:Str}{ps:List Str}{k:Nat}{sp sp':Sp}(D:DefE P w K mg base x k ps sp)(h:∀ vs H Q E,sp' vs H Q E->sp vs H Q E0):DefOk P w K mg base x k ps sp':=by
 obtain ⟨f,fd,G,m,kp,b⟩:=D.ex;refine ⟨f,fd,⟨fun vs H Q E q=>G.len _ _ _ _ (h _ _ _ _ q),fun A outer s H args us vs Q E hr he hb hv hs=>codeAny_mono (G.run A outer s H args us vs Q E0 hr he hb hv (h _ _ _ _ hs)) fun r s' hq=>?_⟩,m,kp,b⟩
 cases r with
 | error e =>
  obtain ⟨_,_,_,_,_,_,_,_,_,z⟩:=hq;exact z.elim
 | ok fl=>cases fl<;>exact hq
def NM {ρ:Type}(r:Except Str ρ)(P:ρ->Prop)(R:Str->Prop):Prop:=match r with
 | .ok b=>P b
 | .error n=>R n
section
variable {K:FZ9}{mg:Str->Option Value}{σ:St}{G H:Hp}{α β:Type}[Rp α][Rp β]{te t0:TE}{E:St->XK}
def Raises (mg:Str->Option Value)(E:XK)(nm:Str)(G H:Hp):Prop:=∀ D G2 H2,mg nm=some (.ref D)->Ext G H G2 H2->E (.ref D) none H2
def spX (K:FZ9)(mg:Str->Option Value){A:Type}[RpA A]{ρ:Type}[Rp ρ](m:A->Option (Except Str ρ)):Sp:=fun vs H Q E =>
 ∃ G a r,Same G H/\RpA.rel K G vs a/\m a=some r/\NM r (fun b=>∀ v G2 H2,Ext G H G2 H2->Rp.rel K G2 v b->Q v H2) fun nm=>Raises mg E nm G H
theorem NY {A:Type}[RpA A]{ρ:Type}[Rp ρ]{m:A->Option (Except Str ρ)}{vs:List V}{H:Hp}{Q:VK}{E:XK}(h:spX K mg m vs H Q E):vs.length=RpA.n A:=by
 obtain ⟨G,a,r,_,h,_⟩:=h;exact RpA.len h
def EVX (K:FZ9)(mg:Str->Option Value)(E:St->XK){α:Type}[Rp α](te:TE)(σ:St)(G:Hp)(m:Option (Except Str α)):Prop :=
 ∀ G1,Same G G1->∀ r,m=some r->∀ H,Same G1 H->∀ Q:VK,NM r (fun a=>∀ v G2 H2,Ext G1 H G2 H2->Rp.rel K G2 v a->Q v H2) (fun nm=>Raises mg (E σ) nm G1 H)->te σ H Q
theorem Raises.pre {E:XK}{nm:Str}{G1 H1:Hp}(r:Raises mg E nm G H)(x:Ext G H G1 H1):Raises mg E nm G1 H1:=fun D G2 H2 h y=>r D G2 H2 h (x.trans y)
theorem NG {m:Option (Except Str α)}{r:Except Str α}{rest:TS}{D:Ends}(e:EVX K mg E te σ G m)(hm:m=some r)(s:Same G H)(k:NM r (fun _=>∀ G2 H2,Ext G H G2 H2->rest D σ H2) fun nm=>Raises mg (E σ) nm G H):CG (K4 te) rest D σ H:=by
 refine e G (.refl G) r hm H s _ ?_
 cases r with
 | ok b=>exact fun v G2 H2 x _=>k G2 H2 x
 | error nm=>exact k
end
theorem EJ {a:Addr}:∀ z,RelV (.ref a) z->z = .ref a:=fun _ h=>h
theorem rel_ty {T:String}:∀ z,RelV (.ty T) z->z = .type T:=fun _ h=>h
theorem own_in {K:FZ9}{h:Heap}{mg:Str->Option Value}{x:Str}{C:Addr}{bm:List Value}{newId:String}(X:K.In h)(G:h.Ns mainGlobals mg)(e:qpB K mainGlobals x=some (some (.ref C)))(q:PySem.W.excIn K C bm newId=true):OwnCls x C bm newId mg h:=by
 refine ⟨qqB X G e,?_⟩;unfold PySem.W.excIn at q;split at q
 case h_2=>cases q
 rename_i dd cd sl ho;split at q
 case h_2=>cases q
 rename_i C' tl k0 k1 k2 k3 n k5 hm hs;simp only [qzB,beq_iff_eq,Bool.not_eq_true'] at q;obtain ⟨⟨⟨⟨⟨rfl,rfl⟩,hdel⟩,ht⟩,hok⟩,hni⟩:=q;obtain ⟨nm,bs,mro,ns,qn,hd,sn,sub,ab,col,del⟩:=cd;dsimp only at hm hdel hok hni;subst hm hdel;obtain ⟨l⟩:=sl;simp only at hs;subst hs;exact ⟨tl,ns,nm,qn,bs,hd,sn,sub,ab,col,dd,k0,k1,k2,k3,k5,_,X _ _ ho,.of_isNs (PySem.W.isNs_of_in X hok),PySem.W.nsMap_none_of_in X hok hni,PySem.W.tail_of_in X ht⟩
theorem Jf:bootBuiltins "ValueError" = some (.type "ValueError"):=by decide +kernel
def XKits (K:FZ9)(D:Addr):Prop:=(∃ cd,PySem.W.clsIn K D=some cd)/\PySem.W.findIn K (.ref D) "__getattribute__" = some (some (.builtin "BaseException.__getattribute__"))/\PySem.W.findIn K (.ref D) "__getattr__" = some none /\
 PySem.W.findIn K (.ref D) "__class__" = some (some (.builtin "object.__class__"))/\PySem.W.specialIn K (.builtin "object.__class__") "__get__" = some (some (.builtin "getset_descriptor.__get__"))/\PySem.W.takesIn K (.builtin "object.__class__")=some true /\
 PySem.W.mroIn K D (.type "object")=some true/\PySem.W.mroIn K D (.type "BaseException")=some true
theorem XKits.to {K:FZ9}{D:Addr}(h:XKits K D):XKit K D :=
 let ⟨⟨cd,h1⟩,h2,h3,h4,h5,h6,h7,h8⟩:=h
 ⟨by rw [h1];rfl,h2,h3,h4,h5,h6,h7,h8⟩
inductive Th where
 | g (n:Nt)
 | b (d:D)
instance rpTh:Rp Th:=⟨fun K H v a=>match a with
 | .g n=>Rp.rel K H v n
 | .b d=>Rp.rel K H v d,fun {K H1 H2 v a} s h=>by
  cases a with
  | g n=>exact Rp.mono (α:=Nt) s h
  | b d=>exact Rp.mono (α:=D) s h⟩
def Th.toD:Th->D
 | .g n=>ToD.to n
 | .b d=>d
instance tdTh:ToD Th:=⟨Th.toD,fun {K H v a} h=>by
 cases a with
 | g n=>exact ToD.rel (α:=Nt) h
 | b d=>exact h⟩
def asNT:Th->Option Nt
 | .g n=>some n
 | .b _=>none
section
variable {K:FZ9}{σ:St}{G H:Hp}{ta tb te tk:TE}{α:Type}[Rp α]{rest:TS}{D:Ends}{i:Nat}
theorem Fx {m:Option Nt}(e:EV K te σ G m):EV K te σ G (m.bind fun x=>some (Th.g x)):=by
 clear 7;obtain ⟨x,hx,hc⟩:=qaA.mp hc;cases hc;exact e G1 s1 x hx H sH Q fun v G2 H2 x2 r=>k v G2 H2 x2 r
theorem ev_thB {m:Option L2.D}(e:EV K te σ G m):EV K te σ G (m.bind fun x=>some (Th.b x)):=by
 clear 7;obtain ⟨x,hx,hc⟩:=qaA.mp hc;cases hc;exact e G1 s1 x hx H sH Q fun v G2 H2 x2 r=>k v G2 H2 x2 r
theorem ev_asNT {m:Option Th}(e:EV K te σ G m):EV K te σ G (m.bind fun x=>asNT x):=by
 clear 7;obtain ⟨x,hx,hc⟩:=qaA.mp hc
 cases x with
 | b d=>cases hc
 | g n =>
  cases hc;exact e G1 s1 _ hx H sH Q fun v G2 H2 x2 r=>k v G2 H2 x2 r
end
def rInstT (K:FZ9):List V->Hp->VK->Prop:=fun vs H Q=>∃ ea D b tp cs us,vs=[.ref ea,.ref tp]/\H ea=some (Exo ea (.ref D))/\XKit K D/\H tp=some (.tup cs)/\(∀ zs,Vals cs zs->zs=us)/\PySem.W.kitAny K (.ref D) us=some b/\Q (.bl b) H
theorem MQ {X:Cx}{K:FZ9}(h:X.K=K):De X (.builtin "isinstance") (rInstT K):=by
 subst h;intro pins s σ H xs us Q I rv q;obtain ⟨ea,D,b,tp,cs,us,rfl,he,Z,ht,hc,hk,q⟩:=q
 cases rv with
 | cons r1 rv=>cases rv with
  | cons r2 rv=>cases rv with
   | nil =>
    rename_i w1 w2;have e1:w1=Value.ref ea:=r1;have e2:w2=Value.ref tp:=r2;subst e1 e2;obtain ⟨p,_⟩:=I.hok ea _ he;obtain ⟨_,its,rv,hi⟩:=I.hok tp _ ht;obtain rfl:=hc _ rv;obtain ⟨⟨cls,dd,data,sl⟩,ho,hcl,n,hd⟩:=hi;simp only at hcl hd;subst hcl hd;exact PySem.W.kia_tup (Lr Z) I.kIn p ho hk (fun z=>nomatch z) fun tk=>⟨.bl b,H,I.tok tk,rfl,q⟩
theorem Jz:∀ {as:List Addr}{zs:List Value},Vals (as.map V.ref) zs->zs=as.map Value.ref
 | [],_,.nil=>rfl
 | a::as,_,.cons h t=>by rw [qxA,<- Jz t,show _=Value.ref a from h]
theorem Lq {K:FZ9}{D:Addr}:∀ {as:List Addr},(∀ a∈as,PySem.W.kitOne K (.ref D) (.ref a)=some false)->PySem.W.kitAny K (.ref D) (as.map Value.ref)=some false
 | [],_=>rfl
 | a::as,h=>by
  rw [qxA];unfold PySem.W.kitAny;rw [h a qoA];exact Lq fun b hb=>h b (qpA _ hb)
section
variable {K:FZ9}{mg:Str->Option Value}{σ:St}{G H:Hp}{α:Type}[Rp α]{te t0 t1:TE}{E:St->XK}{i:Nat}
theorem Jc {A0 A1:Type}[Rp A0][Rp A1]{m0:Option A0}{m1:Option A1}{m:A0 × A1 × Unit->Option (Except Str α)}(e0:EV K t0 σ G m0)(e1:EV K t1 σ G m1):EVX K mg E (tCallS (spX K mg m) E (AX t0 (AX t1 Bb))) σ G (m0.bind fun a0=>m1.bind fun a1=>m (a0,a1,())):=by
 clear 7;obtain ⟨a0,ha0,hc⟩:=qaA.mp hc;obtain ⟨a1,ha1,hc⟩:=qaA.mp hc;refine e0 G1 s1 a0 ha0 H sH _ fun v0 G2 H2 x0 r0=>?_;refine e1 G2 (s1.trans x0.gg) a1 ha1 H2 x0.gh _ fun v1 G3 H3 x1 r1=>?_;refine ⟨G3,_,c,x1.gh,⟨v0,_,rfl,Rp.mono x1.gg r0,v1,_,rfl,r1,rfl⟩,hc,?_⟩
 cases c with
 | ok b=>exact fun v G9 H9 x9 r=>k v G9 H9 ((x0.trans x1).trans x9) r
 | error nm=>exact Raises.pre k (x0.trans x1)
end
def rUpper:V->List V->Hp->VK->Prop:=fun v vs H Q=>∃ x,v = .str x/\vs=[]/\x.length<=1000/\((Txt.upper x).length<=3 * x.length->Q (.str (Txt.upper x)) H)
theorem LI {X:Cx}:MtR X "str.upper" rUpper:=by
 intro pins s σ H v vs v' us Q I rx rv h;obtain ⟨x,rfl,rfl,hx,q⟩:=h;obtain ⟨t,rfl⟩:=rx;obtain rfl:=rv.zero;exact SCL.upper (by omega) fun hl=>⟨.str (Txt.upper x),H,I.tok _,⟨_,rfl⟩,q hl⟩
def upO (x:Str):Option Str:=if x.length<=1000 then some (Txt.upper x) else none
def LP:List Str->Option Str
 | [a,b]=>some (if b.cps.toList<a.cps.toList then b else a)
 | _=>none
def Le:List Str->Option Str
 | [a,b]=>some (if a.cps.toList<b.cps.toList then b else a)
 | _=>none
def rMinS (K:FZ9):List V->Hp->VK->Prop:=fun us H Q=>∃ l a b,us=[.ref l]/\SqL K H l [.str a,.str b]/\Q (.str (if b.cps.toList<a.cps.toList then b else a)) H
def rMaxS (K:FZ9):List V->Hp->VK->Prop:=fun us H Q=>∃ l a b,us=[.ref l]/\SqL K H l [.str a,.str b]/\Q (.str (if a.cps.toList<b.cps.toList then b else a)) H
theorem Kg {a b:Str}{its:List Value}(r:Vals [.str a,.str b] its){i:Nat}{v:Value}(h:its.toArray[i]? = some v):∃ t,v = .str (([a,b]:List Str).getD i "") t:=by
 cases r with
 | cons h1 r=>cases r with
  | cons h2 r=>cases r with
   | nil =>
    obtain ⟨t1,rfl⟩:=h1;obtain ⟨t2,rfl⟩:=h2
    match i,h with
    | 0,h=>cases h;exact ⟨t1,rfl⟩
    | 1,h=>cases h;exact ⟨t2,rfl⟩
    | n+2,h=>simp at h
theorem cmp_gt {prog:Program}{w:World}{A:Around}{P:Nat->Value->Prop}(val:Nat->Str)(hval:∀ i v,P i v->∃ t,v = .str (val i) t) :
  CmpOf prog w A .Gt P (fun i j=>decide ((val j).cps.toList<(val i).cps.toList)):=fun i j vi vj s Q E hi hj h=>by
 obtain ⟨t,rfl⟩:=hval i vi hi;obtain ⟨u,rfl⟩:=hval j vj hj;exact richCompare_gives (op:=.Gt) (typeIs_str s _ t) (typeIs_str s _ u) F.slot_str_gt F.entry_str_gt (F.args_str_gt_2 _ _) (gives_str_gt _ _ t u) (fun x=>nomatch x) h
theorem cmp_lt {prog:Program}{w:World}{A:Around}{P:Nat->Value->Prop}(val:Nat->Str)(hval:∀ i v,P i v->∃ t,v = .str (val i) t) :
  CmpOf prog w A .Lt P (fun i j=>decide ((val i).cps.toList<(val j).cps.toList)):=fun i j vi vj s Q E hi hj h=>by
 obtain ⟨t,rfl⟩:=hval i vi hi;obtain ⟨u,rfl⟩:=hval j vj hj;exact richCompare_gives (op:=.Lt) (typeIs_str s _ t) (typeIs_str s _ u) F.slot_str_lt F.entry_str_lt (F.args_str_lt_2 _ _) (gives_str_lt _ _ t u) (fun x=>nomatch x) h
theorem KH {X:Cx}{K:FZ9}(hc:X.calm=true)(h:X.K=K):De X (.builtin "min") (rMinS K):=by
 subst h;intro pins s σ H vs us Q I r h;obtain ⟨l,a,b,rfl,hl,q⟩:=h;obtain ⟨u,rfl,ru⟩:=JC r;cases ru;obtain ⟨its,rv,pl,_⟩:=I.list hl;have hL:=pl.isList;have hlt:l<s.heap.objs.size:=by obtain ⟨_,e,_⟩:=hL;exact qeB e
 have hsz:its.toArray.size=2:=by rw [qoB,<- rv.length];rfl
 refine call_min_walk (wpAny_pyIter_list hL ?_);refine ⟨_,_,_,_,_,_,_,rfl,Walks.list (A:=X.A.in1) (I.ok.hd hc) _ l (quB hlt) its.toArray,⟨⟨_,qgB _ rfl,rfl,rfl⟩,hL.push _⟩,?_,by omega,cmp_lt (fun i=>([a,b]:List Str).getD i "") (fun i v hP=>Kg rv hP),fun v h' tk' hP hk=>?_⟩
 ·intro b hb';have:b=s.heap.objs.size\/b=l:=by simpa using hb'
  rcases this with rfl|rfl
  ·exact qeB (qgB _ rfl)
  ·exact Nat.lt_trans hlt (qeB (qgB _ rfl))
 ·obtain ⟨t,rfl⟩:=Kg rv hP;rw [hsz];refine ⟨.str (if b.cps.toList<a.cps.toList then b else a),H,I.kept fun b o eb=>?_,⟨t,?_⟩,q⟩
  ·refine hk b o (fun hm=>?_) (qfB _ eb);have:b=s.heap.objs.size:=by simpa using hm
   exact absurd (this ▸ qeB eb) (qcB _)
  ·congr 1
   show ([a,b]:List Str).getD (if decide (b.cps.toList<a.cps.toList)=true then 1 else 0) "" = _;by_cases e:b.cps.toList<a.cps.toList
   ·rw [if_pos (decide_eq_true e),if_pos e];rfl
   ·rw [if_neg (fun z=>e (of_decide_eq_true z)),if_neg e];rfl
theorem K9 {X:Cx}{K:FZ9}(hc:X.calm=true)(h:X.K=K):De X (.builtin "max") (rMaxS K):=by
 subst h;intro pins s σ H vs us Q I r h;obtain ⟨l,a,b,rfl,hl,q⟩:=h;obtain ⟨u,rfl,ru⟩:=JC r;cases ru;obtain ⟨its,rv,pl,_⟩:=I.list hl;have hL:=pl.isList;have hlt:l<s.heap.objs.size:=by obtain ⟨_,e,_⟩:=hL;exact qeB e
 have hsz:its.toArray.size=2:=by rw [qoB,<- rv.length];rfl
 refine call_max_walk (wpAny_pyIter_list hL ?_);refine ⟨_,_,_,_,_,_,_,rfl,Walks.list (A:=X.A.in1) (I.ok.hd hc) _ l (quB hlt) its.toArray,⟨⟨_,qgB _ rfl,rfl,rfl⟩,hL.push _⟩,?_,by omega,cmp_gt (fun i=>([a,b]:List Str).getD i "") (fun i v hP=>Kg rv hP),fun v h' tk' hP hk=>?_⟩
 ·intro b hb';have:b=s.heap.objs.size\/b=l:=by simpa using hb'
  rcases this with rfl|rfl
  ·exact qeB (qgB _ rfl)
  ·exact Nat.lt_trans hlt (qeB (qgB _ rfl))
 ·obtain ⟨t,rfl⟩:=Kg rv hP;rw [hsz];refine ⟨.str (if a.cps.toList<b.cps.toList then b else a),H,I.kept fun b o eb=>?_,⟨t,?_⟩,q⟩
  ·refine hk b o (fun hm=>?_) (qfB _ eb);have:b=s.heap.objs.size:=by simpa using hm
   exact absurd (this ▸ qeB eb) (qcB _)
  ·congr 1
   show ([a,b]:List Str).getD (if decide (a.cps.toList<b.cps.toList)=true then 1 else 0) "" = _;by_cases e:a.cps.toList<b.cps.toList
   ·rw [if_pos (decide_eq_true e),if_pos e];rfl
   ·rw [if_neg (fun z=>e (of_decide_eq_true z)),if_neg e];rfl
inductive Tr where
 | g (r:List Str × List Str)
 | b (d:D)
instance rpTr:Rp Tr:=⟨fun K H v a=>match a with
 | .g n=>Rp.rel K H v n
 | .b d=>Rp.rel K H v d,fun {K H1 H2 v a} s h=>by
  cases a with
  | g n=>exact Rp.mono (α:=List Str × List Str) s h
  | b d=>exact Rp.mono (α:=D) s h⟩
def Tr.toD:Tr->D
 | .g n=>ToD.to n
 | .b d=>d
instance tdTr:ToD Tr:=⟨Tr.toD,fun {K H v a} h=>by
 cases a with
 | g n=>exact ToD.rel (α:=List Str × List Str) h
 | b d=>exact h⟩
def asRT:Tr->Option (List Str × List Str)
 | .g n=>some n
 | .b _=>none
structure ExN where
 nm:Str
instance rpExN:Rp ExN:=⟨fun K H v e=>∃ ea D,v = .ref ea/\H ea=some (Exo ea (.ref D))/\qpB K mainGlobals e.nm=some (some (.ref D)),
 fun s ⟨ea,D,e,h,n⟩=>⟨ea,D,e,s _ _ h,n⟩⟩
theorem nn_exn {K:FZ9}{G:Hp}{v:V}{a:ExN}(h:Rp.rel K G v a):v ≠ .non:=by
 obtain ⟨ea,D,rfl,_⟩:=h;exact fun z=>nomatch z
section
variable {K:FZ9}{σ:St}{G H:Hp}{ta tb te:TE}
theorem MA {m:Option Str}(e:EV K te σ G m):EV K (tBM0 K "str" rUpper te) σ G (m.bind fun x=>upO x):=by
 clear 7;obtain ⟨x,hx,hc⟩:=qaA.mp hc;obtain ⟨hl,rfl⟩:=BC hc;clear 8 e x hx;obtain ⟨rfl,_⟩:=r2;have hs:sizeLine=16777216:=qhB;exact ⟨rfl,x,rfl,rfl,hl,fun h3=>k _ _ _ x2 ⟨rfl,by omega⟩⟩
theorem NJ {m:Option (List Str)}(e:EV K te σ G m):EV K (tCB (rMinS K) (AX te Bb)) σ G (m.bind fun l=>LP l):=by
 clear 7;obtain ⟨l,hl,hc⟩:=qaA.mp hc;clear 8 e l hl
 match l,hc,r2 with
 | [a,b],hc,r2 =>
  cases hc;obtain ⟨p,xs,rfl,h,z,pr⟩:=r2
  cases pr with
  | cons h1 pr=>cases pr with
   | cons h2 pr=>cases pr with
    | nil =>
     obtain ⟨rfl,z1⟩:=h1;obtain ⟨rfl,z2⟩:=h2;refine ⟨p,a,b,rfl,.inl (x2.gh.rd h),k _ _ _ x2 ⟨rfl,?_⟩⟩;split
     ·exact z2
     ·exact z1
theorem NL {m:Option (List Str)}(e:EV K te σ G m):EV K (tCB (rMaxS K) (AX te Bb)) σ G (m.bind fun l=>Le l):=by
 clear 7;obtain ⟨l,hl,hc⟩:=qaA.mp hc;clear 8 e l hl
 match l,hc,r2 with
 | [a,b],hc,r2 =>
  cases hc;obtain ⟨p,xs,rfl,h,z,pr⟩:=r2
  cases pr with
  | cons h1 pr=>cases pr with
   | cons h2 pr=>cases pr with
    | nil =>
     obtain ⟨rfl,z1⟩:=h1;obtain ⟨rfl,z2⟩:=h2;refine ⟨p,a,b,rfl,.inl (x2.gh.rd h),k _ _ _ x2 ⟨rfl,?_⟩⟩;split
     ·exact z2
     ·exact z1
theorem J9 {m:Option (List Str × List Str)}(e:EV K te σ G m):EV K te σ G (m.bind fun x=>some (Tr.g x)):=by
 clear 7;obtain ⟨x,hx,hc⟩:=qaA.mp hc;cases hc;exact e G1 s1 x hx H sH Q fun v G2 H2 x2 r=>k v G2 H2 x2 r
theorem ev_trB {m:Option L2.D}(e:EV K te σ G m):EV K te σ G (m.bind fun x=>some (Tr.b x)):=by
 clear 7;obtain ⟨x,hx,hc⟩:=qaA.mp hc;cases hc;exact e G1 s1 x hx H sH Q fun v G2 H2 x2 r=>k v G2 H2 x2 r
theorem ev_asRT {m:Option Tr}(e:EV K te σ G m):EV K te σ G (m.bind fun x=>asRT x):=by
 clear 7;obtain ⟨x,hx,hc⟩:=qaA.mp hc
 cases x with
 | b d=>cases hc
 | g n =>
  cases hc;exact e G1 s1 _ hx H sH Q fun v G2 H2 x2 r=>k v G2 H2 x2 r
theorem Ci {nm:Str}{D:Addr}{c:V}{u:Value}{b:Bool}(hn:qpB K mainGlobals nm=some (some (.ref D)))(Z:XKit K D)(hk:PySem.W.kitOne K (.ref D) u=some b)(hc:∀ z,RelV c z->z=u)(ea:EV K ta σ G (some (ExN.mk nm))):EV K (tCB (rInstX K) (AX ta (AX (tC c) Bb))) σ G (some b):=by
 intro G1 s1 a ha H sH Q k;cases ha;refine ea G1 s1 _ rfl H sH _ fun v G2 H2 x r=>?_;obtain ⟨ex,D',rfl,he,hn'⟩:=r;obtain rfl:D=D':=by have:=hn.symm.trans hn';cases this;rfl
 exact ⟨ex,D,b,c,u,rfl,x.gh _ _ he,Z,hc,hk,k _ G2 H2 x rfl⟩
theorem K5 {nm:Str}{D a1 a2 a3 a4:Addr}(hn:qpB K mainGlobals nm=some (some (.ref D)))(Z:XKit K D)(hk:∀ a∈[a1,a2,a3,a4],PySem.W.kitOne K (.ref D) (.ref a)=some false)(ea:EV K ta σ G (some (ExN.mk nm))) :
  EV K (tCB (rInstT K) (AX ta (AX (Ih (AX (tC (.ref a1)) (AX (tC (.ref a2)) (AX (tC (.ref a3)) (AX (tC (.ref a4)) Bb))))) Bb))) σ G (some false):=by
 intro G1 s1 a ha H sH Q k;cases ha;refine ea G1 s1 _ rfl H sH _ fun v G2 H2 x r=>?_;obtain ⟨ex,D',rfl,he,hn'⟩:=r;obtain rfl:D=D':=by have:=hn.symm.trans hn';cases this;rfl
 refine ⟨by show 4<=sizeLine;decide,fun p hp=>?_⟩;have x3:Ext G2 H2 (upd G2 p (.tup ([a1,a2,a3,a4].map V.ref))) (upd H2 p (.tup ([a1,a2,a3,a4].map V.ref))):=Ext.new x.gh hp;exact ⟨ex,D,false,p,_,_,rfl,x3.hh _ _ (x.gh _ _ he),Z,AQ,fun zs h=>Jz (as:=[a1,a2,a3,a4]) h,Lq hk,k _ _ _ (x.trans x3) rfl⟩
end
theorem Nj {K:FZ9}{σ:St}{G:Hp}{te:TE}{α:Type}[Rp α][ToD α]{m:Option (List α)}(e:FV K te σ G m):FV K te σ G (m.bind fun a=>some (a.map (ToD.to:α->D))):=by
 clear 7;obtain ⟨a,ha,hc⟩:=qaA.mp hc;cases hc;exact e G1 s1 a ha H sH Q fun p vs G2 H2 x h1 h2 h3 h4 pr=>k p vs G2 H2 x h1 h2 h3 h4 (toDs pr)
section
variable {K:FZ9}{σ:St}{G H G1:Hp}{te ti ta tb:TE}{α:Type}[Rp α]{rest:TS}{D:Ends}{i:Nat}{v:V}{p:Addr}{vs:List V}{as:List α}
theorem Of {u:HO}(s:Same G G1):Same (upd G p u) (upd G1 p u):=fun a o h=>by
 by_cases e:a=p
 ·subst e;rw [AQ] at h ⊢;exact h
 ·rw [Aj e] at h ⊢;exact s _ _ h
theorem Lk {a:α}{m:Option α}{mi:Option Int}{k':Int}{as':List α}(hσ:σ[i]? = some (some v))(o:Own K G H v p vs as)(e:EV K te σ G m)(hm:m=some a)(ei:EV K ti σ (upd G p (.lst vs)) mi)(hi:mi=some k')(hs:Ix as k' a=some as')(s:Same G H)
  (k:∀ G2 H2 w j,Ext G H G2 H2->Own K G2 (upd H2 p (.lst (vs.set j w))) v p (vs.set j w) as'->rest D σ (upd H2 p (.lst (vs.set j w)))):CG (FI te (gSub (Ba i) ti rSetL)) rest D σ H:=by
 obtain ⟨j,hj,e'⟩:=qaA.mp hs;cases e';have hlen:=Paired.length o.p;refine e.run hm s fun w G2 H2 x r=>?_;have o2:=o.ext x;refine ⟨v,hσ,?_⟩;refine EV.runB o2 (fun G3 s3=>ei G3 ((Of x.gg).trans s3)) hi x.gh fun u G3 H3 x3 r3=>?_;cases r3;have o3:=o2.ext x3;refine ⟨p,vs,k',j,o3.v,rfl,o3.h,by rw [hlen];exact hj,?_⟩;exact k G3 H3 w j (x.trans x3) ⟨o3.v,o3.g,AQ,by rw [List.length_set];exact o3.z,Paired.st (Rp.mono x3.gg r) j o3.p⟩
def Dk:List L2.D->Option (List Str)
 | []=>some []
 | .str x::l=>(Dk l).bind fun r=>some (x::r)
 | _::_=>none
def Ki (a b:List L2.D):Tr:=match Dk a,Dk b with
 | some x,some y=>.g (x,y)
 | _,_=>.b (.tup [.lst a,.lst b])
theorem Hj:∀ {xs:List V}{ds:List L2.D}{ys:List Str},Paired (Rp.rel (α:=L2.D) K G) xs ds->Dk ds=some ys->Paired (Rp.rel (α:=Str) K G) xs ys
 | _,_,_,.nil,h=>by cases h;exact .nil
 | _,d::ds,_,.cons h t,e=>by
  cases d with
  | str y =>
   obtain ⟨r,hr,e⟩:=qaA.mp e;cases e;refine .cons ?_ (Hj t hr)
   cases (show RelD K G _ (.str y) from h) with
   | str _ z=>exact ⟨rfl,z⟩
  | _=>cases e
theorem ev_trL {ma mb:Option (List L2.D)}(ea:EV K ta σ G ma)(eb:EV K tb σ G mb):EV K (Ih (AX ta (AX tb Bb))) σ G (ma.bind fun a=>mb.bind fun b=>some (Ki a b)):=by
 clear 7;obtain ⟨a,ha,hc⟩:=qaA.mp hc;obtain ⟨b,hb,hc⟩:=qaA.mp hc;cases hc;refine GA ea eb G1 s1 (a,b) (by rw [ha,hb];rfl) H sH Q fun v G2 H2 x r=>k v G2 H2 x ?_;obtain ⟨t,u,w,rfl,ht,⟨l,xs,rfl,hl,zl,pl⟩,⟨l',xs',rfl,hl',zl',pl'⟩⟩:=r;have rb:RelD K G2 (.ref t) (.tup [.lst a,.lst b]):=.tup ht (by show 2<=sizeLine;decide) (Ei (.cons (RelD.lst hl zl (Ei pl)) (.cons (RelD.lst hl' zl' (Ei pl')) .nil)));unfold Ki
 cases h1:Dk a with
 | none=>exact rb
 | some y=>cases h2:Dk b with
  | none=>exact rb
  | some z=>exact ⟨t,_,_,rfl,ht,⟨l,xs,rfl,hl,zl,Hj pl h1⟩,⟨l',xs',rfl,hl',zl',Hj pl' h2⟩⟩
end
def atX {α:Type}(r:Except Str (List α))(i:Int):Option (Except Str α):=match r with
 | .error n=>some (.error n)
 | .ok l=>(atI l i).bind fun x=>some (.ok x)
section
variable {K:FZ9}{mg:Str->Option Value}{σ:St}{G H:Hp}{α:Type}[Rp α]{te:TE}{E:St->XK}
theorem evx_at {m:Option (Except Str (List α))}{i:Int}(e:EVX K mg E te σ G m):EVX K mg E (tOp (rAt K) te (tC (.int i))) σ G (m.bind fun r=>atX r i):=by
 clear 7;obtain ⟨r,hr,hc⟩:=qaA.mp hc;refine e G1 s1 r hr H sH _ ?_
 cases r with
 | error n =>
  cases hc;exact k
 | ok l =>
  obtain ⟨x,hx,hc⟩:=qaA.mp hc;cases hc;intro v G2 H2 x2 r2;have:=BU (K:=K) (σ:=σ) (G:=G2) (ta:=tC v) (tb:=tC (.int i)) (la:=some l) (ib:=some i) (fun G3 s3 a ha H3 sH3 Q3 k3=>by cases ha;exact k3 v G3 H3 (.refl sH3) (Rp.mono s3 r2)) An;exact this G2 (.refl G2) x hx H2 x2.gh Q fun v3 G3 H3 x3 r3=>k v3 G3 H3 (x2.trans x3) r3
theorem sx_ret {m:Option (Except Str α)}{r:Except Str α}{rest:TS}{D:Ends}(e:EVX K mg E te σ G m)(hm:m=some r)(s:Same G H)(k:NM r (fun a=>∀ v G2 H2,Ext G H G2 H2->Rp.rel K G2 v a->D.rt v H2) fun nm=>Raises mg (E σ) nm G H):CG (Jo te) rest D σ H:=by
 refine e G (.refl G) r hm H s _ ?_
 cases r with
 | ok b=>exact fun v G2 H2 x q=>k v G2 H2 x q
 | error nm=>exact k
end
end L2
namespace My
open PySem PySem.Spec PyProof.Rows L2
abbrev BI:List (Str × Int):=[("yes",0),("no",0),("not",1),("next",1),("atlast",1),("always",1),("again",1),("settles",1),("and",2),("or",2),("then",2),("until",2),("frees",2)]
def Cv (AG:Int):Option (List Str) :=
 (some ("abcdefghijklmnopqrstuvwxyz" : Str)).bind fun Ig =>
 (((some Ig).bind fun t7=>(some (AG % (26:Int))).bind fun t8=>(atI t7.cps.toList t8).bind fun z=>some (⟨#[z]⟩:Str)).bind fun t12=>(((some Ig).bind fun t9=>(some (((AG+(1:Int))+((AG / (26:Int)) % (25:Int))) % (26:Int))).bind fun t10=>(atI t9.cps.toList t10).bind fun z=>some (⟨#[z]⟩:Str)).bind fun t11=>(some [t11])).bind fun t13=>(some (t12::t13)))
abbrev HR (x:Int × Unit):Option (List Str):=Cv x.1
def CF (AG:Int)(AN:(List Str)):Option Nt :=
 ((((((some AN).bind fun t1=>(some (AG % (2:Int))).bind fun t2=>atI t1 t2).bind fun t3=>(some (Nt.txt t3))).bind fun t4=>(some [t4])).bind fun t5=>(some ((Nt.txt ("lamp" : Str))::t5))).bind fun t6=>(some (Nt.tup t6))).bind fun one_ =>
 ((((((((((some AN).bind fun t13=>(some (1:Int)).bind fun t14=>atI t13 t14).bind fun t15=>(some (Nt.txt t15))).bind fun t16=>(some [t16])).bind fun t17=>(some ((Nt.txt ("lamp" : Str))::t17))).bind fun t18=>(some (Nt.tup t18))).bind fun t19=>(some [t19,one_])).bind fun t20=>(some ((Nt.tup [(Nt.txt ("no" : Str))])::t20))).bind fun t21=>(some ((Nt.tup [(Nt.txt ("yes" : Str))])::t21))).bind fun t22=>(some ((AG / (2:Int)) % (4:Int))).bind fun t23=>atI t22 t23).bind fun Mj =>
 (some (decide (((AG / (8:Int)) % (3:Int))=(0:Int)))).bind fun b30=>cond b30
  ((some one_))
  ((some (decide (((AG / (8:Int)) % (3:Int))=(1:Int)))).bind fun b40=>cond b40
   (((((some [(Nt.txt ("not" : Str)),(Nt.txt ("next" : Str)),(Nt.txt ("atlast" : Str)),(Nt.txt ("always" : Str)),(Nt.txt ("again" : Str)),(Nt.txt ("settles" : Str))]).bind fun t45=>(some ((AG / (24:Int)) % (6:Int))).bind fun t46=>atI t45 t46).bind fun t47=>(some [t47,Mj])).bind fun t48=>(some (Nt.tup t48))))
   ((((((((some [(Nt.txt ("and" : Str)),(Nt.txt ("or" : Str)),(Nt.txt ("then" : Str)),(Nt.txt ("until" : Str)),(Nt.txt ("frees" : Str))]).bind fun t54=>(some ((AG / (24:Int)) % (5:Int))).bind fun t55=>atI t54 t55).bind fun t56=>(some [t56,one_,Mj])).bind fun t57=>(some (Nt.tup t57))).bind fun t58=>(some [t58])).bind fun t59=>(some ((Nt.txt ("not" : Str))::t59))).bind fun t60=>(some (Nt.tup t60)))))
abbrev FP (x:Int × (List Str) × Unit):Option Nt:=CF x.1 x.2.1
def CO (AG:Int)(AN:(List Str)):Option (List Str) :=
 ((some AN).bind fun t1=>LP t1).bind fun low_ =>
 ((some AN).bind fun t8=>Le t8).bind fun GP =>
 (((some ((2:Int)+((AG / (4:Int)) % (5:Int)))).bind fun t15=>OW 0 t15).bind fun t33=>FU (fun (k_:Int)=>(((((((((some low_).bind fun t20=>(some GP).bind fun t21=>HP t20 t21).bind fun t22=>(some (ToD.to t22))).bind fun t23=>(some [t23])).bind fun t24=>(some ((ToD.to GP)::t24))).bind fun t25=>(some ((ToD.to low_)::t25))).bind fun t26=>(some ((ToD.to ("" : Str))::t26))).bind fun t30=>(((some AG).bind fun t27=>(some (k_+(1:Int))).bind fun t28=>Jp t27 t28).bind fun t29=>(some (t29 % (4:Int)))).bind fun t31=>atI t30 t31).bind fun t32=>DZ t32)) t33)
abbrev Fe (x:Int × (List Str) × Unit):Option (List Str):=CO x.1 x.2.1
def B1 (Ah:D):Option (Tp D) :=
 ((((some Ah).bind fun t3=>(some (0:Int)).bind fun t4=>atD t3 t4).bind fun t5=>DZ t5).bind fun t6=>(some (decide (t6=("lamp" : Str))))).bind fun b7=>cond b7
  ((some (Tp.mk ([]:List D))))
  ((((some Ah).bind fun t17=>N2 t17).bind fun t18=>(some (some (1:Int))).bind fun t19=>(some none).bind fun t20=>Ik t18.l t19 t20))
abbrev HN (x:D × Unit):Option (Tp D):=B1 x.1
def Al (Ah:Nt):Option (Tp Nt) :=
 (((((some Ah).bind fun t4=>Cw t4).bind fun t5=>(some (0:Int)).bind fun t6=>atI t5.l t6).bind fun t7=>Em t7).bind fun t8=>(some (decide (t8=("lamp" : Str))))).bind fun b9=>cond b9
  ((some (Tp.mk ([]:List Nt))))
  ((((some Ah).bind fun t19=>Cw t19).bind fun t20=>(some (some (1:Int))).bind fun t21=>(some none).bind fun t22=>Ik t20.l t21 t22))
abbrev IA (x:Nt × Unit):Option (Tp Nt):=Al x.1
def Hv (some_:List Nt):Option (List (Tp SI) × List Int):=Fh (EF Al 160) some_ []
abbrev J7 (x:List Nt × Unit):Option (List (Tp SI) × List Int):=Hv x.1
def AU (Am:D):Option Bool :=
 (some (!(isK "str" Am))).bind fun b1=>cond b1
  ((some false))
  ((some ("" : Str)).bind fun Lf =>
  ((some Am).bind fun t17=>NX t17).bind fun as18=>(ES (S:=(Str)) (ρ:=Bool) (fun (Nz:D) s25 =>
    ((((some Nz).bind fun t40=>DZ t40).bind fun t41=>(some (decide (t41.cps.toList<("a" : Str).cps.toList)))).bind fun t47=>cond t47 (some true) ((((some Nz).bind fun t42=>DZ t42).bind fun t43=>(some (decide (("z" : Str).cps.toList<t43.cps.toList)))).bind fun t46=>cond t46 (some true) (((some Nz).bind fun t44=>DZ t44).bind fun t45=>(some (!decide (s25.cps.toList<t45.cps.toList)))))).bind fun b48=>cond b48
     ((some false).bind fun rr58=>some (Fl.rt rr58))
     (((some Nz).bind fun t60=>DZ t60).bind fun Lf =>
     some (Fl.nx Lf))) as18 Lf).bind fun fl20=>match fl20 with
   | .nx s25 =>
    (some true)
   | .rt r=>some r
   | .bk _=>none)
abbrev F3 (x:D × Unit):Option Bool:=AU x.1
def Bv (Am:D):Option Bool :=
 (((some Am).bind fun t1=>AU t1).bind fun t4=>cond t4 (((some Am).bind fun t2=>Eu t2).bind fun t3=>(some (decide (t3=(1:Int))))) (some false))
abbrev JU (x:D × Unit):Option Bool:=Bv x.1
def Ad (Am:D):Option Bool :=
 ((some (!(isK "tuple" Am))).bind fun t8=>cond t8 (some true) ((((some Am).bind fun t1=>Eu t1).bind fun t2=>(some (decide (t2=(0:Int))))).bind fun t7=>cond t7 (some true) ((((some Am).bind fun t3=>(some (0:Int)).bind fun t4=>atD t3 t4).bind fun t5=>(some (isK "str" t5))).bind fun t6=>(some (!t6))))).bind fun b9=>cond b9
  ((some false))
  (((((some Am).bind fun t21=>(some (0:Int)).bind fun t22=>atD t21 t22).bind fun t23=>DZ t23).bind fun t24=>(some (decide (t24=("lamp" : Str))))).bind fun b25=>cond b25
   (((((some Am).bind fun t30=>Eu t30).bind fun t31=>(some (decide (t31=(2:Int))))).bind fun t35=>cond t35 (((some Am).bind fun t32=>(some (1:Int)).bind fun t33=>atD t32 t33).bind fun t34=>Bv t34) (some false)))
   ((((((some Am).bind fun t41=>(some (0:Int)).bind fun t42=>atD t41 t42).bind fun t43=>DZ t43).bind fun t44=>(some ((Ch BI t44).isSome))).bind fun t58=>cond t58 (((some Am).bind fun t45=>Eu t45).bind fun t56=>(((((some Am).bind fun t51=>(some (0:Int)).bind fun t52=>atD t51 t52).bind fun t53=>DZ t53).bind fun t54=>Ch BI t54).bind fun t55=>(some ((1:Int)+t55))).bind fun t57=>(some (decide (t56=t57)))) (some false))))
abbrev Hy (x:D × Unit):Option Bool:=Ad x.1
def Au (Am:D):Option Bool :=
 (some [Am]).bind fun found_ =>
 (some (0:Int)).bind fun E3 =>
 (Gm (S:=((List D) × Int)) (ρ:=Bool) (fun s17=>(some (decide (s17.2<(s17.1.length:Int))))) (fun s17 =>
   ((some (decide ((24:Int)<(s17.1.length:Int)))).bind fun t42=>cond t42 (some true) ((((some s17.1).bind fun t38=>(some s17.2).bind fun t39=>atI t38 t39).bind fun t40=>Ad t40).bind fun t41=>(some (!t41)))).bind fun b43=>cond b43
    ((some false).bind fun rr53=>some (Fl.rt rr53))
    ((((some s17.1).bind fun t55=>(some s17.2).bind fun t56=>atI t55 t56).bind fun t57=>B1 t57).bind fun a58=>(extO s17.1 a58.l).bind fun z66 =>
    (some (s17.2+(1:Int))).bind fun E3 =>
    some (Fl.nx (z66,E3)))) NN (found_,E3)).bind fun fl15=>match fl15 with
  | .nx s17 =>
   (some true)
  | .rt r=>some r
  | .bk _=>none
abbrev Fg (x:D × Unit):Option Bool:=Au x.1
def AR (Am:D):Option Bool :=
 ((some (!(isK "list" Am))).bind fun t3=>cond t3 (some true) (((some Am).bind fun t1=>Eu t1).bind fun t2=>(some (decide ((3000:Int)<t2))))).bind fun b4=>cond b4
  ((some false))
  (((((some Am).bind fun t14=>NX t14).bind fun t20=>FU (fun (Cm:D)=>((some Cm).bind fun t19=>AU t19)) t20).bind fun t21=>(some (t21.all id))))
abbrev D8 (x:D × Unit):Option Bool:=AR x.1
def BF (Am:D):Option Bool :=
 ((some (!(isK "tuple" Am))).bind fun t3=>cond t3 (some true) (((some Am).bind fun t1=>Eu t1).bind fun t2=>(some (!decide (t2=(2:Int)))))).bind fun b4=>cond b4
  ((some false))
  (((((some Am).bind fun t14=>(some (0:Int)).bind fun t15=>atD t14 t15).bind fun t16=>AR t16).bind fun t25=>cond t25 ((((some Am).bind fun t17=>(some (1:Int)).bind fun t18=>atD t17 t18).bind fun t19=>AR t19).bind fun t24=>cond t24 ((((some Am).bind fun t20=>(some (1:Int)).bind fun t21=>atD t20 t21).bind fun t22=>Eu t22).bind fun t23=>(some (decide ((0:Int)<t23)))) (some false)) (some false)))
abbrev KJ (x:D × Unit):Option Bool:=BF x.1
def CB (left_:(List Bool))(EA:(List Bool))(EY:Int):Option (List Bool) :=
 (some (left_.length:Int)).bind fun Mb =>
 (some false).bind fun truth_ =>
 ((some (Mb - (1:Int))).bind fun t13=>(some (EY - (1:Int))).bind fun t14=>rngD t13 t14).bind fun as15=>(ES (S:=(Bool)) (ρ:=(List Bool)) (fun (E3:Int) s22 =>
   (((some EA).bind fun t37=>(some E3).bind fun t38=>atI t37 t38).bind fun t42=>cond t42 (some true) (((some left_).bind fun t39=>(some E3).bind fun t40=>atI t39 t40).bind fun t41=>cond t41 (some s22) (some false))).bind fun truth_ =>
   some (Fl.nx truth_)) as15 truth_).bind fun fl17=>match fl17 with
  | .nx s22 =>
   (some ([]:List Bool)).bind fun Jv =>
   ((some (Mb - (1:Int))).bind fun t63=>(some (-(1:Int))).bind fun t64=>rngD t63 t64).bind fun as65=>(ES (S:=(Bool × (List Bool))) (ρ:=(List Bool)) (fun (E3:Int) s72 =>
     (((some EA).bind fun t87=>(some E3).bind fun t88=>atI t87 t88).bind fun t92=>cond t92 (some true) (((some left_).bind fun t89=>(some E3).bind fun t90=>atI t89 t90).bind fun t91=>cond t91 (some s72.1) (some false))).bind fun truth_ =>
     (some truth_).bind fun a99=>(Ll s72.2 a99).bind fun z107 =>
     some (Fl.nx (truth_,z107))) as65 (s22,Jv)).bind fun fl67=>match fl67 with
    | .nx s72 =>
     (some (EL s72.2 none none (-1)))
    | .rt r=>some r
    | .bk _=>none
  | .rt r=>some r
  | .bk _=>none
abbrev FN (x:(List Bool) × (List Bool) × Int × Unit):Option (List Bool):=CB x.1 x.2.1 x.2.2.1
def Cy (row_:(Tp SI))(CL:(List (List Bool)))(Dd:(List Str))(EY:Int):Option (List Bool) :=
 ((some row_).bind fun t1=>(some (0:Int)).bind fun t2=>atI t1.l t2).bind fun CH =>
 (((some CH).bind fun t9=>asS t9).bind fun t10=>(some (decide (t10=("lamp" : Str))))).bind fun b11=>cond b11
  (((some Dd).bind fun t26=>FU (fun (Cm:Str)=>((((some row_).bind fun t22=>(some (1:Int)).bind fun t23=>atI t22.l t23).bind fun t24=>asS t24).bind fun t25=>(some (inS t25 Cm)))) t26))
  ((((some CH).bind fun t34=>asS t34).bind fun t35=>(some (decide (t35=("not" : Str))))).bind fun b36=>cond b36
   ((((some CL).bind fun t44=>(((some row_).bind fun t41=>(some (1:Int)).bind fun t42=>atI t41.l t42).bind fun t43=>asI t43).bind fun t45=>atI t44 t45).bind fun t50=>FU (fun (truth_:Bool)=>(some (!truth_))) t50))
   ((((some CH).bind fun t58=>asS t58).bind fun t59=>(some (decide (t59=("and" : Str))))).bind fun b60=>cond b60
    (((((some CL).bind fun t68=>(((some row_).bind fun t65=>(some (1:Int)).bind fun t66=>atI t65.l t66).bind fun t67=>asI t67).bind fun t69=>atI t68 t69).bind fun t75=>((some CL).bind fun t73=>(((some row_).bind fun t70=>(some (2:Int)).bind fun t71=>atI t70.l t71).bind fun t72=>asI t72).bind fun t74=>atI t73 t74).bind fun t76=>(some (t75.zip t76))).bind fun t84=>FU (fun (pc83:(Bool × Bool))=>(some (pc83.1 && pc83.2))) t84))
    ((((some CH).bind fun t92=>asS t92).bind fun t93=>(some (decide (t93=("next" : Str))))).bind fun b94=>cond b94
     (((some CL).bind fun t102=>(((some row_).bind fun t99=>(some (1:Int)).bind fun t100=>atI t99.l t100).bind fun t101=>asI t101).bind fun t103=>atI t102 t103).bind fun Dz =>
     ((some (D4 Dz (some (1:Int)) none)).bind fun t113=>(((some Dz).bind fun t110=>(some EY).bind fun t111=>atI t110 t111).bind fun t112=>(some [t112])).bind fun t114=>JG t113 t114))
     ((((some CH).bind fun t122=>asS t122).bind fun t123=>(some (decide (t123=("until" : Str))))).bind fun b124=>cond b124
      ((((some CL).bind fun t132=>(((some row_).bind fun t129=>(some (1:Int)).bind fun t130=>atI t129.l t130).bind fun t131=>asI t131).bind fun t133=>atI t132 t133).bind fun t139=>((some CL).bind fun t137=>(((some row_).bind fun t134=>(some (2:Int)).bind fun t135=>atI t134.l t135).bind fun t136=>asI t136).bind fun t138=>atI t137 t138).bind fun t140=>(some EY).bind fun t141=>CB t139 t140 t141))
      (((some Dd).bind fun t153=>FU (fun (Cm:Str)=>(some true)) t153))))))
abbrev HC (x:(Tp SI) × (List (List Bool)) × (List Str) × Int × Unit):Option (List Bool):=Cy x.1 x.2.1 x.2.2.1 x.2.2.2.1
def Cf (rows_:(List (Tp SI)))(run_:((List Str) × (List Str))):Option (List (List Bool)) :=
 ((some run_.1).bind fun t1=>(some run_.2).bind fun t2=>JG t1 t2).bind fun Dd =>
 (some ([]:List (List Bool))).bind fun CL =>
 (some rows_).bind fun as17=>(ES (S:=((List (List Bool)))) (ρ:=(List (List Bool))) (fun (row_:(Tp SI)) s24 =>
   ((some row_).bind fun t41=>(some s24).bind fun t42=>(some Dd).bind fun t43=>(some (run_.1.length:Int)).bind fun t44=>Cy t41 t42 t43 t44).bind fun a45=>(Ll s24 a45).bind fun z53 =>
   some (Fl.nx z53)) as17 CL).bind fun fl19=>match fl19 with
  | .nx s24 =>
   (some s24)
  | .rt r=>some r
  | .bk _=>none
abbrev GR (x:(List (Tp SI)) × ((List Str) × (List Str)) × Unit):Option (List (List Bool)):=Cf x.1 x.2.1
def Bg (Kv:Nt):Option Nt :=
 (((((some Kv).bind fun t4=>Cw t4).bind fun t5=>(some (0:Int)).bind fun t6=>atI t5.l t6).bind fun t7=>Em t7).bind fun t8=>(some (decide (t8=("not" : Str))))).bind fun b9=>cond b9
  ((((some Kv).bind fun t14=>Cw t14).bind fun t15=>(some (1:Int)).bind fun t16=>atI t15.l t16))
  ((some (Nt.tup [(Nt.txt ("not" : Str)),Kv])))
abbrev Cg (x:Nt × Unit):Option Nt:=Bg x.1
def Bp (CH:Str)(left_:Nt)(EA:Nt):Option Nt :=
 (some (decide (CH=("or" : Str)))).bind fun b1=>cond b1
  (((((((((some left_).bind fun t6=>Bg t6).bind fun t9=>(((some EA).bind fun t7=>Bg t7).bind fun t8=>(some [t8])).bind fun t10=>(some (t9::t10))).bind fun t11=>(some ((Nt.txt ("and" : Str))::t11))).bind fun t12=>(some (Nt.tup t12))).bind fun t13=>(some [t13])).bind fun t14=>(some ((Nt.txt ("not" : Str))::t14))).bind fun t15=>(some (Nt.tup t15))))
  ((some (decide (CH=("then" : Str)))).bind fun b21=>cond b21
   ((((((((((some EA).bind fun t26=>Bg t26).bind fun t27=>(some [t27])).bind fun t28=>(some (left_::t28))).bind fun t29=>(some ((Nt.txt ("and" : Str))::t29))).bind fun t30=>(some (Nt.tup t30))).bind fun t31=>(some [t31])).bind fun t32=>(some ((Nt.txt ("not" : Str))::t32))).bind fun t33=>(some (Nt.tup t33))))
   ((some (decide (CH=("frees" : Str)))).bind fun b39=>cond b39
    (((((((((some left_).bind fun t44=>Bg t44).bind fun t47=>(((some EA).bind fun t45=>Bg t45).bind fun t46=>(some [t46])).bind fun t48=>(some (t47::t48))).bind fun t49=>(some ((Nt.txt ("until" : Str))::t49))).bind fun t50=>(some (Nt.tup t50))).bind fun t51=>(some [t51])).bind fun t52=>(some ((Nt.txt ("not" : Str))::t52))).bind fun t53=>(some (Nt.tup t53))))
    ((some (Nt.tup [(Nt.txt CH),left_,EA])))))
abbrev EO (x:Str × Nt × Nt × Unit):Option Nt:=Bp x.1 x.2.1 x.2.2.1
def Bq (CH:Str)(Dz:Nt):Option Nt :=
 (some (decide (CH=("not" : Str)))).bind fun b1=>cond b1
  (((some Dz).bind fun t6=>Bg t6))
  ((some (decide (CH=("next" : Str)))).bind fun b12=>cond b12
   ((some (Nt.tup [(Nt.txt ("next" : Str)),Dz])))
   ((some (decide (CH=("atlast" : Str)))).bind fun b22=>cond b22
    ((some (Nt.tup [(Nt.txt ("until" : Str)),(Nt.tup [Nt.txt "yes"]),Dz])))
    ((some (decide (CH=("always" : Str)))).bind fun b32=>cond b32
     ((((((((((some Dz).bind fun t37=>Bg t37).bind fun t38=>(some [t38])).bind fun t39=>(some ((Nt.tup [Nt.txt "yes"])::t39))).bind fun t40=>(some ((Nt.txt ("until" : Str))::t40))).bind fun t41=>(some (Nt.tup t41))).bind fun t42=>(some [t42])).bind fun t43=>(some ((Nt.txt ("not" : Str))::t43))).bind fun t44=>(some (Nt.tup t44))))
     ((some (decide (CH=("again" : Str)))).bind fun b50=>cond b50
      ((some (Nt.tup [(Nt.txt ("not" : Str)),(Nt.tup [(Nt.txt ("until" : Str)),(Nt.tup [Nt.txt "yes"]),(Nt.tup [(Nt.txt ("not" : Str)),(Nt.tup [(Nt.txt ("until" : Str)),(Nt.tup [Nt.txt "yes"]),Dz])])])])))
      ((((((((((((((some Dz).bind fun t60=>Bg t60).bind fun t61=>(some [t61])).bind fun t62=>(some ((Nt.tup [Nt.txt "yes"])::t62))).bind fun t63=>(some ((Nt.txt ("until" : Str))::t63))).bind fun t64=>(some (Nt.tup t64))).bind fun t65=>(some [t65])).bind fun t66=>(some ((Nt.txt ("not" : Str))::t66))).bind fun t67=>(some (Nt.tup t67))).bind fun t68=>(some [t68])).bind fun t69=>(some ((Nt.tup [Nt.txt "yes"])::t69))).bind fun t70=>(some ((Nt.txt ("until" : Str))::t70))).bind fun t71=>(some (Nt.tup t71))))))))
abbrev EK (x:Str × Nt × Unit):Option Nt:=Bq x.1 x.2.1
def DM (self_:Nt->Option Nt)(Ah:Nt):Option Nt :=
 ((((some Ah).bind fun t1=>Cw t1).bind fun t2=>(some (0:Int)).bind fun t3=>atI t2.l t3).bind fun t4=>Em t4).bind fun CH =>
 (some (decide (CH=("no" : Str)))).bind fun b11=>cond b11
  ((some (Nt.tup [(Nt.txt ("not" : Str)),(Nt.tup [Nt.txt "yes"])])))
  ((some ((decide (CH=("yes" : Str))) || (decide (CH=("lamp" : Str))))).bind fun b21=>cond b21
   ((some Ah))
   (((((some Ah).bind fun t31=>Cw t31).bind fun t32=>(some (t32.l.length:Int))).bind fun t33=>(some (decide (t33=(2:Int))))).bind fun b34=>cond b34
    (((some CH).bind fun t43=>((((some Ah).bind fun t39=>Cw t39).bind fun t40=>(some (1:Int)).bind fun t41=>atI t40.l t41).bind fun t42=>self_ t42).bind fun t44=>Bq t43 t44))
    (((some CH).bind fun t58=>((((some Ah).bind fun t50=>Cw t50).bind fun t51=>(some (1:Int)).bind fun t52=>atI t51.l t52).bind fun t53=>self_ t53).bind fun t59=>((((some Ah).bind fun t54=>Cw t54).bind fun t55=>(some (2:Int)).bind fun t56=>atI t55.l t56).bind fun t57=>self_ t57).bind fun t60=>Bp t58 t59 t60))))
def F9:Nat->Nt->Option Nt
 | 0=>fun _=>none
 | n+1=>fun Ah=>DM (F9 n) Ah
abbrev DA (E6:Nat)(x:Nt × Unit):Option Nt:=F9 E6 x.1
def Aw (Ah:Th)(run_:Tr):Option (Except Str (List Bool)) :=
 ((((some Ah).bind fun a=>some (ToD.to a)).bind fun t1=>Au t1).bind fun t2=>(some (!t2))).bind fun b3=>cond b3
  (some (.error "NoSentence"))
  (((((some run_).bind fun a=>some (ToD.to a)).bind fun t8=>BF t8).bind fun t9=>(some (!t9))).bind fun b10=>cond b10
   (some (.error "NoRun"))
   ((((((some Ah).bind fun a=>asNT a).bind fun t15=>F9 26 t15).bind fun t16=>(some [t16])).bind fun t17=>Hv t17).bind fun book_ =>
   (((some book_.1).bind fun t24=>((some run_).bind fun a=>asRT a).bind fun t25=>Cf t24 t25).bind fun t28=>((some book_.2).bind fun t26=>(some (0:Int)).bind fun t27=>atI t26 t27).bind fun t29=>atI t28 t29).bind fun z=>some (.ok z)))
abbrev Cn (x:Th × Tr × Unit):Option (Except Str (List Bool)):=Aw x.1 x.2.1
abbrev CW (x:Th × Tr × Unit):Option (List Bool):=(Cn x).bind fun r=>match r with
 | .ok b=>some b
 | .error _=>none
def DU (t:Th)(r:Tr):Option (List Bool):=CW (t,r,())
def C7 (script_:Scr)(k_:Int):Option Int :=
 (some (decide (k_<(script_.l.length:Int)))).bind fun b1=>cond b1
  (((some script_).bind fun t6=>(some k_).bind fun t7=>atI t6.l t7))
  ((some (0:Int)))
abbrev Cu (x:Scr × Int × Unit):Option Int:=C7 x.1 x.2.1
def BV (AG:Int)(C4:Nt)(AN:(List Str)):Option D :=
 ((((((((some AN).bind fun t1=>(some (0:Int)).bind fun t2=>atI t1 t2).bind fun t3=>(some (ToD.to t3))).bind fun t4=>(some [t4,(ToD.to ([]:List D)),(ToD.to (Tp.mk ([]:List D))),(ToD.to (Tp.mk [(ToD.to ("maybe" : Str))])),(ToD.to (Tp.mk [(ToD.to ("Yes" : Str))])),(ToD.to (Tp.mk [(ToD.to ("yes" : Str)),(ToD.to ("a" : Str))])),(ToD.to (Tp.mk [(ToD.to ("yes" : Str)),(ToD.to (Tp.mk [(ToD.to ("yes" : Str))]))]))])).bind fun t5=>(some ((ToD.to ("yes" : Str))::t5))).bind fun t6=>(some ((ToD.to (AG % 1000000000))::t6))).bind fun t7=>(some ((ToD.to true)::t7))).bind fun t8=>(some ((ToD.to ())::t8))).bind fun few_ =>
 ((some few_).bind fun t39=>(((((((((some AN).bind fun t15=>(some (0:Int)).bind fun t16=>atI t15 t16).bind fun t17=>upO t17).bind fun t18=>(some (ToD.to t18))).bind fun t19=>(some [t19])).bind fun t20=>(some ((ToD.to ("lamp" : Str))::t20))).bind fun t21=>(some (Tp.mk t21))).bind fun t22=>(some (ToD.to t22))).bind fun t37=>(((((((((some AN).bind fun t25=>(some (0:Int)).bind fun t26=>atI t25 t26).bind fun t29=>((some AN).bind fun t27=>(some (1:Int)).bind fun t28=>atI t27 t28).bind fun t30=>HP t29 t30).bind fun t31=>(some (ToD.to t31))).bind fun t32=>(some [t32])).bind fun t33=>(some ((ToD.to ("lamp" : Str))::t33))).bind fun t34=>(some (Tp.mk t34))).bind fun t35=>(some (ToD.to t35))).bind fun t36=>(some [t36,(ToD.to (Tp.mk [(ToD.to ("lamp" : Str)),(ToD.to ("" : Str))])),(ToD.to (Tp.mk [(ToD.to ("lamp" : Str)),(ToD.to ())])),(ToD.to (Tp.mk [(ToD.to ("lamp" : Str))]))])).bind fun t38=>(some (t37::t38))).bind fun t40=>JG t39 t40).bind fun few_ =>
 ((some few_).bind fun t47=>(some [(ToD.to (Tp.mk [(ToD.to ("lamp" : Str)),(ToD.to (Tp.mk [(ToD.to ("yes" : Str))]))])),(ToD.to (Tp.mk [(ToD.to ("lamp" : Str)),(ToD.to ("1" : Str))])),(ToD.to (Tp.mk [(ToD.to ("not" : Str))])),(ToD.to [(ToD.to ("not" : Str)),(ToD.to C4)]),(ToD.to (Tp.mk [(ToD.to ("not" : Str)),(ToD.to C4),(ToD.to C4)])),(ToD.to (Tp.mk [(ToD.to ("until" : Str)),(ToD.to C4)]))]).bind fun t48=>JG t47 t48).bind fun few_ =>
 ((some few_).bind fun t55=>(some [(ToD.to (Tp.mk [(ToD.to ("and" : Str)),(ToD.to C4),(ToD.to C4),(ToD.to C4)])),D.dic,(ToD.to (Tp.mk [(ToD.to C4)])),(ToD.to (Tp.mk [(ToD.to C4),(ToD.to C4)])),(ToD.to (Tp.mk [(ToD.to ("next" : Str)),(ToD.to [(ToD.to C4)])])),(ToD.to (Tp.mk [(ToD.to ("or" : Str)),(ToD.to C4),(ToD.to ())]))]).bind fun t56=>JG t55 t56).bind fun few_ =>
 ((some few_).bind fun t82=>((((((((some AN).bind fun t63=>(some (0:Int)).bind fun t64=>atI t63 t64).bind fun t65=>(some (ToD.to t65))).bind fun t66=>(some [t66])).bind fun t67=>(some ((ToD.to ("lamps" : Str))::t67))).bind fun t68=>(some (Tp.mk t68))).bind fun t69=>(some (ToD.to t69))).bind fun t80=>((((((((((some AN).bind fun t70=>(some (0:Int)).bind fun t71=>atI t70 t71).bind fun t72=>(some (ToD.to t72))).bind fun t73=>(some [t73])).bind fun t74=>(some (ToD.to t74))).bind fun t75=>(some [t75])).bind fun t76=>(some ((ToD.to ("lamp" : Str))::t76))).bind fun t77=>(some (Tp.mk t77))).bind fun t78=>(some (ToD.to t78))).bind fun t79=>(some [t79,(ToD.to (Tp.mk [(ToD.to (1:Int)),(ToD.to C4)])),(ToD.to (Tp.mk [(ToD.to ())])),(ToD.to (Tp.mk [(ToD.to ([]:List D)),(ToD.to C4)])),(ToD.to (Tp.mk [(ToD.to ("no" : Str)),(ToD.to ())]))])).bind fun t81=>(some (t80::t81))).bind fun t83=>JG t82 t83).bind fun few_ =>
 ((some few_).bind fun t92=>((some AG).bind fun t90=>(some (few_.length:Int)).bind fun t91=>HJ t90 t91).bind fun t93=>atI t92 t93).bind fun Am =>
 ((some ((AG / (34:Int)) % (9:Int))).bind fun t100=>OW 0 t100).bind fun as101=>(ES (S:=(D)) (ρ:=D) (fun (k_:Int) s108 =>
   ((((some AG).bind fun t123=>(some ((1:Int)+k_)).bind fun t124=>Jp t123 t124).bind fun t125=>(some (t125 % (3:Int)))).bind fun t126=>(some (decide (t126=(0:Int))))).bind fun b127=>cond b127
    ((some (ToD.to (Tp.mk [(ToD.to ("and" : Str)),(ToD.to C4),s108]))).bind fun Am =>
    some (Fl.nx Am))
    (((((some AG).bind fun t138=>(some ((1:Int)+k_)).bind fun t139=>Jp t138 t139).bind fun t140=>(some (t140 % (3:Int)))).bind fun t141=>(some (decide (t141=(1:Int))))).bind fun b142=>cond b142
     ((some (ToD.to (Tp.mk [(ToD.to ("frees" : Str)),s108,(ToD.to C4)]))).bind fun Am =>
     some (Fl.nx Am))
     ((some (ToD.to (Tp.mk [(ToD.to ("settles" : Str)),s108]))).bind fun Am =>
     some (Fl.nx Am)))) as101 Am).bind fun fl103=>match fl103 with
  | .nx s108 =>
   (some s108)
  | .rt r=>some r
  | .bk _=>none
abbrev E7 (x:Int × Nt × (List Str) × Unit):Option D:=BV x.1 x.2.1 x.2.2.1
def Bc (AG:Int)(AN:(List Str)):Option D :=
 ((some AN).bind fun t1=>LP t1).bind fun low_ =>
 ((some AN).bind fun t8=>Le t8).bind fun GP =>
 (((((((((some GP).bind fun t15=>(some low_).bind fun t16=>HP t15 t16).bind fun t17=>(some (ToD.to t17))).bind fun t34=>((((some low_).bind fun t18=>(some low_).bind fun t19=>HP t18 t19).bind fun t20=>(some (ToD.to t20))).bind fun t32=>((((some low_).bind fun t21=>upO t21).bind fun t22=>(some (ToD.to t22))).bind fun t30=>((((((some low_).bind fun t23=>(some (" " : Str)).bind fun t24=>HP t23 t24).bind fun t25=>(some GP).bind fun t26=>HP t25 t26).bind fun t27=>(some (ToD.to t27))).bind fun t28=>(some [t28,(ToD.to ("1" : Str))])).bind fun t29=>(some ((ToD.to (" " : Str))::t29))).bind fun t31=>(some (t30::t31))).bind fun t33=>(some (t32::t33))).bind fun t35=>(some (t34::t35))).bind fun t36=>(some ((ToD.to (Tp.mk [(ToD.to low_)]))::t36))).bind fun t37=>(some ((ToD.to [(ToD.to low_)])::t37))).bind fun t38=>(some ((ToD.to (AG % 1000000000))::t38))).bind fun t39=>(some ((ToD.to false)::t39))).bind fun t40=>(some ((ToD.to ())::t40))).bind fun few_ =>
 ((some few_).bind fun t55=>(((((((some low_).bind fun t47=>(some GP).bind fun t48=>HP t47 t48).bind fun t49=>(some low_).bind fun t50=>HP t49 t50).bind fun t51=>(some (ToD.to t51))).bind fun t52=>(some [t52])).bind fun t53=>(some ((ToD.to ("-" : Str))::t53))).bind fun t54=>(some (D.dic::t54))).bind fun t56=>JG t55 t56).bind fun few_ =>
 ((some few_).bind fun t65=>((some AG).bind fun t63=>(some (few_.length:Int)).bind fun t64=>HJ t63 t64).bind fun t66=>atI t65 t66)
abbrev DJ (x:Int × (List Str) × Unit):Option D:=Bc x.1 x.2.1
def Cb (AG:Int)(moments_here_:(List Str))(AN:(List Str)):Option D :=
 (some (D4 moments_here_ none (some (1:Int)))).bind fun FR =>
 (some (D4 moments_here_ (some (1:Int)) none)).bind fun ring_ =>
 (some [(ToD.to ()),(ToD.to true),(ToD.to (AG % 1000000000)),(ToD.to ("/ a" : Str)),(ToD.to ([]:List D)),(ToD.to (Tp.mk ([]:List D))),(ToD.to [(ToD.to FR),(ToD.to ring_)]),(ToD.to (Tp.mk [(ToD.to FR)])),(ToD.to (Tp.mk [(ToD.to ring_)])),(ToD.to (Tp.mk [(ToD.to FR),(ToD.to ring_),(ToD.to ring_)])),(ToD.to (Tp.mk [(ToD.to FR),(ToD.to ([]:List D))]))]).bind fun few_ =>
 ((some few_).bind fun t19=>(some [(ToD.to (Tp.mk [(ToD.to (Tp.mk FR)),(ToD.to ring_)])),(ToD.to (Tp.mk [(ToD.to FR),(ToD.to (Tp.mk ring_))])),(ToD.to (Tp.mk [(ToD.to FR),(ToD.to ("a" : Str))])),(ToD.to (Tp.mk [(ToD.to ("a" : Str)),(ToD.to ring_)])),(ToD.to (Tp.mk [(ToD.to ()),(ToD.to ring_)])),(ToD.to (Tp.mk [(ToD.to FR),(ToD.to ())]))]).bind fun t20=>JG t19 t20).bind fun few_ =>
 ((some few_).bind fun t45=>((((((((((some [("a" : Str)]).bind fun t27=>(some (3001:Int)).bind fun t28=>repL t27 t28).bind fun t29=>(some (ToD.to t29))).bind fun t30=>(some [t30])).bind fun t31=>(some ((ToD.to ([]:List D))::t31))).bind fun t32=>(some (Tp.mk t32))).bind fun t33=>(some (ToD.to t33))).bind fun t41=>(((((((some [("a" : Str)]).bind fun t34=>(some (3001:Int)).bind fun t35=>repL t34 t35).bind fun t36=>(some (ToD.to t36))).bind fun t37=>(some [t37,(ToD.to ring_)])).bind fun t38=>(some (Tp.mk t38))).bind fun t39=>(some (ToD.to t39))).bind fun t40=>(some [t40,(ToD.to (Tp.mk [(ToD.to [(ToD.to FR)]),(ToD.to ring_)])),(ToD.to (Tp.mk [(ToD.to FR),(ToD.to [(ToD.to ring_)])]))])).bind fun t42=>(some (t41::t42))).bind fun t43=>(some ((ToD.to (Tp.mk [(ToD.to FR),D.dic]))::t43))).bind fun t44=>(some (D.dic::t44))).bind fun t46=>JG t45 t46).bind fun few_ =>
 (some (decide ((AG % (2:Int))=(0:Int)))).bind fun b53=>cond b53
  (((some few_).bind fun t60=>((some (AG / (2:Int))).bind fun t58=>(some (few_.length:Int)).bind fun t59=>HJ t58 t59).bind fun t61=>atI t60 t61))
  ((some (moments_here_.map (ToD.to:Str->D))).bind fun spoiled_ =>
  ((some (AG / (14:Int))).bind fun t75=>(some AN).bind fun t76=>Bc t75 t76).bind fun a81=>((some (AG / (2:Int))).bind fun t79=>(some (spoiled_.length:Int)).bind fun t80=>HJ t79 t80).bind fun k83=>(Ix spoiled_ k83 a81).bind fun z92 =>
  ((some (AG / (28:Int))).bind fun t96=>(some (z92.length:Int)).bind fun t97=>HJ t96 t97).bind fun at_ =>
  (some (ToD.to (Tp.mk [(ToD.to (D4 z92 none (some at_))),(ToD.to (D4 z92 (some at_) none))]))))
abbrev GL (x:Int × (List Str) × (List Str) × Unit):Option D:=Cb x.1 x.2.1 x.2.2.1
def C6 (told_:ExN):Option Bool:=if told_.nm=("NoSentence" : Str)\/told_.nm=("NoRun" : Str) then some true else none
abbrev E8 (x:ExN × Unit):Option Bool:=C6 x.1
def BK (told_:ExN):Option Bool:=if told_.nm=("NoRun" : Str) then some true else none
abbrev Cr (x:ExN × Unit):Option Bool:=BK x.1
def CS (Ah:Th)(run_:Tr):Option (Except Str Bool) :=
 ((some Ah).bind fun t1=>(some run_).bind fun t2=>Aw t1 t2).bind fun r=>atX r 0
abbrev Fb (x:Th × Tr × Unit):Option (Except Str Bool):=CS x.1 x.2.1
abbrev Eo (x:Th × Tr × Unit):Option Bool:=(Fb x).bind fun r=>match r with
 | .ok b=>some b
 | .error _=>none
def Hx (t:Th)(r:Tr):Option Bool:=Eo (t,r,())
def exO (n:Str):Option (Option ExN):=if n=("NoSentence" : Str)\/n=("NoRun" : Str) then some (some ⟨n⟩) else none
def BB (AG:Int)(JW:Th)(run_:Tr):Option (Option ExN) :=
 (some (decide ((AG % (2:Int))=(0:Int)))).bind fun b=>cond b
  (((some JW).bind fun t1=>(some run_).bind fun t2=>Aw t1 t2).bind fun x=>match x with
   | .ok _=>some none
   | .error n=>exO n)
  (((some JW).bind fun t1=>(some run_).bind fun t2=>CS t1 t2).bind fun x=>match x with
   | .ok _=>some none
   | .error n=>exO n)
abbrev Cc (x:Int × Th × Tr × Unit):Option (Option ExN):=BB x.1 x.2.1 x.2.2.1
def Bu (AG:Int)(C4:Nt)(moments_here_:(List Str))(AN:(List Str)):Option Bool :=
 (some (moments_here_.map (ToD.to:Str->D))).bind fun ring_ =>
 ((some AG).bind fun t11=>(some (ring_.length:Int)).bind fun t12=>HJ t11 t12).bind fun at_ =>
 ((some (AG / (7:Int))).bind fun t19=>(some AN).bind fun t20=>Bc t19 t20).bind fun a21=>(some at_).bind fun k23=>(Ix ring_ k23 a21).bind fun z32 =>
 (((((some AG).bind fun t39=>(some (Th.g C4)).bind fun t40=>(some (Ki ([]:List D) z32)).bind fun t41=>BB t39 t40 t41).bind fun t42=>t42).bind fun t43=>BK t43).bind fun t44=>(some (!t44))).bind fun b45=>cond b45
  ((some false))
  ((((some moments_here_).bind fun t55=>(some at_).bind fun t56=>atI t55 t56).bind fun t57=>(some (ToD.to t57))).bind fun a58=>(some at_).bind fun k60=>(Ix z32 k60 a58).bind fun z69 =>
  (((some AG).bind fun t75=>(some (Th.g C4)).bind fun t76=>(some (Ki ([]:List D) z69)).bind fun t77=>BB t75 t76 t77).bind fun t78=>(some t78.isNone)))
abbrev Ed (x:Int × Nt × (List Str) × (List Str) × Unit):Option Bool:=Bu x.1 x.2.1 x.2.2.1 x.2.2.2.1
def Cp (AG:Int)(AN:(List Str))(many_:Int):Option Nt :=
 ((((((some AN).bind fun t1=>(some (0:Int)).bind fun t2=>atI t1 t2).bind fun t3=>(some (Nt.txt t3))).bind fun t4=>(some [t4])).bind fun t5=>(some ((Nt.txt ("lamp" : Str))::t5))).bind fun t6=>(some (Nt.tup t6))).bind fun Am =>
 ((some many_).bind fun t13=>OW 0 t13).bind fun as14=>(ES (S:=(Nt)) (ρ:=Nt) (fun (k_:Int) s21 =>
   ((((some [(Nt.txt ("not" : Str)),(Nt.txt ("next" : Str)),(Nt.txt ("again" : Str)),(Nt.txt ("always" : Str))]).bind fun t39=>(((some AG).bind fun t36=>(some (k_+(1:Int))).bind fun t37=>Jp t36 t37).bind fun t38=>(some (t38 % (4:Int)))).bind fun t40=>atI t39 t40).bind fun t41=>(some [t41,s21])).bind fun t42=>(some (Nt.tup t42))).bind fun Am =>
   some (Fl.nx Am)) as14 Am).bind fun fl16=>match fl16 with
  | .nx s21 =>
   (some s21)
  | .rt r=>some r
  | .bk _=>none
abbrev FZ (x:Int × (List Str) × Int × Unit):Option Nt:=Cp x.1 x.2.1 x.2.2.1
def BL (told_:ExN):Option Bool:=if told_.nm=("NoSentence" : Str) then some true else none
abbrev D2 (x:ExN × Unit):Option Bool:=BL x.1
def Lv (script_:Scr):Option Bool :=
 (((some script_).bind fun t1=>(some (0:Int)).bind fun t2=>C7 t1 t2).bind fun t3=>Cv t3).bind fun AN =>
 (((some script_).bind fun t10=>(some (1:Int)).bind fun t11=>C7 t10 t11).bind fun t12=>(some AN).bind fun t13=>CF t12 t13).bind fun C4 =>
 (((some script_).bind fun t20=>(some (2:Int)).bind fun t21=>C7 t20 t21).bind fun t22=>(some AN).bind fun t23=>CO t22 t23).bind fun moments_here_ =>
 ((some (Th.g C4)).bind fun t30=>(some (Tr.g ((D4 moments_here_ none (some (1:Int))),(D4 moments_here_ (some (1:Int)) none)))).bind fun t31=>DU t30 t31).bind fun due_ =>
 ((some script_).bind fun t38=>(some (some (3:Int))).bind fun t39=>(some (some (33:Int))).bind fun t40=>cutX t38 t39 t40).bind fun as41=>(ES (S:=Unit) (ρ:=Bool) (fun (AG:Int) s48 =>
   (((some (AG / (8:Int))).bind fun t64=>(some C4).bind fun t65=>(some AN).bind fun t66=>BV t64 t65 t66).bind fun t67=>(some (Th.b t67))).bind fun Ib =>
   (some (decide (((AG / (8:Int)) % (11:Int))=(5:Int)))).bind fun b74=>(cond b74
    ((((some (AG / (8:Int))).bind fun t85=>(some AN).bind fun t86=>(some (24:Int)).bind fun t87=>Cp t85 t86 t87).bind fun t88=>(some (Th.g t88))).bind fun Ib =>
    some Ib)
    (some Ib)).bind fun s79 =>
   ((some (AG / (16:Int))).bind fun t98=>(some moments_here_).bind fun t99=>(some AN).bind fun t100=>Cb t98 t99 t100).bind fun bad_ =>
   (some ((D4 moments_here_ none (some (1:Int))),(D4 moments_here_ (some (1:Int)) none))).bind fun run_ =>
   (((((some AG).bind fun t115=>(some s79).bind fun t116=>((some [(Tr.g run_),(Tr.b bad_)]).bind fun t113=>(some ((AG / (2:Int)) % (2:Int))).bind fun t114=>atI t113 t114).bind fun t117=>BB t115 t116 t117).bind fun t118=>t118).bind fun t119=>BL t119).bind fun t120=>(some (!t120))).bind fun b121=>cond b121
    ((some false).bind fun rr131=>some (Fl.rt rr131))
    ((((((some (AG / (4:Int))).bind fun t133=>(some (Th.g C4)).bind fun t134=>(some (Tr.b bad_)).bind fun t135=>BB t133 t134 t135).bind fun t136=>t136).bind fun t137=>BK t137).bind fun t138=>(some (!t138))).bind fun b139=>cond b139
     ((some false).bind fun rr149=>some (Fl.rt rr149))
     (some (Fl.nx ())))) as41 ()).bind fun fl43=>match fl43 with
  | .nx s48 =>
   ((some (2:Int)).bind fun t158=>OW 0 t158).bind fun as159=>(ES (S:=Unit) (ρ:=Bool) (fun (way_:Int) s166 =>
     (((some way_).bind fun t185=>((((some script_).bind fun t179=>(some (1:Int)).bind fun t180=>C7 t179 t180).bind fun t181=>(some AN).bind fun t182=>(some (23:Int)).bind fun t183=>Cp t181 t182 t183).bind fun t184=>(some (Th.g t184))).bind fun t186=>(some (Tr.g (([]:List Str),moments_here_))).bind fun t187=>BB t185 t186 t187).bind fun t188=>(some t188.isSome)).bind fun b189=>cond b189
      ((some false).bind fun rr199=>some (Fl.rt rr199))
      (some (Fl.nx ()))) as159 ()).bind fun fl161=>match fl161 with
    | .nx s166 =>
     (((((some script_).bind fun t205=>(some (2:Int)).bind fun t206=>C7 t205 t206).bind fun t207=>(some (t207 / (5:Int)))).bind fun t208=>(some C4).bind fun t209=>(some moments_here_).bind fun t210=>(some AN).bind fun t211=>Bu t208 t209 t210 t211).bind fun t212=>(some (!t212))).bind fun b213=>cond b213
      ((some false))
      ((((some (Th.g C4)).bind fun t223=>(some (Tr.g ((D4 moments_here_ none (some (1:Int))),(D4 moments_here_ (some (1:Int)) none)))).bind fun t224=>Hx t223 t224).bind fun t229=>((some due_).bind fun t227=>(some (0:Int)).bind fun t228=>atI t227 t228).bind fun t230=>(some (!decide (t229=t230)))).bind fun b231=>cond b231
       ((some false))
       ((((some (Th.g C4)).bind fun t241=>(some (Tr.g ((D4 moments_here_ none (some (1:Int))),(D4 moments_here_ (some (1:Int)) none)))).bind fun t242=>DU t241 t242).bind fun t243=>(some (decide (t243=due_))))))
    | .rt r=>some r
    | .bk _=>none
  | .rt r=>some r
  | .bk _=>none
abbrev mm_law (x:Scr × Unit):Option Bool:=Lv x.1
def top (i:Nat):Stmt:=PySem.Challenge.pw_lassoscribe_k25_no_sentence_no_run.main.body.getD i (.Pass ⟨0,0,0,0⟩)
abbrev Ft:Stmt:=top 1
abbrev Ey:Stmt:=top 5
abbrev Hw:Stmt:=top 6
abbrev Gg:Stmt:=top 7
abbrev ET:Stmt:=top 8
abbrev FF:Stmt:=top 10
abbrev Nf:Stmt:=top 11
abbrev He:Stmt:=top 12
abbrev Im:Stmt:=top 25
abbrev DO:Stmt:=top 26
abbrev DS:Stmt:=top 27
abbrev IN:Stmt:=top 28
abbrev DL:Stmt:=top 31
abbrev JP:Stmt:=top 32
abbrev Dw:Stmt:=top 34
abbrev Fc:Stmt:=top 35
abbrev F2:Stmt:=top 36
abbrev EZ:Stmt:=top 37
abbrev Hg:Stmt:=top 38
abbrev Gj:Stmt:=top 40
abbrev FW:Stmt:=top 41
abbrev E4:Stmt:=top 42
abbrev Eb:Stmt:=top 43
abbrev DC:Stmt:=top 44
abbrev Gi:Stmt:=top 45
abbrev Dn:Stmt:=top 46
abbrev F4:Stmt:=top 47
abbrev Fi:Stmt:=top 48
abbrev EU:Stmt:=top 49
abbrev CI:Stmt:=top 50
abbrev DE:Stmt:=top 51
abbrev Dh:Stmt:=top 52
abbrev s_law:Stmt:=top 53
structure Txt (w:World)(K:FZ9)(mg:Str->Option Value):Prop where
 ValueError_:mg "ValueError" = none
 all_:mg "all" = none
 isinstance_:mg "isinstance" = none
 len_:mg "len" = none
 list_:mg "list" = none
 max_:mg "max" = none
 min_:mg "min" = none
 range_:mg "range" = none
 str_:mg "str" = none
 tuple_:mg "tuple" = none
 zip_:mg "zip" = none
 MOST_WORDS:∃ t,mg "MOST_WORDS" = some (.int 24 t)
 PARTS:∃ a,mg "PARTS" = some (.ref a)/\CDict w K a BI
 YES:∃ a,mg "YES" = some (.ref a)/\∀ G,Rp.rel K G (.ref a) (Nt.tup [Nt.txt "yes"])
 MOST_MOMENTS:∃ t,mg "MOST_MOMENTS" = some (.int 3000 t)
theorem Dp:FnScope ["thing","last","lamp"] ["thing"] (AJ Ft):=scm
theorem Hz:FnScope ["sentence"] ["sentence"] (AJ Ey):=scm
theorem MK:FnScope ["thing"] ["thing"] (AJ Hw):=scm
theorem MB:FnScope ["thing"] ["thing"] (AJ Gg):=scm
theorem D9:FnScope ["thing","found","place"] ["thing"] (AJ ET):=scm
theorem Jr:FnScope ["rows","numbers","row"] ["rows","numbers","row"] (AJ FF):=scm
theorem JR:FnScope ["rows","numbers","sentence","row","part"] ["rows","numbers","sentence"] (AJ Nf):=scm
theorem Es:FnScope ["some","rows","numbers","spots"] ["some"] (AJ He):=scm
theorem O4:FnScope ["plain"] ["plain"] (AJ Im):=scm
theorem HU:FnScope ["word","inner"] ["word","inner"] (AJ DO):=scm
theorem HV:FnScope ["word","left","right"] ["word","left","right"] (AJ DS):=scm
theorem JX:FnScope ["sentence","word"] ["sentence"] (AJ IN):=scm
theorem HS:FnScope ["thing"] ["thing"] (AJ DL):=scm
theorem OO:FnScope ["thing"] ["thing"] (AJ JP):=scm
theorem BP:FnScope ["left","right","begin","count","truth","place","backward"] ["left","right","begin"] (AJ Dw):=scm
theorem Ex:FnScope ["row","columns","moments","begin","word","inner"] ["row","columns","moments","begin"] (AJ Fc):=scm
theorem DV:FnScope ["rows","run","moments","columns","row"] ["rows","run"] (AJ F2):=scm
theorem Fu:FnScope ["sentence","run","book"] ["sentence","run"] (AJ EZ):=scm
theorem Mw:FnScope ["sentence","run"] ["sentence","run"] (AJ Hg):=scm
theorem M6:FnScope ["_law_script","_law_k"] ["_law_script","_law_k"] (AJ Gj):=scm
theorem HB:FnScope ["_law_cell_here","_law_letters"] ["_law_cell_here"] (AJ FW):=scm
theorem Do:FnScope ["_law_cell_here","_law_lamps_here","_law_one","_law_other"] ["_law_cell_here","_law_lamps_here"] (AJ E4):=scm
theorem Dy:FnScope ["_law_cell_here","_law_lamps_here","_law_low","_law_high"] ["_law_cell_here","_law_lamps_here"] (AJ Eb):=scm
theorem Aq:FnScope ["_law_cell_here","_law_good","_law_lamps_here","_law_few","_law_thing","_law_k"] ["_law_cell_here","_law_good","_law_lamps_here"] (AJ DC):=scm
theorem EH:FnScope ["_law_cell_here","_law_lamps_here","_law_many","_law_thing","_law_k"] ["_law_cell_here","_law_lamps_here","_law_many"] (AJ Gi):=scm
theorem C9:FnScope ["_law_cell_here","_law_lamps_here","_law_low","_law_high","_law_few"] ["_law_cell_here","_law_lamps_here"] (AJ Dn):=scm
theorem Bl:FnScope ["_law_cell_here","_law_moments_here","_law_lamps_here","_law_stem","_law_ring","_law_few","_law_spoiled","_law_at"] ["_law_cell_here","_law_moments_here","_law_lamps_here"] (AJ F4):=scm
theorem Ds:FnScope ["_law_cell_here","_law_thought","_law_run","_law_told","error"] ["_law_cell_here","_law_thought","_law_run"] (AJ Fi):=scm
theorem Iz:FnScope ["_law_told"] ["_law_told"] (AJ EU):=scm
theorem En:FnScope ["_law_told"] ["_law_told"] (AJ CI):=scm
theorem GZ:FnScope ["_law_told"] ["_law_told"] (AJ DE):=scm
theorem DI:FnScope ["_law_cell_here","_law_good","_law_moments_here","_law_lamps_here","_law_ring","_law_at"] ["_law_cell_here","_law_good","_law_moments_here","_law_lamps_here"] (AJ Dh):=scm
theorem E1:FnScope ["_law_script","_law_lamps_here","_law_good","_law_moments_here","_law_due","_law_cell_here","_law_wrong","_law_bad","_law_run","_law_way"] ["_law_script"] (AJ s_law):=scm
def Kc (K:FZ9):Sp:=fun vs H Q _=>∃ (a:Addr) (ns:List Int),vs=[.ref a]/\SqL K H a (ns.map V.int)/\ns.length<=63/\∀ H',Q (.bl true) H'
structure XD (K:FZ9)(nm:Str)(D aS aT aR aW aM aE aC aX aN:Addr)(e r:Bool):Prop where
 ns:qpB K mainGlobals nm=some (some (.ref D))
 kit:XKit K D
 ex:PySem.W.exmOne K (.ref D) (.ref aS)=some true
 kE:PySem.W.kitOne K (.ref D) (.ref aE)=some e
 kR:PySem.W.kitOne K (.ref D) (.ref aR)=some r
 kV:PySem.W.kitOne K (.ref D) (.type "ValueError")=some true
 kM:PySem.W.kitOne K (.ref D) (.ref aM)=some false
 kC:PySem.W.kitOne K (.ref D) (.ref aC)=some false
 ko:∀ a∈[aX,aT,aN,aW],PySem.W.kitOne K (.ref D) (.ref a)=some false
structure XT (K:FZ9)(mg:Str->Option Value)(aS aT aR aW aM aE aC aX aN:Addr):Prop where
 naS:mg "ScribeError" = some (.ref aS)
 naT:mg "NoText" = some (.ref aT)
 naR:mg "NoRun" = some (.ref aR)
 naW:mg "NoRow" = some (.ref aW)
 naM:mg "NoMoment" = some (.ref aM)
 naE:mg "NoSentence" = some (.ref aE)
 naC:mg "NoMachine" = some (.ref aC)
 naX:mg "TooMuch" = some (.ref aX)
 naN:mg "NoName" = some (.ref aN)
 E:XD K "NoSentence" aE aS aT aR aW aM aE aC aX aN true false
 R:XD K "NoRun" aR aS aT aR aW aM aE aC aX aN false true
def XC (K:FZ9):Prop:=∃ aS aT aR aW aM aE aC aX aN:Addr,(qpB K mainGlobals "ScribeError" = some (some (.ref aS))/\qpB K mainGlobals "NoText" = some (some (.ref aT))/\qpB K mainGlobals "NoRun" = some (some (.ref aR))/\qpB K mainGlobals "NoRow" = some (some (.ref aW))/\qpB K mainGlobals "NoMoment" = some (some (.ref aM))/\qpB K mainGlobals "NoSentence" = some (some (.ref aE))/\qpB K mainGlobals "NoMachine" = some (some (.ref aC))/\qpB K mainGlobals "TooMuch" = some (some (.ref aX))/\qpB K mainGlobals "NoName" = some (some (.ref aN)))/\PySem.W.excIn K aE bmV "ValueError.__new__" = true/\PySem.W.excIn K aR bmV "ValueError.__new__" = true/\XD K "NoSentence" aE aS aT aR aW aM aE aC aX aN true false/\XD K "NoRun" aR aS aT aR aW aM aE aC aX aN false true
theorem xd_mk {K:FZ9}{nm:Str}{D aS aT aR aW aM aE aC aX aN:Addr}{e r:Bool}{cd:ClassData}(ns:qpB K mainGlobals nm=some (some (.ref D)))(c1:PySem.W.clsIn K D=some cd)
  (c2:PySem.W.findIn K (.ref D) "__getattribute__" = some (some (.builtin "BaseException.__getattribute__"))) (c3:PySem.W.findIn K (.ref D) "__getattr__" = some none) (c4:PySem.W.findIn K (.ref D) "__class__" = some (some (.builtin "object.__class__")))
  (c5:PySem.W.specialIn K (.builtin "object.__class__") "__get__" = some (some (.builtin "getset_descriptor.__get__"))) (c6:PySem.W.takesIn K (.builtin "object.__class__")=some true) (c7:PySem.W.mroIn K D (.type "object")=some true) (c8:PySem.W.mroIn K D (.type "BaseException")=some true)
  (xm:PySem.W.exmOne K (.ref D) (.ref aS)=some true) (k1:PySem.W.kitOne K (.ref D) (.ref aE)=some e) (k2:PySem.W.kitOne K (.ref D) (.ref aR)=some r) (k3:PySem.W.kitOne K (.ref D) (.type "ValueError")=some true) (k4:PySem.W.kitOne K (.ref D) (.ref aM)=some false) (k5:PySem.W.kitOne K (.ref D) (.ref aC)=some false) (k6:PySem.W.kitOne K (.ref D) (.ref aX)=some false) (k7:PySem.W.kitOne K (.ref D) (.ref aT)=some false) (k8:PySem.W.kitOne K (.ref D) (.ref aN)=some false) (k9:PySem.W.kitOne K (.ref D) (.ref aW)=some false):XD K nm D aS aT aR aW aM aE aC aX aN e r :=
 ⟨ns,XKits.to ⟨⟨cd,c1⟩,c2,c3,c4,c5,c6,c7,c8⟩,xm,k1,k2,k3,k4,k5,fun a ha=>by
  simp only [qkA,qvB,or_false] at ha
  rcases ha with rfl|rfl|rfl|rfl<;>assumption⟩
theorem xc_mk {K:FZ9}{aS aT aR aW aM aE aC aX aN:Addr}{cd cd':ClassData}(n1:qpB K mainGlobals "ScribeError" = some (some (.ref aS)))(n2:qpB K mainGlobals "NoText" = some (some (.ref aT)))(n3:qpB K mainGlobals "NoRun" = some (some (.ref aR)))(n4:qpB K mainGlobals "NoRow" = some (some (.ref aW)))(n5:qpB K mainGlobals "NoMoment" = some (some (.ref aM)))(n6:qpB K mainGlobals "NoSentence" = some (some (.ref aE)))(n7:qpB K mainGlobals "NoMachine" = some (some (.ref aC)))(n8:qpB K mainGlobals "TooMuch" = some (some (.ref aX)))(n9:qpB K mainGlobals "NoName" = some (some (.ref aN)))(xe:PySem.W.excIn K aE bmV "ValueError.__new__" = true)(xx:PySem.W.excIn K aR bmV "ValueError.__new__" = true)
  (c1:PySem.W.clsIn K aE=some cd) (c2:PySem.W.findIn K (.ref aE) "__getattribute__" = some (some (.builtin "BaseException.__getattribute__"))) (c3:PySem.W.findIn K (.ref aE) "__getattr__" = some none) (c4:PySem.W.findIn K (.ref aE) "__class__" = some (some (.builtin "object.__class__"))) (c5:PySem.W.specialIn K (.builtin "object.__class__") "__get__" = some (some (.builtin "getset_descriptor.__get__"))) (c6:PySem.W.takesIn K (.builtin "object.__class__")=some true) (c7:PySem.W.mroIn K aE (.type "object")=some true) (c8:PySem.W.mroIn K aE (.type "BaseException")=some true) (xm:PySem.W.exmOne K (.ref aE) (.ref aS)=some true) (k1:PySem.W.kitOne K (.ref aE) (.ref aE)=some true) (k2:PySem.W.kitOne K (.ref aE) (.ref aR)=some false) (k3:PySem.W.kitOne K (.ref aE) (.type "ValueError")=some true) (k4:PySem.W.kitOne K (.ref aE) (.ref aM)=some false) (k5:PySem.W.kitOne K (.ref aE) (.ref aC)=some false) (k6:PySem.W.kitOne K (.ref aE) (.ref aX)=some false) (k7:PySem.W.kitOne K (.ref aE) (.ref aT)=some false) (k8:PySem.W.kitOne K (.ref aE) (.ref aN)=some false) (k9:PySem.W.kitOne K (.ref aE) (.ref aW)=some false) (d1:PySem.W.clsIn K aR=some cd') (d2:PySem.W.findIn K (.ref aR) "__getattribute__" = some (some (.builtin "BaseException.__getattribute__"))) (d3:PySem.W.findIn K (.ref aR) "__getattr__" = some none) (d4:PySem.W.findIn K (.ref aR) "__class__" = some (some (.builtin "object.__class__"))) (d5:PySem.W.specialIn K (.builtin "object.__class__") "__get__" = some (some (.builtin "getset_descriptor.__get__"))) (d6:PySem.W.takesIn K (.builtin "object.__class__")=some true) (d7:PySem.W.mroIn K aR (.type "object")=some true) (d8:PySem.W.mroIn K aR (.type "BaseException")=some true) (ym:PySem.W.exmOne K (.ref aR) (.ref aS)=some true) (l1:PySem.W.kitOne K (.ref aR) (.ref aE)=some false) (l2:PySem.W.kitOne K (.ref aR) (.ref aR)=some true) (l3:PySem.W.kitOne K (.ref aR) (.type "ValueError")=some true) (l4:PySem.W.kitOne K (.ref aR) (.ref aM)=some false) (l5:PySem.W.kitOne K (.ref aR) (.ref aC)=some false) (l6:PySem.W.kitOne K (.ref aR) (.ref aX)=some false) (l7:PySem.W.kitOne K (.ref aR) (.ref aT)=some false) (l8:PySem.W.kitOne K (.ref aR) (.ref aN)=some false) (l9:PySem.W.kitOne K (.ref aR) (.ref aW)=some false):XC K :=
 ⟨aS,aT,aR,aW,aM,aE,aC,aX,aN,⟨n1,n2,n3,n4,n5,n6,n7,n8,n9⟩,xe,xx,xd_mk n6 c1 c2 c3 c4 c5 c6 c7 c8 xm k1 k2 k3 k4 k5 k6 k7 k8 k9,xd_mk n3 d1 d2 d3 d4 d5 d6 d7 d8 ym l1 l2 l3 l4 l5 l6 l7 l8 l9⟩
section
variable (P:Program)(w:World)(K:FZ9)(mg:Str->Option Value)(base:Heap)
abbrev IB:Prop:=DefOk P w K mg base "_law_lamps" 1 ["_law_cell_here"] (spM K HR)
abbrev Fs:Prop:=DefOk P w K mg base "_law_sentence" 1 ["_law_cell_here","_law_lamps_here"] (spM K FP)
abbrev GM:Prop:=DefOk P w K mg base "_law_moments" 1 ["_law_cell_here","_law_lamps_here"] (spM K Fe)
abbrev J6:Prop:=DefOk P w K mg base "parts_of" 1 ["sentence"] (spM K IA)
abbrev IE:Prop:=DefOk P w K mg base "parts_of" 1 ["sentence"] (spM K HN)
abbrev Gw:Prop:=DefOk P w K mg base "row_number" 1 ["rows","numbers","row"] (spB K DH)
abbrev Z_lay:Prop:=DefOk P w K mg base "lay" 162 ["rows","numbers","sentence"] (spB K (EF Al 160))
abbrev K8:Prop:=DefOk P w K mg base "book_of" 163 ["some"] (spN K J7)
abbrev Fa:Prop:=DefOk P w K mg base "is_moment" 1 ["thing"] (spM K F3)
abbrev KI:Prop:=DefOk P w K mg base "is_lamp" 2 ["thing"] (spM K JU)
abbrev Iv:Prop:=DefOk P w K mg base "has_form" 3 ["thing"] (spM K Hy)
abbrev GO:Prop:=DefOk P w K mg base "is_sentence" 4 ["thing"] (spM K Fg)
abbrev Ee:Prop:=DefOk P w K mg base "is_moment_list" 2 ["thing"] (spM K D8)
abbrev Ln:Prop:=DefOk P w K mg base "is_run" 3 ["thing"] (spM K KJ)
abbrev Fn:Prop:=DefOk P w K mg base "until_column" 1 ["left","right","begin"] (spL K FN)
abbrev IF:Prop:=DefOk P w K mg base "column_of" 2 ["row","columns","moments","begin"] (spL K HC)
abbrev Gu:Prop:=DefOk P w K mg base "columns_of" 3 ["rows","run"] (spM K GR)
abbrev JB:Prop:=DefOk P w K mg base "denied" 1 ["plain"] (spM K Cg)
abbrev El:Prop:=DefOk P w K mg base "plain_with_two" 2 ["word","left","right"] (spM K EO)
abbrev Ec:Prop:=DefOk P w K mg base "plain_with_one" 2 ["word","inner"] (spM K EK)
abbrev Nu:Prop:=DefOk P w K mg base "plain" 29 ["sentence"] (spM K (DA 26))
abbrev Bj:Prop:=DefE P w K mg base "places_true" 164 ["sentence","run"] (spX K mg Cn)
abbrev GQ:Prop:=DefOk P w K mg base "places_true" 164 ["sentence","run"] (spM K CW)
abbrev Jd:Prop:=DefOk P w K mg base "_law_cell" 1 ["_law_script","_law_k"] (spM K Cu)
abbrev EI:Prop:=DefOk P w K mg base "_law_no_sentence" 1 ["_law_cell_here","_law_good","_law_lamps_here"] (spM K E7)
abbrev Dj:Prop:=DefOk P w K mg base "_law_no_moment" 1 ["_law_cell_here","_law_lamps_here"] (spM K DJ)
abbrev HQ:Prop:=DefOk P w K mg base "_law_no_run" 2 ["_law_cell_here","_law_moments_here","_law_lamps_here"] (spM K GL)
abbrev Ea:Prop:=DefOk P w K mg base "_law_of_none" 1 ["_law_told"] (spM K E8)
abbrev DF:Prop:=DefOk P w K mg base "_law_no_run_told" 2 ["_law_told"] (spM K Cr)
abbrev Dv:Prop:=DefE P w K mg base "true_on" 165 ["sentence","run"] (spX K mg Fb)
abbrev Jw:Prop:=DefOk P w K mg base "true_on" 165 ["sentence","run"] (spM K Eo)
abbrev Fw:Prop:=DefOk P w K mg base "_law_asked" 166 ["_law_cell_here","_law_thought","_law_run"] (spM K Cc)
abbrev FQ:Prop:=DefOk P w K mg base "_law_made_good" 167 ["_law_cell_here","_law_good","_law_moments_here","_law_lamps_here"] (spM K Ed)
abbrev Io:Prop:=DefOk P w K mg base "_law_long" 1 ["_law_cell_here","_law_lamps_here","_law_many"] (spM K FZ)
abbrev D5:Prop:=DefOk P w K mg base "_law_no_sentence_told" 2 ["_law_told"] (spM K D2)
end
section
variable {P:Program}{w:World}{K:FZ9}{mg:Str->Option Value}{base:Heap}
local macro_rules | `(tactic| ac_rfl) => `(tactic| first | assumption | exact Ne.symm (by assumption))
local macro_rules
 | `(tactic| clear $n:num $rs*) => do
  let hm := Lean.mkIdent `hm
  let xt := Lean.mkIdent `xt
  let q := Lean.mkIdent `q
  let rf := Lean.mkIdent `rfl
  let w : Array Lean.Ident := rs.map fun r => ⟨r.raw⟩
  match n.getNat with
  | 2 =>
   let mut ts := #[]
   for k in [0:w.size/2] do
    let a := w[2*k]!
    let b := w[2*k+1]!
    ts := ts.push (← `(tactic| refine bE $hm fun $a $b $hm => ?_))
   `(tactic| ($[$ts:tactic];*))
  | 3 => `(tactic| (replace $hm := cT $hm; refine Bo ?_))
  | 4 => `(tactic| (replace $hm := cF $hm; refine Bd ?_))
  | 5 => `(tactic| (rintro r' v' G' H' $rf:ident rl; cases $hm:ident; exact $q v' G' H' rl.1 rl.2))
  | 6 => let k := w[0]!; `(tactic| (rintro r' v' G' H' $rf:ident rl; cases $hm:ident; exact $k _ v' G' H' rfl rl))
  | 9 =>
   let x := w[0]!
   let ts ← (w.extract 1 w.size).mapM fun (i : Lean.Ident) => `(tactic| have $i := Rp.mono $x $i)
   `(tactic| ($[$ts:tactic];*))
  | z =>
   if z > 1 then Lean.Macro.throwUnsupported
   let x := w[0]!
   let mut m := 1
   let mut ts := #[]
   let mut hs := #[]
   for i in w.extract 1 w.size do
    if let some k := i.raw.isNatLit? then m := k
    else if m == 4 then hs := hs.push (← `(tactic| have $i := ($xt).hh.free $i))
    else ts := ts.push (← match m with
     | 1 => `(tactic| have $i := Rp.mono ($x).gg $i)
     | 2 => `(tactic| have $i := ($i).ext $x)
     | _ => `(tactic| have $i := ($i).trans ($x).gg))
   if z == 1 then hs := hs.push (← `(tactic| have $xt := ($xt).trans $x))
   let zs := hs ++ ts
   `(tactic| ($[$zs:tactic];*))
seal eval in
theorem Ka (F:DIn K mg "_law_lamps" FW)(T:Txt w K mg):IB P w K mg base:=by
 refine F.okM1 (m:=Cv) HB fun _ _ _ _ _ H0 _ _ hr G0 AG res Ar xt A7 hm q=>?_;unfold Cv at hm
 refine ⟨_,(A6 (AS (i:=1) HB AH)
   (A6 (AT (Az (A4 (AW K (pv 1) (As BQ (pv 0) AD)) (A4 (AW K (pv 1) (As BQ (B2 K (B2 K (pv 0) AD) (As BQ (As BH (pv 0) AD) AD)) AD)) A8))))
   AB)),?_⟩
 clear 2 Ig h6;refine Ak (K:=K) Ai h6 xt.gh fun v1 G2 H3 x4 r5=>?_;clear 1 x4 A7;exact AY (K:=K) (FV.ev (B3 (A5 (ev_atS (A9 r5) (Bi (A9 A7))) (A5 (ev_atS (A9 r5) (Bi (FA (FA (A9 A7) An) (Bi (BY (A9 A7)))))) (AF (α:=Str)))))) hm xt.gh fun v14 G15 H16 x17 r18=>q v14 G15 H16 (xt.trans x17) r18
seal eval in
theorem IH (F:DIn K mg "_law_sentence" E4)(T:Txt w K mg):Fs P w K mg base:=by
 refine F.okM2 (m:=CF) Do fun _ _ _ _ _ H0 _ _ hr G0 AG AN res Ar BS xt A7 AC hm q=>?_;unfold CF at hm
 refine ⟨_,(A6 (AS (i:=2) Do (AK (A4 AH (A4 (AW K (pv 1) (As BQ (pv 0) AD)) A8))))
   (A6 (AS (i:=3) Do (AW K (Az (A4 (AK (A4 AH A8)) (A4 (AK (A4 AH A8)) (A4 (AK (A4 AH (A4 (AW K (pv 1) AD) A8))) (A4 (pv 2) A8))))) (As BQ (As BH (pv 0) AD) AD)))
   (A6 (B7 (Ap Be (As BQ (As BH (pv 0) AD) AD) AD (At _)) (A6 (AT (pv 2))
   AB) AB)
   (A6 (B7 (Ap Be (As BQ (As BH (pv 0) AD) AD) AD (At _)) (A6 (AT (AK (A4 (AW K (Az (A4 AH (A4 AH (A4 AH (A4 AH (A4 AH (A4 AH A8))))))) (As BQ (As BH (pv 0) AD) AD)) (A4 (pv 3) A8))))
   AB) AB)
   (A6 (AT (AK (A4 AH (A4 (AK (A4 (AW K (Az (A4 AH (A4 AH (A4 AH (A4 AH (A4 AH A8)))))) (As BQ (As BH (pv 0) AD) AD)) (A4 (pv 2) (A4 (pv 3) A8)))) A8))))
   AB))))),?_⟩
 clear 2 one_ h12;refine Ak (K:=K) (Av (A5 (Ae Ai) (A5 (Ae (BU (A9 AC) (Bi (A9 A7)))) (AF (α:=Nt))))) h12 xt.gh fun v7 G8 H9 x10 r11=>?_;clear 1 x10 A7 AC;clear 2 Mj h29;refine Ak (K:=K) (BU (FV.ev (B3 (A5 (Av (A5 (Ae Ai) (AF (α:=Nt)))) (A5 (Av (A5 (Ae Ai) (AF (α:=Nt)))) (A5 (Av (A5 (Ae Ai) (A5 (Ae (BU (A9 AC) An)) (AF (α:=Nt))))) (A5 (A9 r11) (AF (α:=Nt)))))))) (Bi (BY (A9 A7)))) h29 xt.gh fun v24 G25 H26 x27 r28=>?_;clear 1 x27 A7 r11;clear 2 b30 h31;refine BE (Ao (K:=K) (Dm (Bi (BY (A9 A7))) An)) h31 xt.gh fun G32 H33 x34=>?_;clear 1 x34 A7 r11 r28
 cases b30 with
 | true =>
  clear 3;exact AY (K:=K) (A9 r11) hm xt.gh fun v35 G36 H37 x38 r39=>q v35 G36 H37 (xt.trans x38) r39
 | false =>
  clear 4;clear 2 b40 h41;refine BE (Ao (K:=K) (Dm (Bi (BY (A9 A7))) An)) h41 xt.gh fun G42 H43 x44=>?_;clear 1 x44 A7 r11 r28
  cases b40 with
  | true =>
   clear 3;exact AY (K:=K) (Av (A5 (BU (FV.ev (B3 (A5 (Ae Ai) (A5 (Ae Ai) (A5 (Ae Ai) (A5 (Ae Ai) (A5 (Ae Ai) (A5 (Ae Ai) (AF (α:=Nt)))))))))) (Bi (BY (A9 A7)))) (A5 (A9 r28) (AF (α:=Nt))))) hm xt.gh fun v49 G50 H51 x52 r53=>q v49 G50 H51 (xt.trans x52) r53
  | false =>
   clear 4;exact AY (K:=K) (Av (A5 (Ae Ai) (A5 (Av (A5 (BU (FV.ev (B3 (A5 (Ae Ai) (A5 (Ae Ai) (A5 (Ae Ai) (A5 (Ae Ai) (A5 (Ae Ai) (AF (α:=Nt))))))))) (Bi (BY (A9 A7)))) (A5 (A9 r11) (A5 (A9 r28) (AF (α:=Nt)))))) (AF (α:=Nt))))) hm xt.gh fun v61 G62 H63 x64 r65=>q v61 G62 H63 (xt.trans x64) r65
seal eval in
theorem Iu (F:DIn K mg "_law_moments" Eb)(T:Txt w K mg):GM P w K mg base:=by
 refine F.okM2 (m:=CO) Dy fun _ _ _ _ _ H0 _ _ hr G0 AG AN res Ar BS xt A7 AC hm q=>?_;unfold CO at hm
 refine ⟨_,(A6 (AS (i:=2) Dy (BN (KH (K:=K) rfl rfl) (by rfl) T.min_ bt_min (A4 (pv 1) A8)))
   (A6 (AS (i:=3) Dy (BN (K9 (K:=K) rfl rfl) (by rfl) T.max_ bt_max (A4 (pv 1) A8)))
   (A6 (AT (Go (cn:=["_law_low","_law_high","_law_cell_here"]) (cap:=[2,3,0]) rfl ⟨by decide +kernel,rfl,by decide +kernel,FE rfl⟩ rfl (by decide +kernel) ⟨⟨rfl,.inl rfl,rfl⟩,⟨rfl,.inl rfl,rfl⟩,⟨rfl,.inl rfl,rfl⟩,trivial⟩ (GC rfl T.range_ (A4 (B2 K AD (As BQ (As BH (pv 0) AD) AD)) A8)) (fun C s0 H0 fp=>⟨Er,(AW K (Az (A4 AH (A4 (pv 1) (A4 (pv 2) (A4 (B2 K (pv 1) (pv 2)) A8))))) (As BQ (As BH (pv 3) (B2 K (pv 0) AD)) AD))⟩)))
   AB))),?_⟩
 clear 2 low_ h7;refine Ak (K:=K) (NJ (A9 AC)) h7 xt.gh fun v2 G3 H4 x5 r6=>?_;clear 1 x5 A7 AC;clear 2 GP h14;refine Ak (K:=K) (NL (A9 AC)) h14 xt.gh fun v9 G10 H11 x12 r13=>?_;clear 1 x12 A7 r6;exact AY (K:=K) (FV.ev (JY (cap:=[2,3,0]) (fe:=fun (k_:Int)=>(((((((((some low_).bind fun t20=>(some GP).bind fun t21=>HP t20 t21).bind fun t22=>(some (ToD.to t22))).bind fun t23=>(some [t23])).bind fun t24=>(some ((ToD.to GP)::t24))).bind fun t25=>(some ((ToD.to low_)::t25))).bind fun t26=>(some ((ToD.to ("" : Str))::t26))).bind fun t30=>(((some AG).bind fun t27=>(some (k_+(1:Int))).bind fun t28=>Jp t27 t28).bind fun t29=>(some (t29 % (4:Int)))).bind fun t31=>atI t30 t31).bind fun t32=>DZ t32)) (IL (FA An (Bi (BY (A9 A7))))) fun xc19 k_ Gc16 sc17 rc18=>(DB (BU (FV.ev (B3 (A5 (AA Ai) (A5 (AA (A9 (Rp.mono sc17 r6))) (A5 (AA (A9 (Rp.mono sc17 r13))) (A5 (AA (EN (A9 (Rp.mono sc17 r6)) (A9 (Rp.mono sc17 r13)))) (AF (α:=D)))))))) (Bi (Il (A9 (Rp.mono sc17 A7)) (FA (A9 rc18) An))))))) hm xt.gh fun v34 G35 H36 x37 r38=>q v34 G35 H36 (xt.trans x37) r38
theorem M2 (F:DIn K mg "parts_of" Ey)(T:Txt w K mg):J6 P w K mg base:=by
 refine F.okM1 (m:=Al) Hz fun _ _ _ _ _ H0 _ _ hr G0 Ah res Bm xt AL hm q=>?_;unfold Al at hm
 refine ⟨_,(A6 (B7 (Ap Be (AW K (pv 0) AD) AH (At _)) (A6 (AT (AK A8))
   AB) AB)
   (A6 (AT (Bf (NH (K:=K) rfl) (pv 0) (Bs AD) C3))
   AB)),?_⟩
 clear 2 b9 h10;refine BE (Ao (K:=K) (C5 (Fd (CZ (CV (A9 AL)) An)) Ai)) h10 xt.gh fun G11 H12 x13=>?_;clear 1 x13 AL
 cases b9 with
 | true =>
  clear 3;exact AY (K:=K) (rest:=BD) (σ:=[some Bm]) (AZ (AF (α:=Nt))) hm xt.gh fun v14 G15 H16 x17 r18=>q v14 G15 H16 (xt.trans x17) r18
 | false =>
  clear 4;exact AY (K:=K) (K6 (CV (A9 AL)) (By (K:=K) An) Bz) hm xt.gh fun v23 G24 H25 x26 r27=>q v23 G24 H25 (xt.trans x26) r27
theorem Kw (F:DIn K mg "parts_of" Ey)(T:Txt w K mg):IE P w K mg base:=by
 refine F.okM1 (m:=B1) Hz fun _ _ _ _ _ H0 _ _ hr G0 Ah res Bm xt AL hm q=>?_;unfold B1 at hm
 refine ⟨_,(A6 (B7 (Ap Be (AW K (pv 0) AD) AH (At _)) (A6 (AT (AK A8))
   AB) AB)
   (A6 (AT (Bf (NH (K:=K) rfl) (pv 0) (Bs AD) C3))
   AB)),?_⟩
 clear 2 b9 h10;refine BE (Ao (K:=K) (C5 (DB (Ev (A9 AL) An)) Ai)) h10 xt.gh fun G11 H12 x13=>?_;clear 1 x13 AL
 cases b9 with
 | true =>
  clear 3;exact AY (K:=K) (rest:=BD) (σ:=[some Bm]) (AZ (AF (α:=D))) hm xt.gh fun v14 G15 H16 x17 r18=>q v14 G15 H16 (xt.trans x17) r18
 | false =>
  clear 4;exact AY (K:=K) (K6 (O1 (A9 AL)) (By (K:=K) An) Bz) hm xt.gh fun v23 G24 H25 x26 r27=>q v23 G24 H25 (xt.trans x26) r27
theorem Jm (F:DIn K mg "row_number" FF)(T:Txt w K mg):Gw P w K mg base:=by
 refine F.ok Jr bn3 (fun vs H Q E h=>(Ko h).trans rfl) (fun _ cdv A outer s H0 vs Q E hr h=>?_);obtain ⟨G0,p,q,v,xs,rows,a,r,rfl,sg,o,rv,hm,k⟩:=h
 refine ⟨_,(A6 (B7 (pt_cmp (Oi (ML hr) (pv 2) (pv 1))) (A6 (ps_dput (ML hr) (pv 1) (pv 2) (BZ K T.len_ (pv 0)) rfl)
   (A6 (GH (Gn K (pv 0) (pv 2))) AB)) AB)
   (A6 (AT (pe_dget (ML hr) (pv 1) (pv 2) (fun _ _=>rfl))) AB)),?_⟩
 exact Od sg o rv hm k
theorem ok0_lay {f:Addr}{fd:FuncData}(F:Fun K "lay" "lay" Nf f fd):FnOk P w K mg base CX0 2 f fd ["rows","numbers","sentence"] (spB K (EF Al 0)):=by
 refine F.ok JR (fun vs H Q E h=>(Ko h).trans rfl) (fun cdv A outer s H0 vs Q E hr h=>?_);obtain ⟨_,_,_,_,_,_,_,_,_,_,_,_,hm,_⟩:=h;exact nomatch (hm:none=some _)
theorem ok_lay {f:Addr}{fd:FuncData}(F:Fun K "lay" "lay" Nf f fd)(T:Txt w K mg)(Gc:J6 P w K mg base)(Dr:Gw P w K mg base)(E6:Nat)(M4:DefOk P w K mg base "lay" (2+E6) ["rows","numbers","sentence"] (spB K (EF Al E6))):FnOk P w K mg base CX0 (2+E6+1) f fd ["rows","numbers","sentence"] (spB K (EF Al (E6+1))):=by
 refine F.ok JR (fun vs H Q E h=>(Ko h).trans rfl) (fun cdv A outer s H0 vs Q E hr h=>?_);obtain ⟨G0,p,q,v,xs,rows,a,r,rfl,sg,o,rv,hm,k⟩:=h
 refine ⟨_,(A6 (B7 (Ap Be (AW K (pv 2) AD) AH (At _)) (A6 (AT (Ab Dr hr (by omega) rfl (A4 (pv 0) (A4 (pv 1) (A4 (pv 2) A8))))) AB) AB)
   (A6 (AS (i:=3) JR (AK (A4 (AW K (pv 2) AD) A8)))
   (A6 (F5 PassesOwn.never rfl (Dq (K:=K) rfl (Ab Gc hr (by omega) rfl (A4 (pv 2) A8))) (D6 (i:=4) JR)
    (A6 (AS (i:=3) JR (As (op_catTp (K:=K) rfl) (pv 3) (AK (A4 (Ab M4 hr (by omega) rfl (A4 (pv 0) (A4 (pv 1) (A4 (pv 4) A8)))) A8)))) AB))
   (A6 (AT (Ab Dr hr (by omega) rfl (A4 (pv 0) (A4 (pv 1) (A4 (pv 3) A8))))) AB)))),?_⟩
 exact lay_body (pm:=Al) (mp:=IA) (fun _=>rfl) sg o rv hm k
theorem Mq (F:DIn K mg "book_of" He)(T:Txt w K mg)(M4:Z_lay P w K mg base):K8 P w K mg base:=by
 refine F.ok Es bn1 (fun vs H Q E h=>(spN_len h).trans rfl) (fun _ cdv A outer s H0 vs Q E hr h=>?_);obtain ⟨G0,⟨some_,⟨⟩⟩,r,sg,⟨v,_,rfl,rv,rfl⟩,hm,k⟩:=h
 refine ⟨_,(A6 (AS (i:=1) Es (Az A8))
   (A6 (AS (i:=2) Es pe_dnewT)
   (A6 (MN (i:=3) (nd_of Es) rfl (Or.inl rfl) (cn:=["rows","numbers"]) (cap:=[1,2]) rfl ⟨by decide +kernel,rfl,by decide +kernel,FE rfl⟩ rfl (by decide +kernel) ⟨⟨rfl,.inl rfl,rfl⟩,⟨rfl,.inl rfl,rfl⟩,trivial⟩ (Dq (K:=K) rfl (pv 0)) (fun C s0 H0 fp=>⟨Er,(Ab M4 hr (by decide) rfl (A4 (pv 1) (A4 (pv 2) (A4 (pv 0) A8))))⟩))
   (A6 (AT (AK (A4 (pv 1) (A4 (pv 3) A8)))) AB)))),?_⟩
 exact OA sg rv hm k
theorem LA (F:DIn K mg "is_moment" Ft)(T:Txt w K mg):Fa P w K mg base:=by
 refine F.okM1 (m:=AU) Dp fun _ _ _ _ _ H0 _ _ hr G0 Am res Br xt Ac hm q=>?_;unfold AU at hm
 refine ⟨_,(A6 (B7 (DT (BR K (BN (EC (K:=K) rfl) (by rfl) T.isinstance_ B4 (A4 (pv 0) (A4 (GF (v:=.ty "str") rfl T.str_ bt_str rfl) A8))))) (A6 (AT Cz)
   AB) AB)
   (A6 (AS (i:=1) Dp AH)
   (A6 (F5 PassesOwn.never rfl (Dq (K:=K) rfl (pv 0)) (D6 (i:=2) Dp) (A6 (B7 (PW.pt (GU (Ap Mg (pv 2) AH (At _)) (GU (Ap Kq (pv 2) AH (At _)) (Gh (Ap op_leU (pv 2) (pv 1) (At _)))))) (A6 (AT Cz)
   AB) AB)
   (A6 (AS (i:=1) Dp (pv 2))
   AB)))
   (A6 (AT Cz)
   AB)))),?_⟩
 clear 2 b1 h2;refine BE (DD (FT (K:=K) (FY (by decide) (A9 Ac)))) h2 xt.gh fun G3 H4 x5=>?_;clear 1 x5 Ac
 cases b1 with
 | true =>
  clear 3;exact AY (K:=K) (rest:=BD) (σ:=[some Br,none,none]) F7 hm xt.gh fun v6 G7 H8 x9 r10=>q v6 G7 H8 (xt.trans x9) r10
 | false =>
  clear 4;clear 2 Lf h16;refine Ak (K:=K) Ai h16 xt.gh fun v11 G12 H13 x14 r15=>?_;clear 1 x14 Ac;clear 2 as18 h19 fl20 h21;refine F1 (K:=K) (RR:=fun r v G' H'=>Ext G0 H0 G' H'/\Rp.rel K G' v r) (iw_any (A9 Ac)) h19 h21 xt.gh fun G22 H23 x24=>⟨fun s25 S' G' H'=>∃ (v26:V) (v27:Option V),Ext G0 H0 G' H'/\Same G22 G'/\S'=[some Br,some v26,v27]/\Rp.rel K G' v26 (s25:Str),?_,?_,?_,?_,?_⟩
  ·clear 1 x24 r15;exact ⟨v11,_,xt,(Same.refl _),rfl,r15⟩
  ·rintro _ S' G' H' ⟨v26,v27,xt,mk28,rfl,r29⟩;exact ⟨mk28,xt.gh⟩
  ·rintro xv30 a31 s25 _ G34 H35 fl32 - ⟨v26,v27,xt,mk28,rfl,r29⟩ rx33 hm D' kN36 kC37 kB38 kR39;refine EG ?_;clear 2 b48 h49;refine BE (FM (Ao (K:=K) (L5 (DB (A9 rx33)) Ai)) (FM (Ao (K:=K) (L5 (DB (A9 rx33)) Ai)) (Ao (K:=K) (L5 (DB (A9 rx33)) (A9 r29))))) h49 xt.gh fun G50 H51 x52=>?_;clear 1 x52 rx33 3 mk28
   cases b48 with
   | true =>
    clear 3;clear 2 rr58 h59;cases hm;exact AY (K:=K) (rest:=BD) (σ:=[some Br,some v26,some xv30]) F7 h59 xt.gh fun v53 G54 H55 x56 r57=>kR39 _ v53 G54 H55 rfl ⟨xt.trans x56,r57⟩
   | false =>
    clear 4;clear 2 Lf h66;refine Ak (K:=K) (DB (A9 rx33)) h66 xt.gh fun v61 G62 H63 x64 r65=>?_;clear 1 x64 3 mk28;cases hm;exact kN36 _ _ _ _ rfl ⟨v61,_,xt,mk28,rfl,r65⟩
  ·rintro s25 _ G71 H72 rfl ⟨v67,v68,xt,mk69,rfl,r70⟩;refine Gq ?_;exact AY (K:=K) (rest:=BD) (σ:=[some Br,some v67,v68]) F7 hm xt.gh fun v73 G74 H75 x76 r77=>q v73 G74 H75 (xt.trans x76) r77
  ·clear 5
theorem Mk (F:DIn K mg "is_lamp" Hw)(T:Txt w K mg)(D1:Fa P w K mg base):KI P w K mg base:=by
 refine F.okM1 (m:=Bv) MK fun _ _ _ _ _ H0 _ _ hr G0 Am res Br xt Ac hm q=>?_;unfold Bv at hm
 refine ⟨_,(A6 (AT (Di (Ab D1 hr (by decide) rfl (A4 (pv 0) A8)) (E9 (FH Be (BZ K T.len_ (pv 0)) AD (At _)))))
   AB),?_⟩
 exact AY (K:=K) (Dl (BA (m:=F3) (A9 Ac)) (Dm (FB (A9 Ac)) An)) hm xt.gh fun v5 G6 H7 x8 r9=>q v5 G6 H7 (xt.trans x8) r9
theorem LY (F:DIn K mg "has_form" Gg)(T:Txt w K mg)(Hh:KI P w K mg base):Iv P w K mg base:=by
 refine F.okM1 (m:=Ad) MB fun _ _ _ _ _ H0 _ _ hr G0 Am res Br xt Ac hm q=>?_;unfold Ad at hm;obtain ⟨a_PARTS,e_PARTS,q_PARTS⟩:=T.PARTS
 refine ⟨_,(A6 (B7 (PW.pt (GU (DT (BR K (BN (EC (K:=K) rfl) (by rfl) T.isinstance_ B4 (A4 (pv 0) (A4 (GF (v:=.ty "tuple") rfl T.tuple_ HL rfl) A8))))) (GU (Ap Be (BZ K T.len_ (pv 0)) AD (At _)) (Gh (DT (BR K (BN (EC (K:=K) rfl) (by rfl) T.isinstance_ B4 (A4 (AW K (pv 0) AD) (A4 (GF (v:=.ty "str") rfl T.str_ bt_str rfl) A8))))))))) (A6 (AT Cz)
   AB) AB)
   (A6 (B7 (Ap Be (AW K (pv 0) AD) AH (At _)) (A6 (AT (Di (FH Be (BZ K T.len_ (pv 0)) AD (At _)) (E9 (Ab Hh hr (by decide) rfl (A4 (AW K (pv 0) AD) A8)))))
   AB) AB)
   (A6 (AT (Di (pe_inC rfl rfl q_PARTS (AW K (pv 0) AD) (D3 rfl e_PARTS) rfl) (E9 (FH Be (BZ K T.len_ (pv 0)) (B2 K AD (pe_getC rfl rfl q_PARTS (D3 rfl e_PARTS) (AW K (pv 0) AD) (fun _ _=>rfl))) (At _)))))
   AB))),?_⟩
 clear 2 b9 h10;refine BE (FM (DD (FT (K:=K) (FY (by decide) (A9 Ac)))) (FM (Ao (K:=K) (Dm (FB (A9 Ac)) An)) (DD (FT (K:=K) (FY (by decide) (Ev (A9 Ac) An)))))) h10 xt.gh fun G11 H12 x13=>?_;clear 1 x13 Ac
 cases b9 with
 | true =>
  clear 3;exact AY (K:=K) (rest:=BD) (σ:=[some Br]) F7 hm xt.gh fun v14 G15 H16 x17 r18=>q v14 G15 H16 (xt.trans x17) r18
 | false =>
  clear 4;clear 2 b25 h26;refine BE (Ao (K:=K) (C5 (DB (Ev (A9 Ac) An)) Ai)) h26 xt.gh fun G27 H28 x29=>?_;clear 1 x29 Ac
  cases b25 with
  | true =>
   clear 3;exact AY (K:=K) (Dl (Dm (FB (A9 Ac)) An) (BA (m:=JU) (Ev (A9 Ac) An))) hm xt.gh fun v36 G37 H38 x39 r40=>q v36 G37 H38 (xt.trans x39) r40
  | false =>
   clear 4;exact AY (K:=K) (Dl (ev_inC (DB (Ev (A9 Ac) An))) (Dm (FB (A9 Ac)) (FA An (ev_getC (DB (Ev (A9 Ac) An)))))) hm xt.gh fun v59 G60 H61 x62 r63=>q v59 G60 H61 (xt.trans x62) r63
theorem JZ (F:DIn K mg "is_sentence" ET)(T:Txt w K mg)(Fy:IE P w K mg base)(Gf:Iv P w K mg base):GO P w K mg base:=by
 refine F.okM1 (m:=Au) D9 fun _ _ _ _ _ H0 _ _ hr G0 Am res Br xt Ac hm q=>?_;unfold Au at hm
 refine ⟨_,(A6 (AS (i:=1) D9 (Az (A4 (pv 0) A8)))
   (A6 (AS (i:=2) D9 AD)
   (A6 (ps_while PassesOwn.never (Ap Mg (pv 2) (BZ K T.len_ (pv 1)) (At _)) (A6 (B7 (PW.pt (GU (Ap Kq (BZ K T.len_ (pv 1)) (Lz rfl T.MOST_WORDS) (At _)) (Gh (DT (BR K (Ab Gf hr (by decide) rfl (A4 (AW K (pv 1) (pv 2)) A8))))))) (A6 (AT Cz)
   AB) AB)
   (A6 (GH (pe_bmK (K:=K) rfl PySem.F.plainAttrs_list PySem.F.slot_list_extend PySem.F.type_list_extend (N3 (K:=K) rfl) (pv 1) (A4 (Ab Fy hr (by decide) rfl (A4 (AW K (pv 1) (pv 2)) A8)) A8)))
   (A6 (AS (i:=2) D9 (B2 K (pv 2) AD))
   AB))))
   (A6 (AT Cz)
   AB)))),?_⟩
 clear 2 found_ h8;refine J8 (K:=K) (B3 (A5 (A9 Ac) (AF (α:=D)))) h8 xt.gh fun p1 vs2 G3 H4 x5 hz6 o7=>?_;clear 1 x5 4 hz6;clear 2 E3 h14;refine Ak (K:=K) An h14 xt.gh fun v9 G10 H11 x12 r13=>?_;clear 1 x12 2 o7;clear 2 fl15 h16;refine sv_while (K:=K) (G:=G10) (RR:=fun r v G' H'=>Ext G0 H0 G' H'/\Rp.rel K G' v r) h16 (fun s17 S' G' H'=>∃ (v18:V),Ext G0 H0 G' H'/\Same G10 G'/\S'=[some Br,some (V.ref p1),some v18]/\(∃ vs,Own K G' H' (V.ref p1) p1 vs s17.1)/\Rp.rel K G' v18 (s17.2:Int)) ⟨?_,?_,?_,?_,?_,?_⟩
 ·exact ⟨v9,xt,(Same.refl _),rfl,⟨_,o7⟩,r13⟩
 ·rintro _ S' G' H' ⟨v18,xt,mk19,rfl,⟨vs2,o7⟩,r20⟩;exact xt.gh
 ·rintro s17 _ G21 H22 b' ⟨v18,xt,mk19,rfl,⟨vs2,o7⟩,r20⟩ hc Q' k';refine TV.runB o7 (Ao (K:=K) (Ip (A9 (Rp.mono (Same.new o7.g) r20)) (EQ (A9 o7.tell)))) hc xt.gh fun G23 H24 x25=>?_;clear 1 x25 r20 2 o7 3 mk19;exact k' _ _ ⟨v18,xt,mk19,rfl,⟨_,o7⟩,r20⟩
 ·rintro s17 _ G27 H28 fl26 ⟨v18,xt,mk19,rfl,⟨vs2,o7⟩,r20⟩ hm - D' kN29 kC30 kB31 kR32;clear 2 b43 h44;refine sv_ifB o7 (FM (Ao (K:=K) (Ip (EQ (A9 o7.tell)) An)) (DD (FT (K:=K) (BA (m:=Hy) (BU (A9 o7.tell) (A9 (Rp.mono (Same.new o7.g) r20))))))) h44 xt.gh fun G45 H46 x47=>?_;clear 1 x47 r20 2 o7 3 mk19
  cases b43 with
  | true =>
   clear 3;clear 2 rr53 h54;cases hm;exact AY (K:=K) (rest:=BD) (σ:=[some Br,some (V.ref p1),some v18]) F7 h54 xt.gh fun v48 G49 H50 x51 r52=>kR32 _ v48 G49 H50 rfl ⟨xt.trans x51,r52⟩
  | false =>
   clear 4;clear 2 a58 h59 z66 h60;refine MF (K:=K) (m:=HN) rfl o7 (A9 r20) h59 h60 xt.gh fun G61 H62 w63 x64 o65=>?_;have xt:Ext G0 H0 G61 (upd H62 p1 (.lst (vs2++w63))):=(xt.trans x64).put hz6 o65.g;clear 0 x64 r20 3 mk19;clear 2 E3 h72;refine Ak (K:=K) (FA (A9 r20) An) h72 xt.gh fun v67 G68 H69 x70 r71=>?_;clear 1 x70 2 o65 3 mk19;cases hm;exact kN29 _ _ _ _ rfl ⟨v67,xt,mk19,rfl,⟨_,o65⟩,r71⟩
 ·rintro s17 _ G76 H77 rfl ⟨v73,xt,mk74,rfl,⟨vs2,o7⟩,r75⟩;refine Gq ?_;exact AY (K:=K) (rest:=BD) (σ:=[some Br,some (V.ref p1),some v73]) F7 hm xt.gh fun v78 G79 H80 x81 r82=>q v78 G79 H80 (xt.trans x81) r82
 ·clear 5
theorem Gy (F:DIn K mg "is_moment_list" DL)(T:Txt w K mg)(D1:Fa P w K mg base):Ee P w K mg base:=by
 refine F.okM1 (m:=AR) HS fun _ _ _ _ _ H0 _ _ hr G0 Am res Br xt Ac hm q=>?_;unfold AR at hm
 refine ⟨_,(A6 (B7 (PW.pt (GU (DT (BR K (BN (EC (K:=K) rfl) (by rfl) T.isinstance_ B4 (A4 (pv 0) (A4 (GF (v:=.ty "list") rfl T.list_ IS rfl) A8))))) (Gh (Ap Kq (BZ K T.len_ (pv 0)) (Lz rfl T.MOST_MOMENTS) (At _))))) (A6 (AT Cz)
   AB) AB)
   (A6 (AT (BN (O2 (K:=K) rfl rfl) (by rfl) T.all_ bt_all (A4 (Go (cn:=[]) (cap:=[]) rfl ⟨by decide +kernel,rfl,by decide +kernel,FE rfl⟩ rfl (by decide +kernel) trivial (Dq (K:=K) rfl (pv 0)) (fun C s0 H0 fp=>⟨Er,(Ab D1 hr (by decide) rfl (A4 (pv 0) A8))⟩)) A8)))
   AB)),?_⟩
 clear 2 b4 h5;refine BE (FM (DD (FT (K:=K) (FY (by decide) (A9 Ac)))) (Ao (K:=K) (Ip (FB (A9 Ac)) An))) h5 xt.gh fun G6 H7 x8=>?_;clear 1 x8 Ac
 cases b4 with
 | true =>
  clear 3;exact AY (K:=K) (rest:=BD) (σ:=[some Br]) F7 hm xt.gh fun v9 G10 H11 x12 r13=>q v9 G10 H11 (xt.trans x12) r13
 | false =>
  clear 4;exact AY (K:=K) (ev_all (FV.ev (JY (cap:=[]) (fe:=fun (Cm:D)=>((some Cm).bind fun t19=>AU t19)) (iw_any (A9 Ac)) fun xc18 Cm Gc15 sc16 rc17=>(BA (m:=F3) (A9 rc17))))) hm xt.gh fun v22 G23 H24 x25 r26=>q v22 G23 H24 (xt.trans x25) r26
theorem OU (F:DIn K mg "is_run" JP)(T:Txt w K mg)(Ce:Ee P w K mg base):Ln P w K mg base:=by
 refine F.okM1 (m:=BF) OO fun _ _ _ _ _ H0 _ _ hr G0 Am res Br xt Ac hm q=>?_;unfold BF at hm
 refine ⟨_,(A6 (B7 (PW.pt (GU (DT (BR K (BN (EC (K:=K) rfl) (by rfl) T.isinstance_ B4 (A4 (pv 0) (A4 (GF (v:=.ty "tuple") rfl T.tuple_ HL rfl) A8))))) (Gh (Ap op_ne (BZ K T.len_ (pv 0)) AD (At _))))) (A6 (AT Cz)
   AB) AB)
   (A6 (AT (Di (Ab Ce hr (by decide) rfl (A4 (AW K (pv 0) AD) A8)) (Di (Ab Ce hr (by decide) rfl (A4 (AW K (pv 0) AD) A8)) (E9 (FH Kq (BZ K T.len_ (AW K (pv 0) AD)) AD (At _))))))
   AB)),?_⟩
 clear 2 b4 h5;refine BE (FM (DD (FT (K:=K) (FY (by decide) (A9 Ac)))) (Ao (K:=K) (ev_neI (FB (A9 Ac)) An))) h5 xt.gh fun G6 H7 x8=>?_;clear 1 x8 Ac
 cases b4 with
 | true =>
  clear 3;exact AY (K:=K) (rest:=BD) (σ:=[some Br]) F7 hm xt.gh fun v9 G10 H11 x12 r13=>q v9 G10 H11 (xt.trans x12) r13
 | false =>
  clear 4;exact AY (K:=K) (Dl (BA (m:=D8) (Ev (A9 Ac) An)) (Dl (BA (m:=D8) (Ev (A9 Ac) An)) (Ip (FB (Ev (A9 Ac) An)) An))) hm xt.gh fun v26 G27 H28 x29 r30=>q v26 G27 H28 (xt.trans x29) r30
theorem IJ (F:DIn K mg "until_column" Dw)(T:Txt w K mg):Fn P w K mg base:=by
 refine F.ok BP bn3 (fun vs H Q E h=>(ND h).trans rfl) (fun _ cdv A outer s H0 vs Q E hr h=>?_);obtain ⟨G0,⟨left_,⟨EA,⟨EY,⟨⟩⟩⟩⟩,res,sg0,⟨IT,_,rfl,B5,⟨Gr,_,rfl,Ay,⟨Fv,_,rfl,B0,rfl⟩⟩⟩,hm,q⟩:=h;replace B5:Rp.rel K G0 IT left_:=B5;replace Ay:Rp.rel K G0 Gr EA:=Ay;replace B0:Rp.rel K G0 Fv EY:=B0;replace hm:CB left_ EA EY=some res:=hm;unfold CB at hm;have xt:Ext G0 H0 G0 H0:=Ext.refl sg0
 refine ⟨_,(A6 (AS (i:=3) BP (BZ K T.len_ (pv 0)))
   (A6 (AS (i:=4) BP Cz)
   (A6 (F5 PassesOwn.never rfl (KG rfl T.range_ (A4 (As MR (pv 3) AD) (A4 (As MR (pv 2) AD) (A4 (Nd Kb AD) A8)))) (D6 (i:=5) BP) (A6 (AS (i:=4) BP (pe_or (AW K (pv 1) (pv 5)) (E9 (Di (AW K (pv 0) (pv 5)) (E9 (pv 4))))))
   AB))
   (A6 (AS (i:=6) BP (Az A8))
   (A6 (F5 PassesOwn.never rfl (KG rfl T.range_ (A4 (As MR (pv 3) AD) (A4 (Nd Kb AD) (A4 (Nd Kb AD) A8)))) (D6 (i:=5) BP) (A6 (AS (i:=4) BP (pe_or (AW K (pv 1) (pv 5)) (E9 (Di (AW K (pv 0) (pv 5)) (E9 (pv 4))))))
   (A6 (GH (Gn K (pv 6) (pv 4)))
   AB)))
   (A6 (AT (O9 (sl3_list (K:=K) rfl) (pv 6) C3 C3 (Bs (Nd Kb AD))))
   AB)))))),?_⟩
 clear 2 Mb h6;refine Ak (K:=K) (EQ (A9 B5)) h6 xt.gh fun v1 G2 H3 x4 r5=>?_;clear 1 x4 B5 Ay B0;clear 2 truth_ h12;refine Ak (K:=K) F7 h12 xt.gh fun v7 G8 H9 x10 r11=>?_;clear 1 x10 B5 Ay B0 r5;clear 2 as15 h16 fl17 h18;refine F1 (K:=K) (RR:=fun r v G' H'=>∃ p vs,v=V.ref p/\Ext G0 H0 G' H'/\H0 p=none/\Own K G' H' (V.ref p) p vs r) (N7 (N0 (A9 r5) An) (N0 (A9 B0) An)) h16 h18 xt.gh fun G19 H20 x21=>⟨fun s22 S' G' H'=>∃ (v23:V) (v24:Option V),Ext G0 H0 G' H'/\Same G19 G'/\S'=[some IT,some Gr,some Fv,some v1,some v23,v24,none]/\Rp.rel K G' v23 (s22:Bool),?_,?_,?_,?_,?_⟩
 ·clear 1 x21 r11;exact ⟨v7,_,xt,(Same.refl _),rfl,r11⟩
 ·rintro _ S' G' H' ⟨v23,v24,xt,mk25,rfl,r26⟩;exact ⟨mk25,xt.gh⟩
 ·rintro xv27 a28 s22 _ G31 H32 fl29 - ⟨v23,v24,xt,mk25,rfl,r26⟩ rx30 hm D' kN33 kC34 kB35 kR36;have B5:=Rp.mono (x21.gg.trans mk25) B5;have Ay:=Rp.mono (x21.gg.trans mk25) Ay;refine EG ?_;clear 2 truth_ h48;refine Ak (K:=K) (ev_or (BU (A9 Ay) (A9 rx30)) (Dl (BU (A9 B5) (A9 rx30)) (A9 r26))) h48 xt.gh fun v43 G44 H45 x46 r47=>?_;clear 1 x46 3 mk25;cases hm;exact kN33 _ _ _ _ rfl ⟨v43,_,xt,mk25,rfl,r47⟩
 ·rintro s22 _ G53 H54 rfl ⟨v49,v50,xt,mk51,rfl,r52⟩;refine Gq ?_;have B5:=Rp.mono (x21.gg.trans mk51) B5;have Ay:=Rp.mono (x21.gg.trans mk51) Ay;have r5:=Rp.mono (x21.gg.trans mk51) r5;clear 2 Jv h62;refine J8 (K:=K) (B3 (AF (α:=Bool))) h62 xt.gh fun p55 vs56 G57 H58 x59 hz60 o61=>?_;clear 1 x59 B5 Ay r5 r52 4 hz60;clear 2 as65 h66 fl67 h68;refine F1 (K:=K) (RR:=fun r v G' H'=>∃ p vs,v=V.ref p/\Ext G0 H0 G' H'/\H0 p=none/\Own K G' H' (V.ref p) p vs r) (N7 (N0 (A9 r5) An) (ev_neg An)) h66 h68 xt.gh fun G69 H70 x71=>⟨fun s72 S' G' H'=>∃ (v73:V) (v74:Option V),Ext G0 H0 G' H'/\Same G69 G'/\S'=[some IT,some Gr,some Fv,some v1,some v73,v74,some (V.ref p55)]/\Rp.rel K G' v73 (s72.1:Bool)/\(∃ vs,Own K G' H' (V.ref p55) p55 vs s72.2),?_,?_,?_,?_,?_⟩
  ·clear 1 x71 r52 2 o61;exact ⟨v49,_,xt,(Same.refl _),rfl,r52,⟨_,o61⟩⟩
  ·rintro _ S' G' H' ⟨v73,v74,xt,mk75,rfl,r76,⟨vs56,o61⟩⟩;exact ⟨mk75,xt.gh⟩
  ·rintro xv77 a78 s72 _ G81 H82 fl79 - ⟨v73,v74,xt,mk75,rfl,r76,⟨vs56,o61⟩⟩ rx80 hm D' kN83 kC84 kB85 kR86;have B5:=Rp.mono (x71.gg.trans mk75) B5;have Ay:=Rp.mono (x71.gg.trans mk75) Ay;refine EG ?_;clear 2 truth_ h98;refine Ak (K:=K) (ev_or (BU (A9 Ay) (A9 rx80)) (Dl (BU (A9 B5) (A9 rx80)) (A9 r76))) h98 xt.gh fun v93 G94 H95 x96 r97=>?_;clear 1 x96 2 o61 3 mk75;clear 2 a99 h100 z107 h101;refine OP (K:=K) rfl o61 (A9 r97) h100 h101 xt.gh fun G102 H103 w104 x105 o106=>?_;have xt:Ext G0 H0 G102 (upd H103 p55 (.lst (vs56++[w104]))):=(xt.trans x105).put hz60 o106.g;clear 0 x105 r97 3 mk75;cases hm;exact kN83 _ _ _ _ rfl ⟨v93,_,xt,mk75,rfl,r97,⟨_,o106⟩⟩
  ·rintro s72 _ G112 H113 rfl ⟨v108,v109,xt,mk110,rfl,r111,⟨vs56,o61⟩⟩;refine Gq ?_;have sf:=Same.new (o:=.lst vs56) o61.g;have xt:=xt.frz hz60 o61.g o61.h;have r114:=o61.tell;exact FJ (K:=K) (OY (c:=-1) (A9 r114) Bz Bz (ev_neg An)) hm xt.gh fun p115 vs116 G117 H118 x119 h120 o121=>q _ _ _ _ (xt.trans x119) (xt.hh.free h120) o121
  ·rintro r' v' G' H' rfl rl;cases hm;obtain ⟨p',vs',rfl,x',h',o'⟩:=rl;exact q p' vs' G' H' x' h' o'
 ·rintro r' v' G' H' rfl rl;cases hm;obtain ⟨p',vs',rfl,x',h',o'⟩:=rl;exact q p' vs' G' H' x' h' o'
theorem L8 (F:DIn K mg "column_of" Fc)(T:Txt w K mg)(E5:Fn P w K mg base):IF P w K mg base:=by
 refine F.ok Ex bn4 (fun vs H Q E h=>(ND h).trans rfl) (fun _ cdv A outer s H0 vs Q E hr h=>?_);obtain ⟨G0,⟨row_,⟨CL,⟨Dd,⟨EY,⟨⟩⟩⟩⟩⟩,res,sg0,⟨v_row_,_,rfl,Bt,⟨MY,_,rfl,Ax,⟨MG,_,rfl,B9,⟨Fv,_,rfl,B0,rfl⟩⟩⟩⟩,hm,q⟩:=h;replace Bt:Rp.rel K G0 v_row_ row_:=Bt;replace Ax:Rp.rel K G0 MY CL:=Ax;replace B9:Rp.rel K G0 MG Dd:=B9;replace B0:Rp.rel K G0 Fv EY:=B0;replace hm:Cy row_ CL Dd EY=some res:=hm;unfold Cy at hm;have xt:Ext G0 H0 G0 H0:=Ext.refl sg0
 refine ⟨_,(A6 (AS (i:=4) Ex (AW K (pv 0) AD))
   (A6 (B7 (Ap Be (pv 4) AH (At _)) (A6 (AT (Go (cn:=["row"]) (cap:=[0]) rfl ⟨by decide +kernel,rfl,by decide +kernel,FE rfl⟩ rfl (by decide +kernel) ⟨⟨rfl,.inl rfl,rfl⟩,trivial⟩ (Dq (K:=K) rfl (pv 2)) (fun C s0 H0 fp=>⟨Er,(FH OH (AW K (pv 1) AD) (pv 0) rfl)⟩)))
   AB) AB)
   (A6 (B7 (Ap Be (pv 4) AH (At _)) (A6 (AT (Go (cn:=[]) (cap:=[]) rfl ⟨by decide +kernel,rfl,by decide +kernel,FE rfl⟩ rfl (by decide +kernel) trivial (Dq (K:=K) rfl (AW K (pv 1) (AW K (pv 0) AD))) (fun C s0 H0 fp=>⟨Er,(KY (pv 0))⟩)))
   AB) AB)
   (A6 (B7 (Ap Be (pv 4) AH (At _)) (A6 (AT (pe_comp2 (cn:=[]) (cap:=[]) rfl ⟨by decide +kernel,rfl,by decide +kernel,FE rfl⟩ rfl rfl (by decide +kernel) trivial (pi_zip (K:=K) rfl rfl T.zip_ (A4 (AW K (pv 1) (AW K (pv 0) AD)) (A4 (AW K (pv 1) (AW K (pv 0) AD)) A8))) (fun C s0 H0 fp=>⟨Er,(Di (pv 0) (E9 (pv 1)))⟩)))
   AB) AB)
   (A6 (B7 (Ap Be (pv 4) AH (At _)) (A6 (AS (i:=5) Ex (AW K (pv 1) (AW K (pv 0) AD)))
   (A6 (AT (B2 K (Bf (CP (K:=K) rfl) (pv 5) (Bs AD) C3) (Az (A4 (AW K (pv 5) (pv 3)) A8))))
   AB)) AB)
   (A6 (B7 (Ap Be (pv 4) AH (At _)) (A6 (AT (Ab E5 hr (by decide) rfl (A4 (AW K (pv 1) (AW K (pv 0) AD)) (A4 (AW K (pv 1) (AW K (pv 0) AD)) (A4 (pv 3) A8)))))
   AB) AB)
   (A6 (AT (Go (cn:=[]) (cap:=[]) rfl ⟨by decide +kernel,rfl,by decide +kernel,FE rfl⟩ rfl (by decide +kernel) trivial (Dq (K:=K) rfl (pv 2)) (fun C s0 H0 fp=>⟨Er,Cz⟩)))
   AB))))))),?_⟩
 clear 2 CH h8;refine Ak (K:=K) (CZ (A9 Bt) An) h8 xt.gh fun v3 G4 H5 x6 r7=>?_;clear 1 x6 Bt Ax B9 B0;clear 2 b11 h12;refine BE (Ao (K:=K) (C5 (Hn (A9 r7)) Ai)) h12 xt.gh fun G13 H14 x15=>?_;clear 1 x15 Bt Ax B9 B0 r7
 cases b11 with
 | true =>
  clear 3;exact FJ (K:=K) (JY (cap:=[0]) (fe:=fun (Cm:Str)=>((((some row_).bind fun t22=>(some (1:Int)).bind fun t23=>atI t22.l t23).bind fun t24=>asS t24).bind fun t25=>(some (inS t25 Cm)))) (GI (A9 B9)) fun xc19 Cm Gc16 sc17 rc18=>(ev_inS (Hn (CZ (A9 (Rp.mono sc17 Bt)) An)) (A9 rc18))) hm xt.gh fun p27 vs28 G29 H30 x31 h32 o33=>q _ _ _ _ (xt.trans x31) (xt.hh.free h32) o33
 | false =>
  clear 4;clear 2 b36 h37;refine BE (Ao (K:=K) (C5 (Hn (A9 r7)) Ai)) h37 xt.gh fun G38 H39 x40=>?_;clear 1 x40 Bt Ax B9 B0 r7
  cases b36 with
  | true =>
   clear 3;exact FJ (K:=K) (JY (cap:=[]) (fe:=fun (truth_:Bool)=>(some (!truth_))) (GI (BU (A9 Ax) (Hb (CZ (A9 Bt) An)))) fun xc49 truth_ Gc46 sc47 rc48=>(JH (A9 rc48))) hm xt.gh fun p51 vs52 G53 H54 x55 h56 o57=>q _ _ _ _ (xt.trans x55) (xt.hh.free h56) o57
  | false =>
   clear 4;clear 2 b60 h61;refine BE (Ao (K:=K) (C5 (Hn (A9 r7)) Ai)) h61 xt.gh fun G62 H63 x64=>?_;clear 1 x64 Bt Ax B9 B0 r7
   cases b60 with
   | true =>
    clear 3;exact FJ (K:=K) (fv_mapZ (cap:=[]) (fe:=fun (pc83:(Bool × Bool))=>(some (pc83.1 && pc83.2))) (iz_lists (BU (A9 Ax) (Hb (CZ (A9 Bt) An))) (BU (A9 Ax) (Hb (CZ (A9 Bt) An)))) fun xc81 xc82 pc83 Gc77 sc78 rc79 rc80=>(ev_andP (A9 rc79) (A9 rc80))) hm xt.gh fun p85 vs86 G87 H88 x89 h90 o91=>q _ _ _ _ (xt.trans x89) (xt.hh.free h90) o91
   | false =>
    clear 4;clear 2 b94 h95;refine BE (Ao (K:=K) (C5 (Hn (A9 r7)) Ai)) h95 xt.gh fun G96 H97 x98=>?_;clear 1 x98 Bt Ax B9 B0 r7
    cases b94 with
    | true =>
     clear 3;clear 2 Dz h109;refine Ak (K:=K) (BU (A9 Ax) (Hb (CZ (A9 Bt) An))) h109 xt.gh fun v104 G105 H106 x107 r108=>?_;clear 1 x107 B0;exact FJ (K:=K) (Et (FV.ev (CC (A9 r108) (By (K:=K) An) Bz)) (FV.ev (B3 (A5 (BU (A9 r108) (A9 B0)) (AF (α:=Bool)))))) hm xt.gh fun p115 vs116 G117 H118 x119 h120 o121=>q _ _ _ _ (xt.trans x119) (xt.hh.free h120) o121
    | false =>
     clear 4;clear 2 b124 h125;refine BE (Ao (K:=K) (C5 (Hn (A9 r7)) Ai)) h125 xt.gh fun G126 H127 x128=>?_;clear 1 x128 Bt Ax B9 B0
     cases b124 with
     | true =>
      clear 3;exact FJ (K:=K) (fv_def3 (m:=FN) (BU (A9 Ax) (Hb (CZ (A9 Bt) An))) (BU (A9 Ax) (Hb (CZ (A9 Bt) An))) (A9 B0)) hm xt.gh fun p142 vs143 G144 H145 x146 h147 o148=>q _ _ _ _ (xt.trans x146) (xt.hh.free h147) o148
     | false =>
      clear 4;exact FJ (K:=K) (JY (cap:=[]) (fe:=fun (Cm:Str)=>(some true)) (GI (A9 B9)) fun xc152 Cm Gc149 sc150 rc151=>F7) hm xt.gh fun p154 vs155 G156 H157 x158 h159 o160=>q _ _ _ _ (xt.trans x158) (xt.hh.free h159) o160
theorem Js (F:DIn K mg "columns_of" F2)(T:Txt w K mg)(Ff:IF P w K mg base):Gu P w K mg base:=by
 refine F.okM2 (m:=Cf) DV fun _ _ _ _ _ H0 _ _ hr G0 rows_ run_ res v_rows_ DN xt HM BJ hm q=>?_;unfold Cf at hm
 refine ⟨_,(A6 (AS (i:=2) DV (B2 K (AW K (pv 1) AD) (AW K (pv 1) AD)))
   (A6 (AS (i:=3) DV (Az A8))
   (A6 (F5 PassesOwn.never rfl (Dq (K:=K) rfl (pv 0)) (D6 (i:=4) DV) (A6 (GH (Gn K (pv 3) (Ab Ff hr (by decide) rfl (A4 (pv 4) (A4 (pv 3) (A4 (pv 2) (A4 (BZ K T.len_ (AW K (pv 1) AD)) A8)))))))
   AB))
   (A6 (AT (pv 3))
   AB)))),?_⟩
 clear 2 Dd h8;refine Ak (K:=K) (FV.ev (Et (MS (A9 BJ)) (ev_snd (A9 BJ)))) h8 xt.gh fun v3 G4 H5 x6 r7=>?_;clear 1 x6 HM BJ;clear 2 CL h16;refine J8 (K:=K) (B3 (AF (α:=(List Bool)))) h16 xt.gh fun p9 vs10 G11 H12 x13 hz14 o15=>?_;clear 1 x13 HM BJ r7 4 hz14;clear 2 as17 h18 fl19 h20;refine F1 (K:=K) (RR:=fun r v G' H'=>Ext G0 H0 G' H'/\Rp.rel K G' v r) (GI (A9 HM)) h18 h20 xt.gh fun G21 H22 x23=>⟨fun s24 S' G' H'=>∃ (v25:Option V),Ext G0 H0 G' H'/\Same G21 G'/\S'=[some v_rows_,some DN,some v3,some (V.ref p9),v25]/\(∃ vs,Own K G' H' (V.ref p9) p9 vs s24),?_,?_,?_,?_,?_⟩
 ·clear 1 x23 2 o15;exact ⟨_,xt,(Same.refl _),rfl,⟨_,o15⟩⟩
 ·rintro _ S' G' H' ⟨v25,xt,mk26,rfl,⟨vs10,o15⟩⟩;exact ⟨mk26,xt.gh⟩
 ·rintro xv27 a28 s24 _ G31 H32 fl29 - ⟨v25,xt,mk26,rfl,⟨vs10,o15⟩⟩ rx30 hm D' kN33 kC34 kB35 kR36;have BJ:=Rp.mono (x23.gg.trans mk26) BJ;have r7:=Rp.mono (x23.gg.trans mk26) r7;refine EG ?_;clear 2 a45 h46 z53 h47;refine LM (K:=K) rfl o15 (fv_def4 (m:=HC) (A9 (Rp.mono (Same.new o15.g) rx30)) (A9 o15.tell) (A9 (Rp.mono (Same.new o15.g) r7)) (EQ (MS (A9 (Rp.mono (Same.new o15.g) BJ))))) h46 h47 xt.gh fun G48 H49 w50 x51 o52=>?_;have xt:Ext G0 H0 G48 (upd H49 p9 (.lst (vs10++[w50]))):=(xt.trans x51).put hz14 o52.g;clear 0 x51 3 mk26;cases hm;exact kN33 _ _ _ _ rfl ⟨_,xt,mk26,rfl,⟨_,o52⟩⟩
 ·rintro s24 _ G56 H57 rfl ⟨v54,xt,mk55,rfl,⟨vs10,o15⟩⟩;refine Gq ?_;have sf:=Same.new (o:=.lst vs10) o15.g;have xt:=xt.frz hz14 o15.g o15.h;have r58:=o15.tell;exact AY (K:=K) (A9 r58) hm xt.gh fun v59 G60 H61 x62 r63=>q v59 G60 H61 (xt.trans x62) r63
 ·clear 5
theorem Oe (F:DIn K mg "denied" Im)(T:Txt w K mg):JB P w K mg base:=by
 refine F.okM1 (m:=Bg) O4 fun _ _ _ _ _ H0 _ _ hr G0 Kv res v_plain_ xt Fo hm q=>?_;unfold Bg at hm
 refine ⟨_,(A6 (B7 (Ap Be (AW K (pv 0) AD) AH (At _)) (A6 (AT (AW K (pv 0) AD))
   AB) AB)
   (A6 (AT (AK (A4 AH (A4 (pv 0) A8))))
   AB)),?_⟩
 clear 2 b9 h10;refine BE (Ao (K:=K) (C5 (Fd (CZ (CV (A9 Fo)) An)) Ai)) h10 xt.gh fun G11 H12 x13=>?_;clear 1 x13 Fo
 cases b9 with
 | true =>
  clear 3;exact AY (K:=K) (CZ (CV (A9 Fo)) An) hm xt.gh fun v17 G18 H19 x20 r21=>q v17 G18 H19 (xt.trans x20) r21
 | false =>
  clear 4;exact AY (K:=K) (Av (A5 (Ae Ai) (A5 (A9 Fo) (AF (α:=Nt))))) hm xt.gh fun v22 G23 H24 x25 r26=>q v22 G23 H24 (xt.trans x25) r26
theorem HA (F:DIn K mg "plain_with_two" DS)(T:Txt w K mg)(CM:JB P w K mg base):El P w K mg base:=by
 refine F.okM3 (m:=Bp) HV fun _ _ _ _ _ H0 _ _ hr G0 CH left_ EA res v_word_ IT Gr xt BG B5 Ay hm q=>?_;unfold Bp at hm
 refine ⟨_,(A6 (B7 (Ap Be (pv 0) AH (At _)) (A6 (AT (AK (A4 AH (A4 (AK (A4 AH (A4 (Ab CM hr (by decide) rfl (A4 (pv 1) A8)) (A4 (Ab CM hr (by decide) rfl (A4 (pv 2) A8)) A8)))) A8))))
   AB) AB)
   (A6 (B7 (Ap Be (pv 0) AH (At _)) (A6 (AT (AK (A4 AH (A4 (AK (A4 AH (A4 (pv 1) (A4 (Ab CM hr (by decide) rfl (A4 (pv 2) A8)) A8)))) A8))))
   AB) AB)
   (A6 (B7 (Ap Be (pv 0) AH (At _)) (A6 (AT (AK (A4 AH (A4 (AK (A4 AH (A4 (Ab CM hr (by decide) rfl (A4 (pv 1) A8)) (A4 (Ab CM hr (by decide) rfl (A4 (pv 2) A8)) A8)))) A8))))
   AB) AB)
   (A6 (AT (AK (A4 (pv 0) (A4 (pv 1) (A4 (pv 2) A8)))))
   AB)))),?_⟩
 clear 2 b1 h2;refine BE (Ao (K:=K) (C5 (A9 BG) Ai)) h2 xt.gh fun G3 H4 x5=>?_;clear 1 x5 BG B5 Ay
 cases b1 with
 | true =>
  clear 3;exact AY (K:=K) (Av (A5 (Ae Ai) (A5 (Av (A5 (Ae Ai) (A5 (BA (m:=Cg) (A9 B5)) (A5 (BA (m:=Cg) (A9 Ay)) (AF (α:=Nt)))))) (AF (α:=Nt))))) hm xt.gh fun v16 G17 H18 x19 r20=>q v16 G17 H18 (xt.trans x19) r20
 | false =>
  clear 4;clear 2 b21 h22;refine BE (Ao (K:=K) (C5 (A9 BG) Ai)) h22 xt.gh fun G23 H24 x25=>?_;clear 1 x25 BG B5 Ay
  cases b21 with
  | true =>
   clear 3;exact AY (K:=K) (Av (A5 (Ae Ai) (A5 (Av (A5 (Ae Ai) (A5 (A9 B5) (A5 (BA (m:=Cg) (A9 Ay)) (AF (α:=Nt)))))) (AF (α:=Nt))))) hm xt.gh fun v34 G35 H36 x37 r38=>q v34 G35 H36 (xt.trans x37) r38
  | false =>
   clear 4;clear 2 b39 h40;refine BE (Ao (K:=K) (C5 (A9 BG) Ai)) h40 xt.gh fun G41 H42 x43=>?_;clear 1 x43 BG B5 Ay
   cases b39 with
   | true =>
    clear 3;exact AY (K:=K) (Av (A5 (Ae Ai) (A5 (Av (A5 (Ae Ai) (A5 (BA (m:=Cg) (A9 B5)) (A5 (BA (m:=Cg) (A9 Ay)) (AF (α:=Nt)))))) (AF (α:=Nt))))) hm xt.gh fun v54 G55 H56 x57 r58=>q v54 G55 H56 (xt.trans x57) r58
   | false =>
    clear 4;exact AY (K:=K) (Av (A5 (Ae (A9 BG)) (A5 (A9 B5) (A5 (A9 Ay) (AF (α:=Nt)))))) hm xt.gh fun v59 G60 H61 x62 r63=>q v59 G60 H61 (xt.trans x62) r63
theorem HG (F:DIn K mg "plain_with_one" DO)(T:Txt w K mg)(CM:JB P w K mg base):Ec P w K mg base:=by
 refine F.okM2 (m:=Bq) HU fun _ _ _ _ _ H0 _ _ hr G0 CH Dz res v_word_ v_inner_ xt BG Bh hm q=>?_;unfold Bq at hm;obtain ⟨a_YES,e_YES,q_YES⟩:=T.YES
 refine ⟨_,(A6 (B7 (Ap Be (pv 0) AH (At _)) (A6 (AT (Ab CM hr (by decide) rfl (A4 (pv 1) A8)))
   AB) AB)
   (A6 (B7 (Ap Be (pv 0) AH (At _)) (A6 (AT (AK (A4 AH (A4 (pv 1) A8))))
   AB) AB)
   (A6 (B7 (Ap Be (pv 0) AH (At _)) (A6 (AT (AK (A4 AH (A4 (D3 rfl e_YES) (A4 (pv 1) A8)))))
   AB) AB)
   (A6 (B7 (Ap Be (pv 0) AH (At _)) (A6 (AT (AK (A4 AH (A4 (AK (A4 AH (A4 (D3 rfl e_YES) (A4 (Ab CM hr (by decide) rfl (A4 (pv 1) A8)) A8)))) A8))))
   AB) AB)
   (A6 (B7 (Ap Be (pv 0) AH (At _)) (A6 (AT (AK (A4 AH (A4 (AK (A4 AH (A4 (D3 rfl e_YES) (A4 (AK (A4 AH (A4 (AK (A4 AH (A4 (D3 rfl e_YES) (A4 (pv 1) A8)))) A8))) A8)))) A8))))
   AB) AB)
   (A6 (AT (AK (A4 AH (A4 (D3 rfl e_YES) (A4 (AK (A4 AH (A4 (AK (A4 AH (A4 (D3 rfl e_YES) (A4 (Ab CM hr (by decide) rfl (A4 (pv 1) A8)) A8)))) A8))) A8)))))
   AB)))))),?_⟩
 clear 2 b1 h2;refine BE (Ao (K:=K) (C5 (A9 BG) Ai)) h2 xt.gh fun G3 H4 x5=>?_;clear 1 x5 BG Bh
 cases b1 with
 | true =>
  clear 3;exact AY (K:=K) (BA (m:=Cg) (A9 Bh)) hm xt.gh fun v7 G8 H9 x10 r11=>q v7 G8 H9 (xt.trans x10) r11
 | false =>
  clear 4;clear 2 b12 h13;refine BE (Ao (K:=K) (C5 (A9 BG) Ai)) h13 xt.gh fun G14 H15 x16=>?_;clear 1 x16 BG Bh
  cases b12 with
  | true =>
   clear 3;exact AY (K:=K) (Av (A5 (Ae Ai) (A5 (A9 Bh) (AF (α:=Nt))))) hm xt.gh fun v17 G18 H19 x20 r21=>q v17 G18 H19 (xt.trans x20) r21
  | false =>
   clear 4;clear 2 b22 h23;refine BE (Ao (K:=K) (C5 (A9 BG) Ai)) h23 xt.gh fun G24 H25 x26=>?_;clear 1 x26 BG Bh
   cases b22 with
   | true =>
    clear 3;exact AY (K:=K) (Av (A5 (Ae Ai) (A5 (Ia q_YES) (A5 (A9 Bh) (AF (α:=Nt)))))) hm xt.gh fun v27 G28 H29 x30 r31=>q v27 G28 H29 (xt.trans x30) r31
   | false =>
    clear 4;clear 2 b32 h33;refine BE (Ao (K:=K) (C5 (A9 BG) Ai)) h33 xt.gh fun G34 H35 x36=>?_;clear 1 x36 BG Bh
    cases b32 with
    | true =>
     clear 3;exact AY (K:=K) (Av (A5 (Ae Ai) (A5 (Av (A5 (Ae Ai) (A5 (Ia q_YES) (A5 (BA (m:=Cg) (A9 Bh)) (AF (α:=Nt)))))) (AF (α:=Nt))))) hm xt.gh fun v45 G46 H47 x48 r49=>q v45 G46 H47 (xt.trans x48) r49
    | false =>
     clear 4;clear 2 b50 h51;refine BE (Ao (K:=K) (C5 (A9 BG) Ai)) h51 xt.gh fun G52 H53 x54=>?_;clear 1 x54 Bh
     cases b50 with
     | true =>
      clear 3;exact AY (K:=K) (Av (A5 (Ae Ai) (A5 (Av (A5 (Ae Ai) (A5 (Ia q_YES) (A5 (Av (A5 (Ae Ai) (A5 (Av (A5 (Ae Ai) (A5 (Ia q_YES) (A5 (A9 Bh) (AF (α:=Nt)))))) (AF (α:=Nt))))) (AF (α:=Nt)))))) (AF (α:=Nt))))) hm xt.gh fun v55 G56 H57 x58 r59=>q v55 G56 H57 (xt.trans x58) r59
     | false =>
      clear 4;exact AY (K:=K) (Av (A5 (Ae Ai) (A5 (Ia q_YES) (A5 (Av (A5 (Ae Ai) (A5 (Av (A5 (Ae Ai) (A5 (Ia q_YES) (A5 (BA (m:=Cg) (A9 Bh)) (AF (α:=Nt)))))) (AF (α:=Nt))))) (AF (α:=Nt)))))) hm xt.gh fun v72 G73 H74 x75 r76=>q v72 G73 H74 (xt.trans x75) r76
theorem O8 {f:Addr}{fd:FuncData}(F:Fun K "plain" "plain" IN f fd):FnOk P w K mg base CX0 3 f fd ["sentence"] (spM K (DA 0)):=by
 refine F.ok JX (fun vs H Q E h=>(F6 h).trans rfl) (fun cdv A outer s H0 vs Q E hr h=>?_);obtain ⟨_,_,_,_,_,hm,_⟩:=h;exact nomatch (hm:none=some _)
theorem ok_plain {f:Addr}{fd:FuncData}(F:Fun K "plain" "plain" IN f fd)(T:Txt w K mg)(DR:El P w K mg base)(DQ:Ec P w K mg base)(E6:Nat)(FD:DefOk P w K mg base "plain" (3+E6) ["sentence"] (spM K (DA E6))):FnOk P w K mg base CX0 (3+E6+1) f fd ["sentence"] (spM K (DA (E6+1))):=by
 refine F.ok JX (fun vs H Q E h=>(F6 h).trans rfl) (fun cdv A outer s H0 vs Q E hr h=>?_);obtain ⟨G0,⟨Ah,⟨⟩⟩,res,sg0,⟨Bm,_,rfl,AL,rfl⟩,hm,q⟩:=h;replace AL:Rp.rel K G0 Bm Ah:=AL;replace hm:DM (F9 E6) Ah=some res:=hm;unfold DM at hm;obtain ⟨a_YES,e_YES,q_YES⟩:=T.YES;have xt:Ext G0 H0 G0 H0:=Ext.refl sg0
 refine ⟨_,(A6 (AS (i:=1) JX (AW K (pv 0) AD))
   (A6 (B7 (Ap Be (pv 1) AH (At _)) (A6 (AT (AK (A4 AH (A4 (D3 rfl e_YES) A8))))
   AB) AB)
   (A6 (B7 (PW.pt (GU (Ap Be (pv 1) AH (At _)) (Gh (Ap Be (pv 1) AH (At _))))) (A6 (AT (pv 0))
   AB) AB)
   (A6 (B7 (Ap Be (BZ K T.len_ (pv 0)) AD (At _)) (A6 (AT (Ab DQ hr (by omega) rfl (A4 (pv 1) (A4 (Ab FD hr (by omega) rfl (A4 (AW K (pv 0) AD) A8)) A8))))
   AB) AB)
   (A6 (AT (Ab DR hr (by omega) rfl (A4 (pv 1) (A4 (Ab FD hr (by omega) rfl (A4 (AW K (pv 0) AD) A8)) (A4 (Ab FD hr (by omega) rfl (A4 (AW K (pv 0) AD) A8)) A8)))))
   AB))))),?_⟩
 clear 2 CH h10;refine Ak (K:=K) (Fd (CZ (CV (A9 AL)) An)) h10 xt.gh fun v5 G6 H7 x8 r9=>?_;clear 1 x8 AL;clear 2 b11 h12;refine BE (Ao (K:=K) (C5 (A9 r9) Ai)) h12 xt.gh fun G13 H14 x15=>?_;clear 1 x15 AL r9
 cases b11 with
 | true =>
  clear 3;exact AY (K:=K) (rest:=BD) (σ:=[some Bm,some v5]) (Av (A5 (Ae Ai) (A5 (Ia q_YES) (AF (α:=Nt))))) hm xt.gh fun v16 G17 H18 x19 r20=>q v16 G17 H18 (xt.trans x19) r20
 | false =>
  clear 4;clear 2 b21 h22;refine BE (tv_orP (Ao (K:=K) (C5 (A9 r9) Ai)) (Ao (K:=K) (C5 (A9 r9) Ai))) h22 xt.gh fun G23 H24 x25=>?_;clear 1 x25 AL r9
  cases b21 with
  | true =>
   clear 3;exact AY (K:=K) (A9 AL) hm xt.gh fun v26 G27 H28 x29 r30=>q v26 G27 H28 (xt.trans x29) r30
  | false =>
   clear 4;clear 2 b34 h35;refine BE (Ao (K:=K) (Dm (ev_lenT (CV (A9 AL))) An)) h35 xt.gh fun G36 H37 x38=>?_;clear 1 x38 AL r9
   cases b34 with
   | true =>
    clear 3;exact AY (K:=K) (CQ (m:=EK) (A9 r9) (BA (m:=DA E6) (CZ (CV (A9 AL)) An))) hm xt.gh fun v45 G46 H47 x48 r49=>q v45 G46 H47 (xt.trans x48) r49
   | false =>
    clear 4;exact AY (K:=K) (DX (m:=EO) (A9 r9) (BA (m:=DA E6) (CZ (CV (A9 AL)) An)) (BA (m:=DA E6) (CZ (CV (A9 AL)) An))) hm xt.gh fun v61 G62 H63 x64 r65=>q v61 G62 H63 (xt.trans x64) r65
theorem J0 (F:DIn K mg "places_true" EZ)(T:Txt w K mg){aE:Addr}(OE:OwnCls "NoSentence" aE bmV "ValueError.__new__" mg base){aR:Addr}(OR:OwnCls "NoRun" aR bmV "ValueError.__new__" mg base)(Ht:K8 P w K mg base)(EX:GO P w K mg base)(IY:Ln P w K mg base)(FK:Gu P w K mg base)(FD:Nu P w K mg base):Bj P w K mg base:=by
 refine F.okE Fu bn2 (fun vs H Q E h=>(NY h).trans rfl) (fun _ cdv A outer s H0 vs Q E hr h=>?_);obtain ⟨G0,⟨Ah,run_,⟨⟩⟩,res,sg0,⟨Bm,_,rfl,AL,DN,_,rfl,BJ,rfl⟩,hm,q⟩:=h;replace AL:Rp.rel K G0 Bm Ah:=AL;replace BJ:Rp.rel K G0 DN run_:=BJ;replace hm:Aw Ah run_=some res:=hm;unfold Aw at hm;have xt:Ext G0 H0 G0 H0:=Ext.refl sg0
 refine ⟨_,(A6 (B7 (DT (BR K (Ab EX hr (by decide) rfl (A4 (pv 0) A8)))) (A6 (Ls OE rfl rfl IX AH)
   AB) AB)
   (A6 (B7 (DT (BR K (Ab IY hr (by decide) rfl (A4 (pv 1) A8)))) (A6 (Ls OR rfl rfl IX AH)
   AB) AB)
   (A6 (AS (i:=2) Fu (Ab Ht hr (by decide) rfl (A4 (Az (A4 (Ab FD hr (by decide) rfl (A4 (pv 0) A8)) A8)) A8)))
   (A6 (AT (AW K (Ab FK hr (by decide) rfl (A4 (AW K (pv 2) AD) (A4 (pv 1) A8))) (AW K (AW K (pv 2) AD) AD)))
   AB)))),?_⟩
 clear 2 b3 h4;refine BE (DD (FT (K:=K) (BA (m:=Fg) (AA (A9 AL))))) h4 xt.gh fun G5 H6 x7=>?_;clear 1 x7 AL BJ
 cases b3 with
 | true =>
  clear 3;cases hm;exact q aE G5 H6 OE.bound xt
 | false =>
  clear 4;clear 2 b10 h11;refine BE (DD (FT (K:=K) (BA (m:=KJ) (AA (A9 BJ))))) h11 xt.gh fun G12 H13 x14=>?_;clear 1 x14 AL BJ
  cases b10 with
  | true =>
   clear 3;cases hm;exact q aR G12 H13 OR.bound xt
  | false =>
   clear 4;clear 2 book_ h23;refine Ak (K:=K) (NV.ev (nv_def1 (m:=J7) (FV.ev (B3 (A5 (BA (m:=DA 26) (ev_asNT (A9 AL))) (AF (α:=Nt))))))) h23 xt.gh fun v18 G19 H20 x21 r22=>?_;clear 1 x21 BJ;clear 2 z35 h36;cases hm;exact AY (K:=K) (BU (CQ (m:=GR) (MS (A9 r22)) (ev_asRT (A9 BJ))) (BU (ev_snd (A9 r22)) An)) h36 xt.gh fun v30 G31 H32 x33 r34=>q v30 G31 H32 (xt.trans x33) r34
theorem KR (D_:Bj P w K mg base):GQ P w K mg base:=D_.to0 fun vs H Q E h=>by
 obtain ⟨G,a,r,sg,hv,hm,q⟩:=h;clear 2 x hx
 cases x with
 | error n=>cases hm
 | ok b =>
  cases hm;exact ⟨G,a,.ok _,sg,hv,hx,q⟩
theorem Lb (F:DIn K mg "_law_cell" Gj)(T:Txt w K mg):Jd P w K mg base:=by
 refine F.okM2 (m:=C7) M6 fun _ _ _ _ _ H0 _ _ hr G0 script_ k_ res CA v_k_ xt Af r_k_ hm q=>?_;unfold C7 at hm
 refine ⟨_,(A6 (B7 (Ap Mg (pv 1) (BZ K T.len_ (pv 0)) (At _)) (A6 (AT (AW K (pv 0) (pv 1)))
   AB) AB)
   (A6 (AT AD)
   AB)),?_⟩
 clear 2 b1 h2;refine BE (Ao (K:=K) (Ip (A9 r_k_) (ev_lenX (A9 Af)))) h2 xt.gh fun G3 H4 x5=>?_;clear 1 x5 Af r_k_
 cases b1 with
 | true =>
  clear 3;exact AY (K:=K) (ev_atX (A9 Af) (A9 r_k_)) hm xt.gh fun v8 G9 H10 x11 r12=>q v8 G9 H10 (xt.trans x11) r12
 | false =>
  clear 4;exact AY (K:=K) (rest:=BD) (σ:=[some CA,some v_k_]) An hm xt.gh fun v13 G14 H15 x16 r17=>q v13 G14 H15 (xt.trans x16) r17
seal eval in
theorem Gb (F:DIn K mg "_law_no_sentence" DC)(T:Txt w K mg):EI P w K mg base:=by
 refine F.okM3 (m:=BV) Aq fun _ _ _ _ _ H0 _ _ hr G0 AG C4 AN res Ar Ke BS xt A7 Aa AC hm q=>?_;unfold BV at hm
 refine ⟨_,(A6 (AS (i:=3) Aq (Az (A4 Dg (A4 Cz (Jy (As BQ (pv 0) (As Mt AD AD)) (A4 AH (A4 (AW K (pv 2) AD) (A4 (Az A8) (A4 (AK A8) (A4 (AK (A4 AH A8)) (A4 (AK (A4 AH A8)) (A4 (AK (A4 AH (A4 AH A8))) (A4 (AK (A4 AH (A4 (AK (A4 AH A8)) A8))) A8)))))))))))))
   (A6 (AS (i:=3) Aq (B2 K (pv 3) (Az (A4 (AK (A4 AH (A4 (NZ (K:=K) rfl PySem.F.plainAttrs_str PySem.F.slot_str_upper PySem.F.type_str_upper LI (AW K (pv 2) AD)) A8))) (A4 (AK (A4 AH (A4 (B2 K (AW K (pv 2) AD) (AW K (pv 2) AD)) A8))) (A4 (AK (A4 AH (A4 AH A8))) (A4 (AK (A4 AH (A4 Dg A8))) (A4 (AK (A4 AH A8)) A8))))))))
   (A6 (AS (i:=3) Aq (B2 K (pv 3) (Az (A4 (AK (A4 AH (A4 (AK (A4 AH A8)) A8))) (A4 (AK (A4 AH (A4 AH A8))) (A4 (AK (A4 AH A8)) (A4 (Az (A4 AH (A4 (pv 1) A8))) (A4 (AK (A4 AH (A4 (pv 1) (A4 (pv 1) A8)))) (A4 (AK (A4 AH (A4 (pv 1) A8))) A8)))))))))
   (A6 (AS (i:=3) Aq (B2 K (pv 3) (Az (A4 (AK (A4 AH (A4 (pv 1) (A4 (pv 1) (A4 (pv 1) A8))))) (A4 (Nq (M0 AH AD NQ) rfl rfl (fun z=>nomatch z) (by decide)) (A4 (AK (A4 (pv 1) A8)) (A4 (AK (A4 (pv 1) (A4 (pv 1) A8))) (A4 (AK (A4 AH (A4 (Az (A4 (pv 1) A8)) A8))) (A4 (AK (A4 AH (A4 (pv 1) (A4 Dg A8)))) A8)))))))))
   (A6 (AS (i:=3) Aq (B2 K (pv 3) (Az (A4 (AK (A4 AH (A4 (AW K (pv 2) AD) A8))) (A4 (AK (A4 AH (A4 (Az (A4 (AW K (pv 2) AD) A8)) A8))) (A4 (AK (A4 AD (A4 (pv 1) A8))) (A4 (AK (A4 Dg A8)) (A4 (AK (A4 (Az A8) (A4 (pv 1) A8))) (A4 (AK (A4 AH (A4 Dg A8))) A8)))))))))
   (A6 (AS (i:=4) Aq (AW K (pv 3) (As BQ (pv 0) (BZ K T.len_ (pv 3)))))
   (A6 (F5 PassesOwn.never rfl (GC rfl T.range_ (A4 (As BQ (As BH (pv 0) AD) AD) A8)) (D6 (i:=5) Aq) (A6 (B7 (Ap Be (As BQ (As BH (pv 0) (B2 K AD (pv 5))) AD) AD (At _)) (A6 (AS (i:=4) Aq (AK (A4 AH (A4 (pv 1) (A4 (pv 4) A8)))))
   AB) (A6 (B7 (Ap Be (As BQ (As BH (pv 0) (B2 K AD (pv 5))) AD) AD (At _)) (A6 (AS (i:=4) Aq (AK (A4 AH (A4 (pv 4) (A4 (pv 1) A8)))))
   AB) (A6 (AS (i:=4) Aq (AK (A4 AH (A4 (pv 4) A8))))
   AB))
   AB))
   AB))
   (A6 (AT (pv 4))
   AB)))))))),?_⟩
 clear 2 few_ h14;refine Ak (K:=K) (FV.ev (B3 (A5 (AA LB) (A5 (AA F7) (A5 (AA (Kk (A9 A7) (EV.of (m':=some (1000000000:Int)) (MM (An (i:=10)) (An (i:=9))) (by decide +kernel)) (by decide +kernel))) (A5 (AA Ai) (A5 (AA (BU (A9 AC) An)) (A5 (AA (FV.ev (B3 (AF (α:=D))))) (A5 (AA (AZ (AF (α:=D)))) (A5 (AA (AZ (A5 (AA Ai) (AF (α:=D))))) (A5 (AA (AZ (A5 (AA Ai) (AF (α:=D))))) (A5 (AA (AZ (A5 (AA Ai) (A5 (AA Ai) (AF (α:=D)))))) (A5 (AA (AZ (A5 (AA Ai) (A5 (AA (AZ (A5 (AA Ai) (AF (α:=D))))) (AF (α:=D)))))) (AF (α:=D))))))))))))))) h14 xt.gh fun v9 G10 H11 x12 r13=>?_;clear 1 x12 A7 Aa AC;clear 2 few_ h46;refine Ak (K:=K) (FV.ev (Et (A9 r13) (FV.ev (B3 (A5 (AA (AZ (A5 (AA Ai) (A5 (AA (MA (BU (A9 AC) An))) (AF (α:=D)))))) (A5 (AA (AZ (A5 (AA Ai) (A5 (AA (EN (BU (A9 AC) An) (BU (A9 AC) An))) (AF (α:=D)))))) (A5 (AA (AZ (A5 (AA Ai) (A5 (AA Ai) (AF (α:=D)))))) (A5 (AA (AZ (A5 (AA Ai) (A5 (AA LB) (AF (α:=D)))))) (A5 (AA (AZ (A5 (AA Ai) (AF (α:=D))))) (AF (α:=D))))))))))) h46 xt.gh fun v41 G42 H43 x44 r45=>?_;clear 1 x44 A7 Aa AC;clear 2 few_ h54;refine Ak (K:=K) (FV.ev (Et (A9 r45) (FV.ev (B3 (A5 (AA (AZ (A5 (AA Ai) (A5 (AA (AZ (A5 (AA Ai) (AF (α:=D))))) (AF (α:=D)))))) (A5 (AA (AZ (A5 (AA Ai) (A5 (AA Ai) (AF (α:=D)))))) (A5 (AA (AZ (A5 (AA Ai) (AF (α:=D))))) (A5 (AA (FV.ev (B3 (A5 (AA Ai) (A5 (AA (A9 Aa)) (AF (α:=D))))))) (A5 (AA (AZ (A5 (AA Ai) (A5 (AA (A9 Aa)) (A5 (AA (A9 Aa)) (AF (α:=D))))))) (A5 (AA (AZ (A5 (AA Ai) (A5 (AA (A9 Aa)) (AF (α:=D)))))) (AF (α:=D)))))))))))) h54 xt.gh fun v49 G50 H51 x52 r53=>?_;clear 1 x52 A7 Aa AC;clear 2 few_ h62;refine Ak (K:=K) (FV.ev (Et (A9 r53) (FV.ev (B3 (A5 (AA (AZ (A5 (AA Ai) (A5 (AA (A9 Aa)) (A5 (AA (A9 Aa)) (A5 (AA (A9 Aa)) (AF (α:=D)))))))) (A5 (LU An) (A5 (AA (AZ (A5 (AA (A9 Aa)) (AF (α:=D))))) (A5 (AA (AZ (A5 (AA (A9 Aa)) (A5 (AA (A9 Aa)) (AF (α:=D)))))) (A5 (AA (AZ (A5 (AA Ai) (A5 (AA (FV.ev (B3 (A5 (AA (A9 Aa)) (AF (α:=D)))))) (AF (α:=D)))))) (A5 (AA (AZ (A5 (AA Ai) (A5 (AA (A9 Aa)) (A5 (AA LB) (AF (α:=D))))))) (AF (α:=D)))))))))))) h62 xt.gh fun v57 G58 H59 x60 r61=>?_;clear 1 x60 A7 Aa AC;clear 2 few_ h89;refine Ak (K:=K) (FV.ev (Et (A9 r61) (FV.ev (B3 (A5 (AA (AZ (A5 (AA Ai) (A5 (AA (BU (A9 AC) An)) (AF (α:=D)))))) (A5 (AA (AZ (A5 (AA Ai) (A5 (AA (FV.ev (B3 (A5 (AA (BU (A9 AC) An)) (AF (α:=D)))))) (AF (α:=D)))))) (A5 (AA (AZ (A5 (AA An) (A5 (AA (A9 Aa)) (AF (α:=D)))))) (A5 (AA (AZ (A5 (AA LB) (AF (α:=D))))) (A5 (AA (AZ (A5 (AA (FV.ev (B3 (AF (α:=D))))) (A5 (AA (A9 Aa)) (AF (α:=D)))))) (A5 (AA (AZ (A5 (AA Ai) (A5 (AA LB) (AF (α:=D)))))) (AF (α:=D)))))))))))) h89 xt.gh fun v84 G85 H86 x87 r88=>?_;clear 1 x87 A7 Aa;clear 2 Am h99;refine Ak (K:=K) (BU (A9 r88) (Fj (A9 A7) (EQ (A9 r88)))) h99 xt.gh fun v94 G95 H96 x97 r98=>?_;clear 1 x97 A7 Aa;clear 2 as101 h102 fl103 h104;refine F1 (K:=K) (RR:=fun r v G' H'=>Ext G0 H0 G' H'/\Rp.rel K G' v r) (IL (Bi (BY (A9 A7)))) h102 h104 xt.gh fun G105 H106 x107=>⟨fun s108 S' G' H'=>∃ (v109:V) (v110:Option V),Ext G0 H0 G' H'/\Same G105 G'/\S'=[some Ar,some Ke,some BS,some v84,some v109,v110]/\Rp.rel K G' v109 (s108:D),?_,?_,?_,?_,?_⟩
 ·clear 1 x107 r98;exact ⟨v94,_,xt,(Same.refl _),rfl,r98⟩
 ·rintro _ S' G' H' ⟨v109,v110,xt,mk111,rfl,r112⟩;exact ⟨mk111,xt.gh⟩
 ·rintro xv113 a114 s108 _ G117 H118 fl115 - ⟨v109,v110,xt,mk111,rfl,r112⟩ rx116 hm D' kN119 kC120 kB121 kR122;have A7:=Rp.mono (x107.gg.trans mk111) A7;have Aa:=Rp.mono (x107.gg.trans mk111) Aa;refine EG ?_;clear 2 b127 h128;refine BE (Ao (K:=K) (Dm (Bi (Il (A9 A7) (FA An (A9 rx116)))) An)) h128 xt.gh fun G129 H130 x131=>?_;clear 1 x131 A7 Aa r112 rx116 3 mk111
  cases b127 with
  | true =>
   clear 3;clear 2 Am h137;refine Ak (K:=K) (AA (AZ (A5 (AA Ai) (A5 (AA (A9 Aa)) (A5 (A9 r112) (AF (α:=D))))))) h137 xt.gh fun v132 G133 H134 x135 r136=>?_;clear 1 x135 3 mk111;cases hm;exact kN119 _ _ _ _ rfl ⟨v132,_,xt,mk111,rfl,r136⟩
  | false =>
   clear 4;clear 2 b142 h143;refine BE (Ao (K:=K) (Dm (Bi (Il (A9 A7) (FA An (A9 rx116)))) An)) h143 xt.gh fun G144 H145 x146=>?_;clear 1 x146 Aa r112 3 mk111
   cases b142 with
   | true =>
    clear 3;clear 2 Am h152;refine Ak (K:=K) (AA (AZ (A5 (AA Ai) (A5 (A9 r112) (A5 (AA (A9 Aa)) (AF (α:=D))))))) h152 xt.gh fun v147 G148 H149 x150 r151=>?_;clear 1 x150 3 mk111;cases hm;exact kN119 _ _ _ _ rfl ⟨v147,_,xt,mk111,rfl,r151⟩
   | false =>
    clear 4;clear 2 Am h158;refine Ak (K:=K) (AA (AZ (A5 (AA Ai) (A5 (A9 r112) (AF (α:=D)))))) h158 xt.gh fun v153 G154 H155 x156 r157=>?_;clear 1 x156 3 mk111;cases hm;exact kN119 _ _ _ _ rfl ⟨v153,_,xt,mk111,rfl,r157⟩
 ·rintro s108 _ G163 H164 rfl ⟨v159,v160,xt,mk161,rfl,r162⟩;refine Gq ?_;exact AY (K:=K) (A9 r162) hm xt.gh fun v165 G166 H167 x168 r169=>q v165 G166 H167 (xt.trans x168) r169
 ·clear 5
seal eval in
theorem Hu (F:DIn K mg "_law_no_moment" Dn)(T:Txt w K mg):Dj P w K mg base:=by
 refine F.okM2 (m:=Bc) C9 fun _ _ _ _ _ H0 _ _ hr G0 AG AN res Ar BS xt A7 AC hm q=>?_;unfold Bc at hm
 refine ⟨_,(A6 (AS (i:=2) C9 (BN (KH (K:=K) rfl rfl) (by rfl) T.min_ bt_min (A4 (pv 1) A8)))
   (A6 (AS (i:=3) C9 (BN (K9 (K:=K) rfl rfl) (by rfl) T.max_ bt_max (A4 (pv 1) A8)))
   (A6 (AS (i:=4) C9 (Az (A4 Dg (A4 Cz (Jy (As BQ (pv 0) (As Mt AD AD)) (A4 (Az (A4 (pv 2) A8)) (A4 (AK (A4 (pv 2) A8)) (Jy (B2 K (pv 3) (pv 2)) (Jy (B2 K (pv 2) (pv 2)) (A4 (NZ (K:=K) rfl PySem.F.plainAttrs_str PySem.F.slot_str_upper PySem.F.type_str_upper LI (pv 2)) (A4 AH (Jy (B2 K (B2 K (pv 2) AH) (pv 3)) (A4 AH A8)))))))))))))
   (A6 (AS (i:=4) C9 (B2 K (pv 4) (Az (A4 Lo (A4 AH (A4 (B2 K (B2 K (pv 2) (pv 3)) (pv 2)) A8))))))
   (A6 (AT (AW K (pv 4) (As BQ (pv 0) (BZ K T.len_ (pv 4)))))
   AB))))),?_⟩
 clear 2 low_ h7;refine Ak (K:=K) (NJ (A9 AC)) h7 xt.gh fun v2 G3 H4 x5 r6=>?_;clear 1 x5 A7 AC;clear 2 GP h14;refine Ak (K:=K) (NL (A9 AC)) h14 xt.gh fun v9 G10 H11 x12 r13=>?_;clear 1 x12 A7 r6;clear 2 few_ h46;refine Ak (K:=K) (FV.ev (B3 (A5 (AA LB) (A5 (AA F7) (A5 (AA (Kk (A9 A7) (EV.of (m':=some (1000000000:Int)) (MM (An (i:=10)) (An (i:=9))) (by decide +kernel)) (by decide +kernel))) (A5 (AA (FV.ev (B3 (A5 (AA (A9 r6)) (AF (α:=D)))))) (A5 (AA (AZ (A5 (AA (A9 r6)) (AF (α:=D))))) (A5 (AA (EN (A9 r13) (A9 r6))) (A5 (AA (EN (A9 r6) (A9 r6))) (A5 (AA (MA (A9 r6))) (A5 (AA Ai) (A5 (AA (EN (EN (A9 r6) Ai) (A9 r13))) (A5 (AA Ai) (AF (α:=D))))))))))))))) h46 xt.gh fun v41 G42 H43 x44 r45=>?_;clear 1 x44 A7 r6 r13;clear 2 few_ h62;refine Ak (K:=K) (FV.ev (Et (A9 r45) (FV.ev (B3 (A5 NA (A5 (AA Ai) (A5 (AA (EN (EN (A9 r6) (A9 r13)) (A9 r6))) (AF (α:=D))))))))) h62 xt.gh fun v57 G58 H59 x60 r61=>?_;clear 1 x60 A7;exact AY (K:=K) (BU (A9 r61) (Fj (A9 A7) (EQ (A9 r61)))) hm xt.gh fun v67 G68 H69 x70 r71=>q v67 G68 H69 (xt.trans x70) r71
seal eval in
theorem Jn (F:DIn K mg "_law_no_run" F4)(T:Txt w K mg)(Bw:Dj P w K mg base):HQ P w K mg base:=by
 refine F.okM3 (m:=Cb) Bl fun _ _ _ _ _ H0 _ _ hr G0 AG moments_here_ AN res Ar FO BS xt A7 AM AC hm q=>?_;unfold Cb at hm
 refine ⟨_,(A6 (AS (i:=3) Bl (Bf (CP (K:=K) rfl) (pv 1) C3 (Bs AD)))
   (A6 (AS (i:=4) Bl (Bf (CP (K:=K) rfl) (pv 1) (Bs AD) C3))
   (A6 (AS (i:=5) Bl (Az (A4 Dg (A4 Cz (Jy (As BQ (pv 0) (As Mt AD AD)) (A4 AH (A4 (Az A8) (A4 (AK A8) (A4 (Az (A4 (pv 3) (A4 (pv 4) A8))) (A4 (AK (A4 (pv 3) A8)) (A4 (AK (A4 (pv 4) A8)) (A4 (AK (A4 (pv 3) (A4 (pv 4) (A4 (pv 4) A8)))) (A4 (AK (A4 (pv 3) (A4 (Az A8) A8))) A8)))))))))))))
   (A6 (AS (i:=5) Bl (B2 K (pv 5) (Az (A4 (AK (A4 (Ej (KN (K:=K) rfl) (by rfl) T.tuple_ HL (A4 (pv 3) A8)) (A4 (pv 4) A8))) (A4 (AK (A4 (pv 3) (A4 (Ej (KN (K:=K) rfl) (by rfl) T.tuple_ HL (A4 (pv 4) A8)) A8))) (A4 (AK (A4 (pv 3) (A4 AH A8))) (A4 (AK (A4 AH (A4 (pv 4) A8))) (A4 (AK (A4 Dg (A4 (pv 4) A8))) (A4 (AK (A4 (pv 3) (A4 Dg A8))) A8)))))))))
   (A6 (AS (i:=5) Bl (B2 K (pv 5) (Az (A4 (Nq (M0 AH (pv 3) NQ) rfl rfl (fun z=>nomatch z) (by decide)) (A4 (AK (A4 (pv 3) (A4 Lo A8))) (A4 (AK (A4 (Az A8) (A4 (As Nr (Az (A4 AH A8)) AD) A8))) (A4 (AK (A4 (As Nr (Az (A4 AH A8)) AD) (A4 (pv 4) A8))) (A4 (AK (A4 (Az (A4 (pv 3) A8)) (A4 (pv 4) A8))) (A4 (AK (A4 (pv 3) (A4 (Az (A4 (pv 4) A8)) A8))) A8)))))))))
   (A6 (B7 (Ap Be (As BQ (pv 0) AD) AD (At _)) (A6 (AT (AW K (pv 5) (As BQ (As BH (pv 0) AD) (BZ K T.len_ (pv 5)))))
   AB) AB)
   (A6 (AS (i:=6) Bl (Ej (GY (K:=K) rfl) (by rfl) T.list_ IS (A4 (pv 1) A8)))
   (A6 (MV (Ab Bw hr (by decide) rfl (A4 (As BH (pv 0) AD) (A4 (pv 2) A8))) (Mv (pv 6) (As BQ (As BH (pv 0) AD) (BZ K T.len_ (pv 6))) JO))
   (A6 (AS (i:=7) Bl (As BQ (As BH (pv 0) AD) (BZ K T.len_ (pv 6))))
   (A6 (AT (AK (A4 (Bf (CP (K:=K) rfl) (pv 6) C3 (Bs (pv 7))) (A4 (Bf (CP (K:=K) rfl) (pv 6) (Bs (pv 7)) C3) A8))))
   AB)))))))))),?_⟩
 clear 2 FR h6;refine Ak (K:=K) (FV.ev (CC (A9 AM) Bz (By (K:=K) An))) h6 xt.gh fun v1 G2 H3 x4 r5=>?_;clear 1 x4 A7 AM AC;clear 2 ring_ h12;refine Ak (K:=K) (FV.ev (CC (A9 AM) (By (K:=K) An) Bz)) h12 xt.gh fun v7 G8 H9 x10 r11=>?_;clear 1 x10 A7 AM AC r5;clear 2 few_ h18;refine Ak (K:=K) (FV.ev (B3 (A5 (AA LB) (A5 (AA F7) (A5 (AA (Kk (A9 A7) (EV.of (m':=some (1000000000:Int)) (MM (An (i:=10)) (An (i:=9))) (by decide +kernel)) (by decide +kernel))) (A5 (AA Ai) (A5 (AA (FV.ev (B3 (AF (α:=D))))) (A5 (AA (AZ (AF (α:=D)))) (A5 (AA (FV.ev (B3 (A5 (AA (A9 r5)) (A5 (AA (A9 r11)) (AF (α:=D))))))) (A5 (AA (AZ (A5 (AA (A9 r5)) (AF (α:=D))))) (A5 (AA (AZ (A5 (AA (A9 r11)) (AF (α:=D))))) (A5 (AA (AZ (A5 (AA (A9 r5)) (A5 (AA (A9 r11)) (A5 (AA (A9 r11)) (AF (α:=D))))))) (A5 (AA (AZ (A5 (AA (A9 r5)) (A5 (AA (FV.ev (B3 (AF (α:=D))))) (AF (α:=D)))))) (AF (α:=D))))))))))))))) h18 xt.gh fun v13 G14 H15 x16 r17=>?_;clear 1 x16 A7 AM AC r5 r11;clear 2 few_ h26;refine Ak (K:=K) (FV.ev (Et (A9 r17) (FV.ev (B3 (A5 (AA (AZ (A5 (AA (Li (A9 r5))) (A5 (AA (A9 r11)) (AF (α:=D)))))) (A5 (AA (AZ (A5 (AA (A9 r5)) (A5 (AA (Li (A9 r11))) (AF (α:=D)))))) (A5 (AA (AZ (A5 (AA (A9 r5)) (A5 (AA Ai) (AF (α:=D)))))) (A5 (AA (AZ (A5 (AA Ai) (A5 (AA (A9 r11)) (AF (α:=D)))))) (A5 (AA (AZ (A5 (AA LB) (A5 (AA (A9 r11)) (AF (α:=D)))))) (A5 (AA (AZ (A5 (AA (A9 r5)) (A5 (AA LB) (AF (α:=D)))))) (AF (α:=D)))))))))))) h26 xt.gh fun v21 G22 H23 x24 r25=>?_;clear 1 x24 A7 AM AC r5 r11;clear 2 few_ h52;refine Ak (K:=K) (FV.ev (Et (A9 r25) (FV.ev (B3 (A5 (LU (A9 r5)) (A5 (AA (AZ (A5 (AA (A9 r5)) (A5 NA (AF (α:=D)))))) (A5 (AA (AZ (A5 (AA (FV.ev (B3 (AF (α:=D))))) (A5 (AA (FV.ev (fv_rep (FV.ev (B3 (A5 Ai (AF (α:=Str))))) An))) (AF (α:=D)))))) (A5 (AA (AZ (A5 (AA (FV.ev (fv_rep (FV.ev (B3 (A5 Ai (AF (α:=Str))))) An))) (A5 (AA (A9 r11)) (AF (α:=D)))))) (A5 (AA (AZ (A5 (AA (FV.ev (B3 (A5 (AA (A9 r5)) (AF (α:=D)))))) (A5 (AA (A9 r11)) (AF (α:=D)))))) (A5 (AA (AZ (A5 (AA (A9 r5)) (A5 (AA (FV.ev (B3 (A5 (AA (A9 r11)) (AF (α:=D)))))) (AF (α:=D)))))) (AF (α:=D)))))))))))) h52 xt.gh fun v47 G48 H49 x50 r51=>?_;clear 1 x50 A7 AM AC;clear 2 b53 h54;refine BE (Ao (K:=K) (Dm (Bi (A9 A7)) An)) h54 xt.gh fun G55 H56 x57=>?_;clear 1 x57 A7 AM AC r51
 cases b53 with
 | true =>
  clear 3;exact AY (K:=K) (BU (A9 r51) (Fj (BY (A9 A7)) (EQ (A9 r51)))) hm xt.gh fun v62 G63 H64 x65 r66=>q v62 G63 H64 (xt.trans x65) r66
 | false =>
  clear 4;clear 2 spoiled_ h74;refine J8 (K:=K) (Nj (Km (A9 AM))) h74 xt.gh fun p67 vs68 G69 H70 x71 hz72 o73=>?_;clear 1 x71 A7 AC 4 hz72;clear 2 a81 h82 k83 h84 z92 h85;refine Lk (K:=K) rfl o73 (CQ (m:=DJ) (BY (A9 A7)) (A9 AC)) h82 (Fj (BY (A9 (Rp.mono (Same.new o73.g) A7))) (EQ (A9 o73.tell))) h84 h85 xt.gh fun G86 H87 w88 j89 x90 o91=>?_;have xt:Ext G0 H0 G86 (upd H87 p67 (.lst (vs68.set j89 w88))):=(xt.trans x90).put hz72 o91.g;clear 0 x90 A7;have sf:=Same.new (o:=.lst (vs68.set j89 w88)) o91.g;have xt:=xt.frz hz72 o91.g o91.h;have r95:=o91.tell;clear 9 sf A7;clear 2 at_ h103;refine Ak (K:=K) (Fj (BY (A9 A7)) (EQ (A9 r95))) h103 xt.gh fun v98 G99 H100 x101 r102=>?_;clear 1 x101 r95;exact AY (K:=K) (AA (AZ (A5 (AA (FV.ev (CC (A9 r95) Bz (By (K:=K) (A9 r102))))) (A5 (AA (FV.ev (CC (A9 r95) (By (K:=K) (A9 r102)) Bz))) (AF (α:=D)))))) hm xt.gh fun v104 G105 H106 x107 r108=>q v104 G105 H106 (xt.trans x107) r108
theorem Ir (F:DIn K mg "_law_of_none" EU)(T:Txt w K mg){aS aT aR aW aM aE aC aX aN:Addr}(W:XT K mg aS aT aR aW aM aE aC aX aN):Ea P w K mg base:=by
 refine F.okM1 (m:=C6) Iz fun _ _ _ _ _ H0 _ _ hr G0 told_ res O0 xt BX hm q=>?_;unfold C6 at hm;obtain ⟨nm⟩:=told_
 refine ⟨_,(A6 (B7 (PW.pt (GU (DT (BR K (BN (Cq (K:=K) rfl) (by rfl) T.isinstance_ B4 (A4 (pv 0) (A4 (GF (v:=.ty "ValueError") rfl T.ValueError_ Jf rfl) A8))))) (GU (BR K (BN (Cq (K:=K) rfl) (by rfl) T.isinstance_ B4 (A4 (pv 0) (A4 (Ck (v:=.ref aM) rfl W.naM rfl) A8)))) (Gh (BR K (BN (Cq (K:=K) rfl) (by rfl) T.isinstance_ B4 (A4 (pv 0) (A4 (Ck (v:=.ref aC) rfl W.naC rfl) A8)))))))) (A6 (AT Cz) AB) AB)
   (A6 (AT (KY (BN (MQ (K:=K) rfl) (by rfl) T.isinstance_ B4 (A4 (pv 0) (A4 (AK (A4 (Ck (v:=.ref aX) rfl W.naX rfl) (A4 (Ck (v:=.ref aT) rfl W.naT rfl) (A4 (Ck (v:=.ref aN) rfl W.naN rfl) (A4 (Ck (v:=.ref aW) rfl W.naW rfl) A8))))) A8))))) AB)),?_⟩
 obtain ⟨hn,rfl⟩:=BC hm;rcases hn with rfl|rfl
 ·refine BE (FM (DD (FT (K:=K) (Ci W.E.ns W.E.kit W.E.kV rel_ty (A9 BX)))) (FM (FT (K:=K) (Ci W.E.ns W.E.kit W.E.kM EJ (A9 BX))) (FT (K:=K) (Ci W.E.ns W.E.kit W.E.kC EJ (A9 BX))))) rfl xt.gh fun G1 H1 x1=>?_;clear 1 x1 BX;refine Bd ?_;exact AY (K:=K) (JH (K5 W.E.ns W.E.kit W.E.ko (A9 BX))) rfl xt.gh fun v2 G2 H2 x2 r2=>q v2 G2 H2 (xt.trans x2) r2
 ·refine BE (FM (DD (FT (K:=K) (Ci W.R.ns W.R.kit W.R.kV rel_ty (A9 BX)))) (FM (FT (K:=K) (Ci W.R.ns W.R.kit W.R.kM EJ (A9 BX))) (FT (K:=K) (Ci W.R.ns W.R.kit W.R.kC EJ (A9 BX))))) rfl xt.gh fun G1 H1 x1=>?_;clear 1 x1 BX;refine Bd ?_;exact AY (K:=K) (JH (K5 W.R.ns W.R.kit W.R.ko (A9 BX))) rfl xt.gh fun v2 G2 H2 x2 r2=>q v2 G2 H2 (xt.trans x2) r2
theorem Ge (F:DIn K mg "_law_no_run_told" DE)(T:Txt w K mg){aS aT aR aW aM aE aC aX aN:Addr}(W:XT K mg aS aT aR aW aM aE aC aX aN)(CN:Ea P w K mg base):DF P w K mg base:=by
 refine F.okM1 (m:=BK) GZ fun _ _ _ _ _ H0 _ _ hr G0 told_ res O0 xt BX hm q=>?_;unfold BK at hm;obtain ⟨nm⟩:=told_;refine ⟨_,(A6 (AT (Di (BN (Cq (K:=K) rfl) (by rfl) T.isinstance_ B4 (A4 (pv 0) (A4 (Ck (v:=.ref aR) rfl W.naR rfl) A8))) (Di (Ab CN hr (by decide) rfl (A4 (pv 0) A8)) (E9 (KY (BN (Cq (K:=K) rfl) (by rfl) T.isinstance_ B4 (A4 (pv 0) (A4 (Ck (v:=.ref aE) rfl W.naE rfl) A8)))))))) AB),?_⟩;obtain ⟨rfl,rfl⟩:=BC hm
 have h1:C6 (ExN.mk "NoRun")=some true:=by
  unfold C6;exact if_pos (by first|exact Or.inl rfl|exact Or.inr rfl)
 exact AY (K:=K) (Dl (Ci W.R.ns W.R.kit W.R.kR EJ (A9 BX)) (Dl (EV.of (m':=some true) (BA (m:=E8) (A9 BX)) h1) (JH (Ci W.R.ns W.R.kit W.R.kE EJ (A9 BX))))) rfl xt.gh fun v2 G2 H2 x2 r2=>q v2 G2 H2 (xt.trans x2) r2
theorem Mo (F:DIn K mg "true_on" Hg)(T:Txt w K mg)(Y_:Bj P w K mg base):Dv P w K mg base:=by
 refine F.okE Mw bn2 (fun vs H Q E h=>(NY h).trans rfl) (fun _ cdv A outer s H0 vs Q E hr h=>?_);obtain ⟨G0,⟨Ah,run_,⟨⟩⟩,res,sg0,⟨Bm,_,rfl,AL,DN,_,rfl,BJ,rfl⟩,hm,q⟩:=h;replace AL:Rp.rel K G0 Bm Ah:=AL;replace BJ:Rp.rel K G0 DN run_:=BJ;replace hm:CS Ah run_=some res:=hm;unfold CS at hm;have xt:Ext G0 H0 G0 H0:=Ext.refl sg0
 refine ⟨_,(A6 (AT (AW K (LD Y_ hr (by decide) rfl IX (A4 (pv 0) (A4 (pv 1) A8))) AD))
   AB),?_⟩
 refine sx_ret (K:=K) (mg:=mg) (evx_at (Jc (m:=Cn) (A9 AL) (A9 BJ))) hm xt.gh ?_
 cases res with
 | error n=>exact q
 | ok b=>exact fun v G2 H2 x r=>q v G2 H2 x r
theorem true_on0 (D_:Dv P w K mg base):Jw P w K mg base:=D_.to0 fun vs H Q E h=>by
 obtain ⟨G,a,r,sg,hv,hm,q⟩:=h;clear 2 x hx
 cases x with
 | error n=>cases hm
 | ok b =>
  cases hm;exact ⟨G,a,.ok _,sg,hv,hx,q⟩
theorem sv_try {K:FZ9}{C0:Addr}{i:Nat}{tb:(L2.St->XK)->TS}{th rest:TS}{D:Ends}{σ:L2.St}{H:Hp}(h:tb (fun σ' cls _ H'=>PySem.W.exmOne K cls (.ref C0)=some true/\∀ ea,H' ea=none->th (gone i { D with nx:=rest D }) (σ'.set i (some (.ref ea))) (upd H' ea (Exo ea cls))) { D with nx:=rest D } σ H):CG (tTry K C0 i tb th) rest D σ H:=h
theorem sv_lit {v:V}{i:Nat}{rest:TS}{D:Ends}{σ:L2.St}{H:Hp}(h:rest D (σ.set i (some v)) H):CG (FI (tC v) (CY i)) rest D σ H:=h
theorem Kl (F:DIn K mg "_law_asked" Fi)(T:Txt w K mg){aS aT aR aW aM aE aC aX aN:Addr}(W:XT K mg aS aT aR aW aM aE aC aX aN)(Y_p:Bj P w K mg base)(Y_t:Dv P w K mg base):Fw P w K mg base:=by
 refine F.okM3 (m:=BB) Ds fun _ _ _ _ _ H0 _ _ hr G0 AG JW run_ res Ar Cs DN xt A7 Ep BJ hm q=>?_;unfold BB at hm
 refine ⟨_,(A6 (AS (i:=3) Ds Dg)
   (A6 (ps_try (i:=4) rfl rfl rfl W.naS (nd_of Ds) rfl rfl
    (fun pn xe E L=>A6 (B7 (Ap Be (As BQ (pv 0) AD) AD (At _)) (A6 (GH (LD Y_p hr (by decide) rfl L (A4 (pv 1) (A4 (pv 2) A8)))) AB) (A6 (GH (LD Y_t hr (by decide) rfl L (A4 (pv 1) (A4 (pv 2) A8)))) AB)) AB)
    (fun pn ea=>A6 (ps_set (i:=3) (nd_of Ds) rfl (Or.inl rfl) (pv 4)) AB))
   (A6 (AT (pv 3))
   AB))),?_⟩
 clear 2 b hb;refine sv_lit ?_;refine sv_try ?_;refine BE (σ:=[some Ar,some Cs,some DN,some V.non,none]) (rest:=BD) (Ao (K:=K) (Dm (Bi (A9 A7)) An)) hb xt.gh fun G1 H1 x1=>?_;clear 1 x1 Ep BJ
 cases b with
 | true =>
  clear 3;clear 2 r hr1;refine NG (K:=K) (mg:=mg) (rest:=BD) (Jc (m:=Cn) (A9 Ep) (A9 BJ)) hr1 xt.gh ?_
  cases r with
  | ok z =>
   cases hm;intro G2 H2 x2;clear 1 x2;exact AY (K:=K) (rest:=BD) (σ:=[some Ar,some Cs,some DN,some V.non,none]) (GW (i:=3) (v:=V.non) rfl (show Rp.rel K G2 V.non (none:Option ExN) from rfl)) rfl xt.gh fun v5 G5 H5 x5 r5=>q v5 G5 H5 (xt.trans x5) r5
  | error n =>
  intro D' G2 H2 hD x2;obtain ⟨hn,rfl⟩:=BC hm;rcases hn with rfl|rfl
  ·obtain rfl:aE=D':=by have:=W.naE.symm.trans hD;cases this;rfl
   refine ⟨W.E.ex,fun ea hea=>?_⟩;have x3:=x2.trans (Ext.new (o:=Exo ea (.ref aE)) x2.gh hea);clear 1 x3;have re:Rp.rel K (upd G2 ea (Exo ea (.ref aE))) (.ref ea) (ExN.mk "NoSentence"):=⟨ea,aE,rfl,AQ,W.E.ns⟩;refine Ak (K:=K) (rest:=BD) (A9 re) rfl xt.gh fun v4 G4 H4 x4 r4=>?_;clear 1 x4;exact AY (K:=K) (rest:=BD) (σ:=[some Ar,some Cs,some DN,some v4,none]) (IQ (A9 r4)) rfl xt.gh fun v5 G5 H5 x5 r5=>q v5 G5 H5 (xt.trans x5) r5
  ·obtain rfl:aR=D':=by have:=W.naR.symm.trans hD;cases this;rfl
   refine ⟨W.R.ex,fun ea hea=>?_⟩;have x3:=x2.trans (Ext.new (o:=Exo ea (.ref aR)) x2.gh hea);clear 1 x3;have re:Rp.rel K (upd G2 ea (Exo ea (.ref aR))) (.ref ea) (ExN.mk "NoRun"):=⟨ea,aR,rfl,AQ,W.R.ns⟩;refine Ak (K:=K) (rest:=BD) (A9 re) rfl xt.gh fun v4 G4 H4 x4 r4=>?_;clear 1 x4;exact AY (K:=K) (rest:=BD) (σ:=[some Ar,some Cs,some DN,some v4,none]) (IQ (A9 r4)) rfl xt.gh fun v5 G5 H5 x5 r5=>q v5 G5 H5 (xt.trans x5) r5
 | false =>
  clear 4;clear 2 r hr1;refine NG (K:=K) (mg:=mg) (rest:=BD) (Jc (m:=Fb) (A9 Ep) (A9 BJ)) hr1 xt.gh ?_
  cases r with
  | ok z =>
   cases hm;intro G2 H2 x2;clear 1 x2;exact AY (K:=K) (rest:=BD) (σ:=[some Ar,some Cs,some DN,some V.non,none]) (GW (i:=3) (v:=V.non) rfl (show Rp.rel K G2 V.non (none:Option ExN) from rfl)) rfl xt.gh fun v5 G5 H5 x5 r5=>q v5 G5 H5 (xt.trans x5) r5
  | error n =>
  intro D' G2 H2 hD x2;obtain ⟨hn,rfl⟩:=BC hm;rcases hn with rfl|rfl
  ·obtain rfl:aE=D':=by have:=W.naE.symm.trans hD;cases this;rfl
   refine ⟨W.E.ex,fun ea hea=>?_⟩;have x3:=x2.trans (Ext.new (o:=Exo ea (.ref aE)) x2.gh hea);clear 1 x3;have re:Rp.rel K (upd G2 ea (Exo ea (.ref aE))) (.ref ea) (ExN.mk "NoSentence"):=⟨ea,aE,rfl,AQ,W.E.ns⟩;refine Ak (K:=K) (rest:=BD) (A9 re) rfl xt.gh fun v4 G4 H4 x4 r4=>?_;clear 1 x4;exact AY (K:=K) (rest:=BD) (σ:=[some Ar,some Cs,some DN,some v4,none]) (IQ (A9 r4)) rfl xt.gh fun v5 G5 H5 x5 r5=>q v5 G5 H5 (xt.trans x5) r5
  ·obtain rfl:aR=D':=by have:=W.naR.symm.trans hD;cases this;rfl
   refine ⟨W.R.ex,fun ea hea=>?_⟩;have x3:=x2.trans (Ext.new (o:=Exo ea (.ref aR)) x2.gh hea);clear 1 x3;have re:Rp.rel K (upd G2 ea (Exo ea (.ref aR))) (.ref ea) (ExN.mk "NoRun"):=⟨ea,aR,rfl,AQ,W.R.ns⟩;refine Ak (K:=K) (rest:=BD) (A9 re) rfl xt.gh fun v4 G4 H4 x4 r4=>?_;clear 1 x4;exact AY (K:=K) (rest:=BD) (σ:=[some Ar,some Cs,some DN,some v4,none]) (IQ (A9 r4)) rfl xt.gh fun v5 G5 H5 x5 r5=>q v5 G5 H5 (xt.trans x5) r5
seal eval in
theorem Hl (F:DIn K mg "_law_made_good" Dh)(T:Txt w K mg)(Bw:Dj P w K mg base)(BW:DF P w K mg base)(C1:Fw P w K mg base):FQ P w K mg base:=by
 refine F.okM4 (m:=Bu) DI fun _ _ _ _ _ H0 _ _ hr G0 AG C4 moments_here_ AN res Ar Ke FO BS xt A7 Aa AM AC hm q=>?_;unfold Bu at hm
 refine ⟨_,(A6 (AS (i:=4) DI (Ej (GY (K:=K) rfl) (by rfl) T.list_ IS (A4 (pv 2) A8)))
   (A6 (AS (i:=5) DI (As BQ (pv 0) (BZ K T.len_ (pv 4))))
   (A6 (MV (Ab Bw hr (by decide) rfl (A4 (As BH (pv 0) AD) (A4 (pv 3) A8))) (Mv (pv 4) (pv 5) JO))
   (A6 (B7 (DT (BR K (Ab BW hr (by decide) rfl (A4 (Ab C1 hr (by decide) rfl (A4 (pv 0) (A4 (pv 1) (A4 (AK (A4 (Az A8) (A4 (pv 4) A8))) A8)))) A8)))) (A6 (AT Cz)
   AB) AB)
   (A6 (MV (AW K (pv 2) (pv 5)) (Mv (pv 4) (pv 5) JO))
   (A6 (AT (FH op_isN (Ab C1 hr (by decide) rfl (A4 (pv 0) (A4 (pv 1) (A4 (AK (A4 (Az A8) (A4 (pv 4) A8))) A8)))) Dg (At _)))
   AB)))))),?_⟩
 clear 2 ring_ h8;refine J8 (K:=K) (Nj (Km (A9 AM))) h8 xt.gh fun p1 vs2 G3 H4 x5 hz6 o7=>?_;clear 1 x5 A7 Aa AM AC 4 hz6;clear 2 at_ h18;refine sv_setB (K:=K) o7 (Fj (A9 (Rp.mono (Same.new o7.g) A7)) (EQ (A9 o7.tell))) h18 xt.gh fun v13 G14 H15 x16 r17=>?_;clear 1 x16 A7 Aa AM AC 2 o7;clear 2 a21 h22 k23 h24 z32 h25;refine JD (K:=K) rfl o7 (CQ (m:=DJ) (BY (A9 A7)) (A9 AC)) h22 (A9 r17) h24 h25 xt.gh fun G26 H27 w28 j29 x30 o31=>?_;have xt:Ext G0 H0 G26 (upd H27 p1 (.lst (vs2.set j29 w28))):=(xt.trans x30).put hz6 o31.g;clear 0 x30 A7 Aa AM r17;clear 2 b45 h46;refine sv_ifB o31 (DD (FT (K:=K) (BA (m:=Cr) (MI (DX (m:=Cc) (A9 (Rp.mono (Same.new o31.g) A7)) (Fx (A9 (Rp.mono (Same.new o31.g) Aa))) (ev_trL (FV.ev (B3 (AF (α:=D)))) (A9 o31.tell))))))) h46 xt.gh fun G47 H48 x49=>?_;clear 1 x49 A7 Aa AM r17 2 o31
 cases b45 with
 | true =>
  clear 3;exact AY (K:=K) (rest:=BD) (σ:=[some Ar,some Ke,some FO,some BS,some (V.ref p1),some v13]) F7 hm xt.gh fun v50 G51 H52 x53 r54=>q v50 G51 H52 (xt.trans x53) r54
 | false =>
  clear 4;clear 2 a58 h59 k60 h61 z69 h62;refine JD (K:=K) rfl o31 (AA (BU (A9 AM) (A9 r17))) h59 (A9 r17) h61 h62 xt.gh fun G63 H64 w65 j66 x67 o68=>?_;have xt:Ext G0 H0 G63 (upd H64 p1 (.lst ((vs2.set j29 w28).set j66 w65))):=(xt.trans x67).put hz6 o68.g;clear 0 x67 A7 Aa;have sf:=Same.new (o:=.lst ((vs2.set j29 w28).set j66 w65)) o68.g;have xt:=xt.frz hz6 o68.g o68.h;have r74:=o68.tell;clear 9 sf A7 Aa;exact AY (K:=K) (ev_isN nn_exn (DX (m:=Cc) (A9 A7) (Fx (A9 Aa)) (ev_trL (FV.ev (B3 (AF (α:=D)))) (A9 r74)))) hm xt.gh fun v79 G80 H81 x82 r83=>q v79 G80 H81 (xt.trans x82) r83
seal eval in
theorem Lx (F:DIn K mg "_law_long" Gi)(T:Txt w K mg):Io P w K mg base:=by
 refine F.okM3 (m:=Cp) EH fun _ _ _ _ _ H0 _ _ hr G0 AG AN many_ res Ar BS v_many_ xt A7 AC Kt hm q=>?_;unfold Cp at hm
 refine ⟨_,(A6 (AS (i:=3) EH (AK (A4 AH (A4 (AW K (pv 1) AD) A8))))
   (A6 (F5 PassesOwn.never rfl (GC rfl T.range_ (A4 (pv 2) A8)) (D6 (i:=4) EH) (A6 (AS (i:=3) EH (AK (A4 (AW K (Az (A4 AH (A4 AH (A4 AH (A4 AH A8))))) (As BQ (As BH (pv 0) (B2 K (pv 4) AD)) AD)) (A4 (pv 3) A8))))
   AB))
   (A6 (AT (pv 3))
   AB))),?_⟩
 clear 2 Am h12;refine Ak (K:=K) (Av (A5 (Ae Ai) (A5 (Ae (BU (A9 AC) An)) (AF (α:=Nt))))) h12 xt.gh fun v7 G8 H9 x10 r11=>?_;clear 1 x10 A7 Kt;clear 2 as14 h15 fl16 h17;refine F1 (K:=K) (RR:=fun r v G' H'=>Ext G0 H0 G' H'/\Rp.rel K G' v r) (IL (A9 Kt)) h15 h17 xt.gh fun G18 H19 x20=>⟨fun s21 S' G' H'=>∃ (v22:V) (v23:Option V),Ext G0 H0 G' H'/\Same G18 G'/\S'=[some Ar,some BS,some v_many_,some v22,v23]/\Rp.rel K G' v22 (s21:Nt),?_,?_,?_,?_,?_⟩
 ·clear 1 x20 r11;exact ⟨v7,_,xt,(Same.refl _),rfl,r11⟩
 ·rintro _ S' G' H' ⟨v22,v23,xt,mk24,rfl,r25⟩;exact ⟨mk24,xt.gh⟩
 ·rintro xv26 a27 s21 _ G30 H31 fl28 - ⟨v22,v23,xt,mk24,rfl,r25⟩ rx29 hm D' kN32 kC33 kB34 kR35;have A7:=Rp.mono (x20.gg.trans mk24) A7;refine EG ?_;clear 2 Am h48;refine Ak (K:=K) (Av (A5 (BU (FV.ev (B3 (A5 (Ae Ai) (A5 (Ae Ai) (A5 (Ae Ai) (A5 (Ae Ai) (AF (α:=Nt)))))))) (Bi (Il (A9 A7) (FA (A9 rx29) An)))) (A5 (A9 r25) (AF (α:=Nt))))) h48 xt.gh fun v43 G44 H45 x46 r47=>?_;clear 1 x46 3 mk24;cases hm;exact kN32 _ _ _ _ rfl ⟨v43,_,xt,mk24,rfl,r47⟩
 ·rintro s21 _ G53 H54 rfl ⟨v49,v50,xt,mk51,rfl,r52⟩;refine Gq ?_;exact AY (K:=K) (A9 r52) hm xt.gh fun v55 G56 H57 x58 r59=>q v55 G56 H57 (xt.trans x58) r59
 ·clear 5
theorem Ef (F:DIn K mg "_law_no_sentence_told" CI)(T:Txt w K mg){aS aT aR aW aM aE aC aX aN:Addr}(W:XT K mg aS aT aR aW aM aE aC aX aN)(CN:Ea P w K mg base):D5 P w K mg base:=by
 refine F.okM1 (m:=BL) En fun _ _ _ _ _ H0 _ _ hr G0 told_ res O0 xt BX hm q=>?_;unfold BL at hm;obtain ⟨nm⟩:=told_;refine ⟨_,(A6 (AT (Di (BN (Cq (K:=K) rfl) (by rfl) T.isinstance_ B4 (A4 (pv 0) (A4 (Ck (v:=.ref aE) rfl W.naE rfl) A8))) (Di (Ab CN hr (by decide) rfl (A4 (pv 0) A8)) (E9 (KY (BN (Cq (K:=K) rfl) (by rfl) T.isinstance_ B4 (A4 (pv 0) (A4 (Ck (v:=.ref aR) rfl W.naR rfl) A8)))))))) AB),?_⟩;obtain ⟨rfl,rfl⟩:=BC hm
 have h1:C6 (ExN.mk "NoSentence")=some true:=by
  unfold C6;exact if_pos (by first|exact Or.inl rfl|exact Or.inr rfl)
 exact AY (K:=K) (Dl (Ci W.E.ns W.E.kit W.E.kE EJ (A9 BX)) (Dl (EV.of (m':=some true) (BA (m:=E8) (A9 BX)) h1) (JH (Ci W.E.ns W.E.kit W.E.kR EJ (A9 BX))))) rfl xt.gh fun v2 G2 H2 x2 r2=>q v2 G2 H2 (xt.trans x2) r2
seal eval in
theorem ok_law {f:Addr}{fd:FuncData}(F:Fun K "law" "law" s_law f fd)(T:Txt w K mg)(Fk:IB P w K mg base)(EB:Fs P w K mg base)(EW:GM P w K mg base)(DY:GQ P w K mg base)(Ct:Jd P w K mg base)(D7:EI P w K mg base)(F8:HQ P w K mg base)(Df:FQ P w K mg base)(HX:Jw P w K mg base)(FG:Io P w K mg base)(CJ:D5 P w K mg base)(BW:DF P w K mg base)(C1:Fw P w K mg base):FnOk P w K mg base CX0 168 f fd ["_law_script"] (spM K mm_law):=by
 refine F.ok E1 (fun vs H Q E h=>(F6 h).trans rfl) (fun cdv A outer s H0 vs Q E hr h=>?_);obtain ⟨G0,⟨script_,⟨⟩⟩,res,sg0,⟨CA,_,rfl,Af,rfl⟩,hm,q⟩:=h;replace Af:Rp.rel K G0 CA script_:=Af;replace hm:Lv script_=some res:=hm;unfold Lv at hm;have xt:Ext G0 H0 G0 H0:=Ext.refl sg0
 refine ⟨_,(A6 (AS (i:=1) E1 (Ab Fk hr (by decide) rfl (A4 (Ab Ct hr (by decide) rfl (A4 (pv 0) (A4 AD A8))) A8)))
   (A6 (AS (i:=2) E1 (Ab EB hr (by decide) rfl (A4 (Ab Ct hr (by decide) rfl (A4 (pv 0) (A4 AD A8))) (A4 (pv 1) A8))))
   (A6 (AS (i:=3) E1 (Ab EW hr (by decide) rfl (A4 (Ab Ct hr (by decide) rfl (A4 (pv 0) (A4 AD A8))) (A4 (pv 1) A8))))
   (A6 (AS (i:=4) E1 (Ab DY hr (by decide) rfl (A4 (pv 2) (A4 (AK (A4 (Bf (CP (K:=K) rfl) (pv 3) C3 (Bs AD)) (A4 (Bf (CP (K:=K) rfl) (pv 3) (Bs AD) C3) A8))) A8))))
   (A6 (F5 PassesOwn.never rfl (Dq (K:=K) rfl (Bf (CP (K:=K) rfl) (pv 0) (Bs AD) (Bs AD))) (D6 (i:=5) E1) (A6 (AS (i:=6) E1 (Ab D7 hr (by decide) rfl (A4 (As BH (pv 5) AD) (A4 (pv 2) (A4 (pv 1) A8)))))
   (A6 (B7 (Ap Be (As BQ (As BH (pv 5) AD) AD) AD (At _)) (A6 (AS (i:=6) E1 (Ab FG hr (by decide) rfl (A4 (As BH (pv 5) AD) (A4 (pv 1) (A4 AD A8)))))
   AB) AB)
   (A6 (AS (i:=7) E1 (Ab F8 hr (by decide) rfl (A4 (As BH (pv 5) AD) (A4 (pv 3) (A4 (pv 1) A8)))))
   (A6 (AS (i:=8) E1 (AK (A4 (Bf (CP (K:=K) rfl) (pv 3) C3 (Bs AD)) (A4 (Bf (CP (K:=K) rfl) (pv 3) (Bs AD) C3) A8))))
   (A6 (B7 (DT (BR K (Ab CJ hr (by decide) rfl (A4 (Ab C1 hr (by decide) rfl (A4 (pv 5) (A4 (pv 6) (A4 (AW K (Az (A4 (pv 8) (A4 (pv 7) A8))) (As BQ (As BH (pv 5) AD) AD)) A8)))) A8)))) (A6 (AT Cz)
   AB) AB)
   (A6 (B7 (DT (BR K (Ab BW hr (by decide) rfl (A4 (Ab C1 hr (by decide) rfl (A4 (As BH (pv 5) AD) (A4 (pv 2) (A4 (pv 7) A8)))) A8)))) (A6 (AT Cz)
   AB) AB)
   AB)))))))
   (A6 (F5 PassesOwn.never rfl (GC rfl T.range_ (A4 AD A8)) (D6 (i:=9) E1) (A6 (B7 (Ap op_notN (Ab C1 hr (by decide) rfl (A4 (pv 9) (A4 (Ab FG hr (by decide) rfl (A4 (Ab Ct hr (by decide) rfl (A4 (pv 0) (A4 AD A8))) (A4 (pv 1) (A4 AD A8)))) (A4 (AK (A4 (Az A8) (A4 (Ej (GY (K:=K) rfl) (by rfl) T.list_ IS (A4 (pv 3) A8)) A8))) A8)))) Dg (At _)) (A6 (AT Cz)
   AB) AB)
   AB))
   (A6 (B7 (DT (BR K (Ab Df hr (by decide) rfl (A4 (As BH (Ab Ct hr (by decide) rfl (A4 (pv 0) (A4 AD A8))) AD) (A4 (pv 2) (A4 (pv 3) (A4 (pv 1) A8))))))) (A6 (AT Cz)
   AB) AB)
   (A6 (B7 (Ap op_ne (Ab HX hr (by decide) rfl (A4 (pv 2) (A4 (AK (A4 (Bf (CP (K:=K) rfl) (pv 3) C3 (Bs AD)) (A4 (Bf (CP (K:=K) rfl) (pv 3) (Bs AD) C3) A8))) A8))) (AW K (pv 4) AD) (At _)) (A6 (AT Cz)
   AB) AB)
   (A6 (AT (FH (op_eqK (K:=K) rfl (List Bool) hr (by decide)) (Ab DY hr (by decide) rfl (A4 (pv 2) (A4 (AK (A4 (Bf (CP (K:=K) rfl) (pv 3) C3 (Bs AD)) (A4 (Bf (CP (K:=K) rfl) (pv 3) (Bs AD) C3) A8))) A8))) (pv 4) (At _)))
   AB))))))))),?_⟩
 clear 2 AN h9;refine Ak (K:=K) (BA (m:=HR) (CQ (m:=Cu) (A9 Af) An)) h9 xt.gh fun v4 G5 H6 x7 r8=>?_;clear 1 x7 Af;clear 2 C4 h19;refine Ak (K:=K) (CQ (m:=FP) (CQ (m:=Cu) (A9 Af) An) (A9 r8)) h19 xt.gh fun v14 G15 H16 x17 r18=>?_;clear 1 x17 Af r8;clear 2 moments_here_ h29;refine Ak (K:=K) (CQ (m:=Fe) (CQ (m:=Cu) (A9 Af) An) (A9 r8)) h29 xt.gh fun v24 G25 H26 x27 r28=>?_;clear 1 x27 Af r8 r18;clear 2 due_ h37;refine Ak (K:=K) (CQ (m:=CW) (Fx (A9 r18)) (J9 (GA (FV.ev (CC (A9 r28) Bz (By (K:=K) An))) (FV.ev (CC (A9 r28) (By (K:=K) An) Bz))))) h37 xt.gh fun v32 G33 H34 x35 r36=>?_;clear 1 x35 Af r8 r18 r28;clear 2 as41 h42 fl43 h44;refine F1 (K:=K) (RR:=fun r v G' H'=>Ext G0 H0 G' H'/\Rp.rel K G' v r) (GI (FV.ev (OJ (A9 Af) (By (K:=K) An) (By (K:=K) An)))) h42 h44 xt.gh fun G45 H46 x47=>⟨fun s48 S' G' H'=>∃ (v49:Option V) (v50:Option V) (v51:Option V) (v52:Option V),Ext G0 H0 G' H'/\Same G45 G'/\S'=[some CA,some v4,some v14,some v24,some v32,v49,v50,v51,v52,none],?_,?_,?_,?_,?_⟩
 ·clear 1 x47;exact ⟨_,_,_,_,xt,(Same.refl _),rfl⟩
 ·rintro _ S' G' H' ⟨v49,v50,v51,v52,xt,mk53,rfl⟩;exact ⟨mk53,xt.gh⟩
 ·rintro xv54 a55 s48 _ G58 H59 fl56 - ⟨v49,v50,v51,v52,xt,mk53,rfl⟩ rx57 hm D' kN60 kC61 kB62 kR63;have Af:=Rp.mono (x47.gg.trans mk53) Af;have r8:=Rp.mono (x47.gg.trans mk53) r8;have r18:=Rp.mono (x47.gg.trans mk53) r18;have r28:=Rp.mono (x47.gg.trans mk53) r28;have r36:=Rp.mono (x47.gg.trans mk53) r36;refine EG ?_;clear 2 Ib h73;refine Ak (K:=K) (ev_thB (DX (m:=E7) (BY (A9 rx57)) (A9 r18) (A9 r8))) h73 xt.gh fun v68 G69 H70 x71 r72=>?_;clear 1 x71 Af r8 r18 r28 r36 rx57 3 mk53;clear 2 b74 h75 s79 h80
  try (with_reducible refine nxt_ ?_;dsimp only)
  refine sv_join (t:=ON _ _ _) (fun S97 H96=>∃ (G95:Hp) (v82:V),Ext G0 H0 G95 H96/\Same G69 G95/\S97=[some CA,some v4,some v14,some v24,some v32,some xv54,some v82,v51,v52,none]/\Rp.rel K G95 v82 (s79:Th)) (fun nx kn84=>?_) ?_
  ·refine BE (Ao (K:=K) (Dm (Bi (BY (A9 rx57))) An)) h75 xt.gh fun G76 H77 x78=>?_;clear 1 x78 r8 rx57 r72;have mk81:Same G69 G76:=x78.gg;have hm:=h80
   cases b74 with
   | true =>
    clear 3;clear 2 Ib h94;refine Ak (K:=K) (Fx (DX (m:=FZ) (BY (A9 rx57)) (A9 r8) An)) h94 xt.gh fun v89 G90 H91 x92 r93=>?_;clear 1 x92 3 mk81;cases hm;exact kn84 _ _ ⟨G90,v89,xt,mk81,rfl,r93⟩
   | false =>
    clear 4;cases hm;exact kn84 _ _ ⟨G76,v68,xt,mk81,rfl,r72⟩
  ·rintro _ H96 ⟨G95,v82,xt,mk81,rfl,r83⟩;have mk53:=mk53.trans mk81;clear 9 mk81 r8 r18 r28 rx57;clear 2 bad_ h106;refine Ak (K:=K) (DX (m:=GL) (BY (A9 rx57)) (A9 r28) (A9 r8)) h106 xt.gh fun v101 G102 H103 x104 r105=>?_;clear 1 x104 r18 r28 rx57 r83 3 mk53;clear 2 run_ h112;refine Ak (K:=K) (GA (FV.ev (CC (A9 r28) Bz (By (K:=K) An))) (FV.ev (CC (A9 r28) (By (K:=K) An) Bz))) h112 xt.gh fun v107 G108 H109 x110 r111=>?_;clear 1 x110 r18 rx57 r83 r105 3 mk53;clear 2 b121 h122;refine BE (DD (FT (K:=K) (BA (m:=D2) (MI (DX (m:=Cc) (A9 rx57) (A9 r83) (BU (FV.ev (B3 (A5 (J9 (A9 r111)) (A5 (ev_trB (A9 r105)) (AF (α:=Tr)))))) (Bi (BY (A9 rx57))))))))) h122 xt.gh fun G123 H124 x125=>?_;clear 1 x125 r18 rx57 r105 3 mk53
   cases b121 with
   | true =>
    clear 3;clear 2 rr131 h132;cases hm;exact AY (K:=K) (rest:=BD) (σ:=[some CA,some v4,some v14,some v24,some v32,some xv54,some v82,some v101,some v107,none]) F7 h132 xt.gh fun v126 G127 H128 x129 r130=>kR63 _ v126 G127 H128 rfl ⟨xt.trans x129,r130⟩
   | false =>
    clear 4;clear 2 b139 h140;refine BE (DD (FT (K:=K) (BA (m:=Cr) (MI (DX (m:=Cc) (BY (A9 rx57)) (Fx (A9 r18)) (ev_trB (A9 r105))))))) h140 xt.gh fun G141 H142 x143=>?_;clear 1 x143 3 mk53
    cases b139 with
    | true =>
     clear 3;clear 2 rr149 h150;cases hm;exact AY (K:=K) (rest:=BD) (σ:=[some CA,some v4,some v14,some v24,some v32,some xv54,some v82,some v101,some v107,none]) F7 h150 xt.gh fun v144 G145 H146 x147 r148=>kR63 _ v144 G145 H146 rfl ⟨xt.trans x147,r148⟩
    | false =>
     clear 4;cases hm;exact kN60 _ _ _ _ rfl ⟨_,_,_,_,xt,mk53,rfl⟩
 ·rintro s48 _ G156 H157 rfl ⟨v151,v152,v153,v154,xt,mk155,rfl⟩;refine Gq ?_;have Af:=Rp.mono (x47.gg.trans mk155) Af;have r8:=Rp.mono (x47.gg.trans mk155) r8;have r18:=Rp.mono (x47.gg.trans mk155) r18;have r28:=Rp.mono (x47.gg.trans mk155) r28;have r36:=Rp.mono (x47.gg.trans mk155) r36;clear 2 as159 h160 fl161 h162;refine F1 (K:=K) (RR:=fun r v G' H'=>Ext G0 H0 G' H'/\Rp.rel K G' v r) (IL An) h160 h162 xt.gh fun G163 H164 x165=>⟨fun s166 S' G' H'=>∃ (v167:Option V),Ext G0 H0 G' H'/\Same G163 G'/\S'=[some CA,some v4,some v14,some v24,some v32,v151,v152,v153,v154,v167],?_,?_,?_,?_,?_⟩
  ·clear 1 x165;exact ⟨_,xt,(Same.refl _),rfl⟩
  ·rintro _ S' G' H' ⟨v167,xt,mk168,rfl⟩;exact ⟨mk168,xt.gh⟩
  ·rintro xv169 a170 s166 _ G173 H174 fl171 - ⟨v167,xt,mk168,rfl⟩ rx172 hm D' kN175 kC176 kB177 kR178;have Af:=Rp.mono (x165.gg.trans mk168) Af;have r8:=Rp.mono (x165.gg.trans mk168) r8;have r28:=Rp.mono (x165.gg.trans mk168) r28;refine EG ?_;clear 2 b189 h190;refine BE (Ao (K:=K) (ev_notN nn_exn (DX (m:=Cc) (A9 rx172) (Fx (DX (m:=FZ) (CQ (m:=Cu) (A9 Af) An) (A9 r8) An)) (J9 (GA (FV.ev (B3 (AF (α:=Str)))) (FV.ev (Km (A9 r28)))))))) h190 xt.gh fun G191 H192 x193=>?_;clear 1 x193 3 mk168
   cases b189 with
   | true =>
    clear 3;clear 2 rr199 h200;cases hm;exact AY (K:=K) (rest:=BD) (σ:=[some CA,some v4,some v14,some v24,some v32,v151,v152,v153,v154,some xv169]) F7 h200 xt.gh fun v194 G195 H196 x197 r198=>kR178 _ v194 G195 H196 rfl ⟨xt.trans x197,r198⟩
   | false =>
    clear 4;cases hm;exact kN175 _ _ _ _ rfl ⟨_,xt,mk168,rfl⟩
  ·rintro s166 _ G203 H204 rfl ⟨v201,xt,mk202,rfl⟩;refine Gq ?_;have Af:=Rp.mono (x165.gg.trans mk202) Af;have r8:=Rp.mono (x165.gg.trans mk202) r8;have r18:=Rp.mono (x165.gg.trans mk202) r18;have r28:=Rp.mono (x165.gg.trans mk202) r28;have r36:=Rp.mono (x165.gg.trans mk202) r36;clear 2 b213 h214;refine BE (DD (FT (K:=K) (ev_def4 (m:=Ed) (BY (CQ (m:=Cu) (A9 Af) An)) (A9 r18) (A9 r28) (A9 r8)))) h214 xt.gh fun G215 H216 x217=>?_;clear 1 x217 r18 r28 r36
   cases b213 with
   | true =>
    clear 3;exact AY (K:=K) (rest:=BD) (σ:=[some CA,some v4,some v14,some v24,some v32,v151,v152,v153,v154,v201]) F7 hm xt.gh fun v218 G219 H220 x221 r222=>q v218 G219 H220 (xt.trans x221) r222
   | false =>
    clear 4;clear 2 b231 h232;refine BE (Ao (K:=K) (ev_neB (CQ (m:=Eo) (Fx (A9 r18)) (J9 (GA (FV.ev (CC (A9 r28) Bz (By (K:=K) An))) (FV.ev (CC (A9 r28) (By (K:=K) An) Bz))))) (BU (A9 r36) An))) h232 xt.gh fun G233 H234 x235=>?_;clear 1 x235 r18 r28 r36
    cases b231 with
    | true =>
     clear 3;exact AY (K:=K) (rest:=BD) (σ:=[some CA,some v4,some v14,some v24,some v32,v151,v152,v153,v154,v201]) F7 hm xt.gh fun v236 G237 H238 x239 r240=>q v236 G237 H238 (xt.trans x239) r240
    | false =>
     clear 4;exact AY (K:=K) (ev_eq (CQ (m:=CW) (Fx (A9 r18)) (J9 (GA (FV.ev (CC (A9 r28) Bz (By (K:=K) An))) (FV.ev (CC (A9 r28) (By (K:=K) An) Bz))))) (A9 r36)) hm xt.gh fun v244 G245 H246 x247 r248=>q v244 G245 H246 (xt.trans x247) r248
  ·clear 5
 ·clear 5
end
def Cj:List Nat:=List.range' 97 26
def one (c:Nat):Str:=⟨#[c]⟩
theorem abc_cps:("abcdefghijklmnopqrstuvwxyz" : Str).cps.toList=Cj:=by decide +kernel
theorem JT (s:Scr)(k:Int)(h0:0<=k){P:Int->Prop}(hp:∀ n,P n):OK (C7 s k) P:=by
 unfold C7;simp only [qiB,Ag,AO];exact B6 (fun h=>FX h0 (of_decide_eq_true h) fun x _=>hp x) fun _=>AI (hp _)
theorem MP {n i:Nat}{a:Int}(h:((List.range n).map fun (i:Nat)=>(0:Int)+(i:Int))[i]? = some a):i<n/\a=(i:Int):=by
 have hi:i<n:=by simpa using (qrA.mp h).1
 refine ⟨hi,?_⟩;simp [hi] at h;omega
theorem IK (n:Nat):((List.range n).map fun (i:Nat)=>(0:Int)+(i:Int)).length=n:=by rw [qdA,qhA]
inductive Fm where
 | yes
 | lamp (c:Str)
 | neg (a:Fm)
 | next (a:Fm)
 | and (a b:Fm)
 | unt (a b:Fm)
def Fm.nt:Fm->Nt
 | .yes=>.tup [.txt "yes"]
 | .lamp c=>.tup [.txt "lamp",.txt c]
 | .neg a=>.tup [.txt "not",a.nt]
 | .next a=>.tup [.txt "next",a.nt]
 | .and a b=>.tup [.txt "and",a.nt,b.nt]
 | .unt a b=>.tup [.txt "until",a.nt,b.nt]
def Fm.den:Fm->Fm
 | .neg a=>a
 | a=>.neg a
def Fm.size:Fm->Nat
 | .yes=>1
 | .lamp _=>1
 | .neg a=>a.size+1
 | .next a=>a.size+1
 | .and a b=>a.size+b.size+1
 | .unt a b=>a.size+b.size+1
def Fm.dep:Fm->Nat
 | .yes=>1
 | .lamp _=>1
 | .neg a=>a.dep+1
 | .next a=>a.dep+1
 | .and a b=>max a.dep b.dep+1
 | .unt a b=>max a.dep b.dep+1
theorem Kf (a:Fm):a.den.dep<=a.dep+1:=by
 cases a<;>simp only [Fm.den,Fm.dep]<;>omega
theorem JS (a:Fm):a.den.size<=a.size+1:=by
 cases a<;>simp only [Fm.den,Fm.size]<;>omega
def pl1 (w:Str)(f:Fm):Fm :=
 if w = "not" then f.den else if w = "next" then .next f else if w = "atlast" then .unt .yes f else if w = "always" then .neg (.unt .yes f.den)
 else if w = "again" then .neg (.unt .yes (.neg (.unt .yes f))) else .unt .yes (.neg (.unt .yes f.den))
def pl2 (w:Str)(f g:Fm):Fm :=
 if w = "or" then .neg (.and f.den g.den) else if w = "then" then .neg (.and f g.den) else if w = "frees" then .neg (.unt f.den g.den)
 else if w = "and" then .and f g else .unt f g
theorem pl1_dep (w:Str)(f:Fm):(pl1 w f).dep<=f.dep+4:=by
 have h1:=Kf f;have h2:1<=f.dep:=by cases f<;>simp only [Fm.dep]<;>omega
 unfold pl1
 repeat' split
 all_goals (try simp only [Fm.dep]);omega
theorem pl2_dep (w:Str)(f g:Fm):(pl2 w f g).dep<=max f.dep g.dep+3:=by
 have h1:=Kf f;have h2:=Kf g;unfold pl2
 repeat' split
 all_goals (try simp only [Fm.dep]);omega
theorem pl1_size (w:Str)(f:Fm):(pl1 w f).size<=f.size+6:=by
 have h1:=JS f;unfold pl1
 repeat' split
 all_goals (try simp only [Fm.size]);omega
theorem pl2_size (w:Str)(f g:Fm):(pl2 w f g).size<=f.size+g.size+4:=by
 have h1:=JS f;have h2:=JS g;unfold pl2
 repeat' split
 all_goals (try simp only [Fm.size]);omega
def W1:List Str:=["not","next","atlast","always","again","settles"]
def W2:List Str:=["and","until","or","then","frees"]
def lampN (c:Nat):Nt:=.tup [.txt "lamp",.txt (one c)]
inductive Sent:Nt->Nat->Fm->Prop where
 | yes:Sent (.tup [.txt "yes"]) 1 .yes
 | no:Sent (.tup [.txt "no"]) 1 (.neg .yes)
 | lamp {c:Nat}:c∈Cj->Sent (lampN c) 1 (.lamp (one c))
 | one {w:Str}{a:Nt}{n:Nat}{f:Fm}:w∈W1->Sent a n f->Sent (.tup [.txt w,a]) (n+1) (pl1 w f)
 | two {w:Str}{a b:Nt}{n m:Nat}{f g:Fm}:w∈W2->Sent a n f->Sent b m g->Sent (.tup [.txt w,a,b]) (n+m+1) (pl2 w f g)
theorem Sent.dep {a:Nt}{n:Nat}{f:Fm}(h:Sent a n f):f.dep<=4 * n:=by
 induction h with
 | yes=>decide
 | no=>decide
 | lamp _=>simp only [Fm.dep];omega
 | @one w a n f _ _ ih=>have:=pl1_dep w f;omega
 | @two w a b n m f g _ _ _ ih1 ih2=>have:=pl2_dep w f g;omega
theorem Sent.size {a:Nt}{n:Nat}{f:Fm}(h:Sent a n f):f.size<=6 * n:=by
 induction h with
 | yes=>decide
 | no=>decide
 | lamp _=>simp only [Fm.size];omega
 | @one w a n f _ _ ih=>have:=pl1_size w f;omega
 | @two w a b n m f g _ _ _ ih1 ih2=>have:=pl2_size w f g;omega
theorem at0 (w:Str)(l:List Nt):atI (Nt.txt w::l) (0:Int)=some (Nt.txt w):=BM (j:=0) rfl
theorem at_n0 (x:Nt)(l:List Nt):atI (x::l) (0:Int)=some x:=BM (j:=0) rfl
theorem at1 (x y:Nt)(l:List Nt):atI (x::y::l) (1:Int)=some y:=BM (j:=1) rfl
theorem at2 (x y z:Nt)(l:List Nt):atI (x::y::z::l) (2:Int)=some z:=BM (j:=2) rfl
theorem O6 (a:Nt)(l:List Nt):Ik (a::l) (some 1) none=some ⟨l⟩:=by
 have h1:HT.sIx (a::l).length 0 (some (1:Int))=1:=by
  unfold HT.sIx;simp
  try omega
 have h2:HT.sIx (a::l).length (a::l).length none=(a::l).length:=rfl;unfold Ik;rw [if_pos (by rw [h1];exact fun z=>absurd z.1 (by decide))];unfold D4;rw [h1,h2];simp
theorem Lm {w:Str}{l:List Nt}(hw:w ≠ "lamp"):Al (.tup (.txt w::l))=some ⟨l⟩:=by
 unfold Al;simp only [qiB,Ag,AO,Cw,at_n0,Em,decide_eq_false hw,cond_false,O6]
theorem den_nt (a:Fm):Bg a.nt=some a.den.nt:=by
 have other:∀ (w:Str) (l:List Nt),w ≠ "not" -> Bg (.tup (.txt w::l))=some (.tup [.txt "not",.tup (.txt w::l)]):=fun w l hw=>by
  refine OK.eq ?_;unfold Bg;simp only [qiB,Ag,AO,Cw,at0,Em,decide_eq_false hw,cond_false];exact AI rfl
 cases a with
 | yes=>exact other _ _ (by decide +kernel)
 | lamp c=>exact other _ _ (by decide +kernel)
 | neg a =>
  show Bg (.tup [.txt "not",a.nt])=some a.nt;refine OK.eq ?_;unfold Bg;simp only [qiB,Ag,AO,Cw];refine ok_bC (.txt "not") rfl (AE ⟨"not",rfl,?_⟩);dsimp only;rw [decide_eq_true rfl];exact ⟨_,rfl,rfl⟩
 | next a=>exact other _ _ (by decide +kernel)
 | and a b=>exact other _ _ (by decide +kernel)
 | unt a b=>exact other _ _ (by decide +kernel)
theorem M7 (w:Str)(f:Fm):Bq w f.nt=some (pl1 w f).nt:=by
 refine OK.eq ?_;unfold Bq;simp only [qiB,Ag,AO,den_nt];unfold pl1;refine B6 (fun h=>?_) fun h=>?_
 ·rw [if_pos (of_decide_eq_true h)];exact AI rfl
 rw [if_neg (of_decide_eq_false h)];refine B6 (fun h=>?_) fun h=>?_
 ·rw [if_pos (of_decide_eq_true h)];exact AI rfl
 rw [if_neg (of_decide_eq_false h)];refine B6 (fun h=>?_) fun h=>?_
 ·rw [if_pos (of_decide_eq_true h)];exact AI rfl
 rw [if_neg (of_decide_eq_false h)];refine B6 (fun h=>?_) fun h=>?_
 ·rw [if_pos (of_decide_eq_true h)];exact AI rfl
 rw [if_neg (of_decide_eq_false h)];refine B6 (fun h=>?_) fun h=>?_
 ·rw [if_pos (of_decide_eq_true h)];exact AI rfl
 rw [if_neg (of_decide_eq_false h)];exact AI rfl
theorem LQ {w:Str}(hw:w∈W2)(f g:Fm):Bp w f.nt g.nt=some (pl2 w f g).nt:=by
 refine OK.eq ?_;unfold Bp;simp only [qiB,Ag,AO,den_nt];unfold pl2;refine B6 (fun h=>?_) fun h1=>?_
 ·rw [if_pos (of_decide_eq_true h)];exact AI rfl
 rw [if_neg (of_decide_eq_false h1)];refine B6 (fun h=>?_) fun h2=>?_
 ·rw [if_pos (of_decide_eq_true h)];exact AI rfl
 rw [if_neg (of_decide_eq_false h2)];refine B6 (fun h=>?_) fun h3=>?_
 ·rw [if_pos (of_decide_eq_true h)];exact AI rfl
 rw [if_neg (of_decide_eq_false h3)];refine AI ?_;simp only [W2,qkA,qvB,or_false] at hw;rcases hw with e|e|e|e|e
 ·rw [if_pos e,e]
  rfl
 ·subst e;rw [if_neg (by decide +kernel)]
  rfl
 ·exact absurd e (of_decide_eq_false h1)
 ·exact absurd e (of_decide_eq_false h2)
 ·exact absurd e (of_decide_eq_false h3)
structure Wd (w:Str):Prop where
 no:w ≠ "no"
 yes:w ≠ "yes"
 lamp:w ≠ "lamp"
theorem wd_one {w:Str}(hw:w∈W1):Wd w:=by
 simp only [W1,qkA,qvB,or_false] at hw;rcases hw with rfl|rfl|rfl|rfl|rfl|rfl<;>exact ⟨by decide +kernel,by decide +kernel,by decide +kernel⟩
theorem wd_two {w:Str}(hw:w∈W2):Wd w:=by
 simp only [W2,qkA,qvB,or_false] at hw;rcases hw with rfl|rfl|rfl|rfl|rfl<;>exact ⟨by decide +kernel,by decide +kernel,by decide +kernel⟩
theorem plain_ok {S:Nt}{d:Nat}{f:Fm}(h:Sent S d f):∀ n,d<=n->F9 n S=some f.nt:=by
 induction h with
 | yes =>
  intro n hn;obtain ⟨m,rfl⟩:∃ m,n=m+1:=⟨n - 1,by omega⟩
  rfl
 | no =>
  intro n hn;obtain ⟨m,rfl⟩:∃ m,n=m+1:=⟨n - 1,by omega⟩
  rfl
 | lamp _ =>
  intro n hn;obtain ⟨m,rfl⟩:∃ m,n=m+1:=⟨n - 1,by omega⟩
  rfl
 | @one w a k f hw ha ih =>
  intro n hn;obtain ⟨m,rfl⟩:∃ m,n=m+1:=⟨n - 1,by omega⟩;have ww:=wd_one hw;show DM (F9 m) _=_;unfold DM;simp only [qiB,Ag,AO,Cw,at0,at1,Em,decide_eq_false ww.no,decide_eq_false ww.yes,decide_eq_false ww.lamp,Bool.or_self,cond_false];have e2:decide ((([Nt.txt w,a]:List Nt).length:Int)=2)=true:=rfl;rw [e2];simp only [Ag,ih m (by omega),cond_true];exact M7 w f
 | @two w a b k j f g hw ha hb ih1 ih2 =>
  intro n hn;obtain ⟨m,rfl⟩:∃ m,n=m+1:=⟨n - 1,by omega⟩;have ww:=wd_two hw;show DM (F9 m) _=_;unfold DM;simp only [qiB,Ag,AO,Cw,at0,at1,at2,Em,decide_eq_false ww.no,decide_eq_false ww.yes,decide_eq_false ww.lamp,Bool.or_self,cond_false];have e2:decide ((([Nt.txt w,a,b]:List Nt).length:Int)=2)=false:=rfl;rw [e2];simp only [Ag,ih1 m (by omega),ih2 m (by omega),cond_false];exact LQ hw f g
inductive Rw (n:Nat):Tp SI->Prop where
 | yes:Rw n ⟨[.s "yes"]⟩
 | lamp (c:Str):Rw n ⟨[.s "lamp",.s c]⟩
 | one {w:Str}{i:Nat}:w = "not" \/ w = "next" -> i<n->Rw n ⟨[.s w,.i (i:Int)]⟩
 | two {w:Str}{i j:Nat}:w = "and" \/ w = "until" -> i<n->j<n->Rw n ⟨[.s w,.i (i:Int),.i (j:Int)]⟩
theorem NK (w:Str)(l:List SI):atI (SI.s w::l) (0:Int)=some (SI.s w):=BM (j:=0) rfl
theorem at_s1 (a b:SI)(l:List SI):atI (a::b::l) (1:Int)=some b:=BM (j:=1) rfl
theorem at_s2 (a b c:SI)(l:List SI):atI (a::b::c::l) (2:Int)=some c:=BM (j:=2) rfl
theorem ny:decide (("yes" : Str) = "lamp")=false:=by decide +kernel
def Book (rows:List (Tp SI)):Prop:=∀ k r,rows[k]? = some r->Rw k r
theorem nw:∀ w:Str,w = "not" \/ w = "next" -> w ≠ "yes" /\ w ≠ "lamp" /\ w ≠ "and" /\ w ≠ "until" := by
 rintro w (rfl|rfl)<;>exact ⟨by decide +kernel,by decide +kernel,by decide +kernel,by decide +kernel⟩
theorem nw2:∀ w:Str,w = "and" \/ w = "until" -> w ≠ "yes" /\ w ≠ "lamp" /\ w ≠ "not" /\ w ≠ "next" := by
 rintro w (rfl|rfl)<;>exact ⟨by decide +kernel,by decide +kernel,by decide +kernel,by decide +kernel⟩
theorem cut_hi {α:Type}(xs:List α)(k:Nat):D4 xs none (some (k:Int))=xs.take k:=by
 unfold D4;rw [HT.sIx_none,HT.sIx_nat,List.drop_zero,Nat.sub_zero];by_cases h:k<=xs.length
 ·rw [Nat.min_eq_left h]
 ·rw [Nat.min_eq_right (by omega),List.take_length,List.take_of_length_le (by omega)]
theorem Ma {α:Type}(xs:List α)(k:Nat):D4 xs (some (k:Int)) none=xs.drop k:=by
 unfold D4;rw [HT.sIx_none,HT.sIx_nat];by_cases h:k<=xs.length
 ·rw [Nat.min_eq_left h,List.take_of_length_le (by rw [List.length_drop];omega)]
 ·rw [Nat.min_eq_right (by omega),Nat.sub_self,List.take_zero,List.drop_of_length_le (by omega)]
theorem Ng {n k:Nat}(h:k<n):ixN n (k:Int)=some k:=by
 unfold ixN;rw [if_pos (by omega),if_pos (by omega)];simp
theorem Nx {lo hi:Int}{n:Nat}{P:List Int->Prop}(hn:(lo - hi).toNat=n)(h0:-1000000000<=lo/\lo<=1000000000)(h2:-1000000000<=hi/\hi<=1000000000)(h1:n<=sizeLine)(h:P ((List.range n).map fun (i:Nat)=>lo - (i:Int))):OK (rngD lo hi) P:=by
 refine ⟨_,if_pos ⟨⟨by omega,by omega,by omega,by omega⟩,by omega⟩,?_⟩;rw [hn];exact h
def g (l:List Bool)(p:Nat):Bool:=l.getD p false
theorem at_g {l:List Bool}{p:Nat}(h:p<l.length):atI l (p:Int)=some (g l p):=BM (by unfold g;simp [h])
def nx (M s p:Nat):Nat:=if p+1<M then p+1 else s
section
variable (M:Nat)(L R:List Bool)
def stp (p:Nat)(t:Bool):Bool:=g R p || (g L p && t)
def vv (t:Bool):Nat->Bool
 | 0=>t
 | n+1=>stp L R (M - 1 - n) (vv t n)
theorem vv_mono {n:Nat}(h:vv M L R false n=true):vv M L R true n=true:=by
 induction n with
 | zero=>rfl
 | succ n ih =>
  unfold vv stp at h ⊢
  cases hr:g R (M - 1 - n) with
  | true=>rfl
  | false =>
   rw [hr,Bool.false_or,qzB] at h;rw [Bool.false_or,h.1,ih h.2]
   rfl
theorem vv_again (n:Nat):vv M L R (vv M L R false n) n=vv M L R false n:=by
 cases h:vv M L R false n with
 | false=>exact h
 | true=>exact vv_mono M L R h
theorem vv_dead {n:Nat}(h:∀ i,i<n->g R (M - 1 - i)=false):vv M L R false n=false:=by
 induction n with
 | zero=>rfl
 | succ n ih =>
  unfold vv stp;rw [h n (by omega),ih fun i hi=>h i (by omega)];simp
end
theorem pick_rev {α:Type}(l:List α):EL l none none (-1)=l.reverse:=by
 have e1:(sliceBounds none none (some (-1)) l.length)=((l.length:Int) - 1,-1,-1):=rfl;unfold EL;rw [e1];dsimp only;unfold sliceRange;rw [if_neg (by decide)]
 have e2:(if (l.length:Int) - 1 > -1 then ((l.length:Int) - 1 - -1 - -1 - 1) / (- -1) else 0).toNat=l.length:=by
  split
  ·rw [show (- (-1:Int))=1 from rfl,Int.ediv_one];omega
  ·omega
 dsimp only;rw [e2]
 have mp:((List.range l.length).map fun (k:Nat)=>((l.length:Int) - 1 + -1 * (k:Int)).toNat)=(List.range l.length).map fun k=>l.length - 1 - k:=List.map_congr_left fun k hk=>by
  have:=List.mem_range.mp hk;show ((l.length:Int) - 1 + -1 * (k:Int)).toNat=l.length - 1 - k;omega
 rw [mp,List.filterMap_map];show (List.range l.length).filterMap (fun k=>l[l.length - 1 - k]?)=_
 have fm2:(List.range l.length).filterMap (fun k=>l[l.length - 1 - k]?)=l.reverse:=by
  have key:∀ n,n<=l.length->(List.range n).filterMap (fun k=>l[l.length - 1 - k]?)=l.reverse.take n:=fun n=>by
   induction n with
   | zero=>intro _;rfl
   | succ n ih =>
    intro hn;rw [List.range_succ,List.filterMap_append,ih (by omega),List.take_succ]
    congr 1
    have h1:l[l.length - 1 - n]? = some (l[l.length - 1 - n]'(by omega)):=qsA (by omega);have h2:l.reverse[n]? = l[l.length - 1 - n]?:=List.getElem?_reverse (by omega);rw [h2,h1];simp [h1]
  have:=key l.length (qaB _);rw [this,List.take_of_length_le (by rw [List.length_reverse];exact qaB _)]
 rw [fm2]
theorem NE {n i:Nat}{lo a:Int}(h:((List.range n).map fun (i:Nat)=>lo - (i:Int))[i]? = some a):i<n/\a=lo - (i:Int):=by
 have hi:i<n:=by simpa using (qrA.mp h).1
 refine ⟨hi,?_⟩;simp [hi] at h;omega
structure Uc (M s:Nat)(L R col:List Bool):Prop where
 len:col.length=M
 fit:∀ p,p<M->g col p=(g R p || (g L p && g col (nx M s p)))
 calm:∃ p,s<=p/\p<M/\(g col p=false\/g R p=true)
theorem until_ok {M s:Nat}{L R:List Bool}(hs:s<M)(hM:M<=10000)(hL:L.length=M)(hR:R.length=M){P:List Bool->Prop}(hp:∀ col,Uc M s L R col->P col):OK (CB L R (s:Int)) P:=by
 have hz:sizeLine=16777216:=qhB;unfold CB;simp only [qiB,Ag,AO,hL]
 have step:∀ {β:Type}(p:Nat) (t:Bool) (f:Bool->Option β),p<M->((atI R (p:Int)).bind fun a=>(cond a (some true) ((atI L (p:Int)).bind fun b=>cond b (some t) (some false))).bind f)=f (stp L R p t):=fun p t f hpM=>by
  rw [at_g (by omega),at_g (by omega)];simp only [Ag];unfold stp;cases g R p<;>cases g L p<;>cases t<;>rfl
 refine AE (Nx (n:=M - s) (by omega) (by omega) (by omega) (by omega) ?_);refine AE (FC (fun i (t:Bool)=>t=vv M L R false i) rfl (fun i a t ha hI=>?_) fun t hI=>?_)
 ·obtain ⟨hi,rfl⟩:=NE ha;have e:(M:Int) - 1 - (i:Int)=((M - 1 - i:Nat):Int):=by omega
  rw [e];rw [step _ _ _ (by omega)];exact AI ⟨_,rfl,by rw [hI];rfl⟩
 ·rw [qdA,qhA] at hI;refine AE (Nx (n:=M) (by omega) (by omega) (by omega) (by omega) ?_);refine AE (FC (fun i (st:Bool × List Bool)=>st.1=vv M L R t i/\st.2=(List.range i).map fun j=>vv M L R t (j+1)) ⟨rfl,rfl⟩ (fun i a st ha ⟨h1,h2⟩=>?_) fun st ⟨h1,h2⟩=>?_)
  ·obtain ⟨hi,rfl⟩:=NE ha;have e:(M:Int) - 1 - (i:Int)=((M - 1 - i:Nat):Int):=by omega
   rw [e,step _ _ _ (by omega)];refine AE (NS (by rw [h2,qdA,qhA];omega) (AI ⟨_,rfl,by rw [h1];rfl,?_⟩));dsimp only;rw [h2,h1,List.range_succ,List.map_append]
   rfl
  ·rw [qdA,qhA] at h2;refine AI (hp _ ?_);rw [h2,pick_rev]
   have hg:∀ p,p<M->g (((List.range M).map fun j=>vv M L R t (j+1)).reverse) p=vv M L R t (M - p):=fun p hpM=>by
    unfold g;rw [qwA,List.getElem?_reverse (by rw [qdA,qhA];exact hpM),qdA,qhA];have:M - 1 - p<M:=by omega
    simp only [qvA,List.getElem?_range this,Option.map_some,Option.getD_some]
    congr 1
    omega
   have hts:vv M L R t (M - s)=t:=by
    rw [hI];exact vv_again M L R (M - s)
   refine ⟨by rw [List.length_reverse,qdA,qhA],fun p hpM=>?_,?_⟩
   ·rw [hg p hpM];have e:M - p=(M - 1 - p)+1:=by omega
    rw [e];show stp L R (M - 1 - (M - 1 - p)) (vv M L R t (M - 1 - p))=_;have e2:M - 1 - (M - 1 - p)=p:=by omega
    rw [e2];unfold stp nx;by_cases h:p+1<M
    ·rw [if_pos h,hg (p+1) h];have e3:M - (p+1)=M - 1 - p:=by omega
     rw [e3]
    ·rw [if_neg h,hg s hs,hts];have e3:M - 1 - p=0:=by omega
     rw [e3]
     rfl
   ·by_cases h:∃ p,s<=p/\p<M/\g R p=true
    ·obtain ⟨p,h1,h2,h3⟩:=h;exact ⟨p,h1,h2,.inr h3⟩
    ·have hd:vv M L R false (M - s)=false:=vv_dead M L R fun i hi=>by
      cases hr:g R (M - 1 - i) with
      | false=>rfl
      | true=>exact absurd ⟨M - 1 - i,by omega,by omega,hr⟩ h
     refine ⟨s,qaB _,hs,.inl ?_⟩;rw [hg s hs,hts,hI,hd]
def C (c:List (List Bool))(k:Nat):List Bool:=c.getD k []
theorem at_C {c:List (List Bool)}{k:Nat}(h:k<c.length):atI c (k:Int)=some (C c k):=BM (by unfold C;simp [h])
def Fit (mom:List Str)(s:Nat)(c:List (List Bool))(col:List Bool)(r:Tp SI):Prop :=
 col.length=mom.length /\
 (r=⟨[.s "yes"]⟩->∀ p,p<mom.length->g col p=true) /\
 (∀ ch,r=⟨[.s "lamp",.s ch]⟩->∀ p,p<mom.length->g col p=inS ch (mom.getD p "")) /\
 (∀ i:Nat,r=⟨[.s "not",.i (i:Int)]⟩->∀ p,p<mom.length->g col p = !g (C c i) p) /\
 (∀ i j:Nat,r=⟨[.s "and",.i (i:Int),.i (j:Int)]⟩->∀ p,p<mom.length->g col p=(g (C c i) p && g (C c j) p)) /\
 (∀ i:Nat,r=⟨[.s "next",.i (i:Int)]⟩->∀ p,p<mom.length->g col p=g (C c i) (nx mom.length s p)) /\
 (∀ i j:Nat,r=⟨[.s "until",.i (i:Int),.i (j:Int)]⟩->Uc mom.length s (C c i) (C c j) col)
theorem w_ly:decide (("lamp" : Str) = "yes")=false:=by decide +kernel
theorem y1:decide (("yes" : Str) = "not")=false:=by decide +kernel
theorem y2:decide (("yes" : Str) = "and")=false:=by decide +kernel
theorem y3:decide (("yes" : Str) = "next")=false:=by decide +kernel
theorem y4:decide (("yes" : Str) = "until")=false:=by decide +kernel
theorem No {a b:Str}{l m:List SI}(h:a≠b):(⟨.s a::l⟩:Tp SI) ≠ ⟨.s b::m⟩:=fun e=>by
 injection e with e
 injection e with e1 _
 injection e1 with e1
 exact h e1
theorem JK {a b:Str}(h:decide (a=b)=false):a≠b:=of_decide_eq_false h
theorem sne {a b:Str}{l m:List SI}(h:decide (a=b)=false)(e:(⟨.s a::l⟩:Tp SI)=⟨.s b::m⟩):False:=No (JK h) e
theorem g_map {α:Type}(l:List α)(f:α->Bool)(p:Nat)(h:p<l.length)(d:α):g (l.map f) p=f (l.getD p d):=by
 unfold g;simp [h]
theorem OI {mom:List Str}{s i:Nat}{c:List (List Bool)}{r:Tp SI}(hs:s<mom.length)(hM:mom.length<=10000)(hr:Rw i r)(hc:i<=c.length)(hcl:∀ k,k<i->(C c k).length=mom.length){P:List Bool->Prop}(hp:∀ col,Fit mom s c col r->P col):OK (Cy r c mom (s:Int)) P:=by
 have hz:sizeLine=16777216:=qhB;have nol:∀ {β:Prop}{a b:Str}{l m:List SI},a≠b->(⟨.s a::l⟩:Tp SI)=⟨.s b::m⟩->β:=fun h e=>absurd e (No h);unfold Cy;simp only [qiB,Ag,AO]
 cases hr with
 | yes =>
  simp only [NK,asS,Ag,ny,y1,y2,y3,y4,cond_false];refine JF (g:=fun _=>true) (fun _ _=>rfl) (hp _ ⟨by rw [qdA],fun _ p hpM=>g_map mom _ p hpM "",fun ch e=>(sne ny e).elim,fun i e=>(sne y1 e).elim,fun i j e=>(sne y2 e).elim,fun i e=>(sne y3 e).elim,fun i j e=>(sne y4 e).elim⟩)
 | lamp ch =>
  simp only [NK,at_s1,asS,Ag];refine B6 (fun _=>JF (g:=fun m=>inS ch m) (fun _ _=>rfl) (hp _ ⟨by rw [qdA],fun e=>(sne w_ly e).elim,fun ch' e p hpM=>?_,fun i e=>(sne (by decide +kernel) e).elim,fun i j e=>(sne (by decide +kernel) e).elim,fun i e=>(sne (by decide +kernel) e).elim,fun i j e=>(sne (by decide +kernel) e).elim⟩)) fun h=>absurd trivial (of_decide_eq_false h)
  have:ch=ch':=by
   injection e with e
   injection e with _ e
   injection e with e _
   injection e
  rw [<- this];exact g_map mom _ p hpM ""
 | @one w j hw hj =>
  obtain ⟨n1,n2,n3,n4⟩:=nw w hw;have ej:=at_C (c:=c) (k:=j) (by omega);have lj:=hcl j hj;simp only [NK,at_s1,asS,asI,Ag,decide_eq_false n2,decide_eq_false n3,decide_eq_false n4,cond_false,ej]
  have inj:∀ {a b:Str}{x y:Nat},(⟨[.s a,.i (x:Int)]⟩:Tp SI)=⟨[.s b,.i (y:Int)]⟩->x=y:=fun e=>by
   injection e with e
   injection e with _ e
   injection e with e _
   injection e with e
   omega
  refine B6 (fun h=>?_) fun h=>?_
  ·have h:=of_decide_eq_true h;subst h;refine JF (g:=fun b=>!b) (fun _ _=>rfl) (hp _ ⟨by rw [qdA,lj],fun e=>nol n1 e,fun ch e=>nol n2 e,fun i' e p hpM=>?_,fun i j e=>nol n3 e,fun i e=>nol (JK (by decide +kernel)) e,fun i j e=>nol n4 e⟩);rw [<- inj e];exact g_map (C c j) _ p (by omega) false
  ·have hx:w = "next" := hw.resolve_left (of_decide_eq_false h);subst hx;refine B6 (fun _=>?_) fun h=>absurd rfl (of_decide_eq_false h);rw [at_g (l:=C c j) (by omega)];simp only [Ag];have cl:D4 (C c j) (some 1) none=(C c j).drop 1:=Ma (C c j) 1;rw [cl];refine Dt (by rw [List.length_drop,qgA];omega) (hp _ ⟨?_,fun e=>nol n1 e,fun ch e=>nol n2 e,fun i e=>nol (JK (by decide +kernel)) e,fun i j e=>nol n3 e,fun i' e p hpM=>?_,fun i j e=>nol n4 e⟩)
   ·rw [qeA,List.length_drop,qgA];omega
   ·rw [<- inj e];unfold g nx;rw [qwA,qwA];by_cases h1:p+1<mom.length
    ·rw [if_pos h1,qtA (by rw [List.length_drop];omega),List.getElem?_drop]
     congr 2
     omega
    ·rw [if_neg h1,quA (by rw [List.length_drop];omega),List.length_drop];have:p - ((C c j).length - 1)=0:=by omega
     rw [this];simp
 | @two w j k hw hj hk =>
  obtain ⟨n1,n2,n3,n4⟩:=nw2 w hw;have ej:=at_C (c:=c) (k:=j) (by omega);have lj:=hcl j hj;have ek:=at_C (c:=c) (k:=k) (by omega);have lk:=hcl k hk;simp only [NK,at_s1,at_s2,asS,asI,Ag,decide_eq_false n2,decide_eq_false n3,decide_eq_false n4,cond_false,ej,ek]
  have inj:∀ {a b:Str}{x y x' y':Nat},(⟨[.s a,.i (x:Int),.i (x':Int)]⟩:Tp SI)=⟨[.s b,.i (y:Int),.i (y':Int)]⟩->x=y/\x'=y':=fun e=>by
   injection e with e
   injection e with _ e
   injection e with e1 e
   injection e with e2 _
   injection e1 with e1
   injection e2 with e2
   omega
  refine B6 (fun h=>?_) fun h=>?_
  ·have h:=of_decide_eq_true h;subst h;refine JF (g:=fun q:Bool × Bool=>q.1 && q.2) (fun _ _=>rfl) (hp _ ⟨by rw [qdA,List.length_zip,lj,lk];omega,fun e=>nol n1 e,fun ch e=>nol n2 e,fun i e=>nol n3 e,fun i' j' e p hpM=>?_,fun i e=>nol n4 e,fun i j e=>nol (JK (by decide +kernel)) e⟩);obtain ⟨e1,e2⟩:=inj e;rw [<- e1,<- e2];unfold g;rw [qwA,qvA];have h1:(C c j)[p]? = some ((C c j).getD p false):=by simp [show p<(C c j).length by omega]
   have h2:(C c k)[p]? = some ((C c k).getD p false):=by simp [show p<(C c k).length by omega]
   have h3:((C c j).zip (C c k))[p]? = some ((C c j).getD p false,(C c k).getD p false):=by rw [List.getElem?_zip_eq_some];exact ⟨h1,h2⟩
   rw [h3]
   rfl
  ·have hx:w = "until" := hw.resolve_left (of_decide_eq_false h);subst hx;refine B6 (fun _=>?_) fun h=>absurd rfl (of_decide_eq_false h);refine until_ok hs hM lj lk fun col hu=>hp _ ⟨hu.len,fun e=>nol n1 e,fun ch e=>nol n2 e,fun i e=>nol n3 e,fun i j e=>nol (JK (by decide +kernel)) e,fun i e=>nol n4 e,fun i' j' e=>?_⟩;obtain ⟨e1,e2⟩:=inj e;rw [<- e1,<- e2];exact hu
def Cols (mom:List Str)(s:Nat)(rows:List (Tp SI))(c:List (List Bool)):Prop:=c.length=rows.length/\∀ k r,rows[k]? = some r->Fit mom s c (C c k) r
theorem Iy {c:List (List Bool)}{col:List Bool}{k:Nat}(h:k<c.length):C (c++[col]) k=C c k:=by
 unfold C;rw [qwA,qwA,qtA h]
theorem C_last (c:List (List Bool))(col:List Bool):C (c++[col]) c.length=col:=by
 unfold C;simp
theorem Fit.app {mom:List Str}{s k:Nat}{c:List (List Bool)}{col x:List Bool}{r:Tp SI}(hr:Rw k r)(hk:k<=c.length)(h:Fit mom s c col r):Fit mom s (c++[x]) col r:=by
 obtain ⟨h1,h2,h3,h4,h5,h6,h7⟩:=h
 have i1:∀ {w:Str}{i:Nat},r=⟨[.s w,.i (i:Int)]⟩->i<k:=fun {w i} e=>by
  subst e;generalize he:(⟨[.s w,.i (i:Int)]⟩:Tp SI)=r' at hr
  cases hr with
  | yes=>cases he
  | lamp c=>cases he
  | @one w' i' _ hi =>
   injection he with e
   injection e with _ e
   injection e with e _
   injection e with e
   omega
  | two _ _ _=>cases he
 have i2:∀ {w:Str}{i j:Nat},r=⟨[.s w,.i (i:Int),.i (j:Int)]⟩->i<k/\j<k:=fun {w i j} e=>by
  subst e;generalize he:(⟨[.s w,.i (i:Int),.i (j:Int)]⟩:Tp SI)=r' at hr
  cases hr with
  | yes=>cases he
  | lamp c=>cases he
  | one _ _=>cases he
  | @two w' i' j' _ hi hj =>
   injection he with e
   injection e with _ e
   injection e with e1 e
   injection e with e2 _
   injection e1 with e1
   injection e2 with e2
   omega
 refine ⟨h1,h2,h3,fun i e p hp=>?_,fun i j e p hp=>?_,fun i e p hp=>?_,fun i j e=>?_⟩
 ·rw [Iy (by have:=i1 e;omega)];exact h4 i e p hp
 ·rw [Iy (by have:=i2 e;omega),Iy (by have:=i2 e;omega)];exact h5 i j e p hp
 ·rw [Iy (by have:=i1 e;omega)];exact h6 i e p hp
 ·rw [Iy (by have:=i2 e;omega),Iy (by have:=i2 e;omega)];exact h7 i j e
theorem N4 {stem ring:List Str}{rows:List (Tp SI)}(hb:Book rows)(hl:rows.length<=1000)(hr:0<ring.length)(hM:(stem++ring).length<=10000){P:List (List Bool)->Prop}(hp:∀ c,Cols (stem++ring) stem.length rows c->P c):OK (Cf rows (stem,ring)) P:=by
 have hz:sizeLine=16777216:=qhB;unfold Cf;simp only [qiB,Ag,AO];refine AE (Dt (by rw [qeA] at hM;omega) ?_);have hs:stem.length<(stem++ring).length:=by rw [qeA];omega
 refine AE (FC (fun i (c:List (List Bool))=>c.length=i/\∀ k r,k<i->rows[k]? = some r->Fit (stem++ring) stem.length c (C c k) r) ⟨rfl,fun k r hk=>absurd hk (Nat.not_lt_zero _)⟩ (fun i r c ha ⟨h1,h2⟩=>?_) fun c ⟨h1,h2⟩=>AI (hp _ ⟨h1,fun k r hk=>h2 k r (qrA.mp hk).1 hk⟩));have hi:=(qrA.mp ha).1;refine AE (OI hs hM (hb i r ha) (by omega) (fun k hk=>?_) fun col hf=>AE (NS (by omega) (AI ⟨_,rfl,?_,fun k r' hk hr'=>?_⟩)))
 ·exact (h2 k _ hk (qsA (by omega))).1
 ·rw [qeA,h1]
  rfl
 ·by_cases e:k=i
  ·subst e;rw [ha] at hr';cases hr';have:C (c++[col]) k=col:=by rw [<- h1];exact C_last c col
   rw [this];exact hf.app (hb k r ha) (by omega)
  ·rw [Iy (by omega)];exact (h2 k r' (by omega) hr').app (hb k r' hr') (by omega)
theorem Fm.dep_pos (a:Fm):1<=a.dep:=by cases a<;>simp only [Fm.dep]<;>omega
def Fm.sub:Fm->List Fm
 | .yes=>[.yes]
 | .lamp c=>[.lamp c]
 | .neg a=>.neg a::a.sub
 | .next a=>.next a::a.sub
 | .and a b=>.and a b::(a.sub++b.sub)
 | .unt a b=>.unt a b::(a.sub++b.sub)
theorem E2:∀ {f g:Fm},g∈f.sub->g.size<=f.size
 | .yes,g,h=>by rw [qnA.mp h];exact qaB _
 | .lamp _,g,h=>by rw [qnA.mp h];exact qaB _
 | .neg a,g,h=>by
  rcases qkA.mp h with e|h
  ·rw [e];exact qaB _
  ·have:=E2 h;simp only [Fm.size];omega
 | .next a,g,h=>by
  rcases qkA.mp h with e|h
  ·rw [e];exact qaB _
  ·have:=E2 h;simp only [Fm.size];omega
 | .and a b,g,h=>by
  rcases qkA.mp h with e|h
  ·rw [e];exact qaB _
  ·rcases qjA.mp h with h|h<;>(have:=E2 h;simp only [Fm.size];omega)
 | .unt a b,g,h=>by
  rcases qkA.mp h with e|h
  ·rw [e];exact qaB _
  ·rcases qjA.mp h with h|h<;>(have:=E2 h;simp only [Fm.size];omega)
theorem sub_self (f:Fm):f∈f.sub:=by cases f<;>simp [Fm.sub]
theorem w1:("not" : Str) ≠ "next" := by decide +kernel
theorem w2:("and" : Str) ≠ "until" := by decide +kernel
def R1 (fs:List Fm)(k:Nat)(r:Tp SI):Fm->Prop
 | .yes=>r=⟨[.s "yes"]⟩
 | .lamp c=>r=⟨[.s "lamp",.s c]⟩
 | .neg a=>∃ i:Nat,i<k/\fs[i]? = some a/\r=⟨[.s "not",.i (i:Int)]⟩
 | .next a=>∃ i:Nat,i<k/\fs[i]? = some a/\r=⟨[.s "next",.i (i:Int)]⟩
 | .and a b=>∃ i j:Nat,i<k/\j<k/\fs[i]? = some a/\fs[j]? = some b/\r=⟨[.s "and",.i (i:Int),.i (j:Int)]⟩
 | .unt a b=>∃ i j:Nat,i<k/\j<k/\fs[i]? = some a/\fs[j]? = some b/\r=⟨[.s "until",.i (i:Int),.i (j:Int)]⟩
def Dif (fs:List Fm):Prop:=∀ (i j:Nat) (f:Fm),fs[i]? = some f->fs[j]? = some f->i=j
def Bk (L:List (Tp SI))(fs:List Fm):Prop:=L.length=fs.length/\∀ (k:Nat) (r:Tp SI) (f:Fm),L[k]? = some r->fs[k]? = some f->R1 fs k r f
theorem Du {α:Type}{l m:List α}{k:Nat}{a:α}(h:l[k]? = some a):(l++m)[k]? = some a:=by
 rw [qtA (qrA.mp h).1];exact h
theorem Ew {α:Type}{l:List α}{k:Nat}{a:α}(h:l[k]? = some a):k<l.length:=(qrA.mp h).1
theorem R1.app {fs gs:List Fm}{k k':Nat}{r:Tp SI}{f:Fm}(h:R1 fs k r f)(hk:k<=k'):R1 (fs++gs) k' r f:=by
 cases f with
 | yes=>exact h
 | lamp c=>exact h
 | neg a=>obtain ⟨i,h1,h2,e⟩:=h;exact ⟨i,by omega,Du h2,e⟩
 | next a=>obtain ⟨i,h1,h2,e⟩:=h;exact ⟨i,by omega,Du h2,e⟩
 | and a b=>obtain ⟨i,j,h1,h2,h3,h4,e⟩:=h;exact ⟨i,j,by omega,by omega,Du h3,Du h4,e⟩
 | unt a b=>obtain ⟨i,j,h1,h2,h3,h4,e⟩:=h;exact ⟨i,j,by omega,by omega,Du h3,Du h4,e⟩
theorem HE {w w':Str}{i j:Nat}(e:(Tp.mk [SI.s w,SI.i (i:Int)])=Tp.mk [SI.s w',SI.i (j:Int)]):w=w'/\i=j:=by
 have e1:=Tp.mk.inj e;injection e1 with e2 e3
 injection e3 with e4 e5
 injection e4 with e4
 injection e2 with e2
 exact ⟨e2,by omega⟩
theorem Ek {w w':Str}{i j i' j':Nat}(e:(Tp.mk [SI.s w,SI.i (i:Int),SI.i (j:Int)])=Tp.mk [SI.s w',SI.i (i':Int),SI.i (j':Int)]):w=w'/\i=i'/\j=j':=by
 have e1:=Tp.mk.inj e;injection e1 with e2 e3
 injection e3 with e4 e5
 injection e5 with e6 e7
 injection e6 with e6
 injection e4 with e4
 injection e2 with e2
 exact ⟨e2,by omega,by omega⟩
theorem R1.fn {fs:List Fm}{k k':Nat}{r:Tp SI}{f f':Fm}(h:R1 fs k r f)(h':R1 fs k' r f'):f=f':=by
 cases f with
 | yes =>
  subst h
  cases f' with
  | yes=>rfl
  | lamp c=>cases (show (_:Tp SI)=_ from h')
  | neg a=>obtain ⟨i,_,_,e⟩:=h';cases e
  | next a=>obtain ⟨i,_,_,e⟩:=h';cases e
  | and a b=>obtain ⟨i,j,_,_,_,_,e⟩:=h';cases e
  | unt a b=>obtain ⟨i,j,_,_,_,_,e⟩:=h';cases e
 | lamp c =>
  subst h
  cases f' with
  | yes=>cases (show (_:Tp SI)=_ from h')
  | lamp c' =>
   have e:=(qtB (qtB (Tp.mk.inj (show (_:Tp SI)=_ from h'))).2).1;rw [SI.s.inj e]
  | neg a=>obtain ⟨i,_,_,e⟩:=h';have e:=(qtB (qtB (Tp.mk.inj e)).2).1;cases e
  | next a=>obtain ⟨i,_,_,e⟩:=h';have e:=(qtB (qtB (Tp.mk.inj e)).2).1;cases e
  | and a b=>obtain ⟨i,j,_,_,_,_,e⟩:=h';have e:=(qtB (qtB (Tp.mk.inj e)).2).1;cases e
  | unt a b=>obtain ⟨i,j,_,_,_,_,e⟩:=h';have e:=(qtB (qtB (Tp.mk.inj e)).2).1;cases e
 | neg a =>
  obtain ⟨i,_,hi,rfl⟩:=h
  cases f' with
  | yes=>cases (show (_:Tp SI)=_ from h')
  | lamp c=>have e:=(qtB (qtB (Tp.mk.inj (show (_:Tp SI)=_ from h'))).2).1;cases e
  | neg a'=>obtain ⟨j,_,hj,e⟩:=h';rw [(HE e).2,hj] at hi;rw [qdB hi]
  | next a'=>obtain ⟨j,_,hj,e⟩:=h';exact absurd (HE e).1 w1
  | and a b=>obtain ⟨i,j,_,_,_,_,e⟩:=h';have e:=(qtB (qtB (Tp.mk.inj e)).2).2;cases e
  | unt a b=>obtain ⟨i,j,_,_,_,_,e⟩:=h';have e:=(qtB (qtB (Tp.mk.inj e)).2).2;cases e
 | next a =>
  obtain ⟨i,_,hi,rfl⟩:=h
  cases f' with
  | yes=>cases (show (_:Tp SI)=_ from h')
  | lamp c=>have e:=(qtB (qtB (Tp.mk.inj (show (_:Tp SI)=_ from h'))).2).1;cases e
  | neg a'=>obtain ⟨j,_,hj,e⟩:=h';exact absurd (HE e).1.symm w1
  | next a'=>obtain ⟨j,_,hj,e⟩:=h';rw [(HE e).2,hj] at hi;rw [qdB hi]
  | and a b=>obtain ⟨i,j,_,_,_,_,e⟩:=h';have e:=(qtB (qtB (Tp.mk.inj e)).2).2;cases e
  | unt a b=>obtain ⟨i,j,_,_,_,_,e⟩:=h';have e:=(qtB (qtB (Tp.mk.inj e)).2).2;cases e
 | and a b =>
  obtain ⟨i,j,_,_,hi,hj,rfl⟩:=h
  cases f' with
  | yes=>cases (show (_:Tp SI)=_ from h')
  | lamp c=>have e:=(qtB (qtB (Tp.mk.inj (show (_:Tp SI)=_ from h'))).2).1;cases e
  | neg a'=>obtain ⟨j,_,hj,e⟩:=h';have e:=(qtB (qtB (Tp.mk.inj e)).2).2;cases e
  | next a'=>obtain ⟨j,_,hj,e⟩:=h';have e:=(qtB (qtB (Tp.mk.inj e)).2).2;cases e
  | and a b=>obtain ⟨i',j',_,_,hi',hj',e⟩:=h';rw [(Ek e).2.1,hi'] at hi;rw [(Ek e).2.2,hj'] at hj;rw [qdB hi,qdB hj]
  | unt a b=>obtain ⟨i',j',_,_,hi',hj',e⟩:=h';exact absurd (Ek e).1 w2
 | unt a b =>
  obtain ⟨i,j,_,_,hi,hj,rfl⟩:=h
  cases f' with
  | yes=>cases (show (_:Tp SI)=_ from h')
  | lamp c=>have e:=(qtB (qtB (Tp.mk.inj (show (_:Tp SI)=_ from h'))).2).1;cases e
  | neg a'=>obtain ⟨j,_,hj,e⟩:=h';have e:=(qtB (qtB (Tp.mk.inj e)).2).2;cases e
  | next a'=>obtain ⟨j,_,hj,e⟩:=h';have e:=(qtB (qtB (Tp.mk.inj e)).2).2;cases e
  | and a b=>obtain ⟨i',j',_,_,hi',hj',e⟩:=h';exact absurd (Ek e).1.symm w2
  | unt a b=>obtain ⟨i',j',_,_,hi',hj',e⟩:=h';rw [(Ek e).2.1,hi'] at hi;rw [(Ek e).2.2,hj'] at hj;rw [qdB hi,qdB hj]
theorem R1.inj {fs:List Fm}{k k':Nat}{r r':Tp SI}{f:Fm}(hd:Dif fs)(h:R1 fs k r f)(h':R1 fs k' r' f):r=r':=by
 cases f with
 | yes=>rw [show r=_ from h,show r'=_ from h']
 | lamp c=>rw [show r=_ from h,show r'=_ from h']
 | neg a=>obtain ⟨i,_,h1,e⟩:=h;obtain ⟨j,_,h2,e'⟩:=h';rw [e,e',hd i j a h1 h2]
 | next a=>obtain ⟨i,_,h1,e⟩:=h;obtain ⟨j,_,h2,e'⟩:=h';rw [e,e',hd i j a h1 h2]
 | and a b=>obtain ⟨i,j,_,_,h1,h2,e⟩:=h;obtain ⟨i',j',_,_,h1',h2',e'⟩:=h';rw [e,e',hd i i' a h1 h1',hd j j' b h2 h2']
 | unt a b=>obtain ⟨i,j,_,_,h1,h2,e⟩:=h;obtain ⟨i',j',_,_,h1',h2',e'⟩:=h';rw [e,e',hd i i' a h1 h1',hd j j' b h2 h2']
theorem Eg {α:Type}{l:List α}{a b:α}{k:Nat}(h:(l++[a])[k]? = some b):l[k]? = some b\/(k=l.length/\a=b):=by
 by_cases hk:k<l.length
 ·rw [qtA hk] at h;exact .inl h
 ·rw [quA (by omega)] at h
  have h0:k - l.length=0:=by
   have:=Ew h;simp at this;omega
  rw [h0] at h;exact .inr ⟨by omega,qdB h⟩
theorem Bk.snoc {L:List (Tp SI)}{fs:List Fm}{r:Tp SI}{f:Fm}(hb:Bk L fs)(hr:R1 fs L.length r f):Bk (L++[r]) (fs++[f]):=by
 have hl:=hb.1;refine ⟨by rw [qeA,qeA,hl];rfl,fun k r' f' h1 h2=>?_⟩;rcases Eg h1 with h1 | ⟨e1,e2⟩
 ·have hk:=Ew h1;rcases Eg h2 with h2 | ⟨e3,e4⟩
  ·exact (hb.2 k r' f' h1 h2).app (qaB _)
  ·omega
 ·rcases Eg h2 with h2 | ⟨e3,e4⟩
  ·have:=Ew h2;omega
  ·subst e2;subst e4;rw [e1];exact hr.app (qaB _)
theorem Dif.snoc {fs:List Fm}{f:Fm}(h:Dif fs)(hf:∀ m:Nat,fs[m]?≠some f):Dif (fs++[f]):=by
 intro i j g hi hj;rcases Eg hi with h1 | ⟨e1,e2⟩
 ·rcases Eg hj with h2 | ⟨e3,e4⟩
  ·exact h i j g h1 h2
  ·exact absurd (e4 ▸ h1) (hf i)
 ·rcases Eg hj with h2 | ⟨e3,e4⟩
  ·exact absurd (e2 ▸ h2) (hf j)
  ·omega
theorem Bk.nil:Bk [] []:=⟨rfl,fun k r f h _=>by simp at h⟩
theorem Dif.nil:Dif []:=fun i j f h _=>by simp at h
theorem Bk.at {L:List (Tp SI)}{fs:List Fm}(hb:Bk L fs){k:Nat}{f:Fm}(h:fs[k]? = some f):∃ r,L[k]? = some r/\R1 fs k r f:=by
 have hk:k<L.length:=by rw [hb.1];exact Ew h
 exact ⟨L[k],qsA hk,hb.2 k _ f (qsA hk) h⟩
theorem Bk.at' {L:List (Tp SI)}{fs:List Fm}(hb:Bk L fs){k:Nat}{r:Tp SI}(h:L[k]? = some r):∃ f,fs[k]? = some f/\R1 fs k r f:=by
 have hk:k<fs.length:=by rw [<- hb.1];exact Ew h
 exact ⟨fs[k],qsA hk,hb.2 k r _ h (qsA hk)⟩
theorem Bk.subs {L:List (Tp SI)}{fs:List Fm}(hb:Bk L fs):∀ {f g:Fm}{k:Nat},fs[k]? = some f->g∈f.sub->∃ i,i<=k/\fs[i]? = some g
 | .yes,g,k,h,hg=>by rw [qnA.mp hg];exact ⟨k,qaB _,h⟩
 | .lamp c,g,k,h,hg=>by rw [qnA.mp hg];exact ⟨k,qaB _,h⟩
 | .neg a,g,k,h,hg=>by
  rcases qkA.mp hg with e|hg
  ·rw [e];exact ⟨k,qaB _,h⟩
  ·obtain ⟨r,_,i,h1,h2,_⟩:=hb.at h;obtain ⟨j,h3,h4⟩:=hb.subs h2 hg;exact ⟨j,by omega,h4⟩
 | .next a,g,k,h,hg=>by
  rcases qkA.mp hg with e|hg
  ·rw [e];exact ⟨k,qaB _,h⟩
  ·obtain ⟨r,_,i,h1,h2,_⟩:=hb.at h;obtain ⟨j,h3,h4⟩:=hb.subs h2 hg;exact ⟨j,by omega,h4⟩
 | .and a b,g,k,h,hg=>by
  rcases qkA.mp hg with e|hg
  ·rw [e];exact ⟨k,qaB _,h⟩
  ·obtain ⟨r,_,i,i',h1,h1',h2,h2',_⟩:=hb.at h;rcases qjA.mp hg with hg|hg
   ·obtain ⟨j,h3,h4⟩:=hb.subs h2 hg;exact ⟨j,by omega,h4⟩
   ·obtain ⟨j,h3,h4⟩:=hb.subs h2' hg;exact ⟨j,by omega,h4⟩
 | .unt a b,g,k,h,hg=>by
  rcases qkA.mp hg with e|hg
  ·rw [e];exact ⟨k,qaB _,h⟩
  ·obtain ⟨r,_,i,i',h1,h1',h2,h2',_⟩:=hb.at h;rcases qjA.mp hg with hg|hg
   ·obtain ⟨j,h3,h4⟩:=hb.subs h2 hg;exact ⟨j,by omega,h4⟩
   ·obtain ⟨j,h3,h4⟩:=hb.subs h2' hg;exact ⟨j,by omega,h4⟩
theorem NO (r:Tp SI):∀ (rows:List (Tp SI)) (i:Nat) (n:Int),JA i rows r=some n->∃ j,n=((i+j:Nat):Int)/\rows[j]? = some r
 | [],i,n,h=>by cases h
 | a::rs,i,n,h=>by
  unfold JA at h;by_cases e:a=r
  ·rw [if_pos e] at h;cases h;exact ⟨0,rfl,by rw [e];rfl⟩
  ·rw [if_neg e] at h;obtain ⟨j,h1,h2⟩:=NO r rs (i+1) n h;refine ⟨j+1,?_,h2⟩;rw [h1]
   congr 1
   omega
theorem LW (r:Tp SI):∀ (rows:List (Tp SI)) (i:Nat),JA i rows r=none->∀ j:Nat,rows[j]?≠some r
 | [],i,h,j=>by simp
 | a::rs,i,h,j=>by
  unfold JA at h;by_cases e:a=r
  ·rw [if_pos e] at h;cases h
  ·rw [if_neg e] at h
   cases j with
   | zero=>intro z;exact e (qdB z)
   | succ j=>exact LW r rs (i+1) h j
theorem step {L:List (Tp SI)}{fs:List Fm}{r:Tp SI}{f:Fm}(hb:Bk L fs)(hd:Dif fs)(hr:R1 fs L.length r f)(hl:L.length<100000) :
  (∃ m:Nat,fs[m]? = some f/\DH L ⟨r.l⟩=some (L,(m:Int))) \/
  ((∀ m:Nat,fs[m]?≠some f)/\DH L ⟨r.l⟩=some (L++[r],(L.length:Int))/\Bk (L++[r]) (fs++[f])/\Dif (fs++[f])):=by
 have hz:sizeLine=16777216:=qhB;have hrow:DH L ⟨r.l⟩=match JA 0 L r with|some n=>some (L,n)|none=>if L.length<sizeLine then some (L++[r],(L.length:Int)) else none:=rfl
 cases e:JA 0 L r with
 | some n =>
  obtain ⟨j,h1,h2⟩:=NO r L 0 n e;obtain ⟨g,h3,h4⟩:=hb.at' h2;rw [h4.fn hr] at h3;refine .inl ⟨j,h3,?_⟩;rw [hrow,e,h1,Nat.zero_add]
 | none =>
  have hn:=LW r L 0 e
  have hf:∀ m:Nat,fs[m]?≠some f:=fun m hm=>by
   obtain ⟨r',h1,h2⟩:=hb.at hm;rw [h2.inj hd hr] at h1;exact hn m h1
  refine .inr ⟨hf,?_,hb.snoc hr,hd.snoc hf⟩;rw [hrow,e];exact if_pos (by omega)
def Got (L:List (Tp SI))(fs:List Fm)(f:Fm)(o:Option (List (Tp SI) × Int)):Prop :=
 ∃ (L':List (Tp SI)) (fs':List Fm) (k:Nat),o=some (L++L',(k:Int))/\Bk (L++L') (fs++fs')/\Dif (fs++fs')/\(fs++fs')[k]? = some f/\(∀ g∈fs',g∈f.sub)/\L'.length<=f.size /\
  ((∃ m:Nat,fs[m]? = some f)->L'=[]/\fs'=[])/\((∀ m:Nat,fs[m]?≠some f)->k+1=(L++L').length)
theorem fin {L L':List (Tp SI)}{fs fs':List Fm}{r:Tp SI}{f:Fm}(hb:Bk (L++L') (fs++fs'))(hd:Dif (fs++fs'))(hs:∀ g∈fs',g∈f.sub/\g.size<f.size)(hn:L'.length+1<=f.size)
  (hf:(∃ m:Nat,fs[m]? = some f)->L'=[]/\fs'=[]) (hr:R1 (fs++fs') (L++L').length r f) (hl:(L++L').length<100000):Got L fs f (DH (L++L') ⟨r.l⟩):=by
 rcases step hb hd hr hl with ⟨m,h1,h2⟩ | ⟨h1,h2,h3,h4⟩
 ·refine ⟨L',fs',m,h2,hb,hd,h1,fun g hg=>(hs g hg).1,by omega,hf,fun hno=>?_⟩;exfalso;by_cases hm:m<fs.length
  ·rw [qtA hm] at h1;exact hno m h1
  ·rw [quA (by omega)] at h1;have:=(hs f (qqA h1)).2;omega
 ·refine ⟨L'++[r],fs'++[f],(L++L').length,by rw [h2,qyA],by rw [<- qyA,<- qyA];exact h3,by rw [<- qyA];exact h4,?_,?_,by rw [qeA];exact hn,?_,fun _=>by rw [<- qyA,qeA (as:=L++L')];rfl⟩
  ·rw [<- qyA,hb.1];simp
  ·intro g hg;rcases qjA.mp hg with hg|hg
   ·exact (hs g hg).1
   ·rw [qnA.mp hg];exact sub_self f
  ·rintro ⟨m,hm⟩;exact absurd (Du hm) (h1 m)
theorem LN (n:Nat)(rows:List (Tp SI))(a:Nt):EF Al (n+1) rows a=(Cw a).bind fun t=>(atI t.l 0).bind fun b=>(Em b).bind fun w =>
   cond (decide (w = "lamp")) ((sisO t.l).bind fun l=>DH rows ⟨l⟩)
   ((Al a).bind fun ps=>(ES (Ij (EF Al n)) ps.l (rows,[.s w])).bind fun z=>Og z):=rfl
theorem Iw {n:Nat}{w:Str}{l:List Nt}(hw:w ≠ "lamp")(rows:List (Tp SI)):EF Al (n+1) rows (.tup (.txt w::l))=(ES (Ij (EF Al n)) l (rows,[.s w])).bind fun z=>Og z:=by
 rw [LN];simp only [Cw,Ag,at0,Em,decide_eq_false hw,cond_false,Lm hw]
theorem lay_lamp {n:Nat}(c:Str)(rows:List (Tp SI)):EF Al (n+1) rows (.tup [.txt "lamp",.txt c])=DH rows ⟨[.s "lamp",.s c]⟩:=by
 rw [LN];simp only [Cw,Ag,at0,Em,decide_true,cond_true]
 rfl
theorem Kp {lay:List (Tp SI)->Nt->Option (List (Tp SI) × Int)}{a:Nt}{s:List (Tp SI) × List SI}{z:List (Tp SI) × Int}(h:lay s.1 a=some z)(hl:s.2.length<=10):Ij lay a s=some (.nx (z.1,s.2++[.i z.2])):=by
 have hz:sizeLine=16777216:=qhB;unfold Ij;rw [h,Ag,if_pos (by omega)]
theorem fl_one {lay:List (Tp SI)->Nt->Option (List (Tp SI) × Int)}{a:Nt}{rows:List (Tp SI)}{w:Str}{z:List (Tp SI) × Int}(h:lay rows a=some z) :
  ((ES (Ij lay) [a] (rows,[.s w])).bind fun z=>Og z)=DH z.1 ⟨[.s w,.i z.2]⟩:=by
 have e:=Kp (s:=(rows,[.s w])) h (by simp);show (((Ij lay a (rows,[.s w])).bind fun fl=>_).bind _)=_;rw [e]
 rfl
theorem fl_two {lay:List (Tp SI)->Nt->Option (List (Tp SI) × Int)}{a b:Nt}{rows:List (Tp SI)}{w:Str}{z y:List (Tp SI) × Int}(h:lay rows a=some z)(h2:lay z.1 b=some y) :
  ((ES (Ij lay) [a,b] (rows,[.s w])).bind fun z=>Og z)=DH y.1 ⟨[.s w,.i z.2,.i y.2]⟩:=by
 have e:=Kp (s:=(rows,[.s w])) h (by simp);have e2:=Kp (s:=(z.1,[.s w]++[.i z.2])) h2 (by simp);show (((Ij lay a (rows,[.s w])).bind fun fl=>_).bind _)=_;rw [e];show (((Ij lay b (z.1,[.s w]++[.i z.2])).bind fun fl=>_).bind _)=_;rw [e2]
 rfl
theorem nl:(("yes" : Str) ≠ "lamp" /\ ("not" : Str) ≠ "lamp" /\ ("next" : Str) ≠ "lamp")/\("and" : Str) ≠ "lamp" /\ ("until" : Str) ≠ "lamp" := by decide +kernel
theorem IV:∀ (n:Nat) (f:Fm) (L:List (Tp SI)) (fs:List Fm),f.dep<=n->Bk L fs->Dif fs->L.length+f.size<100000->Got L fs f (EF Al n L f.nt)
 | 0,f,L,fs,hd,_,_,_=>absurd hd (by have:=f.dep_pos;omega)
 | n+1,f,L,fs,hdp,hb,hd,hl=>by
  have one:∀ (w:Str) (a f:Fm),w ≠ "lamp" -> f.sub=f::a.sub->f.size=a.size+1->a.dep<=n->L.length+f.size<100000 ->
    (∀ {fs k r},R1 fs k r f ↔ ∃ i:Nat,i<k/\fs[i]? = some a/\r=⟨[.s w,.i (i:Int)]⟩)->Got L fs f (EF Al (n+1) L (.tup [.txt w,a.nt])):=fun w a f hw hsub hsz hdp hl hR=>by
   rw [Iw hw];obtain ⟨L1,fs1,k1,h1,h2,h3,h4,h5,h6,h7,h8⟩:=IV n a L fs hdp hb hd (by omega);rw [fl_one h1];refine fin (r:=⟨[.s w,.i (k1:Int)]⟩) h2 h3 (fun g hg=>⟨by rw [hsub];exact qpA _ (h5 g hg),?_⟩) (by omega) (fun ⟨m,hm⟩=>?_) (hR.mpr ⟨k1,?_,h4,rfl⟩) (by rw [qeA];omega)
   ·have:=E2 (h5 g hg);omega
   ·obtain ⟨r,_,hr⟩:=hb.at hm;obtain ⟨i,_,hi,_⟩:=hR.mp hr;exact h7 ⟨i,hi⟩
   ·rw [h2.1];exact Ew h4
  have two:∀ (w:Str) (a b f:Fm),w ≠ "lamp" -> f.sub=f::(a.sub++b.sub)->f.size=a.size+b.size+1->a.dep<=n->b.dep<=n->L.length+f.size<100000 ->
    (∀ {fs k r},R1 fs k r f ↔ ∃ i j:Nat,i<k/\j<k/\fs[i]? = some a/\fs[j]? = some b/\r=⟨[.s w,.i (i:Int),.i (j:Int)]⟩)->Got L fs f (EF Al (n+1) L (.tup [.txt w,a.nt,b.nt])):=fun w a b f hw hsub hsz hdp hdp2 hl hR=>by
   rw [Iw hw];obtain ⟨L1,fs1,k1,h1,h2,h3,h4,h5,h6,h7,h8⟩:=IV n a L fs hdp hb hd (by omega);obtain ⟨L2,fs2,k2,i1,i2,i3,i4,i5,i6,i7,i8⟩:=IV n b (L++L1) (fs++fs1) hdp2 h2 h3 (by rw [qeA];omega);rw [fl_two h1 i1];dsimp only;rw [qyA] at i2 i3 i4 ⊢;rw [qyA] at i2;have k1':(fs++(fs1++fs2))[k1]? = some a:=by rw [<- qyA];exact Du h4
   refine fin (r:=⟨[.s w,.i (k1:Int),.i (k2:Int)]⟩) i2 i3 (fun g hg=>?_) (by rw [qeA];omega) (fun ⟨m,hm⟩=>?_) (hR.mpr ⟨k1,k2,?_,?_,k1',i4,rfl⟩) (by rw [qeA,qeA];omega)
   ·rcases qjA.mp hg with hg|hg
    ·exact ⟨by rw [hsub];exact qpA _ (List.mem_append_left _ (h5 g hg)),by have:=E2 (h5 g hg);omega⟩
    ·exact ⟨by rw [hsub];exact qpA _ (qxB _ (i5 g hg)),by have:=E2 (i5 g hg);omega⟩
   ·obtain ⟨r,_,hr⟩:=hb.at hm;obtain ⟨i,j,_,_,hi,hj,_⟩:=hR.mp hr;obtain ⟨e1,e2⟩:=h7 ⟨i,hi⟩;obtain ⟨e3,e4⟩:=i7 ⟨j,Du hj⟩;rw [e1,e2,e3,e4];exact ⟨rfl,rfl⟩
   ·rw [i2.1];exact Ew k1'
   ·rw [i2.1];exact Ew i4
  have zero:∀ (r:Tp SI) (f:Fm),f.size=1->R1 fs L.length r f->L.length+1<100000->Got L fs f (DH L ⟨r.l⟩):=fun r f hs hr hl=>by
   have:=fin (L:=L) (L':=[]) (fs:=fs) (fs':=[]) (r:=r) (f:=f) (by simpa using hb) (by simpa using hd) (fun g hg=>nomatch hg) (by simp [hs]) (fun _=>⟨rfl,rfl⟩) (by simpa using hr) (by simp;omega)
   rwa [qzA] at this
  cases f with
  | yes =>
   show Got _ _ _ (EF Al (n+1) L (.tup [.txt "yes"]));rw [Iw nl.1.1];exact zero ⟨[.s "yes"]⟩ .yes rfl rfl hl
  | lamp c =>
   show Got _ _ _ (EF Al (n+1) L (.tup [.txt "lamp",.txt c]));rw [lay_lamp];exact zero ⟨[.s "lamp",.s c]⟩ (.lamp c) rfl rfl hl
  | neg a=>exact one "not" a (.neg a) nl.1.2.1 rfl rfl (by simp only [Fm.dep] at hdp;omega) hl Iff.rfl
  | next a=>exact one "next" a (.next a) nl.1.2.2 rfl rfl (by simp only [Fm.dep] at hdp;omega) hl Iff.rfl
  | and a b=>exact two "and" a b (.and a b) nl.2.1 rfl rfl (by simp only [Fm.dep] at hdp;omega) (by simp only [Fm.dep] at hdp;omega) hl Iff.rfl
  | unt a b=>exact two "until" a b (.unt a b) nl.2.2 rfl rfl (by simp only [Fm.dep] at hdp;omega) (by simp only [Fm.dep] at hdp;omega) hl Iff.rfl
theorem R1.rw {fs:List Fm}{k:Nat}{r:Tp SI}{f:Fm}(h:R1 fs k r f):Rw k r:=by
 cases f with
 | yes=>rw [show r=_ from h];exact .yes
 | lamp c=>rw [show r=_ from h];exact .lamp c
 | neg a=>obtain ⟨j,hj,_,rfl⟩:=h;exact .one (.inl rfl) hj
 | next a=>obtain ⟨j,hj,_,rfl⟩:=h;exact .one (.inr rfl) hj
 | and a b=>obtain ⟨j,j',hj,hj',_,_,rfl⟩:=h;exact .two (.inl rfl) hj hj'
 | unt a b=>obtain ⟨j,j',hj,hj',_,_,rfl⟩:=h;exact .two (.inr rfl) hj hj'
theorem Bk.book {L:List (Tp SI)}{fs:List Fm}(hb:Bk L fs):Book L:=fun k r h=>by
 obtain ⟨f,_,h⟩:=hb.at' h;exact h.rw
theorem book_one {f:Fm}(hd:f.dep<=160)(hs:f.size<=900):∃ (L:List (Tp SI)) (fs:List Fm) (k:Nat),Hv [f.nt]=some (L,[(k:Int)])/\Bk L fs/\Dif fs/\fs[k]? = some f/\(∀ g,g∈fs ↔ g∈f.sub)/\L.length<=900:=by
 obtain ⟨L,fs,k,h1,h2,h3,h4,h5,h6,h7,h8⟩:=IV 160 f [] [] hd Bk.nil Dif.nil (by show 0+f.size<_;omega);rw [List.nil_append] at h1 h2 h4;rw [List.nil_append] at h2 h3;refine ⟨L,fs,k,?_,h2,h3,h4,fun g=>⟨h5 g,fun h=>?_⟩,by omega⟩
 ·show ((EF Al 160 [] f.nt).bind fun z=>(Fh (EF Al 160) [] z.1).bind fun y=>some (y.1,z.2::y.2))=_;rw [h1]
  rfl
 ·obtain ⟨i,_,hi⟩:=h2.subs h4 h;exact qqA hi
inductive Sx:Nt->Nat->Prop where
 | leaf {w:Str}:w = "yes" \/ w = "no" -> Sx (.tup [.txt w]) 1
 | lamp {c:Nat}:c∈Cj->Sx (.tup [.txt "lamp",.txt (one c)]) 1
 | one {w:Str}{a:Nt}{n:Nat}:w∈W1->Sx a n->Sx (.tup [.txt w,a]) (n+1)
 | two {w:Str}{a b:Nt}{n m:Nat}:w∈W2->Sx a n->Sx b m->Sx (.tup [.txt w,a,b]) (n+m+1)
theorem g_one:∀ w∈W1,Ch BI w=some 1:=by decide +kernel
theorem g_two:∀ w∈W2,Ch BI w=some 2:=by decide +kernel
theorem g_leaf:Ch BI "yes" = some 0/\Ch BI "no" = some 0:=by decide +kernel
theorem nl_one:∀ w∈W1,w ≠ "lamp" := by decide +kernel
theorem nl_two:∀ w∈W2,w ≠ "lamp" := by decide +kernel
theorem nl_leaf:("yes" : Str) ≠ "lamp" /\ ("no" : Str) ≠ "lamp" := by decide +kernel
theorem Ky (x:D)(l:List D):atI (x::l) (0:Int)=some x:=BM (j:=0) rfl
theorem atd1 (x y:D)(l:List D):atI (x::y::l) (1:Int)=some y:=BM (j:=1) rfl
theorem Oc {α:Type}(a:α)(l:List α):Ik (a::l) (some 1) none=some ⟨l⟩:=by
 have h1:HT.sIx (a::l).length 0 (some (1:Int))=1:=by
  unfold HT.sIx;simp
  try omega
 have h2:HT.sIx (a::l).length (a::l).length none=(a::l).length:=rfl;unfold Ik;rw [if_pos (by rw [h1];exact fun z=>absurd z.1 (by decide))];unfold D4;rw [h1,h2];simp
theorem IC (l:List D):isK "tuple" (.tup l)=true:=id rfl
theorem NT (x:Str):isK "str" (.str x)=true:=id rfl
theorem ln0 (x:D)(r:List D):decide (((x::r).length:Int)=0)=false:=decide_eq_false (by rw [qfA];omega)
theorem Ca {w:Str}{k:Nat}{l:List D}(hw:w ≠ "lamp")(hg:Ch BI w=some (k:Int)):Ad (.tup (.str w::l))=some (decide (l.length=k)):=by
 refine OK.eq ?_;unfold Ad;simp only [qiB,Ag,AO,IC,Eu,ln0,atD,Ky,NT,DZ,Bool.not_true,cond_false,decide_eq_false hw,hg,Option.isSome_some,cond_true];refine AI ?_;refine decide_eq_decide.mpr ?_;rw [qfA];omega
theorem J5 {w:Str}{l:List D}(hw:w ≠ "lamp")(hg:Ch BI w=none):Ad (.tup (.str w::l))=some false:=by
 refine OK.eq ?_;unfold Ad;simp only [qiB,Ag,AO,IC,Eu,ln0,atD,Ky,NT,DZ,Bool.not_true,cond_false,decide_eq_false hw,hg,Option.isSome_none];exact AI rfl
theorem CD {d:D}(h:isK "tuple" d=false):Ad d=some false:=by
 refine OK.eq ?_;unfold Ad;simp only [qiB,Ag,AO,h,Bool.not_false,cond_true];exact AI rfl
theorem Dx {x:D}{l:List D}(h:isK "str" x=false):Ad (.tup (x::l))=some false:=by
 refine OK.eq ?_;unfold Ad;simp only [qiB,Ag,AO,IC,Eu,ln0,atD,Ky,h,Bool.not_true,Bool.not_false,cond_false,cond_true];exact AI rfl
theorem D0 {x:D}{b:Bool}(h:Bv x=some b):Ad (.tup [.str "lamp",x])=some b:=by
 refine OK.eq ?_;unfold Ad;simp only [qiB,Ag,AO,IC,Eu,ln0,atD,Ky,atd1,NT,DZ,Bool.not_true,cond_false,decide_true,cond_true,h];exact ⟨_,rfl,rfl⟩
theorem Mu {l:List D}(h:l.length≠1):Ad (.tup (.str "lamp" :: l))=some false:=by
 refine OK.eq ?_;unfold Ad;simp only [qiB,Ag,AO,IC,Eu,ln0,atD,Ky,NT,DZ,Bool.not_true,cond_false,decide_true,cond_true];rw [decide_eq_false (by rw [qfA];omega)];exact AI rfl
theorem HZ {d:D}(h:isK "str" d=false):Bv d=some false:=by
 refine OK.eq ?_;unfold Bv AU;simp only [qiB,Ag,AO,h,Bool.not_false,cond_true,cond_false];exact AI rfl
theorem Lc {x:D}{l:List D}:B1 (.tup (.str "lamp" :: l))=some ⟨[]⟩:=by
 refine OK.eq ?_;unfold B1;simp only [qiB,Ag,AO,atD,Ky,DZ,decide_true,cond_true];exact AI rfl
theorem Cd {w:Str}{l:List D}(hw:w ≠ "lamp"):B1 (.tup (.str w::l))=some ⟨l⟩:=by
 refine OK.eq ?_;unfold B1;simp only [qiB,Ag,AO,atD,Ky,DZ,N2,decide_eq_false hw,cond_false,Oc];exact AI rfl
theorem lamp_abc:∀ c∈Cj,Bv (.str (one c))=some true:=by decide +kernel
inductive Tame:D->Prop where
 | no {d:D}:Ad d=some false->Tame d
 | yes {d:D}{ds:List D}:Ad d=some true->B1 d=some ⟨ds⟩->ds.length<=2->(∀ x∈ds,Tame x)->Tame d
inductive Bad:D->Prop where
 | here {d:D}:Ad d=some false->Bad d
 | part {d x:D}{ds:List D}:Ad d=some true->B1 d=some ⟨ds⟩->x∈ds->Bad x->Bad d
inductive Gd:D->Nat->Prop where
 | zero {d:D}:Ad d=some true->B1 d=some ⟨[]⟩->Gd d 1
 | one {d x:D}{n:Nat}:Ad d=some true->B1 d=some ⟨[x]⟩->Gd x n->Gd d (n+1)
 | two {d x y:D}{n m:Nat}:Ad d=some true->B1 d=some ⟨[x,y]⟩->Gd x n->Gd y m->Gd d (n+m+1)
theorem Gd.tame {d:D}{n:Nat}(h:Gd d n):Tame d:=by
 induction h with
 | zero h1 h2=>exact .yes h1 h2 (by simp) fun x hx=>by cases hx
 | one h1 h2 _ ih=>exact .yes h1 h2 (by simp) fun x hx=>by rw [qnA.mp hx];exact ih
 | two h1 h2 _ _ ih1 ih2 =>
  refine .yes h1 h2 (by simp) fun x hx=>?_;rcases qkA.mp hx with e|hx
  ·rw [e];exact ih1
  ·rw [qnA.mp hx];exact ih2
theorem Gd.pos {d:D}{n:Nat}(h:Gd d n):1<=n:=by cases h<;>omega
theorem toD_leaf (w:Str):(Nt.tup [.txt w]).toD = .tup [.str w]:=by simp only [Nt.toD,Nt.toDs]
theorem N8 (w:Str)(a:Nt):(Nt.tup [.txt w,a]).toD = .tup [.str w,a.toD]:=by simp only [Nt.toD,Nt.toDs]
theorem toD_two (w:Str)(a b:Nt):(Nt.tup [.txt w,a,b]).toD = .tup [.str w,a.toD,b.toD]:=by simp only [Nt.toD,Nt.toDs]
theorem Sx.gd {S:Nt}{n:Nat}(h:Sx S n):Gd S.toD n:=by
 induction h with
 | @leaf w hw =>
  rw [toD_leaf];rcases hw with rfl|rfl
  ·exact .zero (Ca (k:=0) nl_leaf.1 g_leaf.1) (Cd nl_leaf.1)
  ·exact .zero (Ca (k:=0) nl_leaf.2 g_leaf.2) (Cd nl_leaf.2)
 | @lamp c hc =>
  rw [N8];simp only [Nt.toD];exact .zero (D0 (lamp_abc c hc)) (Lc (x:=.non))
 | @one w a n hw _ ih =>
  rw [N8];exact .one (Ca (k:=1) (nl_one w hw) (g_one w hw)) (Cd (nl_one w hw)) ih
 | @two w a b n m hw _ _ ih1 ih2 =>
  rw [toD_two];exact .two (Ca (k:=2) (nl_two w hw) (g_two w hw)) (Cd (nl_two w hw)) ih1 ih2
inductive Gs:List D->Nat->Prop where
 | nil:Gs [] 0
 | cons {d:D}{ds:List D}{n m:Nat}:Gd d n->Gs ds m->Gs (d::ds) (n+m)
theorem Gs.app {l m:List D}{a b:Nat}(h:Gs l a)(g:Gs m b):Gs (l++m) (a+b):=by
 induction h with
 | nil=>rw [Nat.zero_add];exact g
 | cons h _ ih=>rw [List.cons_append,Nat.add_assoc];exact .cons h ih
theorem Gs.len {l:List D}{a:Nat}(h:Gs l a):l.length<=a:=by
 induction h with
 | nil=>exact qaB _
 | cons h _ ih=>have:=h.pos;rw [qfA];omega
theorem LR {α:Type}{f:List α}{p:Nat}{x:α}(hx:f[p]? = some x)(ds:List α):(f++ds).drop (p+1)=f.drop (p+1)++ds:=by
 rw [List.drop_append_of_le_length];have:=(qrA.mp hx).1;omega
theorem Nc {α:Type}{f:List α}{p:Nat}{x:α}(hx:f[p]? = some x):f.drop p=x::f.drop (p+1):=by
 obtain ⟨h1,h2⟩:=qrA.mp hx;rw [List.drop_eq_getElem_cons h1,h2]
theorem Jq {d:D}{n:Nat}(h:Gd d n):Au d=some (decide (n<=24)):=by
 have hz:sizeLine=16777216:=qhB;refine OK.eq ?_;unfold Au;simp only [qiB,Ag,AO];refine AE (LG (fun s:List D × Int=>∃ p r:Nat,s.2=(p:Int)/\p<=s.1.length/\p<=24/\Gs (s.1.drop p) r/\p+r=n) (fun _=>False) (fun b=>b=decide (n<=24)) (fun s=>100 - s.2.toNat) ⟨0,n,rfl,qyB _,qyB _,by have:=Gs.cons h .nil;simpa using this,by omega⟩ (by simp) ?_ (fun _ h=>h.elim) fun r hr=>AI hr);rintro ⟨f,pl⟩ ⟨p,r,e1,h1,h2,h3,h4⟩;dsimp only at e1 h1 h3;subst e1;refine AI ?_;have hlen:=h3.len;rw [List.length_drop] at hlen;by_cases hlt:(p:Int)<(f.length:Int)
 ·rw [decide_eq_true hlt,if_pos rfl];have hx:f[p]? = some f[p]:=qsA (by omega);have hat:atI f (p:Int)=some f[p]:=BM hx;rw [Nc hx] at h3;dsimp only;by_cases h24:(24:Int)<(f.length:Int)
  ·rw [decide_eq_true h24,cond_true,Ag];refine B6 (fun _=>AI ?_) fun h=>nomatch h;dsimp only;rw [decide_eq_false (by omega)]
  ·rw [decide_eq_false h24,cond_false,hat];simp only [Ag]
   cases h3 with
   | @cons _ _ k m hg hs =>
    have fin:∀ (ds:List D) (k':Nat),Ad f[p]=some true->B1 f[p]=some ⟨ds⟩->Gs ds k'->k=k'+1->ds.length<=2->OK (((Ad f[p]).bind fun t41=>some (!t41)).bind fun b43=>cond b43 (some (Fl.rt false:Fl (List D × Int) Bool)) ((B1 f[p]).bind fun a61=>(extO f a61.l).bind fun z69=>some (Fl.nx (z69,(p:Int)+1)))) fun fl=>∃ s',fl=Fl.nx s'/\(∃ p r:Nat,s'.2=(p:Int)/\p<=s'.1.length/\p<=24/\Gs (s'.1.drop p) r/\p+r=n)/\100 - s'.2.toNat<100 - ((p:Int)).toNat:=fun ds k' q1 q2 q3 q4 q5=>by
     rw [q1,q2,Ag,Ag,Ag];refine ok_bC _ (if_pos (by dsimp only;omega)) (AI ⟨_,rfl,⟨p+1,m+k',by dsimp only;omega,?_,by omega,?_,by omega⟩,?_⟩)
     ·dsimp only;rw [qeA];omega
     ·dsimp only;rw [LR hx];exact hs.app q3
     ·dsimp only;omega
    cases hg with
    | zero q1 q2=>exact (fin [] 0 q1 q2 .nil rfl (by simp)).mono fun fl ⟨s',e,h⟩=>by subst e;exact h
    | @one _ x k' q1 q2 q3=>exact (fin [x] k' q1 q2 (by have:=Gs.cons q3 .nil;simpa using this) rfl (by simp)).mono fun fl ⟨s',e,h⟩=>by subst e;exact h
    | @two _ x y k' k'' q1 q2 q3 q4=>exact (fin [x,y] (k'+k'') q1 q2 (by have:=Gs.cons q3 (Gs.cons q4 .nil);simpa using this) rfl (by simp)).mono fun fl ⟨s',e,h⟩=>by subst e;exact h
 ·rw [decide_eq_false hlt,if_neg qnB];refine AI ?_;have e:f.drop p=[]:=List.drop_eq_nil_of_le (by omega);rw [e] at h3;cases h3;exact (decide_eq_true (by omega)).symm
theorem LC {d:D}(ht:Tame d)(hb:Bad d):Au d=some false:=by
 have hz:sizeLine=16777216:=qhB;refine OK.eq ?_;unfold Au;simp only [qiB,Ag,AO];refine AE (LG (fun s:List D × Int=>∃ p:Nat,s.2=(p:Int)/\p<=24/\(∀ x∈s.1,Tame x)/\∃ x∈s.1.drop p,Bad x) (fun _=>False) (fun b=>b=false) (fun s=>100 - s.2.toNat) ⟨0,rfl,qyB _,fun x hx=>by rw [qnA.mp hx];exact ht,d,by simp,hb⟩ (by simp) ?_ (fun _ h=>h.elim) fun r hr=>AI hr);rintro ⟨f,pl⟩ ⟨p,e1,h2,hT,x,hx,hbx⟩;dsimp only at e1 hT hx;subst e1;refine AI ?_
 have hlt:p<f.length:=by
  have:=List.length_pos_of_mem hx;rw [List.length_drop] at this;omega
 dsimp only;rw [show decide ((p:Int)<(f.length:Int))=true from decide_eq_true (by omega),if_pos rfl];have hp:f[p]? = some f[p]:=qsA hlt;have hat:atI f (p:Int)=some f[p]:=BM hp;rw [Nc hp] at hx;by_cases h24:(24:Int)<(f.length:Int)
 ·rw [decide_eq_true h24,cond_true,Ag];exact B6 (fun _=>AI rfl) fun h=>nomatch h
 ·rw [decide_eq_false h24,cond_false,hat];simp only [Ag]
  cases hT f[p] (List.getElem_mem hlt) with
  | no q =>
   rw [q,Ag,Ag];exact B6 (fun _=>AI rfl) fun h=>nomatch h
  | @yes _ ds q1 q2 q3 q4 =>
   rw [q1,q2,Ag,Ag,Ag];refine B6 (fun h=>nomatch h) fun _=>ok_bC _ (if_pos (by dsimp only;omega)) (AI ⟨⟨p+1,by dsimp only;omega,by omega,fun y hy=>?_,?_⟩,by dsimp only;omega⟩)
   ·rcases qjA.mp hy with hy|hy
    ·exact hT y hy
    ·exact q4 y hy
   ·dsimp only;rw [LR hp];rcases qkA.mp hx with e|hx
    ·subst e
     cases hbx with
     | here q=>rw [q1] at q;cases q
     | @part _ y ds' r1 r2 r3 r4 =>
      rw [q2] at r2;cases r2;exact ⟨y,qxB _ r3,r4⟩
    ·exact ⟨x,List.mem_append_left _ hx,hbx⟩
theorem kf:isK "tuple" .non=false/\(∀ b,isK "tuple" (.bl b)=false)/\(∀ i,isK "tuple" (.int i)=false)/\(∀ x,isK "tuple" (.str x)=false)/\(∀ l,isK "tuple" (.lst l)=false)/\isK "tuple" .dic=false :=
 ⟨by decide +kernel,fun _=>(by decide +kernel:(("bool" : String) == "tuple" || (("tuple" : String) == "int" && ("bool" : String) == "bool"))=false),fun _=>(by decide +kernel:(("int" : String) == "tuple" || (("tuple" : String) == "int" && ("int" : String) == "bool"))=false),fun _=>(by decide +kernel:(("str" : String) == "tuple" || (("tuple" : String) == "int" && ("str" : String) == "bool"))=false),fun _=>(by decide +kernel:(("list" : String) == "tuple" || (("tuple" : String) == "int" && ("list" : String) == "bool"))=false),by decide +kernel⟩
theorem Sent.sx {S:Nt}{n:Nat}{f:Fm}(h:Sent S n f):Sx S n:=by
 induction h with
 | yes=>exact .leaf (.inl rfl)
 | no=>exact .leaf (.inr rfl)
 | lamp hc=>exact .lamp hc
 | one hw _ ih=>exact .one hw ih
 | two hw _ _ ih1 ih2=>exact .two hw ih1 ih2
theorem IM {S:Nt}{n:Nat}{f:Fm}(h:Sent S n f):Au (ToD.to S)=some (decide (n<=24)):=Jq h.sx.gd
theorem EM {d:D}(h:isK "str" d=false):AU d=some false:=by
 refine OK.eq ?_;unfold AU;simp only [h,Bool.not_false,Ag,cond_true];exact AI rfl
theorem Ez {d:D}(h:isK "list" d=false):AR d=some false:=by
 refine OK.eq ?_;unfold AR;simp only [qiB,Ag,AO,h,Bool.not_false,cond_true];exact AI rfl
theorem k_lst (l:List D):isK "list" (.lst l)=true:=id rfl
theorem ml_long {l:List D}(h:3000<l.length):AR (.lst l)=some false:=by
 refine OK.eq ?_;unfold AR;simp only [qiB,Ag,AO,k_lst,Bool.not_true,cond_false,Eu];rw [decide_eq_true (by omega)];exact AI rfl
theorem ml_eq {l:List D}(h:l.length<=3000)(g:D->Bool)(hg:∀ d∈l,AU d=some (g d)):AR (.lst l)=some (l.all g):=by
 refine OK.eq ?_;unfold AR;simp only [qiB,Ag,AO,k_lst,Bool.not_true,cond_false,Eu,NX];rw [decide_eq_false (by omega)];refine AE (JF (g:=g) hg (AI ?_));rw [List.all_map]
 rfl
theorem ED {d:D}(h:isK "tuple" d=false):BF d=some false:=by
 refine OK.eq ?_;unfold BF;simp only [qiB,Ag,AO,h,Bool.not_false,cond_true];exact AI rfl
theorem IR {l:List D}(h:l.length≠2):BF (.tup l)=some false:=by
 refine OK.eq ?_;unfold BF;simp only [qiB,Ag,AO,IC,Bool.not_true,cond_false,Eu];rw [decide_eq_false (by omega)];exact AI rfl
theorem GD {a b:D}{x y:Bool}(ha:AR a=some x)(hb:AR b=some y){n:Int}(hn:y=true->Eu b=some n):BF (.tup [a,b])=some (x && (y && decide (0<n))):=by
 have h0:atI [a,b] (0:Int)=some a:=Ky ..;have h1:atI [a,b] (1:Int)=some b:=atd1 ..;refine OK.eq ?_;unfold BF;simp only [qiB,Ag,AO,IC,Bool.not_true,cond_false,Eu,atD,h0,h1,ha,hb];rw [show decide ((([a,b]:List D).length:Int)=2)=true from rfl]
 cases x with
 | false=>exact AI rfl
 | true =>
  cases y with
  | false=>exact AI rfl
  | true =>
   simp only [Bool.not_true,cond_false,cond_true,Ag];refine AE (OK.of (hn rfl) (AI ?_))
   rfl
theorem GG {a b:D}(ha:AR a=some false):BF (.tup [a,b])=some false:=by
 have h0:atI [a,b] (0:Int)=some a:=Ky ..;refine OK.eq ?_;unfold BF;simp only [qiB,Ag,AO,IC,Bool.not_true,cond_false,Eu,atD,h0,ha];rw [show decide ((([a,b]:List D).length:Int)=2)=true from rfl];exact AI rfl
def Ms (l:List Str):Prop:=l.length<=10/\∀ m∈l,AU (.str m)=some true
theorem Ms.ml {l:List Str}(h:Ms l):AR (.lst (l.map D.str))=some true:=by
 rw [ml_eq (g:=fun _=>true) (by rw [qdA];have:=h.1;omega) fun d hd=>by
  obtain ⟨m,hm,rfl⟩:=qmA.mp hd
  exact h.2 m hm]
 congr 1
 exact List.all_eq_true.mpr fun _ _=>rfl
theorem L7 {l:List D}(h:l.length<=10)(hm:∀ d∈l,AU d=some true\/AU d=some false)(hx:∃ d∈l,AU d=some false):AR (.lst l)=some false:=by
 rw [ml_eq (g:=fun d=>decide (AU d=some true)) (by omega) fun d hd=>by
  rcases hm d hd with e|e
  ·rw [e];exact congrArg some (decide_eq_true rfl).symm
  ·rw [e];exact congrArg some (decide_eq_false (fun z=>nomatch z)).symm]
 congr 1
 obtain ⟨d,hd,e⟩:=hx;refine Bool.eq_false_iff.mpr fun z=>?_;have:=of_decide_eq_true (List.all_eq_true.mp z d hd);rw [e] at this;cases this
theorem run_good {s r:List Str}(hs:Ms s)(hr:Ms r)(h0:0<r.length):BF (ToD.to (s,r))=some true:=by
 have:=GD (n:=((r.map D.str).length:Int)) hs.ml hr.ml fun _=>rfl;rw [qdA,decide_eq_true (by omega)] at this;exact this
theorem M9:∀ l:List Str,Dk (l.map D.str)=some l
 | []=>rfl
 | x::l=>by
  show (Dk (l.map D.str)).bind _=_;rw [M9 l]
  rfl
theorem Ku:∀ {l:List D}{x:List Str},Dk l=some x->x.map D.str=l
 | [],x,h=>by cases h;rfl
 | d::l,x,h=>by
  cases d with
  | str y =>
   obtain ⟨r,hr,e⟩:=qaA.mp (show (Dk l).bind (fun r=>some (y::r))=some x from h);cases e;rw [qxA,Ku hr]
  | _=>cases h
theorem tr_toD (a b:List D):(ToD.to (Ki a b):D) = .tup [.lst a,.lst b]:=by
 unfold Ki
 cases h1:Dk a with
 | none=>rfl
 | some x=>cases h2:Dk b with
  | none=>rfl
  | some y =>
   show D.tup [.lst (x.map D.str),.lst (y.map D.str)]=_;rw [Ku h1,Ku h2]
theorem tr_good (l:List Str):Ki [] (l.map D.str) = .g ([],l):=by
 unfold Ki;rw [M9]
 rfl
theorem IG {t:Th}{r:Tr}(h:Au (ToD.to t)=some false):Aw t r=some (.error "NoSentence"):=by
 refine OK.eq ?_;unfold Aw;simp only [qiB,Ag,AO];exact AE (OK.of h (AI rfl))
theorem JJ {t:Th}{r:Tr}(h:Au (ToD.to t)=some true)(hr:BF (ToD.to r)=some false):Aw t r=some (.error "NoRun"):=by
 refine OK.eq ?_;unfold Aw;simp only [qiB,Ag,AO];refine AE (OK.of h ?_);simp only [Bool.not_true,cond_false];exact AE (OK.of hr (AI rfl))
theorem Hd {S:Nt}{n:Nat}{f:Fm}(hS:Sent S n f)(hn:n<=24){s r:List Str}(hs:Ms s)(hr:Ms r)(h0:0<r.length):∃ l:List Bool,Aw (.g S) (.g (s,r))=some (.ok l)/\0<l.length:=by
 have hd:=hS.dep;have hsz:=hS.size;have hsl:=hs.1;have hrl:=hr.1;obtain ⟨L,fs,k,hbk,hB,hD,hfk,hsub,hl⟩:=book_one (f:=f) (by omega) (by omega);have hkl:k<L.length:=by rw [hB.1];exact Ew hfk
 obtain ⟨c,hc,hcc⟩:=N4 (stem:=s) (ring:=r) hB.book (by omega) h0 (by rw [qeA];omega) (P:=Cols (s++r) s.length L) fun c h=>h;have hck:k<c.length:=by rw [hcc.1];exact hkl
 refine ⟨c[k],?_,?_⟩
 ·refine OK.eq ?_;unfold Aw;simp only [qiB,Ag,AO];refine AE (OK.of (IM hS) ?_);rw [decide_eq_true hn];simp only [Bool.not_true,cond_false];refine AE (OK.of (run_good hs hr h0) ?_);simp only [Bool.not_true,cond_false];refine AE (OK.of (show asNT (Th.g S)=some S from rfl) (AE (OK.of (plain_ok hS 26 (by omega)) (AE (OK.of hbk ?_)))));refine AE (OK.of (show asRT (Tr.g (s,r))=some (s,r) from rfl) (AE (OK.of hc (AE (OK.of (show atI [(k:Int)] (0:Int)=some (k:Int) from rfl) (AE (OK.of (BM (qsA hck)) (AI rfl))))))))
 ·have h1:=(hcc.2 k _ (qsA hkl)).1;unfold C at h1;rw [qwA,qsA hck] at h1;have h1:c[k].length=(s++r).length:=h1;rw [h1,qeA];omega
theorem Ml {t:Th}{r:Tr}(h:Au (ToD.to t)=some false)(x:Int):BB x t r=some (some ⟨"NoSentence"⟩):=by
 refine OK.eq ?_;unfold BB;simp only [qiB,Ag,AO];refine B6 (fun _=>AE (OK.of (IG h) (OK.of (if_pos (.inl rfl)) rfl))) fun _=>AE (OK.of (a:=.error "NoSentence") ?_ (OK.of (if_pos (.inl rfl)) rfl));refine OK.eq ?_;unfold CS;simp only [qiB,Ag,AO];exact AE (OK.of (IG h) (AI rfl))
theorem Jt {t:Th}{r:Tr}(h:Au (ToD.to t)=some true)(hr:BF (ToD.to r)=some false)(x:Int):BB x t r=some (some ⟨"NoRun"⟩):=by
 refine OK.eq ?_;unfold BB;simp only [qiB,Ag,AO];refine B6 (fun _=>AE (OK.of (JJ h hr) (OK.of (if_pos (.inr rfl)) rfl))) fun _=>AE (OK.of (a:=.error "NoRun") ?_ (OK.of (if_pos (.inr rfl)) rfl));refine OK.eq ?_;unfold CS;simp only [qiB,Ag,AO];exact AE (OK.of (JJ h hr) (AI rfl))
theorem NR {t:Th}{r:Tr}{l:List Bool}(h:Aw t r=some (.ok l))(h0:0<l.length):CS t r=some (.ok l[0]):=by
 refine OK.eq ?_;unfold CS;simp only [qiB,Ag,AO];refine AE (OK.of h ?_);unfold atX;exact AE (OK.of (BM (j:=0) (qsA h0)) (AI rfl))
theorem JI {t:Th}{r:Tr}{l:List Bool}(h:Aw t r=some (.ok l))(h0:0<l.length)(x:Int):BB x t r=some none:=by
 refine OK.eq ?_;unfold BB;simp only [qiB,Ag,AO];exact B6 (fun _=>AE (OK.of h (AI rfl))) fun _=>AE (OK.of (NR h h0) (AI rfl))
structure TB (d:D):Prop where
 t:Tame d
 b:Bad d
theorem nf {d:D}(h:Ad d=some false):TB d:=⟨.no h,.here h⟩
theorem Mz {l:List D}{P:D->Prop}{d:D}{i:Nat}(h:∀ d∈l,P d)(hd:l[i]? = some d):P d:=h d (qqA hd)
theorem Kz (a b:Nat):HP (one a) (one b)=some (one a++one b):=if_pos (by have:=qhB;show 1+1<=sizeLine;omega)
theorem up_one (a:Nat):upO (one a)=some (Txt.upper (one a)):=if_pos (by show 1<=1000;decide)
theorem lampUp:∀ c∈Cj,Bv (.str (Txt.upper (one c)))=some false:=by decide +kernel
theorem lampTwo:∀ a∈Cj,∀ b∈Cj,Bv (.str (one a++one b))=some false:=by decide +kernel
theorem lampNo:Bv (.str "")=some false/\Bv (.str "1")=some false:=by decide +kernel
theorem gW:(Ch BI "maybe" = none/\Ch BI "Yes" = none/\Ch BI "lamps" = none)/\(Ch BI "yes" = some 0/\Ch BI "no" = some 0/\Ch BI "not" = some 1/\Ch BI "next" = some 1/\Ch BI "settles" = some 1) /\
  (Ch BI "until" = some 2/\Ch BI "and" = some 2/\Ch BI "or" = some 2/\Ch BI "frees" = some 2):=by decide +kernel
theorem nW:(("maybe" : Str) ≠ "lamp" /\ ("Yes" : Str) ≠ "lamp" /\ ("lamps" : Str) ≠ "lamp")/\(("yes" : Str) ≠ "lamp" /\ ("no" : Str) ≠ "lamp" /\ ("not" : Str) ≠ "lamp" /\ ("next" : Str) ≠ "lamp" /\ ("settles" : Str) ≠ "lamp") /\
  (("until" : Str) ≠ "lamp" /\ ("and" : Str) ≠ "lamp" /\ ("or" : Str) ≠ "lamp" /\ ("frees" : Str) ≠ "lamp"):=by decide +kernel
theorem form_nil:Ad (.tup [])=some false:=by decide +kernel
theorem KS {w:Str}{a b:D}(hw:w ≠ "lamp")(hg:Ch BI w=some 2)(ha:Tame a)(hb:Tame b)(h:Bad a\/Bad b):TB (.tup [.str w,a,b]):=by
 have hf:Ad (.tup [.str w,a,b])=some true:=Ca (k:=2) hw hg;have hp:B1 (.tup [.str w,a,b])=some ⟨[a,b]⟩:=Cd hw;refine ⟨.yes hf hp (by simp) fun y hy=>?_,?_⟩
 ·rcases qkA.mp hy with rfl|hy
  ·exact ha
  ·rw [qnA.mp hy];exact hb
 ·rcases h with h|h
  ·exact .part hf hp qoA h
  ·exact .part hf hp (qpA _ qoA) h
theorem Ni {w:Str}{a:D}(hw:w ≠ "lamp")(hg:Ch BI w=some 1)(ha:TB a):TB (.tup [.str w,a]):=by
 have hf:Ad (.tup [.str w,a])=some true:=Ca (k:=1) hw hg;have hp:B1 (.tup [.str w,a])=some ⟨[a]⟩:=Cd hw;exact ⟨.yes hf hp (by simp) fun y hy=>by rw [qnA.mp hy];exact ha.t,.part hf hp qoA ha.b⟩
theorem sent_tup {S:Nt}{n:Nat}{f:Fm}(h:Sent S n f):isK "str" (ToD.to S)=false:=by cases h<;>rfl
theorem nos_ok (x:Int){S:Nt}{n:Nat}{f:Fm}(hS:Sent S n f){a b:Nat}(ha:a∈Cj)(hb:b∈Cj):OK (BV x S [one a,one b]) TB:=by
 have hz:sizeLine=16777216:=qhB;have h0:atI [one a,one b] (0:Int)=some (one a):=BM (j:=0) rfl;have h1:atI [one a,one b] (1:Int)=some (one b):=BM (j:=1) rfl;obtain ⟨⟨g1,g2,g3⟩,⟨g4,g5,g6,g7,g8⟩,g9,g10,g11,g12⟩:=gW;obtain ⟨⟨n1,n2,n3⟩,⟨n4,n5,n6,n7,n8⟩,n9,n10,n11,n12⟩:=nW;obtain ⟨q1,q2,q3,q4,q5,q6⟩:=kf;have ht:=hS.sx.gd.tame;have hk:=sent_tup hS;unfold BV;simp only [qiB,Ag,AO,h0,h1,up_one,Kz];refine AE (Dt (by simp only [qfA,List.length_nil];omega) ?_);refine AE (Dt (by simp only [qeA,qfA,List.length_nil];omega) ?_);refine AE (Dt (by simp only [qeA,qfA,List.length_nil];omega) ?_);refine AE (Dt (by simp only [qeA,qfA,List.length_nil];omega) ?_);refine AE (HY (by simp only [qeA,qfA,List.length_nil];decide) (AE (FX (qkB _ (by simp only [qeA,qfA,List.length_nil];decide)) (qmB _ (by simp only [qeA,qfA,List.length_nil];decide)) fun d hd=>?_)))
 have hT:TB d:=by
  refine Mz (P:=TB) ?_ hd;simp only [List.forall_mem_append,List.forall_mem_cons,qvB,false_implies,implies_true,and_true,and_assoc]
  refine ⟨nf (CD q1),nf (CD (q2 true)),nf (CD (q3 _)),nf (CD (q4 _)),nf (CD (q4 _)),nf (CD (q5 _)),nf form_nil,
   nf (J5 (w := "maybe") (l:=[]) n1 g1),nf (J5 (w := "Yes") (l:=[]) n2 g2),nf (Ca (w := "yes") (l:=[.str "a"]) (k:=0) n4 g4),nf (Ca (w := "yes") (l:=[.tup [.str "yes"]]) (k:=0) n4 g4),
   nf (D0 (lampUp a ha)),nf (D0 (lampTwo a ha b hb)),nf (D0 lampNo.1),nf (D0 (HZ rfl)),nf (Mu (l:=[]) (by decide)),
   nf (D0 (HZ rfl)),nf (D0 lampNo.2),nf (Ca (w := "not") (l:=[]) (k:=1) n6 g6),nf (CD (q5 _)),nf (Ca (w := "not") (l:=[ToD.to S,ToD.to S]) (k:=1) n6 g6),nf (Ca (w := "until") (l:=[ToD.to S]) (k:=2) n9 g9),
   nf (Ca (w := "and") (l:=[ToD.to S,ToD.to S,ToD.to S]) (k:=2) n10 g10),nf (CD q6),nf (Dx (l:=[]) hk),nf (Dx (l:=[ToD.to S]) hk),Ni n7 g7 (nf (CD (q5 _))),KS n11 g11 ht (nf (CD q1)).t (.inr (nf (CD q1)).b),
   nf (J5 (w := "lamps") (l:=[.str (one a)]) n3 g3),nf (D0 (HZ rfl)),nf (Dx (x:=.int 1) (l:=[ToD.to S]) rfl),nf (Dx (x:=.non) (l:=[]) rfl),nf (Dx (x:=.lst []) (l:=[ToD.to S]) rfl),nf (Ca (w := "no") (l:=[.non]) (k:=0) n5 g5)⟩
 have a0:=qkB (x / 34) (b:=9) (by decide);have a1:=qmB (x / 34) (b:=9) (by decide);obtain ⟨m,hm⟩:=qjB a0;rw [hm];refine AE (L6 (n:=m) (by omega) (by omega) (by omega) ?_);refine AE (FC (fun i (d:D)=>TB d) hT (fun i k s hk' hI=>?_) fun s hI=>AI hI);obtain ⟨hi,rfl⟩:=MP hk';refine AE (Ks (by omega) ?_);refine B6 (fun _=>AI ⟨_,rfl,KS n10 g10 ht hI.t (.inr hI.b)⟩) fun _=>AE (Ks (by omega) (B6 (fun _=>AI ⟨_,rfl,KS n12 g12 hI.t ht (.inl hI.b)⟩) fun _=>AI ⟨_,rfl,Ni n8 g8 hI⟩))
theorem abc_at {i:Int}(h0:0<=i)(h1:i<26):atI ("abcdefghijklmnopqrstuvwxyz" : Str).cps.toList i=some (97+i.toNat)/\97+i.toNat∈Cj:=by
 obtain ⟨n,rfl⟩:=qjB h0;rw [abc_cps];have hn:n<26:=by omega
 refine ⟨BM ?_,?_⟩
 ·unfold Cj;rw [List.getElem?_range' hn];simp
 ·unfold Cj;exact List.mem_range'_1.mpr ⟨by omega,by simp;omega⟩
theorem lamps_ok (x:Int):OK (Cv x) fun l=>∃ a b:Nat,l=[one a,one b]/\a∈Cj/\b∈Cj/\a≠b:=by
 unfold Cv;simp only [qiB,Ag,AO];have i0:=qkB x (b:=26) (by decide);have i1:=qmB x (b:=26) (by decide);have j0:=qkB (x+1+x / 26 % 25) (b:=26) (by decide);have j1:=qmB (x+1+x / 26 % 25) (b:=26) (by decide);have y0:=qkB (x / 26) (b:=25) (by decide);have y1:=qmB (x / 26) (b:=25) (by decide);obtain ⟨e1,m1⟩:=abc_at i0 i1;obtain ⟨e2,m2⟩:=abc_at j0 j1;refine AE (OK.of e1 (AE (OK.of e2 (AI ⟨_,_,rfl,m1,m2,?_⟩))));generalize x / 26 % 25=y at *;omega
structure Lw (l:List Str)(lo hi:Nat):Prop where
 mn:LP l=some (one lo)
 mx:Le l=some (one hi)
 lt:lo<hi
 a:lo∈Cj
 b:hi∈Cj
theorem lw_of {a b:Nat}(ha:a∈Cj)(hb:b∈Cj)(ne:a≠b):∃ lo hi,Lw [one a,one b] lo hi:=by
 have e1:LP [one a,one b]=some (if b<a then one b else one a):=by
  show some (if ([b]:List Nat) < [a] then one b else one a)=_;by_cases h:b<a
  ·rw [if_pos h,if_pos ((IU _ _).mpr h)]
  ·rw [if_neg h,if_neg (fun z=>h ((IU _ _).mp z))]
 have e2:Le [one a,one b]=some (if a<b then one b else one a):=by
  show some (if ([a]:List Nat) < [b] then one b else one a)=_;by_cases h:a<b
  ·rw [if_pos h,if_pos ((IU _ _).mpr h)]
  ·rw [if_neg h,if_neg (fun z=>h ((IU _ _).mp z))]
 by_cases h:a<b
 ·exact ⟨a,b,by rw [e1,if_neg (by omega)],by rw [e2,if_pos h],h,ha,hb⟩
 ·exact ⟨b,a,by rw [e1,if_pos (by omega)],by rw [e2,if_neg h],by omega,hb,ha⟩
theorem mA:∀ a∈Cj,AU (.str (one a))=some true:=by decide +kernel
theorem mB:∀ a∈Cj,∀ b∈Cj,a<b->AU (.str (one a++one b))=some true:=by decide +kernel
theorem m0:AU (.str "")=some true/\AU (.str " ")=some false/\AU (.str "1")=some false/\AU (.str "-")=some false:=by decide +kernel
theorem mC:∀ a∈Cj,∀ b∈Cj,a<b->AU (.str (one b++one a))=some false:=by decide +kernel
theorem mD:∀ a∈Cj,AU (.str (one a++one a))=some false/\AU (.str (Txt.upper (one a)))=some false:=by decide +kernel
theorem mE:∀ a∈Cj,∀ b∈Cj,AU (.str (one a ++ " " ++ one b))=some false:=by decide +kernel
theorem mF:∀ a∈Cj,∀ b∈Cj,a<b->AU (.str (one a++one b++one a))=some false:=by decide +kernel
theorem w12:(∀ w∈[("not" : Str),"next","atlast","always","again","settles"],w∈W1)/\(∀ w∈[("and" : Str),"or","then","until","frees"],w∈W2):=by decide +kernel
theorem Lj (x:Int){a b:Nat}(ha:a∈Cj)(hb:b∈Cj):OK (CF x [one a,one b]) fun S=>∃ n f,Sent S n f/\n<=4:=by
 have h1:atI [one a,one b] (1:Int)=some (one b):=BM (j:=1) rfl;unfold CF;simp only [qiB,Ag,AO,h1];refine AE (FX (qkB _ (by decide)) (qmB _ (by decide)) fun c hc=>?_)
 obtain ⟨d,hd,rfl⟩:∃ d∈Cj,c=one d:=by
  have:=qqA hc;simp only [qkA,qvB,or_false] at this;rcases this with rfl|rfl
  ·exact ⟨a,ha,rfl⟩
  ·exact ⟨b,hb,rfl⟩
 refine AE (FX (qkB _ (by decide)) (qmB _ (by decide)) fun o ho=>?_)
 obtain ⟨f,ho⟩:∃ f,Sent o 1 f:=by
  have:=qqA ho;simp only [qkA,qvB,or_false] at this;rcases this with rfl|rfl|rfl|rfl
  ·exact ⟨_,.yes⟩
  ·exact ⟨_,.no⟩
  ·exact ⟨_,.lamp hb⟩
  ·exact ⟨_,.lamp hd⟩
 refine B6 (fun _=>AI ⟨1,_,.lamp hd,by omega⟩) fun _=>B6 (fun _=>?_) fun _=>?_
 ·refine AE (FX (qkB _ (by decide)) (qmB _ (by decide)) fun w hw=>AI ?_)
  obtain ⟨v,hv,rfl⟩:∃ v∈[("not" : Str),"next","atlast","always","again","settles"],w=Nt.txt v:=by
   obtain ⟨v,hv,rfl⟩:=qmA.mp (show w∈[("not" : Str),"next","atlast","always","again","settles"].map Nt.txt from qqA hw);exact ⟨v,hv,rfl⟩
  exact ⟨_,_,.one (w12.1 v hv) ho,by omega⟩
 ·refine AE (FX (qkB _ (by decide)) (qmB _ (by decide)) fun w hw=>AI ?_)
  obtain ⟨v,hv,rfl⟩:∃ v∈[("and" : Str),"or","then","until","frees"],w=Nt.txt v:=by
   obtain ⟨v,hv,rfl⟩:=qmA.mp (show w∈[("and" : Str),"or","then","until","frees"].map Nt.txt from qqA hw);exact ⟨v,hv,rfl⟩
  exact ⟨_,_,.one (w12.1 "not" qoA) (.two (w12.2 v hv) (.lamp hd) ho),by omega⟩
theorem MO (x:Int){l:List Str}{lo hi:Nat}(h:Lw l lo hi):OK (CO x l) fun ms=>Ms ms/\2<=ms.length/\ms.length<=6:=by
 have hz:sizeLine=16777216:=qhB;unfold CO;simp only [qiB,Ag,AO,h.mn,h.mx];have a0:=qkB (x / 4) (b:=5) (by decide);have a1:=qmB (x / 4) (b:=5) (by decide);obtain ⟨m,hm⟩:=qjB a0;refine AE (L6 (n:=m+2) (by omega) (by omega) (by omega) ?_);refine ok_mapR (R:=fun _ (y:Str)=>AU (.str y)=some true) (fun k hk=>?_) fun ms hlen hms _=>⟨⟨?_,fun y hy=>?_⟩,?_,?_⟩
 ·obtain ⟨i,hx⟩:=List.getElem?_of_mem hk;obtain ⟨hx,rfl⟩:=MP hx;simp only [Kz,Ag];refine AE (Ks (by omega) ?_);refine AE (FX (qkB _ (by decide)) (qmB _ (by decide)) fun d hd=>?_);have hd:=qqA hd;simp only [qkA,qvB,or_false] at hd;rcases hd with rfl|rfl|rfl|rfl
  ·exact AI m0.1
  ·exact AI (mA lo h.a)
  ·exact AI (mA hi h.b)
  ·exact AI (mB lo h.a hi h.b h.lt)
 ·rw [hlen,IK];omega
 ·obtain ⟨_,_,e⟩:=hms y hy;exact e
 ·rw [hlen,IK];omega
 ·rw [hlen,IK];omega
theorem nom_ok (x:Int){l:List Str}{lo hi:Nat}(h:Lw l lo hi):OK (Bc x l) fun d=>AU d=some false:=by
 have hz:sizeLine=16777216:=qhB;have c1:HP (one lo) (" " : Str)=some (one lo ++ " "):=if_pos (by show 1+1<=sizeLine;omega);have c2:HP (one lo ++ " ") (one hi)=some (one lo ++ " " ++ one hi):=if_pos (by show 2+1<=sizeLine;omega);have c3:HP (one lo++one hi) (one lo)=some (one lo++one hi++one lo):=if_pos (by show 2+1<=sizeLine;omega);obtain ⟨q1,q2,q3,q4⟩:=m0;unfold Bc;simp only [qiB,Ag,AO,h.mn,h.mx,Kz,up_one,c1,c2,c3];refine AE (Dt (by simp only [qfA,List.length_nil];omega) ?_);refine AE (HY (by simp only [qeA,qfA,List.length_nil];decide) (FX (qkB _ (by simp only [qeA,qfA,List.length_nil];decide)) (qmB _ (by simp only [qeA,qfA,List.length_nil];decide)) fun d hd=>?_));refine Mz (P:=fun d=>AU d=some false) ?_ hd;simp only [List.forall_mem_append,List.forall_mem_cons,qvB,false_implies,implies_true,and_true,and_assoc];exact ⟨EM rfl,EM rfl,EM rfl,EM rfl,EM rfl,mC lo h.a hi h.b h.lt,(mD lo h.a).1,(mD lo h.a).2,q2,mE lo h.a hi h.b,q3,EM rfl,q4,mF lo h.a hi h.b h.lt⟩
theorem Na (x:Int){a:Nat}{l:List Str}(ha:a∈Cj){m:Nat}(hm:m<=24):OK (Cp x (one a::l) (m:Int)) fun S=>∃ f,Sent S (m+1) f:=by
 have hz:sizeLine=16777216:=qhB;have h0:atI (one a::l) (0:Int)=some (one a):=BM (j:=0) rfl;unfold Cp;simp only [qiB,Ag,AO,h0];refine AE (L6 (n:=m) (by omega) (by omega) (by omega) ?_);refine AE (FC (fun i (S:Nt)=>∃ f,Sent S (i+1) f) ⟨_,.lamp ha⟩ (fun i k S hk ⟨f,hS⟩=>?_) fun S hI=>?_)
 ·obtain ⟨hi,rfl⟩:=MP hk;refine AE (Ks (by omega) (AE (FX (qkB _ (by decide)) (qmB _ (by decide)) fun w hw=>AI ⟨_,rfl,?_⟩)));obtain ⟨v,hv,rfl⟩:=qmA.mp (show w∈[("not" : Str),"next","again","always"].map Nt.txt from qqA hw);have:v∈W1:=(by decide +kernel:∀ v∈[("not" : Str),"next","again","always"],v∈W1) v hv;exact ⟨_,.one this hS⟩
 ·rw [IK] at hI;exact AI hI
theorem cut_hd (ms:List Str)(h:2<=ms.length):D4 ms none (some (1:Int))=ms.take 1/\D4 ms (some (1:Int)) none=ms.drop 1:=⟨cut_hi ms 1,Ma ms 1⟩
theorem Ms.sub {l m:List Str}(h:Ms l)(hs:∀ x∈m,x∈l)(hl:m.length<=l.length):Ms m:=⟨by have:=h.1;omega,fun x hx=>h.2 x (hs x hx)⟩
theorem norun_ok (x:Int){l:List Str}{lo hi:Nat}(h:Lw l lo hi){ms:List Str}(hm:Ms ms)(h2:2<=ms.length)(h6:ms.length<=6):OK (Cb x ms l) fun d=>BF d=some false:=by
 have hz:sizeLine=16777216:=qhB;obtain ⟨c1,c2⟩:=cut_hd ms h2;have hs:Ms (ms.take 1):=hm.sub (fun x hx=>List.mem_of_mem_take hx) (by rw [qiA];omega);have hr:Ms (ms.drop 1):=hm.sub (fun x hx=>List.mem_of_mem_drop hx) (by rw [List.length_drop];omega);have hr0:0<(ms.drop 1).length:=by rw [List.length_drop];omega
 have hsl:=hs.1;have hrl:=hr.1;unfold Cb;simp only [qiB,Ag,AO,c1,c2];generalize hse:ms.take 1=s at *;generalize hre:ms.drop 1=r at *;refine AE (Dt (by simp only [qfA,List.length_nil];omega) ?_);refine AE (ok_rep (k:=3001) (by show 1 * 3001<=_;omega) (by decide) ?_);refine AE (ok_rep (k:=3001) (by show 1 * 3001<=_;omega) (by decide) ?_);have h3:((List.replicate 3001 [("a" : Str)]).flatten).length=3001:=by rw [List.length_flatten,List.map_replicate,List.sum_replicate_nat];rfl
 generalize (List.replicate 3001 [("a" : Str)]).flatten=big at h3;refine AE (Dt (by simp only [qeA,qfA,List.length_nil];omega) ?_);refine B6 (fun _=>?_) fun _=>?_
 ·refine AE (HY (by simp only [qeA,qfA,List.length_nil];decide) (FX (qkB _ (by simp only [qeA,qfA,List.length_nil];decide)) (qmB _ (by simp only [qeA,qfA,List.length_nil];decide)) fun d hd=>?_));refine Mz (P:=fun d=>BF d=some false) ?_ hd;simp only [List.forall_mem_append,List.forall_mem_cons,qvB,false_implies,implies_true,and_true,and_assoc];have ee:AR (.lst [])=some true:=Ms.ml (l:=[]) ⟨by decide,fun x hx=>nomatch hx⟩;have eb:AR (.lst (big.map D.str))=some false:=ml_long (by rw [qdA];omega);have el:∀ y:List Str,AR (.lst [.lst (y.map D.str)])=some false:=fun y=>L7 (by show 1<=10;decide) (fun d hd=>.inr (by rw [qnA.mp hd];exact EM rfl)) ⟨_,qoA,EM rfl⟩;have snd:∀ {b:D},AR b=some false->BF (.tup [.lst (s.map D.str),b])=some false:=fun {b} hb=>GD (n:=0) hs.ml hb fun z=>nomatch z
  exact ⟨ED rfl,ED rfl,ED rfl,ED rfl,ED rfl,IR (l:=[]) (by decide),ED rfl,IR (l:=[_]) (by simp),IR (l:=[_]) (by simp),IR (l:=[_,_,_]) (by simp),GD (n:=0) hs.ml ee fun _=>rfl,
   GG (Ez rfl),snd (Ez rfl),snd (Ez rfl),GG (Ez rfl),GG (Ez rfl),snd (Ez rfl),ED rfl,snd (Ez rfl),GD (n:=0) ee eb (fun z=>nomatch z),GG eb,GG (el s),snd (el r)⟩
 ·refine FL (nom_ok (x / 14) h) fun d hd=>?_;refine AE (HY (by rw [qdA];omega) ?_);have k0:=qkB (x / 2) (b:=((ms.map (ToD.to:Str->D)).length:Int)) (by rw [qdA];omega);have k1:=qmB (x / 2) (b:=((ms.map (ToD.to:Str->D)).length:Int)) (by rw [qdA];omega);obtain ⟨k,hk⟩:=qjB k0;rw [hk] at k1 ⊢;have hkl:k<ms.length:=by rw [qdA] at k1;omega
  have e1:Ix (ms.map (ToD.to:Str->D)) (k:Int) d=some ((ms.map D.str).set k d):=by
   unfold Ix;rw [Ng (by rw [qdA];exact hkl)]
   rfl
  refine AE (OK.of e1 ?_);have el:((ms.map D.str).set k d).length=ms.length:=by rw [List.length_set,qdA]
  refine AE (HY (by rw [el];omega) ?_);have t0:=qkB (x / 28) (b:=(((ms.map D.str).set k d).length:Int)) (by rw [el];omega);have t1:=qmB (x / 28) (b:=(((ms.map D.str).set k d).length:Int)) (by rw [el];omega);obtain ⟨t,ht⟩:=qjB t0;rw [ht] at t1 ⊢;have htl:t<ms.length:=by rw [el] at t1;omega
  refine AI ?_;show BF (.tup [.lst ((D4 ((ms.map D.str).set k d) none (some (t:Int))).map id),.lst ((D4 ((ms.map D.str).set k d) (some (t:Int)) none).map id)])=some false;rw [cut_hi,Ma,List.map_id,List.map_id]
  have hall:∀ y∈(ms.map D.str).set k d,AU y=some true\/AU y=some false:=fun y hy=>by
   rcases List.mem_or_eq_of_mem_set hy with hy|rfl
   ·obtain ⟨m,hm',rfl⟩:=qmA.mp hy;exact .inl (hm.2 m hm')
   ·exact .inr hd
  have hget:((ms.map D.str).set k d)[k]? = some d:=by rw [List.getElem?_set_self (by rw [qdA];exact hkl)]
  by_cases hkt:k<t
  ·refine GG (L7 (by rw [qiA];omega) (fun y hy=>hall y (List.mem_of_mem_take hy)) ⟨d,?_,hd⟩);exact qqA (by rw [List.getElem?_take_of_lt hkt];exact hget)
  ·have hf:AR (.lst (((ms.map D.str).set k d).take t))=some true:=by
    have:((ms.map D.str).set k d).take t=(ms.take t).map D.str:=by
     rw [List.take_set,List.set_eq_of_length_le (by rw [qiA];omega),List.map_take]
    rw [this];exact (hm.sub (fun x hx=>List.mem_of_mem_take hx) (by rw [qiA];omega)).ml
   refine GD (n:=0) hf (L7 (by rw [List.length_drop];omega) (fun y hy=>hall y (List.mem_of_mem_drop hy)) ⟨d,?_,hd⟩) fun z=>nomatch z;exact qqA (i:=k - t) (by rw [List.getElem?_drop,show t+(k - t)=k by omega];exact hget)
theorem N6 {l:List D}{k:Nat}{d:D}(h:k<l.length):Ix l (k:Int) d=some (l.set k d):=by
 unfold Ix;rw [Ng h]
 rfl
theorem made_ok (x:Int){S:Nt}{n:Nat}{f:Fm}(hS:Sent S n f)(hn:n<=24){l:List Str}{lo hi:Nat}(h:Lw l lo hi){ms:List Str}(hm:Ms ms)(h2:2<=ms.length):Bu x S ms l=some true:=by
 have hl:=hm.1;refine OK.eq ?_;unfold Bu;simp only [qiB,Ag,AO];refine AE (HY (by rw [qdA];omega) ?_);have k0:=qkB x (b:=((ms.map (ToD.to:Str->D)).length:Int)) (by rw [qdA];omega);have k1:=qmB x (b:=((ms.map (ToD.to:Str->D)).length:Int)) (by rw [qdA];omega);obtain ⟨k,hk⟩:=qjB k0;rw [hk] at k1 ⊢;have hkl:k<ms.length:=by rw [qdA] at k1;omega
 refine FL (nom_ok (x / 7) h) fun d hd=>?_;have e1:Ix (ms.map (ToD.to:Str->D)) (k:Int) d=some ((ms.map D.str).set k d):=N6 (l:=ms.map D.str) (by rw [qdA];exact hkl);refine AE (OK.of e1 ?_)
 have hrun:BF (ToD.to (Ki [] ((ms.map D.str).set k d)))=some false:=by
  rw [tr_toD];refine GD (n:=0) (x:=true) (Ms.ml (l:=[]) ⟨by decide,fun x hx=>nomatch hx⟩) (L7 (by rw [List.length_set,qdA];omega) (fun y hy=>?_) ⟨d,?_,hd⟩) fun z=>nomatch z
  ·rcases List.mem_or_eq_of_mem_set hy with hy|rfl
   ·obtain ⟨m,hm',rfl⟩:=qmA.mp hy;exact .inl (hm.2 m hm')
   ·exact .inr hd
  ·exact qqA (List.getElem?_set_self (by rw [qdA];exact hkl))
 have hs:Au (ToD.to (Th.g S))=some true:=by
  rw [<- decide_eq_true hn];exact IM hS
 refine AE (OK.of (Jt hs hrun x) ?_);refine AE (OK.of rfl ?_);refine AE (OK.of (show BK ⟨"NoRun"⟩=some true from if_pos rfl) ?_);simp only [Bool.not_true,cond_false];have e2:atI ms (k:Int)=some ms[k]:=BM (qsA hkl);refine AE (OK.of e2 ?_)
 have e3:Ix ((ms.map D.str).set k d) (k:Int) (ToD.to ms[k])=some (ms.map D.str):=by
  rw [N6 (by rw [List.length_set,qdA];exact hkl),List.set_set]
  congr 1
  apply List.ext_getElem?;intro i;rw [List.getElem?_set];by_cases e:k=i
  ·subst e;rw [if_pos rfl,qvA,qsA hkl];simp [hkl]
   rfl
  ·rw [if_neg e]
 refine AE (OK.of e3 ?_);rw [tr_good];obtain ⟨L,hL,h0⟩:=Hd hS hn (s:=[]) ⟨by decide,fun x hx=>nomatch hx⟩ hm (by omega);refine AE (OK.of (JI hL h0 x) (AI rfl))
theorem law_true (ns:List Int)(hl:ns.length<=63):Lv ⟨ns⟩=some true:=by
 have hz:sizeLine=16777216:=qhB;refine OK.eq ?_;unfold Lv;simp only [qiB,Ag,AO];refine AE (JT _ _ (by decide) fun x0=>?_);refine FL (lamps_ok x0) fun l ⟨a,b,e,ha,hb,ne⟩=>?_;subst e;obtain ⟨lo,hi,hw⟩:=lw_of ha hb ne;obtain ⟨x1,hx1,_⟩:=JT ⟨ns⟩ 1 (by decide) (P:=fun _=>True) fun _=>trivial;refine AE (OK.of hx1 ?_);refine FL (Lj x1 ha hb) fun S ⟨n,f,hS,hn⟩=>?_;obtain ⟨x2,hx2,_⟩:=JT ⟨ns⟩ 2 (by decide) (P:=fun _=>True) fun _=>trivial;refine AE (OK.of hx2 ?_);refine FL (MO x2 hw) fun ms ⟨hm,h2,h6⟩=>?_;obtain ⟨c1,c2⟩:=cut_hd ms h2;rw [c1,c2];have hs:Ms (ms.take 1):=hm.sub (fun x hx=>List.mem_of_mem_take hx) (by rw [qiA];omega);have hr:Ms (ms.drop 1):=hm.sub (fun x hx=>List.mem_of_mem_drop hx) (by rw [List.length_drop];omega);obtain ⟨due,hdue,hd0⟩:=Hd hS (by omega) hs hr (by rw [List.length_drop];omega)
 have hp:DU (.g S) (.g (ms.take 1,ms.drop 1))=some due:=by
  unfold DU CW;refine OK.eq (AE (OK.of hdue (AI rfl)))
 have ht:Hx (.g S) (.g (ms.take 1,ms.drop 1))=some due[0]:=by
  unfold Hx Eo;refine OK.eq (AE (OK.of (NR hdue hd0) (AI rfl)))
 have hsent:Au (ToD.to (Th.g S))=some true:=by
  rw [<- decide_eq_true (show n<=24 by omega)];exact IM hS
 refine AE (OK.of hp ?_);refine AE (OK.of (if_pos (show ns.length<=sizeLine by omega)) ?_);refine AE (FC (fun i (_:Unit)=>True) trivial (fun i x s hx _=>?_) fun s _=>?_)
 ·refine FL (nos_ok (x / 8) hS ha hb) fun d hd=>?_;refine FL (P:=fun t=>Au (ToD.to t)=some false) (B6 (fun _=>?_) fun _=>AI (LC hd.t hd.b)) fun t ht=>?_
  ·refine FL (Na (x / 8) (l:=[one b]) ha (m:=24) (by decide)) fun S2 ⟨f2,hS2⟩=>AI ?_;exact (IM hS2).trans (congrArg some (decide_eq_false (by decide)))
  refine FL (norun_ok (x / 16) hw hm h2 h6) fun bad hbad=>?_;refine AE (FX (qkB _ (by decide)) (qmB _ (by decide)) fun r _=>?_);refine AE (OK.of (Ml ht x) (AE (OK.of rfl (AE (OK.of (show BL ⟨"NoSentence"⟩=some true from if_pos rfl) ?_)))));simp only [Bool.not_true,cond_false];refine AE (OK.of (Jt hsent (r:=Tr.b bad) hbad (x / 4)) (AE (OK.of rfl (AE (OK.of (show BK ⟨"NoRun"⟩=some true from if_pos rfl) ?_)))));simp only [Bool.not_true,cond_false];exact AI ⟨_,rfl,trivial⟩
 ·refine AE (L6 (n:=2) (by decide) (by decide) (by omega) ?_);refine AE (FC (fun i (_:Unit)=>True) trivial (fun i x s hx _=>?_) fun s _=>?_)
  ·refine AE (OK.of hx1 ?_);refine FL (Na x1 (l:=[one b]) ha (m:=23) (by decide)) fun S2 ⟨f2,hS2⟩=>?_;obtain ⟨L,hL,hL0⟩:=Hd hS2 (by decide) (s:=[]) ⟨by decide,fun x hx=>nomatch hx⟩ hm (by omega);refine AE (OK.of (JI hL hL0 x) ?_);exact AI ⟨_,rfl,trivial⟩
  ·refine AE (OK.of hx2 ?_);refine AE (OK.of (made_ok (x2 / 5) hS (by omega) hw hm h2) ?_);simp only [Bool.not_true,cond_false];refine AE (OK.of ht ?_);refine AE (OK.of (BM (j:=0) (qsA hd0)) ?_);rw [decide_eq_true rfl];simp only [Bool.not_true,cond_false];exact AE (OK.of hp (AI (decide_eq_true rfl)))
theorem law_imp {K:FZ9}{vs:List V}{H:Hp}{Q:VK}{E:XK}(h:Kc K vs H Q E):spM K mm_law vs H Q E:=by
 obtain ⟨a,ns,rfl,hS,hl,q⟩:=h;exact ⟨H,(⟨ns⟩,()),true,Same.refl H,⟨.ref a,[],rfl,⟨a,rfl,hS⟩,rfl⟩,law_true ns hl,fun v G2 H2 x r=>by cases r;exact q H2⟩
set_option maxHeartbeats 1000000 in
theorem all_mk {l:PySem.W.OpenLaw}{w:World}{K:FZ9}{h:Heap}{mg:Str->Option Value}{fa:Addr}(X:K.In h)(G:h.Ns mainGlobals mg)(hfa:mg "law" = some (.ref fa))
  (Z:DIn K mg "is_moment" Ft/\DIn K mg "parts_of" Ey/\DIn K mg "is_lamp" Hw/\DIn K mg "has_form" Gg/\DIn K mg "is_sentence" ET/\DIn K mg "row_number" FF/\DIn K mg "lay" Nf/\DIn K mg "book_of" He/\DIn K mg "denied" Im/\DIn K mg "plain_with_one" DO/\DIn K mg "plain_with_two" DS/\DIn K mg "plain" IN/\DIn K mg "is_moment_list" DL/\DIn K mg "is_run" JP/\DIn K mg "until_column" Dw/\DIn K mg "column_of" Fc/\DIn K mg "columns_of" F2/\DIn K mg "places_true" EZ/\DIn K mg "true_on" Hg/\DIn K mg "_law_cell" Gj/\DIn K mg "_law_lamps" FW/\DIn K mg "_law_sentence" E4/\DIn K mg "_law_moments" Eb/\DIn K mg "_law_no_sentence" DC/\DIn K mg "_law_long" Gi/\DIn K mg "_law_no_moment" Dn/\DIn K mg "_law_no_run" F4/\DIn K mg "_law_asked" Fi/\DIn K mg "_law_of_none" EU/\DIn K mg "_law_no_sentence_told" CI/\DIn K mg "_law_no_run_told" DE/\DIn K mg "_law_made_good" Dh/\DIn K mg "law" s_law)
  {tk0 tk2 tk3:Tok}
  {ga1:Addr}{ges1:Array DictEntry}{gn1:Nat}
  {ga2:Addr}{god2:Option Addr}{gn2:Nat}{gsl2:Array (Option Value)}
  (gv0:qpB K mainGlobals "MOST_WORDS" = some (some (.int 24 tk0)))
  (gv1:qpB K mainGlobals "PARTS" = some (some (.ref ga1))) (gl1:K.lookup ga1=some ⟨.type "dict",none,.dict ges1 gn1,#[]⟩) (gk1:PySem.W.KeysLit w.params ges1.toList) (ge1:EntC ges1.toList BI) (go1:(ga1 == sysModules)=false)
  (gv2:qpB K mainGlobals "YES" = some (some (.ref ga2))) (gl2:K.lookup ga2=some ⟨.type "tuple",god2,.seq #[.str "yes" tk2] gn2,gsl2⟩)
  (gv3:qpB K mainGlobals "MOST_MOMENTS" = some (some (.int 3000 tk3)))
  (zs:Nn K "ValueError" /\ Nn K "all" /\ Nn K "isinstance" /\ Nn K "len" /\ Nn K "list" /\ Nn K "max" /\ Nn K "min" /\ Nn K "range" /\ Nn K "str" /\ Nn K "tuple" /\ Nn K "zip")
  (XX:XC K) :
  ∃ fd:FuncData,(∀ (s:Shared) (v:Value),BindsTo s fd ⟨[v],[]⟩ [("_law_script",v)])/\∀ base:Heap,K.In base->base.Ns mainGlobals mg->FnOk l.prog w K mg base CX0 168 fa fd ["_law_script"] (Kc K):=by
 obtain ⟨z0,z1,z2,z3,z4,z5,z6,z7,z8,z9,z10,z11,z12,z13,z14,z15,z16,z17,z18,z19,z20,z21,z22,z23,z24,z25,z26,z27,z28,z29,z30,z31,z32⟩:=Z;obtain ⟨y0,y1,y2,y3,y4,y5,y6,y7,y8,y9,y10⟩:=zs;obtain ⟨f,fd,a,F⟩:=z32.ex;cases hfa.symm.trans a;have T:Txt w K mg:=⟨PySem.W.mg_none_of X G y0,PySem.W.mg_none_of X G y1,PySem.W.mg_none_of X G y2,PySem.W.mg_none_of X G y3,PySem.W.mg_none_of X G y4,PySem.W.mg_none_of X G y5,PySem.W.mg_none_of X G y6,PySem.W.mg_none_of X G y7,PySem.W.mg_none_of X G y8,PySem.W.mg_none_of X G y9,PySem.W.mg_none_of X G y10,⟨_,qqB X G gv0⟩,⟨_,qqB X G gv1,go1,_,_,gl1,gk1,ge1⟩,⟨_,qqB X G gv2,fun G_=>rel_tup1 gl2 (by decide) G_⟩,⟨_,qqB X G gv3⟩⟩;refine ⟨fd,?_,fun base KB GB=>?_⟩
 ·obtain ⟨_,_,_,_,_,_,_,_,_,rfl,_⟩:=F.ex;exact fun s v=>.of_eq rfl
 obtain ⟨aS,aT,aR,aW,aM,aE,aC,aX,aN,⟨naS,naT,naR,naW,naM,naE,naC,naX,naN⟩,xe,xx,xE,xR⟩:=XX;have OE:OwnCls "NoSentence" aE bmV "ValueError.__new__" mg base:=own_in KB GB naE xe;have OR:OwnCls "NoRun" aR bmV "ValueError.__new__" mg base:=own_in KB GB naR xx;have W:XT K mg aS aT aR aW aM aE aC aX aN:=⟨qqB X G naS,qqB X G naT,qqB X G naR,qqB X G naW,qqB X G naM,qqB X G naE,qqB X G naC,qqB X G naX,qqB X G naN,xE,xR⟩;have Fk:=@Ka l.prog w K mg base z20 T;have EB:=@IH l.prog w K mg base z21 T;have EW:=@Iu l.prog w K mg base z22 T;have Gc:=@M2 l.prog w K mg base z1 T;have Fy:=@Kw l.prog w K mg base z1 T;have Dr:=@Jm l.prog w K mg base z5 T
 have M4:Z_lay l.prog w K mg base:=by
  obtain ⟨f,fd,a,F⟩:=z6.ex
  have D:∀ n:Nat,DefOk l.prog w K mg base "lay" (2+n) ["rows","numbers","sentence"] (spB K (EF Al n)):=fun n=>by
   induction n with
   | zero=>exact JQ F a (F.binds bn3) (ok0_lay F)
   | succ n ih=>exact JQ F a (F.binds bn3) (ok_lay F T Gc Dr n ih)
  exact D 160
 have Ht:=@Mq l.prog w K mg base z7 T M4;have D1:=@LA l.prog w K mg base z0 T;have Hh:=@Mk l.prog w K mg base z2 T D1;have Gf:=@LY l.prog w K mg base z3 T Hh;have EX:=@JZ l.prog w K mg base z4 T Fy Gf;have Ce:=@Gy l.prog w K mg base z12 T D1;have IY:=@OU l.prog w K mg base z13 T Ce;have E5:=@IJ l.prog w K mg base z14 T;have Ff:=@L8 l.prog w K mg base z15 T E5;have FK:=@Js l.prog w K mg base z16 T Ff;have CM:=@Oe l.prog w K mg base z8 T;have DR:=@HA l.prog w K mg base z10 T CM;have DQ:=@HG l.prog w K mg base z9 T CM
 have FD:Nu l.prog w K mg base:=by
  obtain ⟨f,fd,a,F⟩:=z11.ex
  have D:∀ n:Nat,DefOk l.prog w K mg base "plain" (3+n) ["sentence"] (spM K (DA n)):=fun n=>by
   induction n with
   | zero=>exact JQ F a (F.binds bn1) (O8 F)
   | succ n ih=>exact JQ F a (F.binds bn1) (ok_plain F T DR DQ n ih)
  exact D 26
 have Bj:=@J0 l.prog w K mg base z17 T _ OE _ OR Ht EX IY FK FD;have DY:=KR Bj;have Ct:=@Lb l.prog w K mg base z19 T;have D7:=@Gb l.prog w K mg base z23 T;have Bw:=@Hu l.prog w K mg base z25 T;have F8:=@Jn l.prog w K mg base z26 T Bw;have CN:=@Ir l.prog w K mg base z28 T _ _ _ _ _ _ _ _ _ W;have BW:=@Ge l.prog w K mg base z30 T _ _ _ _ _ _ _ _ _ W CN;have Dv:=@Mo l.prog w K mg base z18 T Bj;have HX:=true_on0 Dv;have C1:=@Kl l.prog w K mg base z27 T _ _ _ _ _ _ _ _ _ W Bj Dv;have Df:=@Hl l.prog w K mg base z31 T Bw BW C1;have FG:=@Lx l.prog w K mg base z24 T;have CJ:=@Ef l.prog w K mg base z29 T _ _ _ _ _ _ _ _ _ W CN;exact (ok_law F T Fk EB EW DY Ct D7 F8 Df HX FG CJ BW C1).imp fun _ _ _ _ h=>law_imp h
theorem walk {l:PySem.W.OpenLaw}{q:Program}{loose:List Str}{XP:(Str->Option Value)->Heap->Prop}{YP:World->Heap->Prop}{d:DefRec}{K:Params->FZ9}(hn:l.most=some 63)(hdf:d.params.defaults=[])
  (hY:∀ (w:World) (h:Heap),YP w h->(K w.params).In h)
  (F:∀ (w:World) (mg:Str->Option Value) (fa:Addr) (h:Heap),(K w.params).In h->h.Ns mainGlobals mg->mg d.name=some (.ref fa) ->
   ∃ fd:FuncData,(∀ (s:Shared) (u:Value),BindsTo s fd ⟨[u],[]⟩ [("_law_script",u)])/\∀ base:Heap,(K w.params).In base->base.Ns mainGlobals mg->FnOk l.prog w (K w.params) mg base CX0 168 fa fd ["_law_script"] (Kc (K w.params))) :
  PySem.W.WalkO q loose XP YP l.row.toRowW d [] (fun f vs=>PySem.call f vs) :=
 L2.walk_of (n:=63) (k:=168) (x := "_law_script") (CX:=fun _=>CX0) (sp:=fun w=>Kc (K w.params)) hn (by decide) hdf ⟨rfl,by decide,by decide⟩ hY F (fun _ _ a ns hl _ hS=>⟨a,ns,rfl,hS,hl,fun _=>rfl⟩) fun _ _ _ _ _ z=>z
end My
open PySem PySem.W PyProof.Rows
theorem PySem.W.Fast.tw10481031956795955243:True:=trivial
theorem PySem.W.Fast.tw4779558177911203880:True:=trivial
theorem PySem.W.Fast.tw10810130737480091437:True:=trivial
theorem PySem.W.Fast.tw13939371756421357684:True:=trivial
theorem PySem.W.Fast.tw15941105690819241936:True:=trivial
theorem PySem.W.Fast.tw1282934081157184905:True:=trivial
theorem PySem.W.Fast.tw14006900995835453487:True:=trivial
theorem PySem.W.Fast.tw17204444183926099013:True:=trivial
theorem PySem.W.Fast.tw2791745986306991155:True:=trivial
theorem PySem.W.Fast.tw7286376973899557408:True:=trivial
theorem PySem.W.Fast.tw16529741055614839425:True:=trivial
theorem PySem.W.Fast.tw3670402434091455575:True:=trivial
theorem PySem.W.Fast.tw401333046621215210:True:=trivial
theorem PySem.W.Fast.tw12812323614125189570:True:=trivial
theorem PySem.W.Fast.tw7911529054825554982:True:=trivial
theorem PySem.W.Fast.tw12777136110651697897:True:=trivial
theorem PySem.W.Fast.tw2630755064077196173:True:=trivial
theorem PySem.W.Fast.tw7404146667494230609:True:=trivial
theorem PySem.W.Fast.tw18394166148186032713:True:=trivial
theorem PySem.W.Fast.tw12317981480080756393:True:=trivial
theorem PySem.W.Fast.tw1313858855557986545:True:=trivial
theorem PySem.W.Fast.tw16618258514171885803:True:=trivial
theorem PySem.W.Fast.tw6735796282558829744:True:=trivial
theorem PySem.W.Fast.tw16658311376883479432:True:=trivial
theorem PySem.W.Fast.tw3854529642586277408:True:=trivial
theorem PySem.W.Fast.tw18256304563149990520:True:=trivial
theorem PySem.W.Fast.tw6834246783376000770:True:=trivial
theorem PySem.W.Fast.tw4132159762336917947:True:=trivial
theorem PySem.W.Fast.tw11347744747472970412:True:=trivial
theorem PySem.W.Fast.tw10677617026668306917:True:=trivial
theorem PySem.W.Fast.tw5832492612968549865:True:=trivial
theorem PySem.W.Fast.tw9788206573799856727:True:=trivial
theorem PySem.W.Fast.tw10276207455168764729:True:=trivial
theorem PySem.W.Fast.tw12920908606647933951:True:=trivial
theorem PySem.W.Fast.tw13049215819788353429:True:=trivial
theorem PySem.W.Fast.tw7533818097958016981:True:=trivial
theorem PySem.W.Fast.tw10923126076461375505:True:=trivial
theorem PySem.W.Fast.tw2340512233792192073:True:=trivial
theorem PySem.W.Fast.tw4866397656795014868:True:=trivial
theorem PySem.W.Fast.tw5398422423010251932:True:=trivial
theorem PySem.W.Fast.tw8777679616320156078:True:=trivial
theorem PySem.W.Fast.tw5890147318804015604:True:=trivial
theorem PySem.W.Fast.tw10304705905126571887:True:=trivial
theorem PySem.W.Fast.tw15968428589252941814:True:=trivial
theorem PySem.W.Fast.tw14327638274431812150:True:=trivial
theorem PySem.W.Fast.tw8073892803345387882:True:=trivial
theorem PySem.W.Fast.tw10030568297872841781:True:=trivial
set_option maxRecDepth 100000 in
set_option maxHeartbeats 0 in
theorem PySem.Challenge.cw_lassoscribe_k25_no_sentence_no_run_holds : PySem.Challenge.rw_lassoscribe_k25_no_sentence_no_run.Holds := by
 w_on; o_law; k_head; (case hw => w_witness2)
 k_fill
 refine My.walk (l := PySem.Challenge.rw_lassoscribe_k25_no_sentence_no_run) rfl rfl (fun w h Y => PySem.W.kIn_of Y) ?F
 case F =>
  intro w mg fa h KX G hmg;refine' My.all_mk KX G hmg ?zz ?gv0 ?gv1 ?gl1 ?gk1 ?ge1 ?go1 ?gv2 ?gl2 ?gv3 ?zy ?xx
  (case zz =>
   refine ⟨?_, ?_, ?_, ?_, ?_, ?_, ?_, ?_, ?_, ?_, ?_, ?_, ?_, ?_, ?_, ?_, ?_, ?_, ?_, ?_, ?_, ?_, ?_, ?_, ?_, ?_, ?_, ?_, ?_, ?_, ?_, ?_, ?_⟩
   all_goals (refine' L2.din KX G ?a ?l ?c ?k; (case a => k_is); (case l => k_is); (case c => k_is); (case k => k_is)))
  (case gv0 => k_is)
  (case gv1 => k_is)
  (case gl1 => k_is)
  (case gk1 => k_keys)
  (case ge1 => (repeat (first | exact True.intro | refine And.intro ⟨_, _, rfl, rfl⟩ ?_)))
  (case go1 => decide)
  (case gv2 => k_is)
  (case gl2 => k_is)
  (case gv3 => k_is)
  (case zy => refine ⟨?_, ?_, ?_, ?_, ?_, ?_, ?_, ?_, ?_, ?_, ?_⟩ <;> (unfold L2.Nn; k_is))
  (case xx =>
   refine' My.xc_mk ?n1 ?n2 ?n3 ?n4 ?n5 ?n6 ?n7 ?n8 ?n9 ?xe ?xz ?c1 ?c2 ?c3 ?c4 ?c5 ?c6 ?c7 ?c8 ?xm ?k1 ?k2 ?k3 ?k4 ?k5 ?k6 ?k7 ?k8 ?k9 ?d1 ?d2 ?d3 ?d4 ?d5 ?d6 ?d7 ?d8 ?ym ?l1 ?l2 ?l3 ?l4 ?l5 ?l6 ?l7 ?l8 ?l9
   (case n1 => k_is)
   (case n2 => k_is)
   (case n3 => k_is)
   (case n4 => k_is)
   (case n5 => k_is)
   (case n6 => k_is)
   (case n7 => k_is)
   (case n8 => k_is)
   (case n9 => k_is)
   (case xe => k_exc)
   (case xz => k_exc)
   (case c1 => k_is)
   (case c2 => k_is)
   (case c3 => k_is)
   (case c4 => k_is)
   (case c5 => k_is)
   (case c6 => k_is)
   (case c7 => k_is)
   (case c8 => k_is)
   (case xm => kts_exm)
   (case k1 => kit_is)
   (case k2 => kit_is)
   (case k3 => kit_is)
   (case k4 => kit_is)
   (case k5 => kit_is)
   (case k6 => kit_is)
   (case k7 => kit_is)
   (case k8 => kit_is)
   (case k9 => kit_is)
   (case d1 => k_is)
   (case d2 => k_is)
   (case d3 => k_is)
   (case d4 => k_is)
   (case d5 => k_is)
   (case d6 => k_is)
   (case d7 => k_is)
   (case d8 => k_is)
   (case ym => kts_exm)
   (case l1 => kit_is)
   (case l2 => kit_is)
   (case l3 => kit_is)
   (case l4 => kit_is)
   (case l5 => kit_is)
   (case l6 => kit_is)
   (case l7 => kit_is)
   (case l8 => kit_is)
   (case l9 => kit_is))
end
