import PyProof.Rows.All
import Wide.All
import OpenK.AllK
import Wide.FinOn
import Lean
import PyProof.EqAt
import PyProof.EqKinds
import PyProof.TupleCall
import PyProof.NeKinds
import PyProof.EnumFor
import PyProof.EnumMake
import PyProof.Rows.EnumRows
import PyProof.Rows.Range3
import PyProof.NoPylong
import PyProof.ListRange
import PyProof.TupleOfSeq
import PyProof.TupleOfStr
import PyProof.Draws
import PyProof.ZipIter
import PyProof.Rows.ZipGen
import PyProof.Rows.SortStr
import PyProof.Rows.TupAdd
import PyProof.SetRoads
import PyProof.Rows.SetFrom
import PyProof.StrWalks
import PyProof.CollectWalk
import KE.KDictList
import PyProof.Tail
import PyProof.TupleIter
import PyProof.AttrMiss
import KE.KDictOf
import OpenK.KTop
import PyProof.Rows.SortRev
import PyProof.Rows.CallKwBuiltin
import PyProof.Rows.CallKw2
import KE.KRevIter
import PyProof.SumWalkG
import Wide.Seal
import PyProof.AttrMissHeap
import PyProof.TupleKey
import PyProof.StrCalls2
import PyProof.Rows.StrKeys3
import PyProof.Conv_int
import PyProof.ExcBaseAll.ValueError
import KE.KTryMore
import PyProof.ExcArgsOwn
import KE.KIsAll
import KE.RegKTryMore
import KE.RegKIsAll
import PyProof.ToksMono
import PyProof.StrReplace2
import PySem.Challenge.RW_lassoscribe_k44_watchers_refused
open Option renaming bind_eq_some_iff → qaA, map_eq_some_iff → qjB, bind_assoc → qqB
open PySem renaming wpAny_bind → qbA, wpAny_pure → qcA, wpAny_rule → qdA, wpAny_holding → qeA, sizeLine_eq → qpB, builtinLookup_eq_fast → qwB, wpAny_call_entry → qhC, wpAny_setState_of → qiC
open List renaming length_map → qfA, length_append → qgA, length_cons → qhA, length_singleton → qiA, length_range → qjA, length_take → qkA, mem_append → qmA, mem_cons → qnA, mem_map → qoA, mem_filter → qpA, mem_singleton → qqA, mem_cons_self → qrA, mem_cons_of_mem → qsA, mem_range → qtA, mem_of_getElem? → quA, getElem?_eq_some_iff → qvA, getElem?_eq_getElem → qwA, getElem?_append_left → qxA, getElem?_eq_none → qyA, getElem?_map → qzA, getD_eq_getElem?_getD → qaB, map_cons → qbB, map_append → qcB, append_assoc → qdB, append_nil → qeB, nodup_append → qfB, size_toArray → qvB, not_mem_nil → qeC, mem_append_right → qgC, foldl_cons → qjC
open Nat renaming le_refl → qgB, le_trans → qhB, lt_irrefl → qiB, ne_of_lt → qdC, lt_of_lt_of_le → qfC, zero_le → qkC, ne_of_gt → qmC
open Option.some renaming inj → qkB
open PySem.Heap renaming lt_size → qmB, get?_push_of_some → qnB, get?_push_size → qoB
open Int renaming toNat_natCast → qrB, emod_nonneg → qsB, emod_lt_of_pos → qtB
open Bool renaming false_ne_true → quB, and_eq_true → qnC
open PySem.W renaming nsIn → qxB, mg_of → qyB, keepIn → qzB, fnOf → qaC
open List.cons renaming inj → qbC
open Array renaming length_toList → qcC
noncomputable section
set_option Elab.async false
set_option linter.all false
set_option maxRecDepth 100000
set_option maxHeartbeats 4000000
local macro_rules
 | `(tactic| clear $n:num $rs*) => do
  let i := fun (n : Lean.Name) => Lean.mkIdent n
  match n.getNat with
  | 7 => let l := #[`G1, `s1, `c, `hc, `H, `sH, `Q, `k].map i; `(tactic| intro $l:ident*)
  | 8 => `(tactic| refine $(rs[0]!) $(i `G1) $(i `s1) $(rs[1]!) $(rs[2]!) $(i `H) $(i `sH) _ fun $(i `v) $(i `G2) $(i `H2) $(i `x2) $(i `r2) => ?_)
  | _ => Lean.Macro.throwUnsupported
theorem bE {α β : Type} {o : Option α} {f : α -> Option β} {b : β} {C : Prop} (h : o.bind f = some b) (k : ∀ a, o = some a -> f a = some b -> C) : C := by
 obtain ⟨a, h1, h2⟩ := qaA.mp h;exact k a h1 h2
abbrev FZ9 := PySem.W.Frag
namespace L2
open PySem PySem.Spec PyProof.Rows
abbrev Key:=Sum Int Str
def Cp:Key->Value->Bool
 | .inl k,v=>Value.isInt k v
 | .inr x,v=>Value.isStrOf x v
def Mu (w:World):Key->Int
 | .inl k=>hashInt k
 | .inr x=>hashStr w x
theorem B9:∀ {k:Key}{v:Value},Cp k v=true->(∃ i t,k=Sum.inl i/\v=Value.int i t)\/(∃ x t,k=Sum.inr x/\v=Value.str x t)
 | .inl i,v,h=>by
  obtain ⟨t,e⟩:=Value.isInt_shape (k:=i) (v:=v) h;exact .inl ⟨i,t,rfl,e⟩
 | .inr x,v,h=>by
  obtain ⟨t,e⟩:=Value.isStrOf_shape (x:=x) (v:=v) h;exact .inr ⟨x,t,rfl,e⟩
theorem M6 (i:Int)(t:Tok):Cp (.inl i) (.int i t)=true:=by simp [Cp,Value.isInt]
theorem MK (x:Str)(t:Tok):Cp (.inr x) (.str x t)=true:=by simp [Cp,Value.isStrOf]
theorem key_ll (a b:Int):decide ((Sum.inl a:Key)=Sum.inl b)=(a == b):=by
 by_cases e:a=b
 ·subst e;simp
 ·have h:¬ (Sum.inl a:Key)=Sum.inl b:=fun q=>e (Sum.inl.inj q);rw [decide_eq_false h];exact (beq_eq_false_iff_ne.mpr e).symm
theorem key_rr (a b:Str):decide ((Sum.inr a:Key)=Sum.inr b)=decide (a=b):=by
 by_cases e:a=b
 ·subst e;simp
 ·have h:¬ (Sum.inr a:Key)=Sum.inr b:=fun q=>e (Sum.inr.inj q);rw [decide_eq_false h,decide_eq_false e]
theorem key_lr (a:Int)(b:Str):decide ((Sum.inl a:Key)=Sum.inr b)=false:=decide_eq_false (fun q=>nomatch q)
theorem key_rl (a:Str)(b:Int):decide ((Sum.inr a:Key)=Sum.inl b)=false:=decide_eq_false (fun q=>nomatch q)
def Av (prog:Program)(w:World):PySem.KeyKind prog w Key where
 is:=Cp
 hash:=Mu w
 inj:=fun v a b ha hb=>by
  rcases B9 ha with ⟨i,t,rfl,rfl⟩ | ⟨x,t,rfl,rfl⟩
  ·rcases B9 hb with ⟨j,u,rfl,e⟩ | ⟨y,u,rfl,e⟩
   ·injection e with e1 _;rw [e1]
   ·exact nomatch e
  ·rcases B9 hb with ⟨j,u,rfl,e⟩ | ⟨y,u,rfl,e⟩
   ·exact nomatch e
   ·injection e with e1 _;rw [e1]
 byValue:=fun k v h=>by
  rcases B9 h with ⟨i,t,rfl,rfl⟩ | ⟨x,t,rfl,rfl⟩<;>rfl
 pyHash:=fun hv h=>by
  rcases B9 hv with ⟨i,t,rfl,rfl⟩ | ⟨x,t,rfl,rfl⟩
  ·exact wpAny_pyHash_int h
  ·exact wpAny_pyHash_str h
 eqBool:=fun hu hv h=>by
  rcases B9 hu with ⟨i,t,rfl,rfl⟩ | ⟨x,t,rfl,rfl⟩
  ·rcases B9 hv with ⟨j,u,rfl,rfl⟩ | ⟨y,u,rfl,rfl⟩
   ·rw [key_ll] at h;exact wpAny_eqBool_int h
   ·rw [key_lr] at h;exact SeqAt.EqAt.int_str i t y u _ _ _ _ h
  ·rcases B9 hv with ⟨j,u,rfl,rfl⟩ | ⟨y,u,rfl,rfl⟩
   ·rw [key_rl] at h;exact SeqAt.EqAt.str_int x t j u _ _ _ _ h
   ·rw [key_rr] at h;exact wpAny_eqBool_str h
 «strs»:=fun k x t v h=>by
  rcases B9 h with ⟨i,u,rfl,e⟩ | ⟨y,u,rfl,e⟩
  ·exact nomatch e
  ·injection e with e1 _
   subst e1;cases v<;>rfl
theorem Pl (prog:Program)(w:World)(i:Int)(t:Tok):(Av prog w).is (.inl i) (.int i t)=true:=M6 i t
theorem Op (prog:Program)(w:World)(x:Str)(t:Tok):(Av prog w).is (.inr x) (.str x t)=true:=MK x t
inductive V where
 | non|bl (b:Bool)|int (i:Int)|str (x:Str)|byt (b:Array UInt8)|flt (b:UInt64)|ref (a:Addr)|ty (n:String)
 deriving DecidableEq
def RelV:V->Value->Prop
 | .non,u=>u=Value.none
 | .bl b,u=>u=Value.bool b
 | .int i,u=>∃ t,u=Value.int i t
 | .str x,u=>∃ t,u=Value.str x t
 | .byt b,u=>∃ t,u=Value.bytes b t
 | .flt b,u=>∃ t,u=Value.float b t
 | .ref a,u=>u=Value.ref a
 | .ty n,u=>u=Value.type n
abbrev Vals:List V->List Value->Prop:=Paired RelV
theorem Vals.length {xs:List V}{us:List Value}(r:Vals xs us):xs.length=us.length:=Paired.length r
theorem Vals.get:∀ {xs:List V}{us:List Value}{i:Nat}{x:V},Vals xs us->xs[i]? = some x->∃ u,us[i]? = some u/\RelV x u
 | _,_,_,_,.nil,e=>by simp at e
 | _,_,0,_,.cons r _,e=>by simp at e;subst e;exact ⟨_,rfl,r⟩
 | _,_,i+1,x,.cons _ t,e=>by
  obtain ⟨u,h1,h2⟩:=Vals.get (i:=i) (x:=x) t (by simpa using e);exact ⟨u,by simpa using h1,h2⟩
theorem Vals.append:∀ {xs ys:List V}{us ws:List Value},Vals xs us->Vals ys ws->Vals (xs++ys) (us++ws)
 | _,_,_,_,.nil,s=>s
 | _,_,_,_,.cons r t,s=>.cons r (Vals.append t s)
theorem Vals.take:∀ {xs:List V}{us:List Value}(n:Nat),Vals xs us->Vals (xs.take n) (us.take n)
 | _,_,0,_=>.nil
 | _,_,_+1,.nil=>.nil
 | _,_,n+1,.cons r t=>.cons r (Vals.take n t)
theorem Vals.drop:∀ {xs:List V}{us:List Value}(n:Nat),Vals xs us->Vals (xs.drop n) (us.drop n)
 | _,_,0,r=>r
 | _,_,_+1,.nil=>.nil
 | _,_,n+1,.cons _ t=>Vals.drop n t
def RelO:Option V->Option Value->Prop
 | some v,some u=>RelV v u
 | none,none=>True
 | _,_=>False
def KV {κ:Type}:List (κ × V)->List (κ × Value)->Prop:=Paired fun (p:κ × V) (q:κ × Value)=>p.1=q.1/\RelV p.2 q.2
def kV:Key->V
 | .inl i=>.int i
 | .inr x=>.str x
inductive HO where
 | lst (xs:List V)
 | tup (xs:List V)
 | dK (kvs:List (Key × V))|dT (kvs:List (List Key × V))
 | set (S:Int->Bool) (n:Nat)
 | ins (C dx:Addr) (fs:List (Str × V))
 | own (x:Addr)
 | xd (fs:List (Str × V))
 | met (f x:Addr)
 | rng (lo hi:Int)
 | frz (o:Obj) (u:HO)
 | tbl (ps:Array Value)
 | ext (φ:Heap->Prop)
abbrev Hp:=Addr->Option HO
def upd (H:Hp)(a:Addr)(o:HO):Hp:=fun b=>if b=a then some o else H b
theorem AH {H:Hp}{a:Addr}{o:HO}:upd H a o a=some o:=by unfold upd;rw [if_pos rfl]
theorem Ag {H:Hp}{a b:Addr}{o:HO}(h:b≠a):upd H a o b=H b:=by unfold upd;rw [if_neg h]
theorem ne_of {H:Hp}{a b:Addr}{o u:HO}(h:H a=some o)(h':H b=some u)(d:o≠u):a≠b:=by
 intro e;subst e;rw [h] at h';exact d (qkB h')
theorem CH {H:Hp}{a b:Addr}{o:HO}(h:H a=some o)(h':H b=none):a≠b:=by
 intro e;subst e;rw [h] at h';cases h'
section
variable (P:Program)(w:World)
def ObjOk (H:Hp)(h:Heap)(a:Addr):HO->Prop
 | .lst xs=>xs.length<=sizeLine/\∃ (its:List Value) (n:Nat),Vals xs its/\h.get? a=some { cls:=.type "list",data:=.seq its.toArray n }
 | .tup xs=>xs.length<=sizeLine/\∃ its:List Value,Vals xs its/\IsTup h a its.toArray
 | .dK kvs=>kvs.length<=sizeLine/\(a == sysModules)=false/\∃ vs,KV kvs vs/\h.DictOf (Av P w) a vs
 | .dT kvs=>kvs.length<=sizeLine/\(a == sysModules)=false/\∃ xs:List (List Key × Addr × Value),
   Paired (fun (p:List Key × V) (q:List Key × Addr × Value)=>p.1=q.1/\H q.2.1=some (.tup (p.1.map kV))/\RelV p.2 q.2.2) kvs xs /\
   ∃ o es ep,h.get? a=some o/\o.ExactDict/\o.data = .dict es ep/\es.toList=xs.map (entryOfKey (tupleKind (Av P w)))/\(xs.map (·.1)).Nodup
 | .set S n=>h.SetOf (intKind P w) a S n
 | .ins C dx fs=>H dx=some (.own a)/\fs.length<=1000/\dx≠a/\h.get? a=some (PySem.W.instObj C dx) /\
   ∃ mA,h.Ns1 dx mA/\(∀ f,RelO (fs.lookup f) (mA f))/\PySem.Within mA (fs.map (·.1))
 | .own _=>∃ o,h.get? a=some o
 | .xd fs=>∃ mA,h.Ns1 a mA/\∀ f,RelO (fs.lookup f) (mA f)
 | .rng lo hi=>∃ t u v,h.get? a=some { cls:=.type "range",data:=.fields #[.int lo t,.int hi u,.int 1 v] }
 | .frz o u=>h.get? a=some o/\ObjOk H h a u
 | .tbl ps=>h.get? a=some { cls:=.none,data:=.fields ps }
 | .met f x=>h.get? a=some (PySem.W.methodObj (.ref f) (.ref x))
 | .ext φ=>φ h/\(∃ o,h.get? a=some o)/\∀ h1 h2:Heap,φ h1->(∀ o,h1.get? a=some o->h2.get? a=some o)->φ h2
def HOk (H:Hp)(h:Heap):Prop:=∀ a o,H a=some o->ObjOk P w H h a o
end
section
variable {P:Program}{w:World}{H H':Hp}{h h':Heap}{a:Addr}{o:HO}
theorem ObjOk.lt (x:ObjOk P w H h a o):a<h.objs.size:=by
 cases o with
 | lst xs=>obtain ⟨_,_,_,_,e⟩:=x;exact qmB e
 | tup xs=>obtain ⟨_,_,_,p⟩:=x;exact p.lt
 | dK kvs=>obtain ⟨_,_,_,_,o,_,_,e,_⟩:=x;exact qmB e
 | dT kvs=>obtain ⟨_,_,_,_,o,_,_,e,_⟩:=x;exact qmB e
 | set S n=>obtain ⟨o,_,_,_,e,_⟩:=x;exact qmB e
 | ins C dx fs=>obtain ⟨_,_,_,e,_⟩:=x;exact qmB e
 | own y=>obtain ⟨_,e⟩:=x;exact qmB e
 | xd fs=>obtain ⟨_,⟨_,_,_,e,_⟩,_⟩:=x;exact qmB e
 | rng lo hi=>obtain ⟨_,_,_,e⟩:=x;exact qmB e
 | frz ob u=>obtain ⟨e,_⟩:=x;exact qmB e
 | tbl ps=>exact qmB (show h.get? a=some _ from x)
 | met f y=>exact qmB (show h.get? a=some _ from x)
 | ext φ=>obtain ⟨_,⟨_,e⟩,_⟩:=x;exact qmB e
theorem Paired.mapP {α β:Type}{F G:α->β->Prop}:∀ {l₁:List α}{l₂:List β},Paired F l₁ l₂->(∀ a b,F a b->G a b)->Paired G l₁ l₂
 | _,_,.nil,_=>.nil
 | _,_,.cons r t,f=>.cons (f _ _ r) (Paired.mapP t f)
theorem Paired.imp' {α β:Type}{F G:α->β->Prop}(f:∀ a b,F a b->G a b){l₁:List α}{l₂:List β}(r:Paired F l₁ l₂):Paired G l₁ l₂:=Paired.mapP r f
theorem ObjOk.stay (x:ObjOk P w H h a o)(k:∀ b u,(b=a\/H b=some (.own a))->h.get? b=some u->h'.get? b=some u)
  (ho:∀ b,H b=some (.own a)->H' b=some (.own a)) (ht:∀ b xs,H b=some (.tup xs)->H' b=some (.tup xs)):ObjOk P w H' h' a o:=by
 induction o with
 | lst xs=>obtain ⟨z,its,n,r,e⟩:=x;exact ⟨z,its,n,r,k _ _ (.inl rfl) e⟩
 | tup xs=>obtain ⟨z,its,r,ob,e,c⟩:=x;exact ⟨z,its,r,ob,k _ _ (.inl rfl) e,c⟩
 | dK kvs=>obtain ⟨z,y,vs,r,ob,es,ep,e,c⟩:=x;exact ⟨z,y,vs,r,ob,es,ep,k _ _ (.inl rfl) e,c⟩
 | dT kvs =>
  obtain ⟨z,y,xs,r,ob,es,ep,e,c⟩:=x;exact ⟨z,y,xs,Paired.mapP r fun p q z=>⟨z.1,ht _ _ z.2.1,z.2.2⟩,ob,es,ep,k _ _ (.inl rfl) e,c⟩
 | set S n=>obtain ⟨ob,es,ep,t,e,c⟩:=x;exact ⟨ob,es,ep,t,k _ _ (.inl rfl) e,c⟩
 | ins C dx fs =>
  obtain ⟨d,z,ne,e,mA,⟨od,es,ep,e2,c⟩,r⟩:=x;exact ⟨ho _ d,z,ne,k _ _ (.inl rfl) e,mA,⟨od,es,ep,k _ _ (.inr d) e2,c⟩,r⟩
 | own y=>obtain ⟨ob,e⟩:=x;exact ⟨ob,k _ _ (.inl rfl) e⟩
 | xd fs=>obtain ⟨mA,⟨od,es,ep,e,c⟩,r⟩:=x;exact ⟨mA,⟨od,es,ep,k _ _ (.inl rfl) e,c⟩,r⟩
 | rng lo hi=>obtain ⟨t,u,v,e⟩:=x;exact ⟨t,u,v,k _ _ (.inl rfl) e⟩
 | frz ob u ih=>obtain ⟨e,q⟩:=x;exact ⟨k _ _ (.inl rfl) e,ih q⟩
 | tbl ps =>
  have e:h.get? a=some { cls:=.none,data:=.fields ps }:=x;show h'.get? a=some { cls:=.none,data:=.fields ps };exact k a _ (.inl rfl) e
 | met f y =>
  have e:h.get? a=some (PySem.W.methodObj (.ref f) (.ref y)):=x;show h'.get? a=some (PySem.W.methodObj (.ref f) (.ref y));exact k a _ (.inl rfl) e
 | ext φ=>obtain ⟨p,⟨o,e⟩,st⟩:=x;exact ⟨st _ _ p fun o q=>k _ _ (.inl rfl) q,⟨o,k _ _ (.inl rfl) e⟩,st⟩
theorem HOk.lt (x:HOk P w H h)(e:H a=some o):a<h.objs.size:=(x a o e).lt
theorem HOk.fresh (x:HOk P w H h)(e:h.objs.size<=a):H a=none:=by
 cases q:H a with
 | none=>rfl
 | some u=>exact absurd (qfC (x.lt q) e) (qiB _)
theorem HOk.kept (x:HOk P w H h)(k:∀ b u,h.get? b=some u->h'.get? b=some u):HOk P w H h':=fun a o e =>
 (x a o e).stay (fun b u _ q=>k b u q) (fun _ q=>q) fun _ _ q=>q
theorem HOk.laid (x:HOk P w H h)(k:∀ b u,h.get? b=some u->h'.get? b=some u)(hp:h.objs.size<=a)(new:ObjOk P w (upd H a o) h' a o):HOk P w (upd H a o) h':=fun b u e=>by
 have hn:=x.fresh hp;by_cases hb:b=a
 ·subst hb;rw [AH] at e;cases e;exact new
 ·rw [Ag hb] at e;exact (x b u e).stay (fun c v _ q=>k c v q) (fun c q=>by rw [Ag (CH q hn)];exact q) fun c xs q=>by rw [Ag (CH q hn)];exact q
end
def Rd (H:Hp)(a:Addr)(u:HO):Prop:=H a=some u\/∃ o,H a=some (.frz o u)
theorem Rd.ok {P:Program}{w:World}{H:Hp}{h:Heap}{a:Addr}{u:HO}(r:Rd H a u)(x:HOk P w H h):ObjOk P w H h a u:=by
 rcases r with r | ⟨o,r⟩
 ·exact x a u r
 ·obtain ⟨_,q⟩:=x a _ r;exact q
def Mut:Option HO->Prop
 | some (.lst _)=>True
 | some (.dK _)=>True
 | some (.dT _)=>True
 | some (.set _ _)=>True
 | some (.ins _ _ _)=>True
 | some (.ext _)=>True
 | _=>False
section
variable {P:Program}{w:World}{H:Hp}{h h':Heap}{x e:Addr}{o':HO}
theorem HOk.write (ok:HOk P w H h)(mu:Mut (H x))(he:e=x\/H e=some (.own x))(k:∀ b u,b≠e->h.get? b=some u->h'.get? b=some u)(heo:∃ u,h'.get? e=some u)
  (new:ObjOk P w (upd H x o') h' x o'):HOk P w (upd H x o') h':=fun b u q=>by
 have nown:∀ c y,H c=some (.own y)->c≠x:=fun c y r z=>by subst z;rw [r] at mu;exact mu
 have ntup:∀ c xs,H c=some (.tup xs)->c≠x:=fun c xs r z=>by subst z;rw [r] at mu;exact mu
 by_cases hb:b=x
 ·subst hb;rw [AH] at q;cases q;exact new
 ·rw [Ag hb] at q;by_cases hbe:b=e
  ·have q':H b=some (.own x):=by
    rcases he with z|z
    ·exact absurd (hbe.trans z) hb
    ·rw [hbe];exact z
   rw [q] at q';cases q';obtain ⟨v,hv⟩:=heo;exact ⟨v,by rw [hbe];exact hv⟩
  ·refine (ok b u q).stay (fun c v hc r=>k c v ?_ r) (fun c r=>by rw [Ag (nown c b r)];exact r) fun c xs r=>by rw [Ag (ntup c xs r)];exact r
   rcases hc with rfl|hc
   ·exact hbe
   ·rintro rfl;rcases he with z|z
    ·exact nown c b hc z
    ·rw [hc] at z;cases z;exact hb rfl
end
structure Un (fs ex:List Addr)(H H':Hp)(h h':Heap):Prop where
 keep:∀ b o,h.get? b=some o->H b=none->b ∉ fs->b ∉ ex->h'.get? b=some o
 slot:∀ b o,h.get? b=some o->H b=none->b∈fs->b ∉ ex->∃ sl,h'.get? b=some { o with slots:=sl }
 free:∀ b o,h.get? b=some o->H b=none->b ∉ ex->H' b=none
 there:∀ b o,h.get? b=some o->b ∉ ex->∃ o',h'.get? b=some o'
 tups:∀ b xs,H b=some (.tup xs)->H' b=some (.tup xs)
 frzs:∀ b o u,H b=some (.frz o u)->H' b=some (.frz o u)
 tbls:∀ b ps,H b=some (.tbl ps)->∃ more,H' b=some (.tbl (ps++more))
section
variable {fs fs' ex ex':List Addr}{H H1 H2:Hp}{h h1 h2 h':Heap}{a x e:Addr}{o:HO}
theorem Un.any (u:Un fs ex H H1 h h1){b:Addr}{ob:Obj}(q:h.get? b=some ob)(n:H b=none)(hx:b ∉ ex):∃ sl,h1.get? b=some { ob with slots:=sl }:=by
 by_cases hb:b∈fs
 ·exact u.slot b ob q n hb hx
 ·exact ⟨ob.slots,u.keep b ob q n hb hx⟩
theorem Un.kept (k:∀ b u,h.get? b=some u->h'.get? b=some u):Un fs ex H H h h' :=
 ⟨fun b ob q _ _ _=>k b ob q,fun b ob q _ _ _=>⟨ob.slots,k b ob q⟩,fun _ _ _ n _=>n,fun b ob q _=>⟨ob,k b ob q⟩,fun _ _ q=>q,fun _ _ _ q=>q,fun _ ps q=>⟨#[],by rw [q];simp⟩⟩
theorem Un.refl:Un fs ex H H h h:=Un.kept fun _ _ q=>q
theorem Un.laid (k:∀ b u,h.get? b=some u->h'.get? b=some u)(hp:h.objs.size<=a)(hn:H a=none):Un fs ex H (upd H a o) h h' where
 keep:=fun b u q _ _ _=>k b u q
 slot:=fun b u q _ _ _=>⟨u.slots,k b u q⟩
 free:=fun b u q n _=>by rw [Ag (qdC (qfC (qmB q) hp))];exact n
 there:=fun b u q _=>⟨u,k b u q⟩
 tups:=fun b xs q=>by rw [Ag (CH q hn)];exact q
 frzs:=fun b u xs q=>by rw [Ag (CH q hn)];exact q
 tbls:=fun b ps q=>⟨#[],by rw [Ag (CH q hn),q];simp⟩
theorem Un.write (mu:Mut (H x))(he:e=x\/H e=some (.own x))(k:∀ b u,b≠e->h.get? b=some u->h'.get? b=some u)(heo:∃ u,h'.get? e=some u):Un fs ex H (upd H x o) h h':=by
 have hx:∀ b,H b=none->b≠x:=fun b n z=>by subst z;rw [n] at mu;exact mu
 have hb:∀ b,H b=none->b≠e:=fun b n z=>by
  subst z;rcases he with r|r
  ·exact hx b n r
  ·rw [n] at r;cases r
 have hm:∀ b u,H b=some u->¬ Mut (some u)->b≠x:=fun b u q nm z=>by subst z;rw [q] at mu;exact nm mu
 refine ⟨fun b u q n _ _=>k b u (hb b n) q,fun b u q n _ _=>⟨u.slots,k b u (hb b n) q⟩,fun b u q n _=>by rw [Ag (hx b n)];exact n,fun b u q _=>?_,
  fun b xs q=>by rw [Ag (hm b _ q fun z=>z)];exact q,fun b u xs q=>by rw [Ag (hm b _ q fun z=>z)];exact q,fun b ps q=>⟨#[],by rw [Ag (hm b _ q fun z=>z),q];simp⟩⟩
 by_cases hbe:b=e
 ·subst hbe;exact heo
 ·exact ⟨u,k b u hbe q⟩
end
def trk (h:Heap)(H:Hp):List Addr:=(List.range h.objs.size).filter fun a=>(H a).isSome
def Np (h:Heap)(H:Hp):Heap:=PySem.W.hideAll h (trk h H)
theorem TD (h:Heap)(H:Hp):(Np h H).objs.size=h.objs.size:=PySem.W.hideAll_size _ _
theorem hidT_get {h:Heap}{H:Hp}{b:Addr}{o:Obj}(e:h.get? b=some o)(n:H b=none):(Np h H).get? b=some o :=
 PySem.W.hideAll_get _ e fun hm=>by
  have q:(H b).isSome=true:=(qpA.mp hm).2;rw [n] at q;simp at q
theorem of_hidT {h:Heap}{H:Hp}{b:Addr}{o:Obj}(e:(Np h H).get? b=some o):h.get? b=some o/\H b=none:=by
 have e':h.get? b=some o:=PySem.W.of_hideAll (trk h H) e;refine ⟨e',?_⟩
 cases q:H b with
 | none=>rfl
 | some x =>
  have hm:b∈trk h H:=qpA.mpr ⟨qtA.mpr (qmB e'),by simp [q]⟩;have z:(Np h H).get? b=none:=PySem.W.hideAll_none (trk h H) hm;rw [z] at e;cases e
structure Mod (K:FZ9)(mg:Str->Option Value)(base:Heap):Prop where
 kin:K.In base
 glob:base.Ns mainGlobals mg
 blt:∃ mb,base.Ns builtinsNs mb/\∀ x:Str,x ≠ "__name__" -> mb x=bootBuiltins x
 nolimit:base.NoLimit
structure Cx where
 prog:Program
 w:World
 K:FZ9
 mg:Str->Option Value
 base:Heap
 A:Around
 N:List Str
 s₀:Shared
 H₀:Hp
 env:Env
 outer:List Env
 stack:List Env
 ex:List Addr
 fn:Str->Bool
 calm:Bool
 pn:List (Addr × Obj)
 xe:Value->Shared->Prop
def frs (l:List Env):List Addr:=l.filterMap (·.frame)
abbrev Cx.fs (X:Cx):List Addr:=frs X.outer
def Vis (sc:Scope)(x:Str):Prop:=sc.names.lookup x=some .local \/ sc.names.lookup x=some .cell\/sc.names.lookup x=some .free
def Loc (sc:Scope)(x:Str):Prop:=sc.names.lookup x=some .local \/ sc.names.lookup x=some .cell
def Look (env:Env)(h:Heap)(m:Str->Option Value)(x:Str)(u:Value):Prop :=
 (env.kindOf x=some .local /\ m x=some u)\/((env.kindOf x=some .cell\/env.kindOf x=some .free)/\∃ c,env.cells.lookup x=some c/\h.IsCell c (some u))
structure Cx.Ok (X:Cx):Prop where
 mod:Mod X.K X.mg X.base
 kind:X.env.scope.kind = .function
 glob:X.env.globals=mainGlobals
 blt:X.env.builtins=builtinsNs
 above:X.s₀.heap.objs.size<=X.env.locals
 inj:∀ x y c,X.env.cells.lookup x=some c->X.env.cells.lookup y=some c->x=y
 has:∀ x,(X.env.kindOf x=some .cell\/X.env.kindOf x=some .free)->∃ c,X.env.cells.lookup x=some c
 cab:∀ x c,X.fn x=true->X.env.cells.lookup x=some c->X.s₀.heap.objs.size<=c
 hd:X.calm=true->X.A.handled=none
 frames:X.A.frames=some X.stack
 stk:X.stack=X.outer\/(X.stack=X.env::X.outer/\X.env.frame=some X.env.locals)
 exf:∀ b∈X.ex,b≠X.env.locals/\∀ x c,X.env.cells.lookup x=some c->c≠b
 bs:∀ b o,X.base.get? b=some o->X.s₀.heap.get? b=some o/\X.H₀ b=none
 bsz:X.base.objs.size<=X.s₀.heap.objs.size
 noex:∀ b o,X.base.get? b=some o->b ∉ X.ex
 exfs:∀ b∈X.ex,b ∉ X.fs
 funs:X.s₀.heap.FunFrames X.base X.outer
 frf:∀ b∈X.fs,X.H₀ b=none
structure Inv (X:Cx)(pins:List (Addr × Obj))(σ:List (Option V))(H:Hp)(s:Shared):Prop where
 ok:X.Ok
 os:s.os=X.s₀.os
 bare:AllBare s.gens
 base:Un X.fs X.ex X.H₀ H X.s₀.heap s.heap
 loc:∃ m,s.heap.Ns X.env.locals m/\∀ (i:Nat) (x:Str) (v:V),X.N[i]? = some x->σ[i]? = some (some v)->Vis X.env.scope x->∃ u,RelV v u/\Look X.env s.heap m x u
 cell:∀ x c,X.env.cells.lookup x=some c->∃ v,s.heap.IsCell c v
 free:H X.env.locals=none
 freeC:∀ x c,X.env.cells.lookup x=some c->H c=none
 pin:∀ p∈X.pn++pins,s.heap.get? p.1=some p.2/\H p.1=none/\p.1≠X.env.locals/\p.1 ∉ X.fs/\∀ v,p.2.data ≠ .cell v
 hok:HOk X.prog X.w H s.heap
 len:σ.length=X.N.length
section
variable {X:Cx}{pins:List (Addr × Obj)}{σ:List (Option V)}{H H':Hp}{s:Shared}{h':Heap}
theorem Cx.Ok.nofr (ok:X.Ok){b:Addr}{o:Obj}(e:X.base.get? b=some o):b ∉ X.fs:=fun hb=>by
 have:=(ok.funs.mem hb).1;rw [e] at this;cases this
theorem Inv.bs (I:Inv X pins σ H s):∀ b o,X.base.get? b=some o->s.heap.get? b=some o/\H b=none:=fun b o e =>
 ⟨I.base.keep b o (I.ok.bs b o e).1 (I.ok.bs b o e).2 (I.ok.nofr e) (I.ok.noex b o e),I.base.free b o (I.ok.bs b o e).1 (I.ok.bs b o e).2 (I.ok.noex b o e)⟩
theorem Inv.bk (I:Inv X pins σ H s):∀ b o,X.base.get? b=some o->s.heap.get? b=some o:=fun b o e=>(I.bs b o e).1
theorem Inv.mod (I:Inv X pins σ H s):Mod X.K X.mg X.base:=I.ok.mod
theorem Inv.kIn (I:Inv X pins σ H s):X.K.In s.heap:=I.ok.mod.kin.keeps I.bk
theorem Inv.lt (I:Inv X pins σ H s):X.env.locals<s.heap.objs.size:=let ⟨_,hn,_⟩:=I.loc;hn.lt
theorem Inv.sz (I:Inv X pins σ H s):X.s₀.heap.objs.size<=s.heap.objs.size:=qhB I.ok.above (Nat.le_of_lt I.lt)
theorem Inv.nofs (I:Inv X pins σ H s){a:Addr}(h:s.heap.objs.size<=a):a ∉ X.fs:=fun hb=>by
 obtain ⟨_,o,ho,_⟩:=I.ok.funs.mem hb;exact absurd (qfC (qmB ho) (qhB I.sz h)) (qiB _)
theorem Inv.cne (I:Inv X pins σ H s):∀ x c,X.env.cells.lookup x=some c->c≠X.env.locals:=fun x c e z=>by
 obtain ⟨v,o,ho,hd⟩:=I.cell x c e;obtain ⟨m,⟨o',es,ep,ho',hd',_⟩,_⟩:=I.loc;rw [z,ho'] at ho;cases ho;rw [hd'] at hd;cases hd
theorem Inv.funs (I:Inv X pins σ H s):s.heap.FunFrames X.base X.outer:=by
 have all:∀ (l:List Env),(∀ b∈frs l,b∈X.fs)->X.s₀.heap.FunFrames X.base l->s.heap.FunFrames X.base l:=by
  intro l
  induction l with
  | nil=>intro _ _;trivial
  | cons env r ih =>
   intro hs hl;obtain ⟨hk,⟨L,o,hf,hn,ho,hd⟩,hr⟩:=hl;have hL:L∈X.fs:=hs L (by unfold frs;rw [List.filterMap_cons,hf];exact qrA);obtain ⟨sl,e⟩:=I.base.slot L o ho (I.ok.frf L hL) hL fun z=>I.ok.exfs L z hL;exact ⟨hk,⟨L,_,hf,hn,e,hd⟩,ih (fun b hb=>hs b (by unfold frs;rw [List.filterMap_cons,hf];exact qsA _ hb)) hr⟩
 exact all X.outer (fun _ hb=>hb) I.ok.funs
theorem Inv.stack (I:Inv X pins σ H s):s.heap.FunFrames X.base X.stack:=by
 rcases I.ok.stk with e | ⟨e,hf⟩
 ·rw [e];exact I.funs
 ·rw [e];obtain ⟨m,hn,_⟩:=I.loc;refine .cons (by rw [I.ok.kind];decide) hf hn ?_ I.funs;exact Heap.get?_none_of_le (qhB I.ok.bsz I.ok.above)
theorem Inv.stkSub (I:Inv X pins σ H s):∀ b∈frs X.stack,b∈X.env.locals::X.fs:=fun b hb=>by
 rcases I.ok.stk with e | ⟨e,hf⟩
 ·rw [e] at hb;exact qsA _ hb
 ·rw [e] at hb;unfold frs at hb;rw [List.filterMap_cons,hf] at hb;exact hb
theorem Inv.stkFree (I:Inv X pins σ H s):∀ b∈frs X.stack,H b=none:=fun b hb=>by
 rcases qnA.mp (I.stkSub b hb) with e|hb
 ·rw [e];exact I.free
 ·obtain ⟨_,o,ho,_⟩:=I.ok.funs.mem hb;exact I.base.free b o ho (I.ok.frf b hb) fun z=>I.ok.exfs b z hb
theorem Inv.step {g':Array GenState}{t':Nat}{d':Drawn}{ch:List Addr}(I:Inv X pins σ H s)
  (hch:∀ b∈ch,(b∈X.ex\/X.s₀.heap.objs.size<=b)/\b≠X.env.locals/\(∀ x c,X.env.cells.lookup x=some c->c≠b)/\∀ p∈X.pn++pins,p.1≠b)
  (keep:∀ b o,b≠X.env.locals->b ∉ X.fs->b ∉ ch->s.heap.get? b=some o->H b=none->h'.get? b=some o)
  (slot:∀ b o,b≠X.env.locals->b∈X.fs->b ∉ ch->s.heap.get? b=some o->H b=none->∃ sl,h'.get? b=some { o with slots:=sl }) (free:∀ b o,b ∉ ch->s.heap.get? b=some o->H b=none->H' b=none)
  (there:∀ b o,b ∉ ch->s.heap.get? b=some o->∃ o',h'.get? b=some o')
  (tups:∀ b xs,H b=some (.tup xs)->H' b=some (.tup xs)) (frzs:∀ b o u,H b=some (.frz o u)->H' b=some (.frz o u)) (tbls:∀ b ps,H b=some (.tbl ps)->∃ more,H' b=some (.tbl (ps++more)))
  (ns:∀ m,s.heap.Ns X.env.locals m->h'.Ns X.env.locals m) (hok:HOk X.prog X.w H' h') (hg:AllBare g') :
  Inv X pins σ H' { s with heap:=h',gens:=g',drawn:=d',toks:=t' }:=by
 have neL:∀ b o,X.s₀.heap.get? b=some o->b≠X.env.locals:=fun b o e=>qdC (qfC (qmB e) I.ok.above)
 have neC:∀ b o,X.s₀.heap.get? b=some o->b ∉ X.ex->b ∉ ch:=fun b o e hx hb=>by
  rcases (hch b hb).1 with z|z
  ·exact hx z
  ·exact absurd (qfC (qmB e) z) (qiB _)
 have cellK:∀ x c,X.env.cells.lookup x=some c->∀ v,s.heap.IsCell c v->h'.IsCell c v:=fun x c e v ⟨o,ho,hd⟩=>by
  have nch:c ∉ ch:=fun z=>(hch c z).2.2.1 x c e rfl;by_cases hc:c∈X.fs
  ·obtain ⟨sl,q⟩:=slot c o (I.cne x c e) hc nch ho (I.freeC x c e);exact ⟨_,q,hd⟩
  ·exact ⟨o,keep c o (I.cne x c e) hc nch ho (I.freeC x c e),hd⟩
 refine ⟨I.ok,I.os,hg,⟨fun b o e n hb hx=>?_,fun b o e n hb hx=>?_,fun b o e n hx=>?_,fun b o e hx=>?_,fun b xs e=>tups b xs (I.base.tups b xs e),fun b o xs e=>frzs b o xs (I.base.frzs b o xs e),fun b ps e=>?_⟩,?_,fun x c e=>?_,?_,fun x c e=>?_,fun p hp=>?_,hok,I.len⟩
 ·exact keep b o (neL b o e) hb (neC b o e hx) (I.base.keep b o e n hb hx) (I.base.free b o e n hx)
 ·obtain ⟨sl,e1⟩:=I.base.slot b o e n hb hx;obtain ⟨sl',e2⟩:=slot b _ (neL b o e) hb (neC b o e hx) e1 (I.base.free b o e n hx);exact ⟨sl',e2⟩
 ·obtain ⟨o',e1⟩:=I.base.there b o e hx;exact free b o' (neC b o e hx) e1 (I.base.free b o e n hx)
 ·obtain ⟨o',e1⟩:=I.base.there b o e hx;exact there b o' (neC b o e hx) e1
 ·obtain ⟨m1,e1⟩:=I.base.tbls b ps e;obtain ⟨m2,e2⟩:=tbls b _ e1;exact ⟨m1++m2,by rw [e2,Array.append_assoc]⟩
 ·obtain ⟨m,hn,hl⟩:=I.loc;refine ⟨m,ns m hn,fun i x v e1 e2 e3=>?_⟩;obtain ⟨u,r,l⟩:=hl i x v e1 e2 e3;refine ⟨u,r,?_⟩;rcases l with l | ⟨k,c,e,z⟩
  ·exact .inl l
  ·exact .inr ⟨k,c,e,cellK x c e _ z⟩
 ·obtain ⟨v,z⟩:=I.cell x c e;exact ⟨v,cellK x c e v z⟩
 ·obtain ⟨m,⟨o,_,_,ho,_⟩,_⟩:=I.loc;exact free _ o (fun z=>(hch _ z).2.1 rfl) ho I.free
 ·obtain ⟨v,o,ho,hd⟩:=I.cell x c e;exact free c o (fun z=>(hch c z).2.2.1 x c e rfl) ho (I.freeC x c e)
 ·obtain ⟨e,n,ne,nf,d⟩:=I.pin p hp;have nch:p.1 ∉ ch:=fun z=>(hch p.1 z).2.2.2 p hp rfl;exact ⟨keep p.1 p.2 ne nf nch e n,free p.1 p.2 nch e n,ne,nf,d⟩
theorem Inv.un {t':Nat}(I:Inv X pins σ H s)(u:Un X.fs [] H H' s.heap h')(hok:HOk X.prog X.w H' h'):Inv X pins σ H' { s with heap:=h',toks:=t' }:=by
 obtain ⟨m,⟨o,es,ep,ho,r⟩,_⟩:=id I.loc;obtain ⟨sl,hL⟩:=u.any ho I.free (by simp)
 exact I.step (g':=s.gens) (d':=s.drawn) (ch:=[]) (fun _ z=>nomatch z) (fun b o _ hb _ e n=>u.keep b o e n hb (by simp)) (fun b o _ hb _ e n=>u.slot b o e n hb (by simp)) (fun b o _ e n=>u.free b o e n (by simp)) (fun b o _ e=>u.there b o e (by simp)) u.tups u.frzs u.tbls (fun m' hm=>by
  obtain ⟨o',es',ep',ho',r'⟩:=hm;rw [ho] at ho';cases ho'
  exact ⟨_,es',ep',hL,r'⟩) hok I.bare
theorem Inv.call {g':Array GenState}{t':Nat}{d':Drawn}{ch:List Addr}(I:Inv X pins σ H s)(u:Un (frs X.stack) ch H H' s.heap h')(hok:HOk X.prog X.w H' h')(hg:AllBare g')
  (hch:∀ b∈ch,(b∈X.ex\/X.s₀.heap.objs.size<=b)/\b≠X.env.locals/\(∀ x c,X.env.cells.lookup x=some c->c≠b)/\∀ p∈X.pn++pins,p.1≠b) :
  Inv X pins σ H' { s with heap:=h',gens:=g',drawn:=d',toks:=t' }:=by
 obtain ⟨m,⟨o,es,ep,ho,r⟩,_⟩:=id I.loc;obtain ⟨sl,hL⟩:=u.any ho I.free fun z=>(hch _ z).2.1 rfl
 exact I.step (ch:=ch) hch (fun b o hL hb hc e n=>u.keep b o e n (fun z=>(qnA.mp (I.stkSub b z)).elim hL hb) hc) (fun b o _ _ hc e n=>u.any e n hc) (fun b o hc e n=>u.free b o e n hc) (fun b o hc e=>u.there b o e hc) u.tups u.frzs u.tbls (fun m' hm=>by
  obtain ⟨o',es',ep',ho',r'⟩:=hm;rw [ho] at ho';cases ho'
  exact ⟨_,es',ep',hL,r'⟩) hok hg
theorem Inv.turned {t':Nat}{it:Addr}(I:Inv X pins σ H s)(k:∀ b o,b≠it->s.heap.get? b=some o->h'.get? b=some o)(hn:H it=none)(hL:it≠X.env.locals)
  (h1:it∈X.ex\/X.s₀.heap.objs.size<=it) (h2:∀ x c,X.env.cells.lookup x=some c->c≠it) (h3:∀ p∈X.pn++pins,p.1≠it):Inv X pins σ H { s with heap:=h',toks:=t' }:=by
 have nit:∀ b u,H b=some u->b≠it:=fun b u e z=>by rw [z,hn] at e;cases e
 refine I.step (g':=s.gens) (d':=s.drawn) (ch:=[it]) (fun b hb=>?_) (fun b o _ _ hc e _=>k b o (fun z=>hc (by simp [z])) e) (fun b o _ _ hc e _=>⟨o.slots,k b o (fun z=>hc (by simp [z])) e⟩) (fun _ _ _ _ n=>n)
  (fun b o hc e=>⟨o,k b o (fun z=>hc (by simp [z])) e⟩) (fun _ _ e=>e) (fun _ _ _ e=>e) (fun b ps e=>⟨#[],by rw [e];simp⟩) (fun m hm=>?_) (fun b u e=>?_) I.bare
 ·have e:b=it:=by simpa using hb
  subst e;exact ⟨h1,hL,h2,h3⟩
 ·obtain ⟨o,es,ep,ho,r⟩:=hm;exact ⟨o,es,ep,k _ o (Ne.symm hL) ho,r⟩
 ·refine (I.hok b u e).stay (fun c v hc q=>k c v ?_ q) (fun _ q=>q) fun _ _ q=>q;rcases hc with z|z
  ·rw [z];exact nit b u e
  ·exact nit c _ z
theorem Inv.tok (I:Inv X pins σ H s)(t:Nat):Inv X pins σ H { s with toks:=t }:=I.un (h':=s.heap) (t':=t) Un.refl I.hok
theorem Inv.kept {t':Nat}(I:Inv X pins σ H s)(k:∀ b u,s.heap.get? b=some u->h'.get? b=some u):Inv X pins σ H { s with heap:=h',toks:=t' }:=I.un (Un.kept k) (I.hok.kept k)
theorem Inv.laid {a:Addr}{o:HO}{t':Nat}(I:Inv X pins σ H s)(k:∀ b u,s.heap.get? b=some u->h'.get? b=some u)(hp:s.heap.objs.size<=a)(new:ObjOk X.prog X.w (upd H a o) h' a o) :
  Inv X pins σ (upd H a o) { s with heap:=h',toks:=t' }:=I.un (Un.laid k hp (I.hok.fresh hp)) (I.hok.laid k hp new)
theorem Inv.write {x e:Addr}{o:HO}{t':Nat}(I:Inv X pins σ H s)(mu:Mut (H x))(he:e=x\/H e=some (.own x))(k:∀ b u,b≠e->s.heap.get? b=some u->h'.get? b=some u)(heo:∃ u,h'.get? e=some u)
  (new:ObjOk X.prog X.w (upd H x o) h' x o):Inv X pins σ (upd H x o) { s with heap:=h',toks:=t' }:=I.un (Un.write mu he k heo) (I.hok.write mu he k heo new)
theorem Inv.weak {σ':List (Option V)}(I:Inv X pins σ H s)(hl:σ'.length=σ.length)(w:∀ (i:Nat) v,σ'[i]? = some (some v)->σ[i]? = some (some v)):Inv X pins σ' H s :=
 ⟨I.ok,I.os,I.bare,I.base,let ⟨m,hn,hl'⟩:=I.loc;⟨m,hn,fun i x v e1 e2 e3=>hl' i x v e1 (w i v e2) e3⟩,I.cell,I.free,I.freeC,I.pin,I.hok,hl.trans I.len⟩
theorem Inv.pins_of {pins':List (Addr × Obj)}(I:Inv X pins σ H s)(h:∀ p∈pins',s.heap.get? p.1=some p.2/\H p.1=none/\p.1≠X.env.locals/\p.1 ∉ X.fs/\∀ v,p.2.data ≠ .cell v):Inv X pins' σ H s :=
 ⟨I.ok,I.os,I.bare,I.base,I.loc,I.cell,I.free,I.freeC,fun p hp=>(qmA.mp hp).elim (fun z=>I.pin p (List.mem_append_left _ z)) (h p),I.hok,I.len⟩
theorem LA {N:List Str}(hN:N.Nodup){i j:Nat}{x:Str}(a:N[i]? = some x)(b:N[j]? = some x):i=j:=by
 obtain ⟨h1,e1⟩:=qvA.mp a;obtain ⟨h2,e2⟩:=qvA.mp b;exact (List.getElem_inj hN).mp (e1.trans e2.symm)
theorem MQ {M:Model}{A:Around}{E:Value->Shared->Prop}{i:Nat}{x:Str}{v:V}{u:Value}{Q:Unit->Shared->Prop}(I:Inv X pins σ H s)(hN:X.N.Nodup)(hi:X.N[i]? = some x)(hx:Loc X.env.scope x)(r:RelV v u)
  (h:∀ s',Inv X pins (σ.set i (some v)) H s'->(∃ a,Heap.SameBut a s.heap s'.heap/\(a=X.env.locals\/X.env.cells.lookup x=some a))->Q () s') (hf:X.fn x=true\/X.env.scope.names.lookup x=some .local := by first|exact .inl rfl|exact .inr rfl|assumption):wpAny M A (storeName X.env x u) Q E s:=by
 obtain ⟨m,hn,hl⟩:=id I.loc;have hcls:(X.env.scope.kind == .class || (X.env.scope.kind == .module && X.env.locals != X.env.globals))=false:=by rw [I.ok.kind];rfl
 have hiσ:i<σ.length:=by rw [I.len];exact (qvA.mp hi).1
 have cne:=I.cne
 have tracked:∀ {a:Addr}{h':Heap},(∃ o,s.heap.get? a=some o/\H a=none)->Heap.SameBut a s.heap h'->HOk X.prog X.w H h':=fun {a h'} ha hs b ob e=>by
  obtain ⟨_,_,hfree⟩:=ha;refine (I.hok b ob e).stay (fun c w' hc q=>(hs.2 c ?_).trans q) (fun _ q=>q) fun _ _ q=>q;rintro rfl;rcases hc with rfl|hc
  ·rw [hfree] at e;cases e
  ·rw [hfree] at hc;cases hc
 rcases hx with hk|hk
 ·refine wpAny_storeName_local hk hn (fun h' hn' hs=>?_) hcls;obtain ⟨oL,_,_,hoL,_⟩:=id hn;refine h _ ⟨I.ok,I.os,I.bare,⟨fun b o e n hb hx=>?_,fun b o e n hb hx=>?_,I.base.free,fun b o e hx=>?_,I.base.tups,I.base.frzs,I.base.tbls⟩,⟨_,hn',fun j y v' e1 e2 e3=>?_⟩,fun y c e=>?_,I.free,I.freeC,fun p hp=>?_,tracked ⟨oL,hoL,I.free⟩ hs,by simpa using I.len⟩ ⟨_,hs,.inl rfl⟩
  ·exact (hs.2 b (qdC (qfC (qmB e) I.ok.above))).trans (I.base.keep b o e n hb hx)
  ·obtain ⟨sl,e1⟩:=I.base.slot b o e n hb hx;exact ⟨sl,(hs.2 b (qdC (qfC (qmB e) I.ok.above))).trans e1⟩
  ·obtain ⟨o',e1⟩:=I.base.there b o e hx;exact ⟨o',(hs.2 b (qdC (qfC (qmB e) I.ok.above))).trans e1⟩
  ·by_cases hj:j=i
   ·subst hj;rw [hi] at e1;cases e1;rw [List.getElem?_set_self hiσ] at e2;cases e2;exact ⟨u,r,.inl ⟨hk,by simp⟩⟩
   ·rw [List.getElem?_set_ne (Ne.symm hj)] at e2;obtain ⟨u',r',q⟩:=hl j y v' e1 e2 e3;refine ⟨u',r',?_⟩;rcases q with ⟨k,e⟩ | ⟨k,c,e,z⟩
    ·refine .inl ⟨k,?_⟩;have:y≠x:=fun e=>hj (LA hN e1 (e ▸ hi));simp [this,e]
    ·exact .inr ⟨k,c,e,z.sameBut hs (cne y c e)⟩
  ·obtain ⟨w',z⟩:=I.cell y c e;exact ⟨w',z.sameBut hs (cne y c e)⟩
  ·obtain ⟨e,n,ne,nf,d⟩:=I.pin p hp;exact ⟨(hs.2 p.1 ne).trans e,n,ne,nf,d⟩
 ·have hfn:X.fn x=true:=by
   rcases hf with z|z
   ·exact z
   ·rw [z] at hk;cases hk
  obtain ⟨c,hc⟩:=I.ok.has x (.inl hk);obtain ⟨w',z⟩:=I.cell x c hc;refine wpAny_storeName_cell I.ok.kind hk hc z (fun h' hc' hs=>?_);obtain ⟨oc,hoc,hocd⟩:=id z;refine h { s with heap:=h' } ⟨I.ok,I.os,I.bare,⟨fun b o e n hb hx=>?_,fun b o e n hb hx=>?_,I.base.free,fun b o e hx=>?_,I.base.tups,I.base.frzs,I.base.tbls⟩,⟨m,hn.sameBut hs (Ne.symm (cne x c hc)),fun j y v' e1 e2 e3=>?_⟩,fun y c' e=>?_,I.free,I.freeC,fun p hp=>?_,tracked ⟨oc,hoc,I.freeC x c hc⟩ hs,by simpa using I.len⟩ ⟨c,hs,.inr hc⟩
  ·exact (hs.2 b (qdC (qfC (qmB e) (I.ok.cab x c hfn hc)))).trans (I.base.keep b o e n hb hx)
  ·obtain ⟨sl,e1⟩:=I.base.slot b o e n hb hx;exact ⟨sl,(hs.2 b (qdC (qfC (qmB e) (I.ok.cab x c hfn hc)))).trans e1⟩
  ·obtain ⟨o',e1⟩:=I.base.there b o e hx;exact ⟨o',(hs.2 b (qdC (qfC (qmB e) (I.ok.cab x c hfn hc)))).trans e1⟩
  ·by_cases hj:j=i
   ·subst hj;rw [hi] at e1;cases e1;rw [List.getElem?_set_self hiσ] at e2;cases e2;exact ⟨u,r,.inr ⟨.inl hk,c,hc,hc'⟩⟩
   ·rw [List.getElem?_set_ne (Ne.symm hj)] at e2;obtain ⟨u',r',q⟩:=hl j y v' e1 e2 e3;refine ⟨u',r',?_⟩;rcases q with q | ⟨k,c',e,z'⟩
    ·exact .inl q
    ·refine .inr ⟨k,c',e,z'.sameBut hs ?_⟩;rintro rfl;exact hj (LA hN e1 (I.ok.inj _ _ _ e hc ▸ hi))
  ·by_cases hcc:c'=c
   ·subst hcc;exact ⟨_,hc'⟩
   ·obtain ⟨w2,z2⟩:=I.cell y c' e;exact ⟨w2,z2.sameBut hs hcc⟩
  ·obtain ⟨e,n,ne,nf,d⟩:=I.pin p hp;refine ⟨(hs.2 p.1 ?_).trans e,n,ne,nf,d⟩;intro q;rw [q,hoc] at e;have q':oc=p.2:=qkB e;exact d w' (by rw [<- q'];exact hocd)
theorem Hj {M:Model}{A:Around}{E:Value->Shared->Prop}{i:Nat}{x:Str}{v:V}{u:Value}{Q:Unit->Shared->Prop}(I:Inv X pins σ H s)(hN:X.N.Nodup)(hi:X.N[i]? = some x)(hx:Loc X.env.scope x)(r:RelV v u)
  (h:∀ s',Inv X pins (σ.set i (some v)) H s'->Q () s') (hf:X.fn x=true\/X.env.scope.names.lookup x=some .local := by first|exact .inl rfl|exact .inr rfl|assumption):wpAny M A (storeName X.env x u) Q E s :=
 MQ I hN hi hx r (fun s' I' _=>h s' I') hf
theorem Inv.call' {s':Shared}{ch:List Addr}(I:Inv X pins σ H s)(ho:s'.os=s.os)(u:Un (frs X.stack) ch H H' s.heap s'.heap)(hok:HOk X.prog X.w H' s'.heap)(hg:AllBare s'.gens)
  (hch:∀ b∈ch,(b∈X.ex\/X.s₀.heap.objs.size<=b)/\b≠X.env.locals/\(∀ x c,X.env.cells.lookup x=some c->c≠b)/\∀ p∈X.pn++pins,p.1≠b):Inv X pins σ H' s':=by
 obtain ⟨h',g',d',t',o'⟩:=s';have e:o'=s.os:=ho;subst e;exact I.call (g':=g') (t':=t') (d':=d') u hok hg hch
end
abbrev XK:=Value->Option Addr->Hp->Prop
abbrev St:=List (Option V)
abbrev VK:=V->Hp->Prop
abbrev TE:=St->Hp->VK->Prop
abbrev TT:=St->Hp->(Bool->Hp->Prop)->Prop
abbrev TA:=St->Hp->(List V->Hp->Prop)->Prop
structure Ends where
 nx:St->Hp->Prop
 rt:VK
 bk:St->Hp->Prop:=fun _ _=>False
 ct:St->Hp->Prop:=fun _ _=>False
abbrev TS:=Ends->St->Hp->Prop
def EP (X:Cx)(pins:List (Addr × Obj))(σ:St)(Q:VK)(u:Value)(s':Shared):Prop:=∃ v H',Inv X pins σ H' s'/\RelV v u/\Q v H'
def TP (X:Cx)(pins:List (Addr × Obj))(σ:St)(Q:Bool->Hp->Prop)(b:Bool)(s':Shared):Prop:=∃ H',Inv X pins σ H' s'/\Q b H'
def AP (X:Cx)(pins:List (Addr × Obj))(σ:St)(Q:List V->Hp->Prop)(us:List Value)(s':Shared):Prop:=∃ vs H',Inv X pins σ H' s'/\Vals vs us/\Q vs H'
def SP (X:Cx)(pins:List (Addr × Obj))(D:Ends)(f:Flow)(s':Shared):Prop :=
 match f with
 | .next=>∃ σ' H',Inv X pins σ' H' s'/\D.nx σ' H'
 | .brk=>∃ σ' H',Inv X pins σ' H' s'/\D.bk σ' H'
 | .cont=>∃ σ' H',Inv X pins σ' H' s'/\D.ct σ' H'
 | .ret u=>∃ v σ' H',Inv X pins σ' H' s'/\RelV v u/\D.rt v H'
def PE (X:Cx)(e:Expr)(t:TE):Prop :=
 ∀ (pins:List (Addr × Obj)) (s:Shared) (σ:St) (H:Hp) (Q:VK),Inv X pins σ H s->t σ H Q->wpAny (model X.prog X.w) X.A (eval e X.env) (EP X pins σ Q) X.xe s
def PT (X:Cx)(e:Expr)(t:TT):Prop :=
 ∀ (pins:List (Addr × Obj)) (s:Shared) (σ:St) (H:Hp) (Q:Bool->Hp->Prop),Inv X pins σ H s->t σ H Q->wpAny (model X.prog X.w) X.A (isTrue e X.env (eval e X.env)) (TP X pins σ Q) X.xe s
def PW (X:Cx)(e:Expr)(t:TT):Prop :=
 ∀ (whole:Sem Value) (pins:List (Addr × Obj)) (s:Shared) (σ:St) (H:Hp) (Q:Bool->Hp->Prop),Inv X pins σ H s->t σ H Q->wpAny (model X.prog X.w) X.A (isTrue e X.env whole) (TP X pins σ Q) X.xe s
theorem PW.pt {X:Cx}{e:Expr}{t:TT}(h:PW X e t):PT X e t:=h _
def PA (X:Cx)(es:List Expr)(t:TA):Prop :=
 ∀ (pos:Pos) (pins:List (Addr × Obj)) (s:Shared) (σ:St) (H:Hp) (Q:List V->Hp->Prop),Inv X pins σ H s->t σ H Q->wpAny (model X.prog X.w) X.A (spliced (backTo pos (starEach es X.env))) (AP X pins σ Q) X.xe s
def PS (X:Cx)(st:Stmt)(t:TS):Prop :=
 ∀ (pins:List (Addr × Obj)) (s:Shared) (σ:St) (H:Hp) (D:Ends),Inv X pins σ H s->t D σ H->wpAny (model X.prog X.w) X.A (exec st X.env) (SP X pins D) X.xe s
def PSs (X:Cx)(st:List Stmt)(t:TS):Prop :=
 ∀ (pins:List (Addr × Obj)) (s:Shared) (σ:St) (H:Hp) (D:Ends),Inv X pins σ H s->t D σ H->wpAny (model X.prog X.w) X.A (execs st X.env) (SP X pins D) X.xe s
theorem thn {α:Type}{t:Sem α}{Q Q':α->Shared->Prop}{M:Model}{A:Around}{E:Value->Shared->Prop}{s:Shared}(h:wpAny M A t Q E s)(hQ:∀ a s,Q a s->Q' a s):wpAny M A t Q' E s:=wpAny_mono h hQ fun _ _ x=>x
section
variable {X:Cx}
abbrev BQ (i:Nat):TE:=fun σ H Q=>∃ v,σ[i]? = some (some v)/\Q v H
abbrev tC (v:V):TE:=fun _ H Q=>Q v H
theorem pe_var {i:Nat}{x:Str}{pos:Pos}(hN:X.N[i]? = some x)(hv:Vis X.env.scope x)(hd:(x == ("__debug__" : Str))=false:=by decide)(hcd:(x == ("__classdict__" : Str))=false:=by decide):PE X (.Name x pos) (BQ i):=by
 intro pins s σ H Q I h;obtain ⟨v,e,h⟩:=h;obtain ⟨m,hn,hl⟩:=I.loc;obtain ⟨u,r,l⟩:=hl i x v hN e hv;have fin:EP X pins σ Q u s:=⟨v,H,I,r,h⟩;rcases l with ⟨hk,hm⟩ | ⟨hk,c,hc,hcell⟩
 ·exact wpAny_Name (wpAny_loadName_local I.ok.kind hk hn hm fin) hd
 ·rcases hk with hk|hk
  ·exact wpAny_Name (wpAny_loadName_cell I.ok.kind hk hc hcell fin) hd
  ·exact wpAny_Name (wpAny_loadName_free I.ok.kind hk hc hcell fin hcd) hd
theorem AC {i j pos}:PE X (.Constant (.int i) j pos) (tC (.int i)):=fun _ _ _ H _ I h=>wpAny_Constant_int ⟨.int i,H,I.tok _,⟨_,rfl⟩,h⟩
theorem Ca {b j pos}:PE X (.Constant (.bool b) j pos) (tC (.bl b)):=fun _ _ _ H _ I h=>Constant_bool ⟨.bl b,H,I,rfl,h⟩
theorem Nh {j pos}:PE X (.Constant .none j pos) (tC .non):=fun _ _ _ H _ I h=>Constant_none ⟨.non,H,I,rfl,h⟩
theorem AG {x j pos}:PE X (.Constant (.str x) j pos) (tC (.str x)):=fun _ _ _ H _ I h=>Calls.Constant_str ⟨.str x,H,I.tok _,⟨_,rfl⟩,h⟩
def Gl (X:Cx)(x:Str):Prop:=X.env.kindOf x=some .globalImplicit
theorem Hb {E:Value->Shared->Prop}{pins:List (Addr × Obj)}{s:Shared}{σ:St}{H:Hp}{x:Str}{u:Value}{pos:Pos}{Q:Value->Shared->Prop}(I:Inv X pins σ H s)(hg:Gl X x)(hm:X.mg x=some u)(h:Q u s)
  (hd:(x == ("__debug__" : Str))=false:=by decide):wpAny (model X.prog X.w) X.A (eval (.Name x pos) X.env) Q E s :=
 Calls.Name_function_global I.ok.kind hg (Calls.loadGlobal_global (by rw [I.ok.glob];exact I.mod.glob.keeps I.bk) hm h) hd
theorem HG {E:Value->Shared->Prop}{pins:List (Addr × Obj)}{s:Shared}{σ:St}{H:Hp}{x:Str}{u:Value}{pos:Pos}{Q:Value->Shared->Prop}(I:Inv X pins σ H s)(hg:Gl X x)(hm:X.mg x=none)(hv:bootBuiltins x=some u)(h:Q u s)
  (hn:x ≠ "__name__" := by decide) (hd:(x == ("__debug__" : Str))=false:=by decide):wpAny (model X.prog X.w) X.A (eval (.Name x pos) X.env) Q E s:=by
 obtain ⟨mb,h1,h2⟩:=I.mod.blt;exact Calls.Name_function_global I.ok.kind hg (Calls.loadGlobal_builtin (by rw [I.ok.glob];exact I.mod.glob.keeps I.bk) hm (by rw [I.ok.blt];exact h1.keeps I.bk) ((h2 x hn).trans hv) h) hd
theorem Dj {x:Str}{v:V}{u:Value}{pos:Pos}(hg:Gl X x)(hm:X.mg x=some u)(r:RelV v u)(hd:(x == ("__debug__" : Str))=false:=by decide):PE X (.Name x pos) (tC v) :=
 fun _ _ _ H _ I h=>Hb I hg hm ⟨v,H,I,r,h⟩ hd
theorem Jo {x:Str}{v:V}{u:Value}{pos:Pos}(hg:Gl X x)(hm:X.mg x=none)(hv:bootBuiltins x=some u)(r:RelV v u)(hn:x ≠ "__name__" := by decide)(hd:(x == ("__debug__" : Str))=false:=by decide):PE X (.Name x pos) (tC v) :=
 fun _ _ _ H _ I h=>HG I hg hm hv ⟨v,H,I,r,h⟩ hn hd
variable {a b:Expr}{ta tb:TE}{pos:Pos}
def PC (X:Cx)(op:CmpOp)(a b:Expr)(t:TE):Prop :=
 ∀ (pins:List (Addr × Obj)) (s:Shared) (σ:St) (H:Hp) (Q:VK),Inv X pins σ H s->t σ H Q ->
  wpAny (model X.prog X.w) X.A (eval a X.env) (fun v s₁=>wpAny (model X.prog X.w) X.A (eval b X.env) (fun u s₂=>wpAny (model X.prog X.w) X.A (compareOp op v u) (EP X pins σ Q) X.xe s₂) X.xe s₁) X.xe s
def tB (t:TE):TT:=fun σ H Q=>t σ H fun x H1=>∃ c,x = .bl c/\Q c H1
theorem pe_cmp {op:CmpOp}{t:TE}(h:PC X op a b t)(h1:behindInMarks op b=false:=by first|exact nobehind _ (by decide) (by decide)|rfl):PE X (.Compare a [op] [b] pos) t:=fun pins s σ H Q I hw=>wpAny_Compare1 (h pins s σ H Q I hw) h1
theorem pt_cmp {op:CmpOp}{t:TE}(h:PC X op a b t)(h1:behindInMarks op b=false:=by first|exact nobehind _ (by decide) (by decide)|rfl):PT X (.Compare a [op] [b] pos) (tB t):=by
 intro pins s σ H Q I hw;refine wpAny_isTrue_Compare1 (thn (h pins s σ H _ I hw) fun v s1 h1=>thn h1 fun u s2 h2=>thn h2 fun c s3 ⟨x,H1,I1,r1,q1⟩=>?_) h1;obtain ⟨d,rfl,q⟩:=q1;cases r1;exact wpAny_truthy_bool ⟨H1,I1,q⟩
variable {tA tB':TT}{rest:List Expr}
abbrev tOr (t u:TT):TT:=fun σ H Q=>t σ H fun c H1=>if c=true then Q true H1 else u σ H1 Q
abbrev tNot (t:TT):TT:=fun σ H Q=>t σ H fun c H1=>Q (!c) H1
theorem Ia (ha:PT X a tA):PW X (.BoolOp .Or [a] pos) tA:=by
 intro wh pins s σ H Q I h;refine isTrue_or (thn (ha pins s σ H Q I h) fun c s1 e=>?_)
 cases c with
 | false=>exact isTrue_or_nil e
 | true=>exact e
theorem J0 (ha:PT X a tA)(hb:PW X (.BoolOp .Or (b::rest) pos) tB'):PW X (.BoolOp .Or (a::b::rest) pos) (tOr tA tB'):=by
 intro wh pins s σ H Q I h;refine isTrue_or (thn (ha pins s σ H _ I h) fun c s1 ⟨H1,I1,q1⟩=>?_)
 cases c with
 | true=>exact ⟨H1,I1,q1⟩
 | false=>exact hb wh pins s1 σ H1 Q I1 q1
theorem LS (ha:PT X a tA):PT X (.UnaryOp .Not a pos) (tNot tA):=by
 intro pins s σ H Q I h;exact isTrue_not (ha pins s σ H (fun c H1=>Q (!c) H1) I h)
abbrev tAndV (ta tb:TE):TE:=fun σ H Q=>ta σ H fun x H1=>∃ c,x = .bl c/\if c=true then tb σ H1 Q else Q (.bl false) H1
abbrev tOrV (ta tb:TE):TE:=fun σ H Q=>ta σ H fun x H1=>∃ c,x = .bl c/\if c=true then Q (.bl true) H1 else tb σ H1 Q
abbrev tNotV (ta:TE):TE:=fun σ H Q=>ta σ H fun x H1=>∃ c,x = .bl c/\Q (.bl (!c)) H1
theorem Fn {op}{t:TE}(h:PE X a t):PE X (.BoolOp op [a] pos) t:=fun pins s σ H Q I hw=>BoolOp_one (h pins s σ H Q I hw)
theorem HJ (ha:PE X a ta)(hb:PE X (.BoolOp .And (b::rest) pos) tb):PE X (.BoolOp .And (a::b::rest) pos) (tAndV ta tb):=by
 intro pins s σ H Q I h;refine BoolOp_and (thn (ha pins s σ H _ I h) fun v s1 ⟨x,H1,I1,r1,q1⟩=>?_);obtain ⟨c,rfl,q1⟩:=q1;cases r1;refine wpAny_truthy_bool ?_
 cases c with
 | true=>exact hb pins s1 σ H1 Q I1 q1
 | false=>exact ⟨.bl false,H1,I1,rfl,q1⟩
theorem pe_or (ha:PE X a ta)(hb:PE X (.BoolOp .Or (b::rest) pos) tb):PE X (.BoolOp .Or (a::b::rest) pos) (tOrV ta tb):=by
 intro pins s σ H Q I h;refine BoolOp_or (thn (ha pins s σ H _ I h) fun v s1 ⟨x,H1,I1,r1,q1⟩=>?_);obtain ⟨c,rfl,q1⟩:=q1;cases r1;refine wpAny_truthy_bool ?_
 cases c with
 | false=>exact hb pins s1 σ H1 Q I1 q1
 | true=>exact ⟨.bl true,H1,I1,rfl,q1⟩
theorem Ql (ha:PE X a ta):PE X (.UnaryOp .Not a pos) (tNotV ta):=by
 intro pins s σ H Q I h;refine UnaryOp_ (thn (ha pins s σ H _ I h) fun v s1 ⟨x,H1,I1,r1,q1⟩=>?_);obtain ⟨c,rfl,q1⟩:=q1;cases r1;exact not_of (wpAny_truthy_bool ⟨.bl (!c),H1,I1,rfl,q1⟩)
end
def SqL (K:FZ9)(H:Hp)(a:Addr)(xs:List V):Prop :=
 Rd H a (.lst xs) \/
  ∃ (o:Obj) (its:Array Value) (n:Nat),K.lookup a=some o/\o.cls = .type "list" /\ o.dict=none/\o.data = .seq its n/\its.size<=sizeLine/\Vals xs its.toList
def SqT (K:FZ9)(H:Hp)(a:Addr)(xs:List V):Prop :=
 Rd H a (.tup xs) \/
  ∃ (o:Obj) (its:Array Value) (n:Nat),K.lookup a=some o/\o.cls = .type "tuple" /\ o.data = .seq its n/\its.size<=sizeLine/\Vals xs its.toList
def absV:Value->Option V
 | .none=>some .non
 | .bool b=>some (.bl b)
 | .int i _=>some (.int i)
 | .str x _=>some (.str x)
 | .bytes b _=>some (.byt b)
 | .float b _=>some (.flt b)
 | .ref a=>some (.ref a)
 | .type n=>some (.ty n)
 | _=>none
theorem RelV.abs {x:V}{u:Value}(r:RelV x u):absV u=some x:=by
 cases x with
 | non=>cases r;rfl
 | bl _=>cases r;rfl
 | int _=>obtain ⟨t,rfl⟩:=r;rfl
 | str _=>obtain ⟨t,rfl⟩:=r;rfl
 | byt _=>obtain ⟨t,rfl⟩:=r;rfl
 | flt _=>obtain ⟨t,rfl⟩:=r;rfl
 | ref _=>cases r;rfl
 | ty _=>cases r;rfl
theorem RelV.inj {x y:V}{u:Value}(r:RelV x u)(q:RelV y u):x=y:=qkB (r.abs.symm.trans q.abs)
theorem Vals.inj:∀ {xs ys:List V}{us:List Value},Vals xs us->Vals ys us->xs=ys
 | _,_,_,.nil,.nil=>rfl
 | _,_,_,.cons r t,.cons r' t'=>by rw [r.inj r',Vals.inj t t']
section
variable {X:Cx}{pins:List (Addr × Obj)}{σ:St}{H:Hp}{s:Shared}{a:Addr}{xs ys:List V}
theorem SqL.of {K:FZ9}(h:H a=some (.lst xs)):SqL K H a xs:=.inl (.inl h)
theorem SqT.of {K:FZ9}(h:H a=some (.tup xs)):SqT K H a xs:=.inl (.inl h)
theorem Inv.list (I:Inv X pins σ H s)(h:SqL X.K H a xs):∃ its:List Value,Vals xs its/\PlainL s.heap a its.toArray/\xs.length<=sizeLine:=by
 rcases h with h | ⟨o,its,n,hk,hc,hd,hs,hz,r⟩
 ·obtain ⟨z,its,n,r,e⟩:=h.ok I.hok;exact ⟨its,r,⟨_,n,e,rfl,rfl,rfl⟩,z⟩
 ·refine ⟨its.toList,r,⟨o,n,I.kIn a o hk,hc,hd,by simpa using hs⟩,?_⟩;have e:=r.length;simp only [qcC] at e;omega
theorem Inv.tuple (I:Inv X pins σ H s)(h:SqT X.K H a xs):∃ its:List Value,Vals xs its/\IsTup s.heap a its.toArray/\xs.length<=sizeLine:=by
 rcases h with h | ⟨o,its,n,hk,hc,hs,hz,r⟩
 ·obtain ⟨z,its,r,p⟩:=h.ok I.hok;exact ⟨its,r,p,z⟩
 ·refine ⟨its.toList,r,⟨o,I.kIn a o hk,hc,n,by simpa using hs⟩,?_⟩;have e:=r.length;simp only [qcC] at e;omega
theorem Inv.list_inj (I:Inv X pins σ H s)(h:SqL X.K H a xs)(h':SqL X.K H a ys):xs=ys:=by
 obtain ⟨its,r,⟨o,n,e,_,_,d⟩,_⟩:=I.list h;obtain ⟨its',r',⟨o',n',e',_,_,d'⟩,_⟩:=I.list h';rw [e] at e';cases e';rw [d] at d';injection d' with d1 _
 have:its=its':=by simpa using congrArg Array.toList d1
 subst this;exact r.inj r'
theorem Inv.tuple_inj (I:Inv X pins σ H s)(h:SqT X.K H a xs)(h':SqT X.K H a ys):xs=ys:=by
 obtain ⟨its,r,⟨o,e,_,n,d⟩,_⟩:=I.tuple h;obtain ⟨its',r',⟨o',e',_,n',d'⟩,_⟩:=I.tuple h';rw [e] at e';cases e';rw [d] at d';injection d' with d1 _
 have:its=its':=by simpa using congrArg Array.toList d1
 subst this;exact r.inj r'
end
abbrev Cx.wish (X:Cx)(E:Value->Shared->Prop):Cx:={ X with xe:=E }
abbrev Cx.nox (X:Cx):Cx:=X.wish fun _ _=>False
theorem Cx.Ok.wish {X:Cx}(ok:X.Ok)(E:Value->Shared->Prop):(X.wish E).Ok :=
 ⟨ok.mod,ok.kind,ok.glob,ok.blt,ok.above,ok.inj,ok.has,ok.cab,ok.hd,ok.frames,ok.stk,ok.exf,ok.bs,ok.bsz,ok.noex,ok.exfs,ok.funs,ok.frf⟩
theorem Cx.Ok.unwish {X:Cx}{E:Value->Shared->Prop}(ok:(X.wish E).Ok):X.Ok :=
 ⟨ok.mod,ok.kind,ok.glob,ok.blt,ok.above,ok.inj,ok.has,ok.cab,ok.hd,ok.frames,ok.stk,ok.exf,ok.bs,ok.bsz,ok.noex,ok.exfs,ok.funs,ok.frf⟩
section
variable {X:Cx}{pins:List (Addr × Obj)}{σ:St}{H:Hp}{s:Shared}{E:Value->Shared->Prop}
theorem Inv.wish (I:Inv X pins σ H s)(E:Value->Shared->Prop):Inv (X.wish E) pins σ H s:=⟨I.ok.wish E,I.os,I.bare,I.base,I.loc,I.cell,I.free,I.freeC,I.pin,I.hok,I.len⟩
theorem Inv.unwish (I:Inv (X.wish E) pins σ H s):Inv X pins σ H s:=⟨I.ok.unwish,I.os,I.bare,I.base,I.loc,I.cell,I.free,I.freeC,I.pin,I.hok,I.len⟩
theorem SP.unwish {D:Ends}{f:Flow}{s':Shared}(h:SP (X.wish E) pins D f s'):SP X pins D f s':=by
 cases f with
 | next=>obtain ⟨σ',H',I,q⟩:=h;exact ⟨σ',H',I.unwish,q⟩
 | brk=>obtain ⟨σ',H',I,q⟩:=h;exact ⟨σ',H',I.unwish,q⟩
 | cont=>obtain ⟨σ',H',I,q⟩:=h;exact ⟨σ',H',I.unwish,q⟩
 | ret u=>obtain ⟨v,σ',H',I,r,q⟩:=h;exact ⟨v,σ',H',I.unwish,r,q⟩
theorem PSs.nox {st:List Stmt}{t:TS}(h:PSs X.nox st t):PSs X st t:=fun pins s σ H D I hw =>
 wpAny_mono (h pins s σ H D (I.wish _) hw) (fun _ _ q=>q.unwish) fun _ _ z=>False.elim z
end
section
variable {X:Cx}{st:Stmt}{rest:List Stmt}{t u:TS}{e:Expr}{te:TE}{pos:Pos}
abbrev By:TS:=fun D σ H=>D.nx σ H
abbrev Bz (t u:TS):TS:=fun D σ H=>t { D with nx:=u D } σ H
theorem A9:PSs X [] By:=fun _ _ σ H _ I h=>wpAny_execs_nil ⟨σ,H,I,h⟩
theorem A6 (h1:PS X st t)(h2:PSs X rest u):PSs X (st::rest) (Bz t u):=by
 intro pins s σ H D I h;refine wpAny_execs_cons (thn (h1 pins s σ H { D with nx:=u D } I h) fun f s1 q=>?_)
 cases f with
 | next =>
  obtain ⟨σ',H',I',q⟩:=q;exact h2 pins s1 σ' H' D I' q
 | ret v=>exact q
 | brk=>exact q
 | cont=>exact q
theorem Inv.quiet {pins:List (Addr × Obj)}{σ:St}{H:Hp}{s:Shared}(I:Inv X pins σ H s):interactive X.env=false:=by simp [interactive,I.ok.kind]
abbrev KZ (te:TE):TS:=fun D σ H=>te σ H fun _ H1=>D.nx σ H1
theorem EL (he:PE X e te)(hs:swapsWith e none pos.line X.env=pure false:=by rfl):PS X (.Expr e pos) (KZ te):=by
 intro pins s σ H D I h;exact wpAny_Expr_any (thn (he pins s σ H _ I h) fun v s1 ⟨x,H1,I1,r1,q1⟩=>⟨σ,H1,I1,q1⟩) I.quiet hs
abbrev Ny (te:TE):TS:=fun D σ H=>te σ H D.rt
theorem AL (he:PE X e te):PS X (.Return (some e) pos) (Ny te):=by
 intro pins s σ H D I h;exact wpAny_Return_some (thn (he pins s σ H _ I h) fun v s1 ⟨x,H1,I1,r1,q1⟩=>⟨x,σ,H1,I1,r1,q1⟩)
abbrev KS (c:TT)(t u:TS):TS:=fun D σ H=>c σ H fun b H1=>if b=true then t D σ H1 else u D σ H1
theorem Ax {c:Expr}{a b:List Stmt}{tc:TT}(hc:PT X c tc)(ha:PSs X a t)(hb:PSs X b u):PS X (.If c a b pos) (KS tc t u):=by
 intro pins s σ H D I h;refine wpAny_If (thn (hc pins s σ H _ I h) fun d s1 ⟨H1,I1,q1⟩=>?_)
 cases d with
 | true=>exact ha pins s1 σ H1 D I1 q1
 | false=>exact hb pins s1 σ H1 D I1 q1
end
abbrev TG:=V->St->Hp->(St->Hp->Prop)->Prop
abbrev TGs:=List V->St->Hp->(St->Hp->Prop)->Prop
def PG (X:Cx)(target:Expr)(t:TG):Prop :=
 ∀ (pins:List (Addr × Obj)) (s:Shared) (σ:St) (H:Hp) (v:V) (u:Value) (Q:St->Hp->Prop),Inv X pins σ H s->RelV v u->t v σ H Q ->
  wpAny (model X.prog X.w) X.A (assign target X.env u) (fun _ s'=>∃ σ' H',Inv X pins σ' H' s'/\Q σ' H') X.xe s
def PGs (X:Cx)(ts:List Expr)(t:TGs):Prop :=
 ∀ (pins:List (Addr × Obj)) (s:Shared) (σ:St) (H:Hp) (vs:List V) (us:List Value) (Q:St->Hp->Prop),Inv X pins σ H s->Vals vs us->t vs σ H Q ->
  wpAny (model X.prog X.w) X.A (assignInOrder ((assignEach ts X.env).map (·.2)) us) (fun _ s'=>∃ σ' H',Inv X pins σ' H' s'/\Q σ' H') X.xe s
section
variable {X:Cx}{pos:Pos}
abbrev Bm (i:Nat):TG:=fun v σ H Q=>Q (σ.set i (some v)) H
theorem N5 {i:Nat}{x:Str}(hN:X.N.Nodup)(hi:X.N[i]? = some x)(hx:Loc X.env.scope x)(hf:X.fn x=true\/X.env.scope.names.lookup x=some .local := by first|exact .inl rfl|exact .inr rfl|assumption):PG X (.Name x pos) (Bm i):=by
 intro pins s σ H v u Q I r h;exact wpAny_assign_Name (Hj I hN hi hx r (fun s' I'=>⟨_,H,I',h⟩) hf)
def gNil:TGs:=fun vs σ H Q=>vs=[]/\Q σ H
def GS (t:TG)(u:TGs):TGs:=fun vs σ H Q=>∃ v r,vs=v::r/\t v σ H fun σ' H'=>u r σ' H' Q
theorem N8:PGs X [] gNil:=by
 intro pins s σ H vs us Q I r h;obtain ⟨e,h⟩:=h;subst e;cases r;exact assignInOrder_nil ⟨σ,H,I,h⟩
theorem D6 {e:Expr}{es:List Expr}{t:TG}{u:TGs}(h1:PG X e t)(h2:PGs X es u)
  (hs:(assignEach (e::es) X.env).map (·.2)=assign e X.env::(assignEach es X.env).map (·.2):=by rfl):PGs X (e::es) (GS t u):=by
 intro pins s σ H vs us Q I r h;obtain ⟨v,vr,e1,h⟩:=h;subst e1
 cases r with
 | cons r rr =>
  rw [hs];refine assignInOrder_cons (thn (h1 pins s σ H _ _ _ I r h) fun _ s1 ⟨σ1,H1,I1,q1⟩=>?_);exact h2 pins s1 σ1 H1 _ _ Q I1 rr q1
def gTup (K:FZ9)(n:Nat)(t:TGs):TG:=fun v σ H Q=>∃ a xs,v = .ref a/\SqT K H a xs/\xs.length=n/\t xs σ H Q
theorem Qb {es:List Expr}{k:Nat}{t:TGs}{n:Nat}(hc:X.calm=true)(h:PGs X es t)
  (hn:(assignEach es X.env).length=n:=by rfl) (hst:(assignEach es X.env).findIdx? (·.1)=none:=by rfl):PG X (.Tuple es k pos) (gTup X.K n t):=by
 intro pins s σ H v u Q I r hw;obtain ⟨a,xs,e1,hq,hl,hw⟩:=hw;subst e1;cases r;obtain ⟨its,rv,ht,hz⟩:=I.tuple hq;refine assign_Tuple_tuple (I.ok.hd hc) ht (by simp [hn,<- hl,rv.length]) hst fun h' hx=>?_;have I1:Inv X pins σ H { s with heap:=h' }:=I.kept (t':=s.toks) fun b o e=>hx b o (qdC (qmB e)) e;exact h pins _ σ H xs _ Q I1 (by simpa using rv) hw
abbrev GO (te:TE)(g:TG):TS:=fun D σ H=>te σ H fun x H1=>g x σ H1 D.nx
theorem NM {i:Nat}{x:Str}{e:Expr}{te:TE}{pos':Pos}(hN:X.N.Nodup)(hi:X.N[i]? = some x)(hx:Loc X.env.scope x)(he:PE X e te)(hs:swapsWith e (some (.Name x pos')) pos.line X.env=pure false:=by rfl)(hf:X.fn x=true\/X.env.scope.names.lookup x=some .local := by first|exact .inl rfl|exact .inr rfl|assumption) :
  PS X (.Assign [.Name x pos'] e pos) (GO te (Bm i)):=by
 intro pins s σ H D I h;refine wpAny_Assign_Name (thn (he pins s σ H _ I h) fun v s1 ⟨y,H1,I1,r1,q1⟩=>?_) hs;exact Hj I1 hN hi hx r1 (fun s2 I2=>⟨_,H1,I2,q1⟩) hf
end
section
variable {X:Cx}{pos:Pos}
def tWhile (c:TT)(tb:TS):TS:=fun D σ H=>∃ W:Nat->St->Hp->Prop,(∃ m,W m σ H)/\∀ m σ H,W m σ H ->
 c σ H fun b H1=>if b=true then ∃ N:St->Hp->Prop,(∀ σ' H',N σ' H'->∃ m',m'<m/\W m' σ' H')/\tb { D with nx:=N,ct:=N,bk:=D.nx } σ H1 else D.nx σ H1
theorem ps_while {c:Expr}{body:List Stmt}{tc:TT}{tb:TS}(hp:PassesOwn (model X.prog X.w) X.A X.env X.xe)(hc:PT X c tc)(hb:PSs X body tb):PS X (.While c body [] pos) (tWhile tc tb):=by
 intro pins s σ H D I h;obtain ⟨W,⟨m0,w0⟩,turn⟩:=h;refine wpAny_While (codeAny_whileLoop (fun n s'=>∃ σ' H',Inv X pins σ' H' s'/\W n σ' H') ?_ m0 ⟨σ,H,I,w0⟩);rintro n s1 ⟨σ1,H1,I1,w1⟩;refine wpAny_passesOwn hp (thn (hc pins s1 σ1 H1 _ I1 (turn n σ1 H1 w1)) fun b s2 ⟨H2,I2,q2⟩=>?_)
 cases b with
 | true =>
  obtain ⟨N,hN,q2⟩:=q2;rw [if_pos rfl];refine wpAny_passesOwn hp (thn (hb pins s2 σ1 H2 _ I2 q2) fun f s3 q3=>?_)
  cases f with
  | next =>
   obtain ⟨σ3,H3,I3,n3⟩:=q3;obtain ⟨m',hm,w3⟩:=hN σ3 H3 n3;exact ⟨m',hm,σ3,H3,I3,w3⟩
  | cont =>
   obtain ⟨σ3,H3,I3,n3⟩:=q3;obtain ⟨m',hm,w3⟩:=hN σ3 H3 n3;exact ⟨m',hm,σ3,H3,I3,w3⟩
  | brk=>exact q3
  | ret v=>exact q3
 | false =>
  rw [if_neg quB];exact wpAny_execs_nil ⟨σ1,H2,I2,q2⟩
end
structure It where
 go:Nat->Hp->Prop
 yld:Nat->Hp->V->Hp->Prop
 stop:Nat->Hp->Prop
def Ft (X:Cx)(pins:List (Addr × Obj))(H:Hp)(b:Addr):Prop :=
 H b=none/\b≠X.env.locals/\b ∉ X.fs/\(b∈X.ex\/X.s₀.heap.objs.size<=b)/\(∀ x c,X.env.cells.lookup x=some c->c≠b)/\∀ p∈X.pn++pins,p.1≠b
theorem Inv.fpOk {X:Cx}{pins:List (Addr × Obj)}{σ:St}{H H':Hp}{s:Shared}{b:Addr}(I:Inv X pins σ H s)(hb:s.heap.objs.size<=b)(hn:H' b=none):Ft X pins H' b:=by
 refine ⟨hn,qmC (qfC I.lt hb),I.nofs hb,.inr (qhB I.sz hb),fun x c e z=>?_,fun p hp z=>?_⟩
 ·obtain ⟨v,q⟩:=I.cell x c e;exact absurd (qfC q.lt (by rw [z];exact hb)) (qiB _)
 ·exact absurd (qfC (qmB (I.pin p hp).1) (by rw [z];exact hb)) (qiB _)
structure Turn (P:Program)(w:World)(K:FZ9)(tg:Expr)(J:It)(fp:List Addr)(it:Addr)(tn:Nat->Heap->Prop):Prop where
 mem:it∈fp
 obj:∀ i h,tn i h->∀ b∈fp,∃ o,h.get? b=some o/\∀ v,o.data ≠ .cell v
 keep:∀ i h h',tn i h->(∀ b∈fp,∀ o,h.get? b=some o->h'.get? b=some o)->tn i h'
 item:∀ (X:Cx),X.prog=P->X.w=w->X.K=K->X.calm=true->∀ (i:Nat) (pins:List (Addr × Obj)) (s:Shared) (σ:St) (H:Hp) (E:Value->Shared->Prop),Inv X pins σ H s->(∀ b∈fp,Ft X pins H b)->tn i s.heap->J.go i H ->
  wpAny (model P w) X.A (pyNext (.ref it)) (fun r s1=>∃ u,r=some u /\
   wpAny (model P w) X.A (letOwnedTupleGo tg (.ref it) u) (fun _ s2=>∃ x H',Inv X pins σ H' s2/\RelV x u/\J.yld i H x H'/\tn (i+1) s2.heap/\∀ b∈fp,H' b=none) E s1) E s
 done:∀ (X:Cx),X.prog=P->X.w=w->X.K=K->X.calm=true->∀ (i:Nat) (pins:List (Addr × Obj)) (s:Shared) (σ:St) (H:Hp) (E:Value->Shared->Prop),Inv X pins σ H s->(∀ b∈fp,Ft X pins H b)->tn i s.heap->J.stop i H ->
  wpAny (model P w) X.A (pyNext (.ref it)) (fun r s1=>r=none/\Inv X pins σ H s1) E s
 self:∀ (A:Around) (i:Nat) (s:Shared) (Q:Value->Shared->Prop) (E:Value->Shared->Prop),tn i s.heap->Q (.ref it) s->wpAny (model P w) A (pyIter (.ref it)) Q E s
abbrev TI:=St->Hp->(It->Hp->Prop)->Prop
def PIE (X:Cx)(pins:List (Addr × Obj))(σ:St)(tg:Expr)(R:It->Hp->Prop)(itv:Value)(s2:Shared):Prop :=
 ∃ (it:Addr) (fp:List Addr) (tn:Nat->Heap->Prop) (J:It) (H':Hp),itv = .ref it/\Inv X pins σ H' s2/\Turn X.prog X.w X.K tg J fp it tn/\tn 0 s2.heap/\(∀ b∈fp,Ft X pins H' b)/\R J H'
def PI (X:Cx)(tg iter:Expr)(wi:TI):Prop :=
 ∀ (pins:List (Addr × Obj)) (s:Shared) (σ:St) (H:Hp) (R:It->Hp->Prop),Inv X pins σ H s->wi σ H R ->
  wpAny (model X.prog X.w) X.A (eval iter X.env) (fun v s1=>wpAny (model X.prog X.w) X.A (pyIter v) (PIE X pins σ tg R) X.xe s1) X.xe s
theorem P0 {M:Model}{A:Around}{E:Value->Shared->Prop}{s:Shared}{tg:Expr}{it:Addr}{u:Value}{o:Obj}{n:String}{vs:Array Value}{Q:Unit->Shared->Prop}(ho:s.heap.get? it=some o)(hc:o.cls = .type n)(hd:o.data = .fields vs)
  (hn:["enumerate","zip","dict_itemiterator","dict_reverseitemiterator","odict_iterator","itertools.zip_longest","itertools.pairwise"].contains n=false) (hQ:Q () s):wpAny M A (letOwnedTupleGo tg (.ref it) u) Q E s:=by
 unfold letOwnedTupleGo
 cases tg<;>first
  | exact qcA hQ
  | (cases u<;>first
    | exact qcA hQ
    | (refine qbA (wpAny_load ho ?_)
       rw [hc,hd];show wpAny M A (if (["enumerate","zip","dict_itemiterator","dict_reverseitemiterator","odict_iterator","itertools.zip_longest","itertools.pairwise"].contains n && vs[0]? == some (rawInt _))=true then _ else _) Q E s;rw [if_neg (by intro h;rw [hn,Bool.false_and] at h;cases h)]
       exact qcA hQ))
def Itl (K:FZ9)(a:Addr):It :=
 ⟨fun i H=>∃ xs x,SqL K H a xs/\xs[i]? = some x,fun i H x H'=>H'=H/\∀ xs,SqL K H a xs->xs[i]? = some x,fun i H=>∃ xs,SqL K H a xs/\xs.length<=i⟩
def Itt (K:FZ9)(a:Addr):It :=
 ⟨fun i H=>∃ xs x,SqT K H a xs/\xs[i]? = some x,fun i H x H'=>H'=H/\∀ xs,SqT K H a xs->xs[i]? = some x,fun i H=>∃ xs,SqT K H a xs/\xs.length<=i⟩
def Itr (lo:Int)(n:Nat):It:=⟨fun i _=>i<n,fun i H x H'=>H'=H/\x = .int (lo+i),fun i _=>n<=i⟩
theorem T8 {P:Program}{w:World}{K:FZ9}{tg:Expr}(a it:Addr):Turn P w K tg (Itl K a) [it] it (fun i h=>h.IsListIter it a i) where
 mem:=by simp
 obj:=fun i h st b hb=>by
  have e:b=it:=by simpa using hb
  subst e;obtain ⟨o,e,c,d⟩:=st;exact ⟨o,e,fun v z=>by rw [d] at z;cases z⟩
 keep:=fun i h h' st k=>st.at fun o e=>k it (by simp) o e
 item:=by
  intro X hP hw hK hc i pins s σ H E I hf st hg;subst hP hw hK;obtain ⟨xs,x,hq,hx⟩:=hg;obtain ⟨its,rv,p,hz⟩:=I.list hq;obtain ⟨u,hu,ru⟩:=rv.get hx;obtain ⟨f0,f1,f2,f3,f4,f5⟩:=hf it (by simp);refine wpAny_pyNext_list_item st p.isList (x:=u) (by simpa using hu) fun h' st' sb=>?_;have I1:Inv X pins σ H { s with heap:=h' }:=I.turned (t':=s.toks) (fun b o hb e=>(sb.2 b hb).trans e) f0 f1 f3 f4 f5;obtain ⟨o,e,c,d⟩:=id st';exact ⟨u,rfl,P0 (s:={ s with heap:=h' }) e c d (by decide) ⟨x,H,I1,ru,⟨rfl,fun ys hy=>by rw [I.list_inj hy hq];exact hx⟩,st',fun b hb=>(hf b hb).1⟩⟩
 done:=by
  intro X hP hw hK hc i pins s σ H E I hf st hg;subst hP hw hK;obtain ⟨xs,hq,hx⟩:=hg;obtain ⟨its,rv,p,hz⟩:=I.list hq;obtain ⟨f0,f1,f2,f3,f4,f5⟩:=hf it (by simp);have hl:=rv.length;exact wpAny_pyNext_list_end (I.ok.hd hc) st p.isList (by simp;omega) fun h' eb=>⟨rfl,I.turned (t':=s.toks) (fun b o hb e=>eb b o hb e) f0 f1 f3 f4 f5⟩
 self:=fun _ _ _ _ _ st h=>wpAny_pyIter_listiter st h
theorem QI {P:Program}{w:World}{K:FZ9}{tg:Expr}(a it:Addr):Turn P w K tg (Itt K a) [it] it (fun i h=>h.IsTupleIter it a i) where
 mem:=by simp
 obj:=fun i h st b hb=>by
  have e:b=it:=by simpa using hb
  subst e;obtain ⟨o,e,c,d⟩:=st;exact ⟨o,e,fun v z=>by rw [d] at z;cases z⟩
 keep:=fun i h h' st k=>st.at fun o e=>k it (by simp) o e
 item:=by
  intro X hP hw hK hc i pins s σ H E I hf st hg;subst hP hw hK;obtain ⟨xs,x,hq,hx⟩:=hg;obtain ⟨its,rv,p,hz⟩:=I.tuple hq;obtain ⟨u,hu,ru⟩:=rv.get hx;obtain ⟨f0,f1,f2,f3,f4,f5⟩:=hf it (by simp);refine wpAny_pyNext_tuple_item st (show s.heap.IsTuple a its.toArray from p) (x:=u) (by simpa using hu) fun h' st' sb=>?_;have I1:Inv X pins σ H { s with heap:=h' }:=I.turned (t':=s.toks) (fun b o hb e=>(sb.2 b hb).trans e) f0 f1 f3 f4 f5;obtain ⟨o,e,c,d⟩:=id st';exact ⟨u,rfl,P0 (s:={ s with heap:=h' }) e c d (by decide) ⟨x,H,I1,ru,⟨rfl,fun ys hy=>by rw [I.tuple_inj hy hq];exact hx⟩,st',fun b hb=>(hf b hb).1⟩⟩
 done:=by
  intro X hP hw hK hc i pins s σ H E I hf st hg;subst hP hw hK;obtain ⟨xs,hq,hx⟩:=hg;obtain ⟨its,rv,p,hz⟩:=I.tuple hq;obtain ⟨f0,f1,f2,f3,f4,f5⟩:=hf it (by simp);have hl:=rv.length;exact wpAny_pyNext_tuple_end (I.ok.hd hc) st (show s.heap.IsTuple a its.toArray from p) (by simp;omega) fun h' eb=>⟨rfl,I.turned (t':=s.toks) (fun b o hb e=>eb b o hb e) f0 f1 f3 f4 f5⟩
 self:=fun _ _ _ _ _ st h=>wpAny_pyIter_tupleiter st h
theorem Qe {P:Program}{w:World}{K:FZ9}{tg:Expr}(it:Addr)(lo:Int)(n:Nat):Turn P w K tg (Itr lo n) [it] it (fun i h=>IsRangeIter h it (lo+(i:Nat) * 1) ((n:Int) - (i:Nat)) 1) where
 mem:=by simp
 obj:=fun i h st b hb=>by
  have e:b=it:=by simpa using hb
  subst e
  exact ⟨_,st,fun v z=>by
   have z':Data.fields _=Data.cell v:=z
   cases z'⟩
 keep:=fun i h h' st k=>k it (by simp) _ st
 item:=by
  intro X hP hw hK hc i pins s σ H E I hf st hg;subst hP hw hK;obtain ⟨f0,f1,f2,f3,f4,f5⟩:=hf it (by simp);have W:=Walks.range (prog:=X.prog) (w:=X.w) (I.ok.hd hc) it lo 1 n;refine W.item i s _ _ hg st fun v h' tk hv st' kk=>?_;obtain ⟨t,rfl⟩:=hv;have I1:Inv X pins σ H { s with heap:=h',toks:=tk }:=I.turned (fun b o hb e=>kk b o (by simpa using hb) e) f0 f1 f3 f4 f5;refine ⟨_,rfl,P0 (s:={ s with heap:=h',toks:=tk }) (n := "range_iterator") st' rfl rfl (by decide) ⟨.int (lo+i),H,I1,⟨t,?_⟩,⟨rfl,rfl⟩,st',fun b hb=>(hf b hb).1⟩⟩;rw [Int.mul_one]
 done:=by
  intro X hP hw hK hc i pins s σ H E I hf st hg;subst hP hw hK;obtain ⟨f0,f1,f2,f3,f4,f5⟩:=hf it (by simp);exact wpAny_pyNext_range_end (I.ok.hd hc) st (by have:n<=i:=hg;omega) fun h' eb=>⟨rfl,I.turned (t':=s.toks) (fun b o hb e=>eb b o hb e) f0 f1 f3 f4 f5⟩
 self:=fun _ _ _ _ _ st h=>wpAny_pyIter_rangeiter st h
section
variable {X:Cx}{tg:Expr}
theorem range_it {pins:List (Addr × Obj)}{σ:St}{H:Hp}{s:Shared}{R:It->Hp->Prop}{E:Value->Shared->Prop}{lo hi:Int}{t u v:Tok}{tk:Nat}(I:Inv X pins σ H s)(h1:-(2 ^ 62)<=lo)(h2:lo<2 ^ 62)(h3:-(2 ^ 62)<=hi)(h4:hi<2 ^ 62)
  (q:R (Itr lo (hi - lo).toNat) H):wpAny (model X.prog X.w) X.A (pyIter (.ref s.heap.objs.size)) (PIE X pins σ tg R) E { s with heap:=s.heap.push { cls:=.type "range",data:=.fields #[.int lo t,.int hi u,.int 1 v] },toks:=tk }:=by
 refine wpAny_pyIter_range (IsRange.new ..) (small_one h1 h2 h3 h4) ?_;have I1:Inv X pins σ H { s with heap:=s.heap.push { cls:=.type "range",data:=.fields #[.int lo t,.int hi u,.int 1 v] },toks:=tk }:=I.kept fun b o e=>qnB _ e
 refine ⟨(s.heap.push { cls:=.type "range",data:=.fields #[.int lo t,.int hi u,.int 1 v] }).objs.size,[(s.heap.push { cls:=.type "range",data:=.fields #[.int lo t,.int hi u,.int 1 v] }).objs.size],_,_,H,rfl,
  I1.kept (t':=tk) fun b o e=>qnB _ e,Qe _ lo (hi - lo).toNat,?_,fun b hb=>?_,q⟩
 ·have e1:lo+((0:Nat):Int) * 1=lo:=by simp
  have e2:(((hi - lo).toNat:Nat):Int) - ((0:Nat):Int)=Builtin.Range.rangeSize lo hi 1:=by rw [rangeSize_one];split<;>omega
  show IsRangeIter _ _ (lo+((0:Nat):Int) * 1) ((((hi - lo).toNat:Nat):Int) - ((0:Nat):Int)) 1;rw [e1,e2];exact qoB _ rfl
 ·have e:b=(s.heap.push { cls:=.type "range",data:=.fields #[.int lo t,.int hi u,.int 1 v] }).objs.size:=by simpa using hb
  subst e;exact I1.fpOk (qgB _) (I1.hok.fresh (qgB _))
def iRng1 (ta:TA):TI:=fun σ H R=>ta σ H fun vs H1=>∃ j:Int,vs=[.int j]/\-(2 ^ 62)<=j/\j<2 ^ 62/\R (Itr 0 j.toNat) H1
theorem E3 {a:Expr}{ta:TA}{p pos:Pos}(hg:Gl X "range")(hm:X.mg "range" = none)(ha:PA X [a] ta)(hs:starEach [a] X.env=[(false,eval a X.env)]:=by rfl):PI X tg (.Call (.Name "range" p) [a] [] pos) (iRng1 ta):=by
 intro pins s σ H R I h;refine Call_ (HG I hg hm boot_range (PyProof.Rows.callWith_type1 (thn (ha pos pins s σ H _ I h) fun us s1 ⟨vs,H1,I1,r1,q1⟩=>?_) hs rfl));obtain ⟨j,e,q1,q2,q⟩:=q1;subst e
 cases r1 with
 | cons r rr =>
  cases rr;obtain ⟨t,rfl⟩:=r;exact call_range_1 (range_it I1 (by omega) (by omega) q1 q2 (by simpa using q))
def tFor (wi:TI)(g:TG)(tb:TS):TS:=fun D σ H=>wi σ H fun J H1=>∃ W:Nat->Nat->St->Hp->Prop,(∃ m,W 0 m σ H1)/\∀ i m σ H,W i m σ H ->
 (J.stop i H/\D.nx σ H)\/(J.go i H/\∃ N:St->Hp->Prop,(∀ σ' H',N σ' H'->∃ m',m'<m/\W (i+1) m' σ' H')/\∀ x H',J.yld i H x H'->g x σ H' fun σ2 H2=>tb { D with nx:=N,ct:=N,bk:=D.nx } σ2 H2)
def Is (fp:List Addr)(h:Heap):List (Addr × Obj):=fp.filterMap fun b=>(h.get? b).map fun o=>(b,o)
theorem Db {fp:List Addr}{h:Heap}{b:Addr}{o:Obj}(hb:b∈fp)(e:h.get? b=some o):(b,o)∈Is fp h:=List.mem_filterMap.mpr ⟨b,hb,by rw [e];rfl⟩
theorem Si {fp:List Addr}{h:Heap}{p:Addr × Obj}(hp:p∈Is fp h):p.1∈fp/\h.get? p.1=some p.2:=by
 obtain ⟨b,hb,e⟩:=List.mem_filterMap.mp hp
 cases q:h.get? b with
 | none=>rw [q] at e;cases e
 | some o =>
  rw [q] at e;have e':(b,o)=p:=qkB e;subst e';exact ⟨hb,q⟩
theorem Inv.pinned {pins:List (Addr × Obj)}{σ:St}{H:Hp}{s:Shared}{fp:List Addr}(I:Inv X pins σ H s)(hf:∀ b∈fp,Ft X pins H b)(ho:∀ b∈fp,∃ o,s.heap.get? b=some o/\∀ v,o.data ≠ .cell v):Inv X (pins++Is fp s.heap) σ H s :=
 I.pins_of fun p hp=>(qmA.mp hp).elim (fun z=>I.pin p (qgC _ z)) fun z=>by
  obtain ⟨hb,e⟩:=Si z;obtain ⟨f0,f1,f2,_⟩:=hf p.1 hb;obtain ⟨o,e',d⟩:=ho p.1 hb;rw [e] at e';cases e';exact ⟨e,f0,f1,f2,d⟩
theorem Inv.unpinned {pins pl:List (Addr × Obj)}{σ:St}{H:Hp}{s:Shared}(I:Inv X (pins++pl) σ H s):Inv X pins σ H s:=I.pins_of fun p hp=>I.pin p (qgC _ (List.mem_append_left _ hp))
theorem DL {iter:Expr}{body:List Stmt}{wi:TI}{g:TG}{tb:TS}{pos:Pos}(hp:PassesOwn (model X.prog X.w) X.A X.env X.xe)(hc:X.calm=true)(hi:PI X tg iter wi)(hg:PG X tg g)(hb:PSs X body tb)
  (hs:∀ x,foldedSetIterable iter X.env x=pure x:=by intro _;rfl):PS X (.For tg iter body [] pos) (tFor wi g tb):=by
 intro pins s σ H D I h;refine wpAny_For (thn (hi pins s σ H _ I h) fun v s1 h1=>thn h1 fun itv s2 h2=>?_) hs;obtain ⟨it,fp,tn,J,H2,e,I2,T,st2,f2,W,⟨m0,w0⟩,turn⟩:=h2;subst e;have stat:∀ {H':Hp},(∀ b∈fp,H' b=none)->∀ b∈fp,Ft X pins H' b:=fun hn b hb=>⟨hn b hb,(f2 b hb).2⟩;refine codeAny_forLoop_any (fun n s'=>∃ i σ' H',Inv X pins σ' H' s'/\tn i s'.heap/\(∀ b∈fp,H' b=none)/\W i n σ' H') ?_ m0 ⟨0,σ,H2,I2,st2,fun b hb=>(f2 b hb).1,w0⟩;rintro n s3 ⟨i,σ3,H3,I3,st3,fr3,w3⟩;rcases turn i n σ3 H3 w3 with ⟨stop,qn⟩ | ⟨go,N,hN,step⟩
 ·refine wpAny_passesOwn hp (thn (T.done X rfl rfl rfl hc i pins s3 σ3 H3 X.xe I3 (stat fr3) st3 stop) fun r s4 ⟨hr,I4⟩=>?_);subst hr;exact wpAny_execs_nil ⟨σ3,H3,I4,qn⟩
 ·refine wpAny_passesOwn hp (thn (T.item X rfl rfl rfl hc i pins s3 σ3 H3 X.xe I3 (stat fr3) st3 go) fun r s4 ⟨u,hr,h4⟩=>?_);subst hr;refine wpAny_passesOwn hp (thn h4 fun _ s5 ⟨x,H5,I5,r5,y5,st5,fr5⟩=>?_);have I5':=I5.pinned (stat fr5) (T.obj _ _ st5);refine wpAny_passesOwn hp (thn (hg _ s5 σ3 H5 x u _ I5' r5 (step x H5 y5)) fun _ s6 ⟨σ6,H6,I6,q6⟩=>?_);refine wpAny_passesOwn hp (thn (hb _ s6 σ6 H6 _ I6 q6) fun f s7 q7=>?_)
  have again:∀ {σ7:St}{H7:Hp},Inv X (pins++Is fp s5.heap) σ7 H7 s7->N σ7 H7->∃ m,m<n/\∃ i σ' H',Inv X pins σ' H' s7/\tn i s7.heap/\(∀ b∈fp,H' b=none)/\W i m σ' H':=fun {σ7 H7} I7 n7=>by
   obtain ⟨m',hm,w7⟩:=hN σ7 H7 n7;refine ⟨m',hm,i+1,σ7,H7,I7.unpinned,T.keep _ _ _ st5 fun b hb o e=>(I7.pin (b,o) (qgC _ (qgC _ (Db hb e)))).1,fun b hb=>?_,w7⟩;obtain ⟨o,e,d⟩:=T.obj _ _ st5 b hb;exact (I7.pin (b,o) (qgC _ (qgC _ (Db hb e)))).2.1
  cases f with
  | next=>obtain ⟨σ7,H7,I7,n7⟩:=q7;exact again I7 n7
  | cont=>obtain ⟨σ7,H7,I7,n7⟩:=q7;exact again I7 n7
  | brk=>obtain ⟨σ7,H7,I7,q7⟩:=q7;exact ⟨σ7,H7,I7.unpinned,q7⟩
  | ret v=>obtain ⟨x7,σ7,H7,I7,r7,q7⟩:=q7;exact ⟨x7,σ7,H7,I7.unpinned,r7,q7⟩
end
abbrev R2:=V->V->Hp->VK->Prop
def OpR (X:Cx)(f:Value->Value->Sem Value)(r:R2):Prop :=
 ∀ (pins:List (Addr × Obj)) (s:Shared) (σ:St) (H:Hp) (x y:V) (v u:Value) (Q:VK),Inv X pins σ H s->RelV x v->RelV y u->r x y H Q ->
  wpAny (model X.prog X.w) X.A (f v u) (EP X pins σ Q) X.xe s
def CW (X:Cx)(f:Value)(r:List V->Hp->VK->Prop):Prop :=
 ∀ (pins:List (Addr × Obj)) (s:Shared) (σ:St) (H:Hp) (xs:List V) (us:List Value) (Q:VK),Inv X pins σ H s->Vals xs us->r xs H Q ->
  wpAny (model X.prog X.w) X.A (call f us) (EP X pins σ Q) X.xe s
def TruR (X:Cx)(r:V->Hp->(Bool->Hp->Prop)->Prop):Prop :=
 ∀ (pins:List (Addr × Obj)) (s:Shared) (σ:St) (H:Hp) (x:V) (v:Value) (Q:Bool->Hp->Prop),Inv X pins σ H s->RelV x v->r x H Q ->
  wpAny (model X.prog X.w) X.A (truthy v) (TP X pins σ Q) X.xe s
abbrev tOp (r:R2)(ta tb:TE):TE:=fun σ H Q=>ta σ H fun x H1=>tb σ H1 fun y H2=>r x y H2 Q
def rI (C:Int->Int->Prop)(g:Int->Int->V):R2:=fun x y H Q=>∃ i j,x = .int i/\y = .int j/\C i j/\Q (g i j) H
def rI0 (g:Int->Int->V):R2:=fun x y H Q=>∃ i j,x = .int i/\y = .int j/\Q (g i j) H
section
variable {X:Cx}{a b c:Expr}{ta tb tc:TE}{pos:Pos}
theorem binT (ha:PE X a ta)(hb:PE X b tb){pins:List (Addr × Obj)}{s:Shared}{σ:St}{H:Hp}{R:V->V->Hp->Prop}(I:Inv X pins σ H s)
  (h:ta σ H fun x H1=>tb σ H1 fun y H2=>R x y H2) {Q:Value->Shared->Prop}{f:Value->Value->Sem Value}
  (hf:∀ v u s2 x y H2,Inv X pins σ H2 s2->RelV x v->RelV y u->R x y H2->wpAny (model X.prog X.w) X.A (f v u) Q X.xe s2) :
  wpAny (model X.prog X.w) X.A (eval a X.env) (fun v s₁=>wpAny (model X.prog X.w) X.A (eval b X.env) (fun u s₂=>wpAny (model X.prog X.w) X.A (f v u) Q X.xe s₂) X.xe s₁) X.xe s:=by
 refine thn (ha pins s σ H _ I h) fun v s1 ⟨x,H1,I1,r1,q1⟩=>?_;refine thn (hb pins s1 σ H1 _ I1 q1) fun u s2 ⟨y,H2,I2,r2,q2⟩=>?_;exact hf v u s2 x y H2 I2 r1 r2 q2
theorem BF {op:Operator}{r:R2}(ho:OpR X (binaryOp op) r)(ha:PE X a ta)(hb:PE X b tb):PE X (.BinOp a op b pos) (tOp r ta tb):=by
 intro pins s σ H Q I h;exact wpAny_BinOp (binT ha hb I h fun v u s2 x y H2 I2 rx ry q=>ho pins s2 σ H2 x y v u Q I2 rx ry q)
theorem opI {f:Value->Value->Sem Value}{C:Int->Int->Prop}{g:Int->Int->Int}
  (rule:∀ (i j:Int) (t u:Tok) (s:Shared) (Q:Value->Shared->Prop) (E:Value->Shared->Prop),C i j->Q (.int (g i j) s.toks) { s with toks:=s.toks+1 }->wpAny (model X.prog X.w) X.A (f (.int i t) (.int j u)) Q E s) :
  OpR X f (rI C fun i j=>.int (g i j)):=by
 intro pins s σ H x y v u Q I rx ry h;obtain ⟨i,j,rfl,rfl,hc,q⟩:=h;obtain ⟨t,rfl⟩:=rx;obtain ⟨t',rfl⟩:=ry;exact rule i j t t' s _ _ hc ⟨.int (g i j),H,I.tok _,⟨_,rfl⟩,q⟩
theorem opI0 {f:Value->Value->Sem Value}{g:Int->Int->Int}
  (rule:∀ (i j:Int) (t u:Tok) (s:Shared) (Q:Value->Shared->Prop) (E:Value->Shared->Prop),Q (.int (g i j) s.toks) { s with toks:=s.toks+1 }->wpAny (model X.prog X.w) X.A (f (.int i t) (.int j u)) Q E s) :
  OpR X f (rI0 fun i j=>.int (g i j)):=by
 intro pins s σ H x y v u Q I rx ry h;obtain ⟨i,j,rfl,rfl,q⟩:=h;obtain ⟨t,rfl⟩:=rx;obtain ⟨t',rfl⟩:=ry;exact rule i j t t' s _ _ ⟨.int (g i j),H,I.tok _,⟨_,rfl⟩,q⟩
theorem opB0 {f:Value->Value->Sem Value}{g:Int->Int->Bool}
  (rule:∀ (i j:Int) (t u:Tok) (s:Shared) (Q:Value->Shared->Prop) (E:Value->Shared->Prop),Q (.bool (g i j)) s->wpAny (model X.prog X.w) X.A (f (.int i t) (.int j u)) Q E s) :
  OpR X f (rI0 fun i j=>.bl (g i j)):=by
 intro pins s σ H x y v u Q I rx ry h;obtain ⟨i,j,rfl,rfl,q⟩:=h;obtain ⟨t,rfl⟩:=rx;obtain ⟨t',rfl⟩:=ry;exact rule i j t t' s _ _ ⟨.bl (g i j),H,I,rfl,q⟩
def Q9 (i j:Int):Prop:=0<j/\j<1073741824
def CMul (i j:Int):Prop:=(-(2 ^ 64)<i/\i<2 ^ 64)\/(-(2 ^ 64)<j/\j<2 ^ 64)
theorem CMul.ok {i j:Int}(h:CMul i j):IntMulOk i j:=by
 rcases h with ⟨h1,h2⟩ | ⟨h1,h2⟩
 ·exact .of_left (intBits_le_64 h1 h2)
 ·exact .of_right (intBits_le_64 h1 h2)
theorem op_add:OpR X (binaryOp .Add) (rI0 fun i j=>.int (i+j)):=opI0 fun _ _ _ _ _ _ _ q=>add_int q
theorem op_sub:OpR X (binaryOp .Sub) (rI0 fun i j=>.int (i - j)):=opI0 fun _ _ _ _ _ _ _ q=>sub_int q
theorem op_mul:OpR X (binaryOp .Mult) (rI CMul fun i j=>.int (i * j)):=opI fun _ _ _ _ _ _ _ hc q=>mul_int q hc.ok
theorem IB:OpR X (binaryOp .FloorDiv) (rI Q9 fun i j=>.int (i / j)):=opI fun i j _ _ _ _ _ hc q=>by
 have h1:(0:Int)<j:=hc.1;have h2:j<1073741824:=hc.2;exact floordiv_int (by omega) (by rw [Int.fdiv_eq_ediv_of_nonneg i (by omega)];exact q) (.inl (PyProof.noPylong_small (by omega)))
theorem C4:OpR X (binaryOp .Mod) (rI (fun _ j=>0<j) fun i j=>.int (i % j)):=opI fun i j _ _ _ _ _ hc q=>by
 have h1:(0:Int)<j:=hc;exact mod_int' (by omega) (by rw [Int.fmod_eq_emod_of_nonneg i (by omega)];exact q)
end
def scal:V->V->Bool
 | .non,.non=>true | .non,.int _=>true | .int _,.non=>true | .non,.bl _=>true | .bl _,.non=>true | .non,.str _=>true | .str _,.non=>true
 | .int _,.int _=>true | .bl _,.bl _=>true | .str _,.str _=>true | .byt _,.byt _=>true
 | .int _,.str _=>true | .str _,.int _=>true | .bl _,.str _=>true | .str _,.bl _=>true
 | _,_=>false
def rEq:R2:=fun x y H Q=>scal x y=true/\Q (.bl (decide (x=y))) H
theorem dec_int {i j:Int}:decide (V.int i=V.int j)=(i == j):=by
 rw [Bool.eq_iff_iff];simp
theorem dec_bl {i j:Bool}:decide (V.bl i=V.bl j)=(i == j):=by
 rw [Bool.eq_iff_iff];simp
theorem dec_str {i j:Str}:decide (V.str i=V.str j)=(i == j):=by
 rw [Bool.eq_iff_iff];simp
theorem dec_byt {i j:Array UInt8}:decide (V.byt i=V.byt j)=(i.toList == j.toList):=by
 rw [Bool.eq_iff_iff];cases i;cases j;simp
section
variable {X:Cx}{a b c:Expr}{ta tb tc:TE}{pos:Pos}
theorem CI {pins:List (Addr × Obj)}{σ:St}{H:Hp}{s:Shared}{Q:VK}{k k':Bool}(I:Inv X pins σ H s)(q:Q (.bl k) H)(e:k=k'):EP X pins σ Q (.bool k') s:=by
 subst e;exact ⟨.bl k,H,I,rfl,q⟩
theorem BC:OpR X (compareOp .Eq) rEq:=by
 intro pins s σ H x y v u Q I rx ry h;obtain ⟨hs,q⟩:=h
 cases x with
 | non =>
  cases rx
  cases y with
  | non=>cases ry;exact PySem.EqNone.eq_none_none (CI I q (by simp))
  | bl j=>cases ry;exact PySem.EqNone.eq_none_bool (CI I q (by simp))
  | int j=>obtain ⟨t',rfl⟩:=ry;exact PySem.EqNone.eq_none_int (CI I q (by simp))
  | str j=>obtain ⟨t',rfl⟩:=ry;exact PySem.EqNone.eq_none_str (CI I q (by simp))
  | _=>exact absurd (show false=true from hs) quB
 | bl i =>
  cases rx
  cases y with
  | non=>cases ry;exact PySem.EqNone.eq_bool_none (CI I q (by simp))
  | bl j=>cases ry;exact eq_bool (CI I q dec_bl)
  | str j=>obtain ⟨t',rfl⟩:=ry;exact PySem.EqMixed.eq_bool_str (CI I q (by simp))
  | _=>exact absurd (show false=true from hs) quB
 | int i =>
  obtain ⟨t,rfl⟩:=rx
  cases y with
  | non=>cases ry;exact PySem.EqNone.eq_int_none (CI I q (by simp))
  | int j=>obtain ⟨t',rfl⟩:=ry;exact eq_int (CI I q dec_int)
  | str j=>obtain ⟨t',rfl⟩:=ry;exact PySem.EqMixed.eq_int_str (CI I q (by simp))
  | _=>exact absurd (show false=true from hs) quB
 | str i =>
  obtain ⟨t,rfl⟩:=rx
  cases y with
  | non=>cases ry;exact PySem.EqNone.eq_str_none (CI I q (by simp))
  | bl j=>cases ry;exact PySem.EqMixed.eq_str_bool (CI I q (by simp))
  | int j=>obtain ⟨t',rfl⟩:=ry;exact PySem.EqMixed.eq_str_int (CI I q (by simp))
  | str j=>obtain ⟨t',rfl⟩:=ry;exact eq_str (CI I q dec_str)
  | _=>exact absurd (show false=true from hs) quB
 | byt i =>
  obtain ⟨t,rfl⟩:=rx
  cases y with
  | byt j=>obtain ⟨t',rfl⟩:=ry;exact PySem.W.eq_bytes (CI I q dec_byt)
  | _=>exact absurd (show false=true from hs) quB
 | _=>cases y<;>exact absurd (show false=true from hs) quB
theorem op_lt:OpR X (compareOp .Lt) (rI0 fun i j=>.bl (decide (i<j))):=opB0 fun _ _ _ _ _ _ _ q=>lt_int q
theorem op_le:OpR X (compareOp .LtE) (rI0 fun i j=>.bl (decide (i<=j))):=opB0 fun _ _ _ _ _ _ _ q=>le_int q
theorem op_gt:OpR X (compareOp .Gt) (rI0 fun i j=>.bl (decide (j<i))):=opB0 fun _ _ _ _ _ _ _ q=>gt_int q
theorem Sh:OpR X (compareOp .In) (fun x y H Q=>∃ i j,x = .str i/\y = .str j/\Q (.bl (!(Builtin.Str.occurrences j i 0 j.length 1).isEmpty)) H):=by
 intro pins s σ H x y v u Q I rx ry h;obtain ⟨i,j,rfl,rfl,q⟩:=h;obtain ⟨t,rfl⟩:=rx;obtain ⟨t',rfl⟩:=ry;exact in_str (CI I q rfl)
theorem op_notN:OpR X (compareOp .IsNot) (fun x y H Q=>y = .non/\Q (.bl (!decide (x = .non))) H):=by
 intro pins s σ H x y v u Q I rx ry h;obtain ⟨rfl,q⟩:=h;cases ry;refine isnot_none_gen (CI I q ?_)
 cases x<;>first
  | (cases rx;rfl)
  | (obtain ⟨t,rfl⟩:=rx;rfl)
theorem Aa (b:Expr){op:CmpOp}(h:op ≠ .In:=by decide)(h2:op ≠ .NotIn:=by decide):behindInMarks op b=false:=by
 have e1:(op == CmpOp.In)=false:=by cases op<;>first|rfl|exact absurd rfl h
 have e2:(op == CmpOp.NotIn)=false:=by cases op<;>first|rfl|exact absurd rfl h2
 cases b<;>simp [behindInMarks,e1,e2]
theorem EQ {op:CmpOp}{r:R2}(ho:OpR X (compareOp op) r)(ha:PE X a ta)(hb:PE X b tb)(hm:behindInMarks op b=false):PE X (.Compare a [op] [b] pos) (tOp r ta tb):=by
 intro pins s σ H Q I h;exact wpAny_Compare1 (binT ha hb I h fun v u s2 x y H2 I2 rx ry q=>ho pins s2 σ H2 x y v u Q I2 rx ry q) hm
abbrev tTest (t:TE):TT:=fun σ H Q=>t σ H fun x H'=>∃ k,x = .bl k/\Q k H'
theorem AW {op:CmpOp}{r:R2}(ho:OpR X (compareOp op) r)(ha:PE X a ta)(hb:PE X b tb)(hm:behindInMarks op b=false):PT X (.Compare a [op] [b] pos) (tTest (tOp r ta tb)):=by
 intro pins s σ H Q I h
 refine wpAny_isTrue_Compare1 (thn (ha pins s σ H _ I h) fun v s1 ⟨x,H1,I1,r1,q1⟩=>thn (hb pins s1 σ H1 _ I1 q1) fun u s2 ⟨y,H2,I2,r2,q2⟩ =>
  thn (ho pins s2 σ H2 x y v u _ I2 r1 r2 q2) fun c s3 ⟨z,H3,I3,r3,k,e,q3⟩=>?_) hm
 subst e;cases r3;exact wpAny_truthy_bool ⟨H3,I3,q3⟩
def TruV (K:FZ9)(x:V)(H:Hp)(k:Bool):Prop :=
 match x with
 | .non=>k=false
 | .bl b=>k=b
 | .int i=>k=(i != 0)
 | .str y=>y.length<=sizeLine/\k=((y.length:Int) != 0)
 | .byt y=>y.size<=sizeLine/\k=((y.size:Int) != 0)
 | .ref p=>(∃ xs,SqL K H p xs/\k = !xs.isEmpty)\/(∃ xs,SqT K H p xs/\k = !xs.isEmpty)\/∃ kvs,H p=some (.dK kvs)/\k = !kvs.isEmpty
 | _=>False
theorem QF {κ:Type}{kvs:List (κ × V)}{vs:List (κ × Value)}(r:KV kvs vs):(!vs.isEmpty) = !kvs.isEmpty:=by
 cases r<;>rfl
theorem LJ {xs:List V}{its:List Value}(r:Vals xs its):(!its.toArray.isEmpty) = !xs.isEmpty:=by
 cases r<;>simp
theorem IN:(sizeLine:Nat)<2 ^ 63:=by rw [qpB];decide
theorem tru_ok:TruR X (fun x H Q=>∃ k,TruV X.K x H k/\Q k H):=by
 intro pins s σ H x v Q I rx h;obtain ⟨k,e,q⟩:=h;have hl:=IN;have hs:sizeLine=16777216:=qpB
 cases x with
 | non =>
  cases rx;have e':k=false:=e;subst e';exact truthy_none ⟨H,I,q⟩
 | bl b =>
  cases rx;have e':k=b:=e;subst e';exact wpAny_truthy_bool ⟨H,I,q⟩
 | int i =>
  obtain ⟨t,rfl⟩:=rx;have e':k=(i != 0):=e;subst e';exact PySem.P.truthy_int ⟨H,I,q⟩
 | str y =>
  obtain ⟨t,rfl⟩:=rx;obtain ⟨hy,e'⟩:y.length<=sizeLine/\k=((y.length:Int) != 0):=e;subst e';exact PySem.P.truthy_str (by omega) ⟨H,I.tok _,q⟩
 | byt y =>
  obtain ⟨t,rfl⟩:=rx;obtain ⟨hy,e'⟩:y.size<=sizeLine/\k=((y.size:Int) != 0):=e;subst e';exact PySem.W.truthy_bytes (by omega) ⟨H,I.tok _,q⟩
 | ref p =>
  cases rx;have e':(∃ xs,SqL X.K H p xs/\k = !xs.isEmpty)\/(∃ xs,SqT X.K H p xs/\k = !xs.isEmpty)\/∃ kvs,H p=some (.dK kvs)/\k = !kvs.isEmpty:=e;rcases e' with ⟨xs,hx,e'⟩ | ⟨xs,hx,e'⟩ | ⟨kvs,hx,e'⟩
  ·subst e';obtain ⟨its,r,pl,hz⟩:=I.list hx;have hlen:=r.length;exact wpAny_truthy_list pl.isList (by simp only [qvB];omega) ⟨H,I.tok _,by rw [LJ r];exact q⟩
  ·subst e';obtain ⟨its,r,pl,hz⟩:=I.tuple hx;have hlen:=r.length;exact truthy_tuple pl (by simp only [qvB];omega) ⟨H,I.tok _,by rw [LJ r];exact q⟩
  ·subst e';obtain ⟨hz,hS,vs,r,m⟩:kvs.length<=sizeLine/\(p == sysModules)=false/\∃ vs,KV kvs vs/\s.heap.DictOf (Av X.prog X.w) p vs:=I.hok p _ hx;have hlen:kvs.length=vs.length:=Paired.length r;exact wpAny_truthy_dict hS m (by omega) ⟨H,I.tok _,by rw [QF r];exact q⟩
 | _=>exact (show False from e).elim
theorem pt_truth (ha:PE X a ta)(he:∀ whole,isTrue a X.env whole=(do let v <- whole;standAt a.pos;holding [v] (truthy v))) :
  PT X a (fun σ H Q=>ta σ H fun x H'=>∃ k,TruV X.K x H' k/\Q k H'):=by
 intro pins s σ H Q I h;exact isTrue_plain (thn (ha pins s σ H _ I h) fun v s1 ⟨x,H1,I1,r1,q1⟩=>tru_ok pins s1 σ H1 x v Q I1 r1 q1) (he _)
theorem QM:OpR X (binaryOp .Add) (fun x y H Q=>∃ i j,x = .str i/\y = .str j/\i.length+j.length<=sizeLine/\Q (.str (i++j)) H):=by
 intro pins s σ H x y v u Q I rx ry h;obtain ⟨i,j,rfl,rfl,hz,q⟩:=h;obtain ⟨t,rfl⟩:=rx;obtain ⟨t',rfl⟩:=ry;exact add_str (fun t' tk=>⟨.str (i++j),H,I.tok _,⟨_,rfl⟩,q⟩) hz
theorem Ev {x:V}{us:List Value}(r:Vals [x] us):∃ u,us=[u]/\RelV x u:=by
 cases r with
 | cons r1 r2=>cases r2;exact ⟨_,rfl,r1⟩
theorem MG {x y:V}{us:List Value}(r:Vals [x,y] us):∃ u w',us=[u,w']/\RelV x u/\RelV y w':=by
 cases r with
 | cons r1 r2 =>
  cases r2 with
  | cons r3 r4=>cases r4;exact ⟨_,_,rfl,r1,r3⟩
theorem Lu (hc:X.calm=true):CW X (.builtin "min") (fun xs H Q=>∃ i j,xs=[.int i,.int j]/\Q (.int (if j<i then j else i)) H):=by
 intro pins s σ H xs us Q I r h;obtain ⟨i,j,rfl,q⟩:=h;obtain ⟨u,w',rfl,⟨t,rfl⟩,⟨t',rfl⟩⟩:=MG r;refine min_two_ints (I.ok.hd hc) fun h' tk k=>⟨_,H,I.kept k,?_,q⟩;by_cases hj:j<i
 ·rw [if_pos hj,if_pos hj];exact ⟨_,rfl⟩
 ·rw [if_neg hj,if_neg hj];exact ⟨_,rfl⟩
theorem TM:CW X (.type "int") (fun xs H Q=>(∃ i,xs=[.int i]/\Q (.int i) H)\/∃ k,xs=[.bl k]/\Q (.int (if k then 1 else 0)) H):=by
 intro pins s σ H xs us Q I r h;rcases h with ⟨i,rfl,q⟩ | ⟨k,rfl,q⟩
 ·obtain ⟨u,rfl,t,rfl⟩:=Ev r;exact call_int_int ⟨.int i,H,I,⟨_,rfl⟩,q⟩
 ·obtain ⟨u,rfl,r1⟩:=Ev r;cases r1;exact call_int_bool ⟨.int (if k then 1 else 0),H,I.tok _,⟨_,rfl⟩,q⟩
end
theorem RelO.some_of {v:V}{o:Option Value}(r:RelO (some v) o):∃ u,o=some u/\RelV v u:=by
 cases o with
 | none=>exact (show False from r).elim
 | some u=>exact ⟨u,rfl,r⟩
structure Room (k:Nat)(A:Around):Prop where
 hd:A.handled=none
 dp:A.depth+3 * k+5<recursionLimit
 un:A.units+16 * k+200<cLine
theorem Room.mono {j k:Nat}{A:Around}(r:Room k A)(h:j<=k):Room j A:=⟨r.hd,by have:=r.dp;omega,by have:=r.un;omega⟩
theorem Room.deeper {k:Nat}{A:Around}(r:Room (k+1) A)(env:Env):Room k (A.deeper env) :=
 ⟨r.hd,by have:=r.dp;show A.depth+1+3 * k+5<_;omega,by have:=r.un;show A.units+3+16 * k+200<_;omega⟩
theorem Room.depth {k:Nat}{A:Around}(r:Room k A):A.depth<recursionLimit:=by have:=r.dp;omega
abbrev B7:TA:=fun _ H Q=>Q [] H
abbrev AK (ta:TE)(tr:TA):TA:=fun σ H Q=>ta σ H fun x H1=>tr σ H1 fun xs H2=>Q (x::xs) H2
section
variable {X:Cx}{e:Expr}{es:List Expr}{te:TE}{t:TA}{pos:Pos}
theorem A8:PA X [] B7:=fun _ _ _ _ H Q I h=>Calls.spliced_nil ⟨[],H,I,.nil,h⟩
theorem A5 (ha:PE X e te)(hr:PA X es t)(hs:starEach (e::es) X.env=(false,eval e X.env)::starEach es X.env:=by rfl):PA X (e::es) (AK te t):=by
 intro pos pins s σ H Q I h;rw [hs];show wpAny _ _ (spliced ((false,eval e X.env)::backTo pos (starEach es X.env))) _ _ s;refine Calls.spliced_cons (thn (ha pins s σ H _ I h) fun u s1 ⟨x,H1,I1,r1,q1⟩=>?_);exact thn (hr pos pins s1 σ H1 _ I1 q1) fun us s2 ⟨xs,H2,I2,r2,q2⟩=>⟨x::xs,H2,I2,.cons r1 r2,q2⟩
abbrev JY (t:TA):TE:=fun σ H Q=>t σ H fun xs H1=>xs.length<=sizeLine/\∀ p,H1 p=none->Q (.ref p) (upd H1 p (.tup xs))
abbrev tLst (t:TA):TE:=fun σ H Q=>t σ H fun xs H1=>xs.length<=sizeLine/\∀ p,H1 p=none->Q (.ref p) (upd H1 p (.lst xs))
theorem AU {x1}(h:PA X es t):PE X (.Tuple es x1 pos) (JY t):=by
 intro pins s σ H Q I hq;refine wpAny_Tuple_spliced (thn (h pos pins s σ H _ I hq) fun us s1 ⟨xs,H1,I1,r,z,q⟩=>⟨by rw [<- r.length];exact z,?_⟩);have hf:H1 s1.heap.objs.size=none:=I1.hok.fresh (qgB _);refine ⟨.ref s1.heap.objs.size,upd H1 s1.heap.objs.size (.tup xs),I1.laid (t':=s1.toks) (fun b u e=>qnB _ e) (qgB _) ?_,rfl,q _ hf⟩;exact ⟨z,us,r,⟨_,qoB _ rfl,rfl,_,rfl⟩⟩
theorem Cg (h:PA X es t):PE X (.List es pos) (tLst t):=by
 intro pins s σ H Q I hq;refine wpAny_List_spliced (thn (h pos pins s σ H _ I hq) fun us s1 ⟨xs,H1,I1,r,z,q⟩=>⟨by rw [<- r.length];exact z,?_⟩);have hf:H1 s1.heap.objs.size=none:=I1.hok.fresh (qgB _);refine ⟨.ref s1.heap.objs.size,upd H1 s1.heap.objs.size (.lst xs),I1.laid (t':=s1.toks) (fun b u e=>qnB _ e) (qgB _) ?_,rfl,q _ hf⟩;exact ⟨z,us,0,r,qoB _ rfl⟩
end
abbrev Sp:=List V->Hp->VK->XK->Prop
abbrev CXT:=List Env->Hp->Shared->XK->Value->Shared->Prop
structure Env0 (P:Program)(w:World)(K:FZ9)(mg:Str->Option Value)(base:Heap)(A:Around)(outer:List Env)(s:Shared)(H:Hp):Prop where
 frames:A.frames=some outer
 mod:Mod K mg base
 bs:∀ b o,base.get? b=some o->s.heap.get? b=some o/\H b=none
 bsz:base.objs.size<=s.heap.objs.size
 funs:s.heap.FunFrames base outer
 frf:∀ b∈frs outer,H b=none
 hok:HOk P w H s.heap
 bare:AllBare s.gens
def CE (outer:List Env)(P:Program)(w:World)(H:Hp)(s:Shared)(Q:VK)(u:Value)(s':Shared):Prop :=
 ∃ v H',s'.os=s.os/\AllBare s'.gens/\Un (frs outer) [] H H' s.heap s'.heap/\HOk P w H' s'.heap/\RelV v u/\Q v H'
def CR (CX:CXT)(outer:List Env)(P:Program)(w:World)(H:Hp)(s:Shared)(Q:VK)(E:XK)(r:Result)(s':Shared):Prop :=
 match r with
 | .ok (.ret u)=>CE outer P w H s Q u s'
 | .ok _=>False
 | .error e=>CX outer H s E e s'
structure FnOk (P:Program)(w:World)(K:FZ9)(mg:Str->Option Value)(base:Heap)(CX:CXT)(k:Nat)(f:Addr)(fd:FuncData)(ps:List Str)(sp:Sp):Prop where
 len:∀ vs H Q E,sp vs H Q E->vs.length=ps.length
 run:∀ (A:Around) (outer:List Env) (s:Shared) (H:Hp) (args:Args) (us:List Value) (vs:List V) (Q:VK) (E:XK),Room k A->Env0 P w K mg base A outer s H->BindsTo s fd args (ps.zip us)->Vals vs us->sp vs H Q E ->
  codeAny (model P w) A (.call (.ref f) args) (CR CX outer P w H s Q E) s
theorem FnOk.imp {P:Program}{w:World}{K:FZ9}{mg:Str->Option Value}{base:Heap}{CX:CXT}{k:Nat}{f:Addr}{fd:FuncData}{ps:List Str}{sp sp':Sp}(F:FnOk P w K mg base CX k f fd ps sp)
  (h:∀ vs H Q E,sp' vs H Q E->sp vs H Q E):FnOk P w K mg base CX k f fd ps sp' :=
 ⟨fun vs H Q E q=>F.len vs H Q E (h _ _ _ _ q),fun A outer s H args us vs Q E hr he hb hv hs=>F.run A outer s H args us vs Q E hr he hb hv (h _ _ _ _ hs)⟩
section
variable {X:Cx}{pins:List (Addr × Obj)}{σ:St}{H:Hp}{s s':Shared}
theorem Inv.env0 (I:Inv X pins σ H s):Env0 X.prog X.w X.K X.mg X.base X.A X.stack s H :=
 ⟨I.ok.frames,I.ok.mod,I.bs,qhB I.ok.bsz I.sz,I.stack,I.stkFree,I.hok,I.bare⟩
theorem Inv.after {Q:VK}{u:Value}(I:Inv X pins σ H s)(h:CE X.stack X.prog X.w H s Q u s'):EP X pins σ Q u s':=by
 obtain ⟨v,H',os,bare,un,hok,r,q⟩:=h;obtain ⟨hh,g,d,t,os'⟩:=s';obtain rfl:os'=s.os:=os;exact ⟨v,H',I.call (h':=hh) (g':=g) (d':=d) (t':=t) (ch:=[]) un hok bare (fun b z=>absurd z (by simp)),r,q⟩
end
abbrev Dt (sp:Sp)(dvs:List V)(E:XK)(t:TA):TE:=fun σ H Q=>t σ H fun vs H1=>sp (vs++dvs) H1 Q E
def Binds (K:FZ9)(fd:FuncData)(ps:List Str)(ds:List Value):Prop :=
 ∀ (s:Shared) (us:List Value),K.In s.heap->(us++ds).length=ps.length->BindsTo s fd ⟨us,[]⟩ (ps.zip (us++ds))
theorem Binds.all {K:FZ9}{fd:FuncData}{ps:List Str}(h:∀ us:List Value,us.length=ps.length->bindArgs fd ⟨us,[]⟩=pure (ps.zip us)):Binds K fd ps []:=fun s us _ hl=>by
 rw [qeB] at hl ⊢;exact .of_eq (h us hl)
def QN (CX:CXT)(X:Cx)(E:XK):Prop:=∀ (pins:List (Addr × Obj)) (σ:St) (H:Hp) (s:Shared) (e:Value) (s':Shared),Inv X pins σ H s->CX X.stack H s E e s'->X.xe e s'
section
variable {X:Cx}{CX:CXT}{k:Nat}{f C:Addr}{fd:FuncData}{ps:List Str}{sp:Sp}{dvs:List V}{ds:List Value}{E:XK}{x m:Str}{p pos apos:Pos}{e o:Expr}{es:List Expr}{ta:TE}{t:TA}
theorem run_fn {pins:List (Addr × Obj)}{σ:St}{H:Hp}{s:Shared}{Q:VK}{us:List Value}{vs:List V}(F:FnOk X.prog X.w X.K X.mg X.base CX k f fd ps sp)(hr:Room k X.A)(hb:Binds X.K fd ps ds)(hd:Vals dvs ds)(hx:QN CX X E)
  (I:Inv X pins σ H s) (r:Vals vs us) (h:sp (vs++dvs) H Q E):wpAny (model X.prog X.w) X.A (call (.ref f) us) (EP X pins σ Q) X.xe s:=by
 have r2:Vals (vs++dvs) (us++ds):=r.append hd;have hl:(us++ds).length=ps.length:=by rw [<- r2.length];exact F.len _ _ _ _ h
 refine wpAny_call (codeAny_mono (F.run X.A X.stack s H ⟨us,[]⟩ (us++ds) (vs++dvs) Q E hr I.env0 (hb s us I.kIn hl) r2 h) fun r s' hq=>?_)
 cases r with
 | error e=>exact hx pins σ H s e s' I hq
 | ok fl =>
  cases fl with
  | ret u=>exact I.after hq
  | next=>exact False.elim hq
  | brk=>exact False.elim hq
  | cont=>exact False.elim hq
theorem pe_call (F:FnOk X.prog X.w X.K X.mg X.base CX k f fd ps sp)(hr:Room k X.A)(hg:Gl X x)(hm:X.mg x=some (.ref f))(hk:qzB X.K (.ref f)=true)(hb:Binds X.K fd ps ds)(hd:Vals dvs ds)(hx:QN CX X E)
  (ha:PA X (e::es) t) (hdb:(x == ("__debug__" : Str))=false:=by decide) (he:starEach (e::es) X.env=(false,eval e X.env)::starEach es X.env:=by rfl) (hpl:(backTo pos (starEach es X.env)).any (·.1)=false:=by rfl) :
  PE X (.Call (.Name x p) (e::es) [] pos) (Dt sp dvs E t):=by
 intro pins s σ H Q I h;refine wpAny_Call_Name_kw (Hb I hg hm ?_ hdb);refine PySem.W.callWith_K (h₀:=X.base) I.ok.mod.kin hk (thn (ha pos pins s σ H _ I h) fun us s1 ⟨vs,H1,I1,r,q⟩=>⟨I1.kIn,?_⟩) he hpl;exact run_fn F hr hb hd hx I1 r q
end
structure FnScope (N P:List Str)(sc:Scope):Prop where
 kind:sc.kind = .function
 co:sc.isCoroutine=false
 gen:sc.isGenerator=false
 nd:N.Nodup
 pre:N.take P.length=P
 par:∀ x∈P,sc.names.lookup x=some .local \/ sc.names.lookup x=some .cell
 nofree:∀ y∈sc.names,y.2 ≠ .free
theorem MD {kindOf:Str->Option NameKind}{x:Str}:∀ {binds:List (Str × Value)}{m:Str->Option Value},(∀ v,(x,v) ∉ binds)->bindL kindOf binds m x=m x
 | [],_,_=>rfl
 | (n,v)::r,m,h=>by
  unfold bindL;rw [MD fun w hw=>h w (qsA _ hw)];split
  ·have:x≠n:=by rintro rfl;exact h v qrA
   simp [this]
  ·rfl
theorem MS {kindOf:Str->Option NameKind}{x:Str}:∀ {binds:List (Str × Value)}{m:Str->Option Value},(∀ v,(x,v) ∉ binds)->bindC kindOf binds m x=m x
 | [],_,_=>rfl
 | (n,v)::r,m,h=>by
  unfold bindC;rw [MS fun w hw=>h w (qsA _ hw)];split
  ·rfl
  ·have:x≠n:=by rintro rfl;exact h v qrA
   simp [this]
theorem MJ {kindOf:Str->Option NameKind}{x:Str}{v:Value}:∀ {P:List Str}{vs:List Value}{i:Nat}{m:Str->Option Value},P.Nodup->P[i]? = some x->vs[i]? = some v->kindOf x=some .local ->
  bindL kindOf (P.zip vs) m x=some v
 | [],_,_,_,_,h,_,_=>by simp at h
 | _::_,[],_,_,_,_,h,_=>by simp at h
 | p::P,w::vs,0,m,nd,h1,h2,hk=>by
  simp at h1 h2;subst h1;subst h2;show bindL kindOf ((p,w)::P.zip vs) m p=_;unfold bindL;rw [MD fun v hv=>(List.nodup_cons.mp nd).1 (List.of_mem_zip hv).1,if_pos hk];simp
 | p::P,w::vs,i+1,m,nd,h1,h2,hk=>by
  show bindL kindOf ((p,w)::P.zip vs) m x=_;unfold bindL;exact MJ (i:=i) (List.nodup_cons.mp nd).2 (by simpa using h1) (by simpa using h2) hk
theorem MU {kindOf:Str->Option NameKind}{x:Str}{v:Value}:∀ {P:List Str}{vs:List Value}{i:Nat}{m:Str->Option Value},P.Nodup->P[i]? = some x->vs[i]? = some v->kindOf x≠some .local ->
  bindC kindOf (P.zip vs) m x=some v
 | [],_,_,_,_,h,_,_=>by simp at h
 | _::_,[],_,_,_,_,h,_=>by simp at h
 | p::P,w::vs,0,m,nd,h1,h2,hk=>by
  simp at h1 h2;subst h1;subst h2;show bindC kindOf ((p,w)::P.zip vs) m p=_;unfold bindC;rw [MS fun v hv=>(List.nodup_cons.mp nd).1 (List.of_mem_zip hv).1,if_neg hk];simp
 | p::P,w::vs,i+1,m,nd,h1,h2,hk=>by
  show bindC kindOf ((p,w)::P.zip vs) m x=_;unfold bindC;exact MU (i:=i) (List.nodup_cons.mp nd).2 (by simpa using h1) (by simpa using h2) hk
def start (N:List Str)(vs:List V):St:=vs.map some++List.replicate (N.length - vs.length) none
def IY (CX:CXT)(P:Program)(w:World)(K:FZ9)(mg:Str->Option Value)(base:Heap)(N:List Str)(qual:Str)(scope:Scope)(f:Addr)(cd:Value)(A:Around)(outer:List Env)(s:Shared)(H:Hp)(E:XK):Cx where
 prog:=P
 w:=w
 K:=K
 mg:=mg
 base:=base
 A:=A.deeper (envOfC qual scope s.heap.objs.size f cd)
 N:=N
 s₀:=s
 H₀:=H
 env:=envOfC qual scope s.heap.objs.size f cd
 outer:=outer
 stack:=envOfC qual scope s.heap.objs.size f cd::outer
 ex:=[]
 calm:=true
 fn:=fun _=>true
 pn:=[]
 xe:=fun e s'=>wpAny (model P w) (A.deeper (envOfC qual scope s.heap.objs.size f cd)) (leaving (envOfC qual scope s.heap.objs.size f cd) e) (fun _ s''=>CX outer H s E e s'') (fun e' s''=>CX outer H s E e' s'') s'
theorem Pq {sc:Scope}{n:Nat}{x:Str}(h:sc.names.lookup x=some .cell):∃ c,(cellsFrom n sc.names []).lookup x=some c:=by
 have q:=PySem.W.cellsFrom_some sc.names n [] (.inl h);exact Option.isSome_iff_exists.mp q
theorem T2 {CX:CXT}{P:Program}{w:World}{K:FZ9}{mg:Str->Option Value}{base:Heap}{N ps:List Str}{qual:Str}{scope:Scope}{f:Addr}{cd:Value}{A:Around}{outer:List Env}{s s1:Shared}{H:Hp}{E:XK}{us:List Value}{vs:List V}
  (S:FnScope N ps scope) (hd:A.handled=none) (e0:Env0 P w K mg base A outer s H) (hl:vs.length=ps.length) (r:Vals vs us)
  (x:InCallC s s.heap.objs.size (bindL (envOfC qual scope s.heap.objs.size f cd).kindOf (ps.zip us) fun _=>none) (cellsFrom (s.heap.objs.size+1) scope.names []) (bindC (envOfC qual scope s.heap.objs.size f cd).kindOf (ps.zip us) fun _=>none) s1) :
  Inv (IY CX P w K mg base N qual scope f cd A outer s H E) [] (start N vs) H s1:=by
 have hpl:ps.length<=N.length:=by have:=congrArg List.length S.pre;rw [qkA] at this;omega
 obtain ⟨h1,tk,rfl,hk⟩:=x.done;have noA:∀ b:Addr,b ∉ (IY CX P w K mg base N qual scope f cd A outer s H E).ex:=fun b z=>absurd (show b∈([]:List Addr) from z) (by simp)
 refine ⟨⟨e0.mod,S.kind,rfl,rfl,qgB _,fun y z c h1 h2=>?_,fun y hy=>?_,fun y c _ h=>?_,fun _=>hd,Around.frames_deeper e0.frames,.inr ⟨rfl,rfl⟩,fun b z=>absurd z (noA b),e0.bs,e0.bsz,fun b _ _=>noA b,fun b z=>absurd z (noA b),e0.funs,e0.frf⟩,
  rfl,e0.bare,Un.kept hk,⟨_,x.toInCall.ns,fun i y v h1 h2 h3=>?_⟩,fun y c h=>⟨_,x.cell y c h⟩,e0.hok.fresh (qgB _),fun y c h=>?_,fun p hp=>absurd (show p∈([]:List (Addr × Obj)) from hp) (by simp),e0.hok.kept hk,?_⟩
 ·exact name_of_addr x.apart (PySem.mem_of_lookup h1) (PySem.mem_of_lookup h2)
 ·have hy:scope.names.lookup y=some .cell\/scope.names.lookup y=some .free:=hy;rcases hy with hy|hy
  ·exact Pq hy
  ·exact absurd rfl (S.nofree _ (PySem.mem_of_lookup hy))
 ·exact Nat.le_of_lt (x.above y c (PySem.mem_of_lookup h))
 ·have hi:i<vs.length:=by
   unfold start at h2;by_cases hi:i<vs.length
   ·exact hi
   ·rw [List.getElem?_append_right (by simpa using hi)] at h2;rw [List.getElem?_replicate] at h2;split at h2<;>cases h2
  have ha:vs[i]? = some v:=by
   unfold start at h2;rw [qxA (by simpa using hi),qzA] at h2
   cases e:vs[i]? with
   | none=>rw [e] at h2;cases h2
   | some a=>rw [e] at h2;cases h2;rfl
  obtain ⟨u,hu,rv⟩:=r.get ha
  have hp:ps[i]? = some y:=by
   rw [<- S.pre,List.getElem?_take_of_lt (by omega)];exact h1
  have ndP:ps.Nodup:=by rw [<- S.pre];exact S.nd.sublist (List.take_sublist _ _)
  refine ⟨u,rv,?_⟩;rcases S.par y (quA hp) with k|k
  ·exact .inl ⟨k,MJ ndP hp hu k⟩
  ·obtain ⟨c,e⟩:=Pq (n:=s.heap.objs.size+1) k;refine .inr ⟨.inl k,c,e,?_⟩;have q:=x.cell y c e;rw [MU ndP hp hu (by show scope.names.lookup y≠_;rw [k];decide)] at q;exact q
 ·exact e0.hok.fresh (Nat.le_of_lt (x.above y c (PySem.mem_of_lookup h)))
 ·unfold start;show _=N.length;rw [qgA,qfA,List.length_replicate];omega
theorem fn_of {CX:CXT}{P:Program}{w:World}{K:FZ9}{mg:Str->Option Value}{base:Heap}{k:Nat}{f:Addr}{name qual:Str}{params:Arguments}{body:List Stmt}{scope:Scope}{dV kV doc pm cdv ct oc:Value}{an od:Option Addr}
  {osl:Array (Option Value)}{N ps:List Str}{sp:Sp}(lk:K.lookup f=some ⟨oc,od,.func (qaC name qual params body scope dV kV doc pm an cdv ct),osl⟩) (hcd:PySem.W.codeIn K cdv qual=true) (S:FnScope N ps scope)
  (len:∀ vs H Q E,sp vs H Q E->vs.length=ps.length)
  (hbody:∀ (A:Around) (outer:List Env) (s:Shared) (H:Hp) (vs:List V) (Q:VK) (E:XK),Room k (A.deeper (envOfC qual scope s.heap.objs.size f cdv))->sp vs H Q E ->
   ∃ t,PSs (IY CX P w K mg base N qual scope f cdv A outer s H E) body t/\t { nx:=fun _ H'=>Q .non H',rt:=Q } (start N vs) H) :
  FnOk P w K mg base CX (k+1) f (qaC name qual params body scope dV kV doc pm an cdv ct) ps sp:=by
 refine ⟨len,fun A outer s H args us vs Q E hr e0 hb r hsp=>?_⟩;have hl:=len _ _ _ _ hsp;have KX:K.In s.heap:=e0.mod.kin.keeps fun b o e=>(e0.bs b o e).1;have lim:s.heap.NoLimit:=e0.mod.nolimit.keeps fun b o e=>(e0.bs b o e).1
 have hkind:∀ y∈ps.zip us,scope.names.lookup y.1=some .local \/ (scope.names.lookup y.1=some .cell/\((cellsFrom (s.heap.objs.size+1) scope.names []).lookup y.1).isSome=true):=fun ⟨n,v⟩ hy=>by
  rcases S.par n (List.of_mem_zip hy).1 with q|q
  ·exact .inl q
  ·exact .inr ⟨q,PySem.W.cellsFrom_some _ _ _ (.inl q)⟩
 refine codeAny_call_function hr.depth (KX _ _ lk) rfl S.co S.gen rfl (PySem.W.codeRec_of KX hcd) (hb _ _ _ _ ?_);refine wpAny_newFunctionEnv_cells S.kind hkind fun env he s1 x=>?_;subst he;refine ⟨lim.keeps x.toInCall.keep,codeAny_func ?_⟩;obtain ⟨t,ht,hq⟩:=hbody A outer s H vs Q E (hr.deeper _) hsp;have I:Inv (IY CX P w K mg base N qual scope f cdv A outer s H E) [] (start N vs) H s1:=T2 S hr.hd e0 hl r x;refine wpAny_mono (ht [] s1 (start N vs) H _ I hq) (fun fl s' hs=>?_) fun e s' hs=>hs
 have fin:∀ {σ':St}{H':Hp}{v:V}{u:Value},Inv (IY CX P w K mg base N qual scope f cdv A outer s H E) [] σ' H' s'->RelV v u->Q v H'->CE outer P w H s Q u s' :=
  fun {σ' H' v u} J rv q=>⟨v,H',J.os,J.bare,J.base,J.hok,rv,q⟩
 cases fl with
 | ret u =>
  obtain ⟨v,σ',H',J,rv,q⟩:=hs;exact fin J rv q
 | next =>
  obtain ⟨σ',H',J,q⟩:=hs;exact fin (v:=V.non) (u:=Value.none) J rfl q
 | brk =>
  obtain ⟨_,_,_,q⟩:=hs;exact False.elim q
 | cont =>
  obtain ⟨_,_,_,q⟩:=hs;exact False.elim q
section
variable {X:Cx}{x:Str}{p pos:Pos}{e:Expr}{es:List Expr}{t:TA}{id T:String}{r:List V->Hp->VK->Prop}
abbrev tCB (r:List V->Hp->VK->Prop)(t:TA):TE:=fun σ H Q=>t σ H fun vs H1=>r vs H1 Q
theorem Bh (hc:CW X (.builtin id) r)(hg:Gl X x)(hm:X.mg x=none)(hv:bootBuiltins x=some (.builtin id))(ha:PA X (e::es) t)(hn:x ≠ "__name__" := by decide)(hdb:(x == ("__debug__" : Str))=false:=by decide)
  (he:starEach (e::es) X.env=(false,eval e X.env)::starEach es X.env:=by rfl) (hpl:(backTo pos (starEach es X.env)).any (·.1)=false:=by rfl):PE X (.Call (.Name x p) (e::es) [] pos) (tCB r t):=by
 intro pins s σ H Q I h;refine wpAny_Call_Name_kw (HG I hg hm hv ?_ hn hdb);exact PyProof.Rows.callWith_builtin1 (thn (ha pos pins s σ H _ I h) fun us s1 ⟨vs,H1,I1,r1,q1⟩=>hc pins s1 σ H1 vs us Q I1 r1 q1) he hpl
theorem Cq (hc:CW X (.type T) r)(hg:Gl X x)(hm:X.mg x=none)(hv:bootBuiltins x=some (.type T))(ha:PA X (e::es) t)(hn:x ≠ "__name__" := by decide)(hdb:(x == ("__debug__" : Str))=false:=by decide)
  (he:starEach (e::es) X.env=(false,eval e X.env)::starEach es X.env:=by rfl) (hpl:(backTo pos (starEach es X.env)).any (·.1)=false:=by rfl):PE X (.Call (.Name x p) (e::es) [] pos) (tCB r t):=by
 intro pins s σ H Q I h;refine wpAny_Call_Name_kw (HG I hg hm hv ?_ hn hdb);exact PyProof.Rows.callWith_type1 (thn (ha pos pins s σ H _ I h) fun us s1 ⟨vs,H1,I1,r1,q1⟩=>hc pins s1 σ H1 vs us Q I1 r1 q1) he hpl
end
end L2
namespace HT
open PySem PyProof.Rows
section
open PySem.SeqAt
open PySem.AutoSeq1 (wpAny_loadPart')
open PySem.MeetsSeq PySem.MeetsSeq2 PySem.MeetsSeq3
end
section
variable {prog:Program}{w:World}{A:Around}{E:Value->Shared->Prop}{s:Shared}
def sIx (n d:Nat):Option Int->Nat
 | none=>d
 | some v=>if v<0 then (v+(n:Int)).toNat else min v.toNat n
theorem sIx_le (n d:Nat)(hd:d<=n)(o:Option Int):sIx n d o<=n:=by
 cases o with
 | none=>exact hd
 | some v =>
  show (if v<0 then (v+(n:Int)).toNat else min v.toNat n)<=n;by_cases hv:v<0
  ·rw [if_pos hv];omega
  ·rw [if_neg hv];exact Nat.min_le_right _ _
theorem Ry (v:Int)(n d:Nat):(if v<0 then max (v+(n:Int)) 0 else min v (n:Int))=((sIx n d (some v):Nat):Int):=by
 show (if v<0 then max (v+(n:Int)) 0 else min v (n:Int))=(((if v<0 then (v+(n:Int)).toNat else min v.toNat n):Nat):Int);by_cases hv:v<0
 ·simp only [if_pos hv];omega
 ·simp only [if_neg hv];omega
theorem QX (lo hi:Option Int)(n:Nat):Builtin.Slice.sliceAdjust lo hi 1 (n:Int)=(((sIx n 0 lo:Nat):Int),((sIx n n hi:Nat):Int)):=by
 have h1:¬ ((1:Int)<0):=by omega
 unfold Builtin.Slice.sliceAdjust;simp only [h1,if_false];refine Prod.ext ?_ ?_
 ·cases lo with
  | none=>rfl
  | some v=>exact Ry v n 0
 ·cases hi with
  | none=>rfl
  | some v=>exact Ry v n n
theorem Qw (i j:Nat):Builtin.Slice.slicePlaces (i:Int) (j:Int) 1=j - i:=by
 unfold Builtin.Slice.slicePlaces;have h1:(1:Int) > 0:=by omega
 simp only [h1,if_true,Int.ediv_one];split<;>omega
theorem LQ {v:Value}{o:Option Int}{Q:Option Int->Shared->Prop}(p:IsPart v o)(h:Q o s):wpAny (model prog w) A (Builtin.Slice.slicePartIndex v) Q E s:=by
 cases p with
 | none=>exact slicePart_none h
 | int i t=>exact slicePart_int h
theorem IQ {sl:Addr}{vl vu:Value}{lo hi:Option Int}{n:Nat}{Q:Int × Int × Nat->Shared->Prop}(hs:s.heap.IsSliceOf sl vl vu .none)(pl:IsPart vl lo)(pu:IsPart vu hi)
  (h:Q (((sIx n 0 lo:Nat):Int),1,sIx n n hi - sIx n 0 lo) s):wpAny (model prog w) A (Builtin.Slice.sliceApplied (.ref sl) (pure (n:Int))) Q E s:=by
 obtain ⟨os,hos,hcs,hds⟩:=id hs;unfold Builtin.Slice.sliceApplied Builtin.Slice.sliceFields;refine qbA (qbA (wpAny_field hos hds (x:=vl) rfl (qbA (wpAny_field hos hds (x:=vu) rfl (qbA (wpAny_field hos hds (x:=.none) rfl (qcA ?_)))))));refine qbA (slicePart_none ?_);show wpAny _ _ (if ((1:Int) == 0)=true then _ else _) _ _ s;rw [if_neg (by decide)];refine qbA (LQ pl (qbA (LQ pu (qbA (qcA ?_)))));show wpAny _ _ (match Builtin.Slice.sliceAdjust lo hi 1 (n:Int) with | (lo,hi)=>pure (lo,(1:Int),Builtin.Slice.slicePlaces lo hi 1)) _ _ s;rw [QX lo hi n];show wpAny _ _ (pure (((sIx n 0 lo:Nat):Int),(1:Int),Builtin.Slice.slicePlaces ((sIx n 0 lo:Nat):Int) ((sIx n n hi:Nat):Int) 1)) _ _ s;rw [Qw];exact qcA h
theorem pick_gen (xs:Array Value)(i k:Nat):((List.range k).filterMap fun (m:Nat)=>xs[((i:Int)+(m:Int) * 1).toNat]?).toArray=((xs.toList.drop i).take k).toArray:=by
 have e:(fun (m:Nat)=>xs[((i:Int)+(m:Int) * 1).toNat]?)=fun m=>xs[i+m]?:=by
  funext m
  have:((i:Int)+(m:Int) * 1).toNat=i+m:=by omega
  rw [this]
 rw [e];have:=pick_run xs i k;rw [List.filterMap_map] at this;have e2:((fun x=>xs[x]?)∘fun x=>i+x)=fun m=>xs[i+m]?:=rfl;rw [e2] at this;rw [this]
theorem getItem_tuple_cut {t sl:Addr}{items:Array Value}{vl vu:Value}{lo hi:Option Int}{Q:Value->Shared->Prop}(ht:IsTup s.heap t items)(hs:s.heap.IsSliceOf sl vl vu .none)(pl:IsPart vl lo)(pu:IsPart vu hi)
  (hw:¬ (sIx items.size 0 lo=0/\sIx items.size items.size hi=items.size))
  (h:Q (.ref s.heap.objs.size) { s with heap:=s.heap.push { cls:=.type "tuple",data:=.seq ((items.toList.drop (sIx items.size 0 lo)).take (sIx items.size items.size hi - sIx items.size 0 lo)).toArray } })
  (hsz:items.size<=sizeLine):wpAny (model prog w) A (getItem (.ref t) (.ref sl)) Q E s:=by
 have htake:sizeOk (.seq ((items.toList.drop (sIx items.size 0 lo)).take (sIx items.size items.size hi - sIx items.size 0 lo)).toArray):=by
  show ((items.toList.drop (sIx items.size 0 lo)).take (sIx items.size items.size hi - sIx items.size 0 lo)).toArray.size<=sizeLine;rw [qvB,qkA,List.length_drop,qcC];omega
 have hj:sIx items.size items.size hi<=items.size:=sIx_le _ _ (qgB _) hi;obtain ⟨os,hos,hcs,hds⟩:=id hs;have hTs:s.TypeIs (.ref sl) "slice" := ⟨os,hos,hcs⟩;unfold getItem
 try with_reducible refine qeA ?_
 first|refine qbA (qcA ?_)|skip
 refine qbA (wpAny_sequenceKey ht.typeIs (by decide) ?_)
 refine qbA (wpAny_callSpecial?_slot (name:=Str.ofString "__getitem__") ht.typeIs PyProof.Rows.slot_tuple_getitem
  (qhC PyProof.Rows.slot_tuple_getitem ht.typeIs entry_tuple_getitem ?_ (args_tuple_getitem _ _)))
 show wpAny _ _ (Builtin.Tuple.tupleItemsOf (.ref t) >>= _) _ _ s;refine qbA (tupleItemsOf_ ht ?_);refine qbA (wpAny_typeOf hTs ?_);rw [if_pos (by decide)];refine qbA (IQ hs pl pu ?_)
 have hno:¬ ((((sIx items.size 0 lo:Nat):Int) == 0 && (1:Int) == 1 && (sIx items.size items.size hi - sIx items.size 0 lo) == items.size)=true):=by
  intro q;rw [qnC,qnC] at q;have q1:((sIx items.size 0 lo:Nat):Int)=0:=eq_of_beq q.1.1;have q2:sIx items.size items.size hi - sIx items.size 0 lo=items.size:=eq_of_beq q.2;exact hw ⟨by omega,by omega⟩
 show wpAny _ _ (if (((sIx items.size 0 lo:Nat):Int) == 0 && (1:Int) == 1 && (sIx items.size items.size hi - sIx items.size 0 lo) == items.size)=true then _ else _) _ _ s;rw [if_neg hno,pick_gen]
 first
  | exact qbA (m:=Builtin.Tuple.tupleExact _) (wpAny_newObj_type (qcA ⟨_,rfl,qcA h⟩) htake)
  | exact qbA (m:=Builtin.Tuple.tupleExact _) (wpAny_newObj_type (qbA (qcA (qcA ⟨_,rfl,qcA h⟩))) htake)
  | exact qbA (qbA (m:=Builtin.Tuple.tupleExact _) (wpAny_newObj_type (qcA (qcA ⟨_,rfl,qcA h⟩)) htake))
  | exact qbA (qbA (m:=Builtin.Tuple.tupleExact _) (wpAny_newObj_type (qcA ⟨_,rfl,qcA h⟩) htake))
end
end HT
namespace L2
open PySem PySem.Spec PyProof.Rows
abbrev TO:=St->Hp->(Option Int->Hp->Prop)->Prop
def PO (X:Cx)(e:Option Expr)(t:TO):Prop :=
 ∀ (pins:List (Addr × Obj)) (s:Shared) (σ:St) (H:Hp) (Q:Option Int->Hp->Prop),Inv X pins σ H s->t σ H Q ->
  wpAny (model X.prog X.w) X.A (evalPart e X.env) (fun u s'=>∃ o H',Inv X pins σ H' s'/\IsPart u o/\Q o H') X.xe s
abbrev S8:TO:=fun _ H Q=>Q none H
abbrev tPart (t:TE):TO:=fun σ H Q=>t σ H fun x H1=>∃ i,x = .int i/\Q (some i) H1
section
variable {X:Cx}{e:Expr}{te:TE}{lo hi:Option Expr}{tl th:TO}{pos p2:Pos}
theorem N0:PO X none S8:=by
 intro pins s σ H Q I h;rw [evalPart_none];exact qcA ⟨none,H,I,.none,h⟩
theorem NR (h:PE X e te):PO X (some e) (tPart te):=by
 intro pins s σ H Q I hw;rw [evalPart_some];refine thn (h pins s σ H _ I hw) fun u s1 ⟨x,H1,I1,r1,q1⟩=>?_;obtain ⟨i,rfl,q⟩:=q1;obtain ⟨t,rfl⟩:=r1;exact ⟨some i,H1,I1,.int i t,q⟩
def SlR (X:Cx)(r:V->Option Int->Option Int->Hp->VK->Prop):Prop :=
 ∀ (pins:List (Addr × Obj)) (s:Shared) (σ:St) (H:Hp) (x:V) (v vl vu:Value) (lo hi:Option Int) (sl:Addr) (Q:VK),Inv X pins σ H s->RelV x v->s.heap.IsSliceOf sl vl vu .none->IsPart vl lo->IsPart vu hi->r x lo hi H Q ->
  ∃ T id,typeLookup (.type T) "__getitem__" = pure (some (.builtin id))/\s.TypeIs v T/\wpAny (model X.prog X.w) X.A (getItem v (.ref sl)) (EP X pins σ Q) X.xe s
abbrev tSl (r:V->Option Int->Option Int->Hp->VK->Prop)(te:TE)(tl th:TO):TE:=fun σ H Q=>te σ H fun x H1=>tl σ H1 fun l H2=>th σ H2 fun u H3=>r x l u H3 Q
theorem K6 {r:V->Option Int->Option Int->Hp->VK->Prop}(hr:SlR X r)(he:PE X e te)(hl:PO X lo tl)(hu:PO X hi th):PE X (.Subscript e (.Slice lo hi none p2) pos) (tSl r te tl th):=by
 intro pins s σ H Q I h;refine Subscript_ (thn (he pins s σ H _ I h) fun v s1 ⟨x,H1,I1,r1,q1⟩=>?_);refine wpAny_Slice (thn (hl pins s1 σ H1 _ I1 q1) fun vl s2 ⟨l,H2,I2,pl,q2⟩=>thn (hu pins s2 σ H2 _ I2 q2) fun vu s3 ⟨u,H3,I3,pu,q3⟩=>?_);rw [evalPart_none];refine qcA ?_;have I4:Inv X pins σ H3 { s3 with heap:=s3.heap.push { cls:=.type "slice",data:=.fields #[vl,vu,.none] } }:=I3.kept (t':=s3.toks) fun b ob q=>qnB _ q;obtain ⟨T,id,hT,ht,hg⟩:=hr pins { s3 with heap:=s3.heap.push { cls:=.type "slice",data:=.fields #[vl,vu,.none] } } σ H3 x v vl vu l u s3.heap.objs.size Q I4 r1 (Heap.IsSliceOf.new ..) pl pu q3;show wpAny (model X.prog X.w) X.A (subscriptTail e (.Slice lo hi none p2) v (.ref s3.heap.objs.size)) (EP X pins σ Q) X.xe { s3 with heap:=s3.heap.push { cls:=.type "slice",data:=.fields #[vl,vu,.none] } };exact tail_any (ops:=[.ref s3.heap.objs.size,v]) ht hT hg (by with_unfolding_all rfl)
def Qc (xs:List V)(lo hi:Option Int):List V:=(xs.drop (HT.sIx xs.length 0 lo)).take (HT.sIx xs.length xs.length hi - HT.sIx xs.length 0 lo)
theorem JS (xs:List V)(lo hi:Option Int):(Qc xs lo hi).length<=xs.length:=by
 unfold Qc;rw [qkA,List.length_drop];omega
def rSlT (K:FZ9):V->Option Int->Option Int->Hp->VK->Prop:=fun x lo hi H Q=>∃ a xs,x = .ref a/\SqT K H a xs /\
 ¬ (HT.sIx xs.length 0 lo=0/\HT.sIx xs.length xs.length hi=xs.length)/\∀ p,H p=none->Q (.ref p) (upd H p (.tup (Qc xs lo hi)))
theorem sl_tup:SlR X (rSlT X.K):=by
 intro pins s σ H x v vl vu lo hi sl Q I rx hs pl pu h;obtain ⟨a,xs,rfl,hx,hw,q⟩:=h;cases rx;obtain ⟨its,r,ht,hz⟩:=I.tuple hx;have hlen:its.toArray.size=xs.length:=by rw [qvB];exact r.length.symm
 refine ⟨"tuple",_,PyProof.Rows.slot_tuple_getitem.lookup,ht.typeIs,?_⟩;refine HT.getItem_tuple_cut ht hs pl pu (by rw [hlen];exact hw) ?_ (by rw [hlen];exact hz);rw [hlen];refine ⟨.ref s.heap.objs.size,_,I.laid (t':=s.toks) (o:=.tup (Qc xs lo hi)) (fun b ob q=>qnB _ q) (qgB _) ?_,rfl,q _ (I.hok.fresh (qgB _))⟩;exact ⟨qhB (JS xs lo hi) hz,_,(r.drop (HT.sIx xs.length 0 lo)).take (HT.sIx xs.length xs.length hi - HT.sIx xs.length 0 lo),IsTup.new _ _⟩
end
def ixN (n:Nat)(i:Int):Option Nat:=if 0<=i then (if i<n then some i.toNat else none) else if -(n:Int)<=i then some (i+n).toNat else none
def atI {α:Type}(xs:List α)(i:Int):Option α:=(ixN xs.length i).bind fun j=>xs[j]?
theorem ixN_seq {n:Nat}{i:Int}{j:Nat}(h:ixN n i=some j):seqIndex? i n=some j/\j<n/\-(n:Int)<=i/\i<n:=by
 unfold ixN at h;by_cases h0:0<=i
 ·rw [if_pos h0] at h;by_cases h1:i<n
  ·rw [if_pos h1] at h;have e:i.toNat=j:=qkB h;exact ⟨by rw [seqIndex_of h0 h1,e],by omega,by omega,h1⟩
  ·rw [if_neg h1] at h;cases h
 ·rw [if_neg h0] at h;by_cases h1:-(n:Int)<=i
  ·rw [if_pos h1] at h;have e:(i+n).toNat=j:=qkB h;exact ⟨by rw [seqIndex_neg (by omega) h1,e],by omega,h1,by omega⟩
  ·rw [if_neg h1] at h;cases h
theorem Mx {α:Type}{xs:List α}{i:Int}{v:α}(h:atI xs i=some v):∃ j,seqIndex? i xs.length=some j/\xs[j]? = some v/\j<xs.length/\-(xs.length:Int)<=i/\i<xs.length:=by
 unfold atI at h
 cases e:ixN xs.length i with
 | none=>rw [e] at h;cases h
 | some j =>
  rw [e] at h;obtain ⟨h1,h2,h3,h4⟩:=ixN_seq e;exact ⟨j,h1,h,h2,h3,h4⟩
theorem BJ {α:Type}{xs:List α}{j:Nat}{v:α}(h:xs[j]? = some v):atI xs (j:Int)=some v:=by
 have hj:j<xs.length:=(qvA.mp h).1
 have e:ixN xs.length (j:Int)=some j:=by
  unfold ixN;rw [if_pos (by omega),if_pos (by omega)];simp
 unfold atI;rw [e];exact h
def RB (b:Expr):Prop:=∀ o i,subscripted b false o i=operate [o,i] (getItem o i)
def IxR (X:Cx)(r:R2):Prop :=
 ∀ (value slice:Expr) (pins:List (Addr × Obj)) (s:Shared) (σ:St) (H:Hp) (x y:V) (v u:Value) (Q:VK),Inv X pins σ H s->RelV x v->RelV y u->r x y H Q ->
  subscripted slice false v u=operate [v,u] (getItem v u)->wpAny (model X.prog X.w) X.A (subscriptTail value slice v u) (EP X pins σ Q) X.xe s
def MtR (X:Cx)(id:String)(r:V->List V->Hp->VK->Prop):Prop :=
 ∀ (pins:List (Addr × Obj)) (s:Shared) (σ:St) (H:Hp) (x:V) (xs:List V) (v:Value) (us:List Value) (Q:VK),Inv X pins σ H s->RelV x v->Vals xs us->r x xs H Q ->
  wpAny (model X.prog X.w) X.A (call (.builtin id) (v::us)) (EP X pins σ Q) X.xe s
section
variable {X:Cx}{a b:Expr}{ta tb:TE}{pos:Pos}
theorem pe_ix {r:R2}(hr:IxR X r)(ha:PE X a ta)(hb:PE X b tb)(hs:RB b):PE X (.Subscript a b pos) (tOp r ta tb):=by
 intro pins s σ H Q I h;exact Subscript_ (binT ha hb I h fun v u s2 x y H2 I2 rx ry q=>hr a b pins s2 σ H2 x y v u Q I2 rx ry q (hs _ _))
def rIxL (K:FZ9):R2:=fun x y H Q=>∃ p xs i v,x = .ref p/\y = .int i/\SqL K H p xs/\atI xs i=some v/\Q v H
def rIxT (K:FZ9):R2:=fun x y H Q=>∃ p xs i v,x = .ref p/\y = .int i/\SqT K H p xs/\atI xs i=some v/\Q v H
def rIxS:R2:=fun x y H Q=>∃ z i c,x = .str z/\y = .int i/\z.length<=sizeLine/\atI z.cps.toList i=some c/\Q (.str ⟨#[c]⟩) H
theorem ix_list:IxR X (rIxL X.K):=by
 intro value slice pins s σ H x y v u Q I rx ry h hs;obtain ⟨p,xs,i,z,rfl,rfl,hq,he,q⟩:=h;cases rx;obtain ⟨t,rfl⟩:=ry;obtain ⟨its,r,pl,hz⟩:=I.list hq;obtain ⟨j,h1,h2,h3,h4,h5⟩:=Mx he;obtain ⟨w,ew,rw'⟩:=r.get h2;have hl:=r.length;have hn:=IN;have fin:EP X pins σ Q w s:=⟨z,H,I,rw',q⟩;by_cases h0:0<=i
 ·have hj:i.toNat=j:=by
   rw [seqIndex_of h0 h5] at h1;exact qkB h1
  exact item_listR pl.isList h0 (by omega) (by rw [hj];simpa using ew) fin hs
 ·have hj:(i+(its.toArray.size:Int)).toNat=j:=by
   rw [seqIndex_neg (by omega) h4] at h1;rw [qvB,<- hl];exact qkB h1
  exact subscriptTail_builtinR (x:=w) pl.isList.typeIs slot_list_getitem.lookup
   (wpAny_getItem_list_neg (Q:=fun r s'=>r=w/\EP X pins σ Q r s') pl.isList (by omega) (by rw [qvB]<;>omega) (by omega) (by rw [hj];simpa using ew) ⟨rfl,fin⟩) hs
theorem ix_tup:IxR X (rIxT X.K):=by
 intro value slice pins s σ H x y v u Q I rx ry h hs;obtain ⟨p,xs,i,z,rfl,rfl,hq,he,q⟩:=h;cases rx;obtain ⟨t,rfl⟩:=ry;obtain ⟨its,r,pl,hz⟩:=I.tuple hq;obtain ⟨j,h1,h2,h3,h4,h5⟩:=Mx he;obtain ⟨w,ew,rw'⟩:=r.get h2;have hl:=r.length;have hn:=IN;have fin:EP X pins σ Q w s:=⟨z,H,I,rw',q⟩
 exact subscriptTail_builtinR (x:=w) pl.typeIs slot_tuple_getitem.lookup
  (getItem_tuple (j:=j) (Q:=fun r s'=>r=w/\EP X pins σ Q r s') pl (by omega) (by omega) (by rw [qvB,<- hl];exact h1) (by simpa using ew) ⟨rfl,fin⟩) hs
theorem ix_str:IxR X rIxS:=by
 intro value slice pins s σ H x y v u Q I rx ry h hs;obtain ⟨z,i,c,rfl,rfl,hz,he,q⟩:=h;obtain ⟨t,rfl⟩:=rx;obtain ⟨t',rfl⟩:=ry;obtain ⟨j,h1,h2,h3,h4,h5⟩:=Mx he;have hl:z.cps.toList.length=z.length:=by simp [Str.length]
 rw [hl] at h1 h4 h5;have hn:=IN
 exact tail_any (typeIs_str s z t) slot_str_getitem.lookup (getItem_str (c:=c) (by
  have e1:decide (i < -(2 ^ 63:Int))=false:=decide_eq_false (by omega);have e2:decide (i>=2 ^ 63)=false:=decide_eq_false (by omega)
  rw [e1,e2,Bool.or_false]) (by rw [h1];simpa using h2) ⟨.str ⟨#[c]⟩,H,I.tok _,⟨_,rfl⟩,q⟩) hs
def GX:V->Bool
 | .non=>true
 | .bl _=>true
 | .int _=>true
 | .str _=>true
 | _=>false
def eqV:V->V->Bool
 | .non,.non=>true
 | .bl a,.bl b=>a == b
 | .bl a,.int b=>(if a then 1 else 0) == b
 | .int a,.bl b=>a == (if b then 1 else 0)
 | .int a,.int b=>a == b
 | .str a,.str b=>a == b
 | _,_=>false
theorem eqAt_V {A:Around}{s:Shared}{y x:V}{u v:Value}(ry:RelV y u)(rx:RelV x v)(fy:GX y=true)(fx:GX x=true):SeqAt.EqAt A s u v (eqV y x):=by
 cases y with
 | non =>
  cases ry
  cases x with
  | non=>cases rx;exact SeqAt.EqAt.same _
  | bl b=>cases rx;exact SeqAt.EqAt.none_bool b
  | int b=>obtain ⟨t,rfl⟩:=rx;exact SeqAt.EqAt.none_int b t
  | str b=>obtain ⟨t,rfl⟩:=rx;exact SeqAt.EqAt.none_str b t
  | _=>exact absurd (show false=true from fx) quB
 | bl a =>
  cases ry
  cases x with
  | non=>cases rx;exact SeqAt.EqAt.bool_none a
  | bl b=>cases rx;exact SeqAt.EqAt.bool_bool a b
  | int b=>obtain ⟨t,rfl⟩:=rx;exact SeqAt.EqAt.bool_int a b t
  | str b=>obtain ⟨t,rfl⟩:=rx;exact SeqAt.EqAt.bool_str a b t
  | _=>exact absurd (show false=true from fx) quB
 | int a =>
  obtain ⟨t',rfl⟩:=ry
  cases x with
  | non=>cases rx;exact SeqAt.EqAt.int_none a t'
  | bl b=>cases rx;exact SeqAt.EqAt.int_bool a t' b
  | int b=>obtain ⟨t,rfl⟩:=rx;exact SeqAt.EqAt.int_int a t' b t
  | str b=>obtain ⟨t,rfl⟩:=rx;exact SeqAt.EqAt.int_str a t' b t
  | _=>exact absurd (show false=true from fx) quB
 | str a =>
  obtain ⟨t',rfl⟩:=ry
  cases x with
  | non=>cases rx;exact SeqAt.EqAt.str_none a t'
  | bl b=>cases rx;exact SeqAt.EqAt.str_bool a t' b
  | int b=>obtain ⟨t,rfl⟩:=rx;exact SeqAt.EqAt.str_int a t' b t
  | str b=>obtain ⟨t,rfl⟩:=rx;exact SeqAt.EqAt.str_str a t' b t
  | _=>exact absurd (show false=true from fx) quB
 | _=>exact absurd (show false=true from fy) quB
def eqU (x:V)(u:Value):Bool:=match u with
 | .none=>eqV .non x
 | .bool b=>eqV (.bl b) x
 | .int i _=>eqV (.int i) x
 | .str z _=>eqV (.str z) x
 | _=>false
theorem eqU_of {x y:V}{u:Value}(r:RelV y u)(f:GX y=true):eqU x u=eqV y x:=by
 cases y with
 | non=>cases r;rfl
 | bl b=>cases r;rfl
 | int i=>obtain ⟨t,rfl⟩:=r;rfl
 | str z=>obtain ⟨t,rfl⟩:=r;rfl
 | _=>exact absurd (show false=true from f) quB
theorem MX {x:V}:∀ {xs:List V}{us:List Value},Vals xs us->xs.all GX=true->us.any (eqU x)=xs.any fun y=>eqV y x
 | _,_,.nil,_=>rfl
 | y::xs,u::us,.cons r t,f=>by
  rw [List.all_cons,qnC] at f;rw [List.any_cons,List.any_cons,eqU_of r f.1,MX t f.2]
theorem Kc {A:Around}{s:Shared}{x:V}{v:Value}(rx:RelV x v)(fx:GX x=true):∀ {xs:List V}{us:List Value},Vals xs us->xs.all GX=true->∀ u∈us,SeqAt.EqAt A s u v (eqU x u)
 | _,_,.nil,_=>fun u hu=>by cases hu
 | y::xs,u::us,.cons r t,f=>fun u' hu=>by
  rw [List.all_cons,qnC] at f;rcases qnA.mp hu with rfl|hu
  ·rw [eqU_of r f.1];exact eqAt_V r rx f.1 fx
  ·exact Kc rx fx t f.2 u' hu
def inV (x:V)(xs:List V):Bool:=xs.any fun y=>eqV y x
def rIn (K:FZ9)(neg:Bool):R2:=fun x y H Q=>∃ p xs,y = .ref p/\(SqL K H p xs\/SqT K H p xs)/\GX x=true/\xs.all GX=true/\Q (.bl (if neg then !inV x xs else inV x xs)) H
theorem SZ:OpR X (compareOp .In) (rIn X.K false):=by
 intro pins s σ H x y v u Q I rx ry h;obtain ⟨p,xs,rfl,hq,fx,fs,q⟩:=h;cases ry;rcases hq with hq|hq
 ·obtain ⟨its,r,pl,hz⟩:=I.list hq;refine SeqAt.in_listAt (eqU x) pl.isList (fun w hw=>Kc rx fx r fs w (by simpa using hw)) ⟨.bl _,H,I,rfl,?_⟩;rw [show its.toArray.any (eqU x)=its.any (eqU x) by simp,MX r fs];exact q
 ·obtain ⟨its,r,pl,hz⟩:=I.tuple hq;refine SeqAt.in_tupleAt (eqU x) pl (fun w hw=>Kc rx fx r fs w (by simpa using hw)) ⟨.bl _,H,I,rfl,?_⟩;rw [show its.toArray.any (eqU x)=its.any (eqU x) by simp,MX r fs];exact q
theorem N4:CW X (.builtin "len") (fun xs H Q=>∃ p ys,xs=[.ref p]/\(SqL X.K H p ys\/SqT X.K H p ys)/\Q (.int ys.length) H):=by
 intro pins s σ H xs us Q I r h;obtain ⟨p,ys,rfl,hq,q⟩:=h;obtain ⟨u,rfl,rx⟩:=Ev r;cases rx;have hn:=IN;rcases hq with hq|hq
 ·obtain ⟨its,r',pl,hz⟩:=I.list hq;have hlen:=r'.length;exact Calls.call_len_list pl.isList (by simp only [qvB]<;>omega) ⟨.int ys.length,H,I.tok _,⟨s.toks+1,by rw [qvB,hlen]⟩,q⟩
 ·obtain ⟨its,r',pl,hz⟩:=I.tuple hq;have hlen:=r'.length;exact len_tuple pl (by simp only [qvB]<;>omega) ⟨.int ys.length,H,I.tok _,⟨s.toks+1,by rw [qvB,hlen]⟩,q⟩
theorem Mv:CW X (.builtin "len") (fun xs H Q=>∃ z,xs=[.str z]/\z.length<=sizeLine/\Q (.int z.length) H):=by
 intro pins s σ H xs us Q I r h;obtain ⟨z,rfl,hz,q⟩:=h;obtain ⟨u,rfl,t,rfl⟩:=Ev r;have hn:=IN;exact len_str (by omega) ⟨.int z.length,H,I.tok _,⟨_,rfl⟩,q⟩
theorem Ln:CW X (.type "tuple") (fun xs H Q=>∃ p ys,xs=[.ref p]/\((SqL X.K H p ys/\∀ l,H l=none->Q (.ref l) (upd H l (.tup ys)))\/(SqT X.K H p ys/\Q (.ref p) H))):=by
 intro pins s σ H xs us Q I r h;obtain ⟨p,ys,rfl,h⟩:=h;obtain ⟨u,rfl,rx⟩:=Ev r;cases rx;rcases h with ⟨hq,q⟩ | ⟨hq,q⟩
 ·obtain ⟨its,r',pl,hz⟩:=I.list hq;have hlen:=r'.length;refine call_tuple_list pl.isList (fun h' kp=>?_) (by simp only [qvB]<;>omega);have I1:Inv X pins σ H { s with heap:=h' }:=I.kept (t':=s.toks) kp
  have I2:Inv X pins σ (upd H h'.objs.size (.tup ys)) { s with heap:=h'.push { cls:=.type "tuple",data:=.seq its.toArray } } :=
   I1.laid (t':=s.toks) (fun b o e=>qnB _ e) (qgB _) (show ObjOk X.prog X.w _ _ _ (.tup ys) from ⟨hz,its,r',IsTup.new _ _⟩)
  exact ⟨.ref h'.objs.size,_,I2,rfl,q _ (I1.hok.fresh (qgB _))⟩
 ·obtain ⟨its,r',pl,hz⟩:=I.tuple hq;exact call_tuple_same pl ⟨.ref p,H,I,rfl,q⟩
def tyV (K:FZ9)(T:String)(x:V)(H:Hp):Prop:=match x with
 | .str _=>T = "str"
 | .int _=>T = "int"
 | .ref p=>(T = "list" /\ ∃ xs,SqL K H p xs)\/(T = "tuple" /\ ∃ o,K.lookup p=some o/\o.cls = .type "tuple" /\ o.dict=none) \/
   (T = "dict" /\ ((∃ kvs,H p=some (.dK kvs))\/∃ kvs,H p=some (.dT kvs)))\/(T = "set" /\ ∃ S n,H p=some (.set S n))
 | _=>False
theorem tyV_is {pins:List (Addr × Obj)}{σ:St}{H:Hp}{s:Shared}{T:String}{x:V}{v:Value}(I:Inv X pins σ H s)(r:RelV x v)(ty:tyV X.K T x H) :
  s.TypeIs v T/\∀ a,v = .ref a->∃ ob,s.heap.get? a=some ob/\ob.dict=none:=by
 cases x with
 | str z =>
  obtain ⟨t,rfl⟩:=r;cases (show T = "str" from ty);exact ⟨typeIs_str s z t,fun _ e=>nomatch e⟩
 | int i =>
  obtain ⟨t,rfl⟩:=r;cases (show T = "int" from ty);exact ⟨typeIs_int s i t,fun _ e=>nomatch e⟩
 | ref p =>
  cases r;rcases ty with ⟨rfl,xs,hq⟩ | ⟨rfl,o,hk,hc,hd⟩ | ⟨rfl,hk⟩ | ⟨rfl,S,n,hk⟩
  ·obtain ⟨its,_,pl,_⟩:=I.list hq;refine ⟨pl.isList.typeIs,fun a e=>?_⟩;cases e;obtain ⟨o,n,e,c,hd,_⟩:=pl;exact ⟨o,e,hd⟩
  ·refine ⟨⟨o,I.kIn p o hk,hc⟩,fun a e=>?_⟩;cases e;exact ⟨o,I.kIn _ o hk,hd⟩
  ·have z:∃ o,s.heap.get? p=some o/\o.ExactDict:=by
    rcases hk with ⟨kvs,hk⟩ | ⟨kvs,hk⟩
    ·obtain ⟨_,_,_,_,o,_,_,e,ex,_⟩:=I.hok p _ hk;exact ⟨o,e,ex⟩
    ·obtain ⟨_,_,_,_,o,_,_,e,ex,_⟩:=I.hok p _ hk;exact ⟨o,e,ex⟩
   obtain ⟨o,e,ex⟩:=z;refine ⟨⟨o,e,ex.1⟩,fun a e2=>?_⟩;cases e2;exact ⟨o,e,ex.2.1⟩
  ·obtain ⟨o,_,_,_,e,ex,_⟩:=I.hok p _ hk;refine ⟨⟨o,e,ex.1⟩,fun a e2=>?_⟩;cases e2;exact ⟨o,e,ex.2.1⟩
 | _=>exact False.elim ty
abbrev tBM (K:FZ9)(T:String)(r:V->List V->Hp->VK->Prop)(to:TE)(t:TA):TE:=fun σ H Q=>to σ H fun x H1=>tyV K T x H1/\t σ H1 fun xs H2=>r x xs H2 Q
variable {o e:Expr}{es:List Expr}{to:TE}{t:TA}{name:Str}{apos cpos:Pos}{T id:String}{r:V->List V->Hp->VK->Prop}
theorem pe_bm (pa:PlainAttrs T)(slot:Slot T name id)(hty:typeOf (.builtin id)=pure (.type "method_descriptor"))(hm:MtR X id r)(ho:PE X o to)(ha:PA X (e::es) t)
  (hbase:attributeBase o name X.env (eval o X.env)=eval o X.env:=by rfl)
  (hfew:((backTo cpos (starEach (e::es) X.env)).all (fun x=>!x.1) && (backToKw cpos (keywordEach [] X.env)).all (fun x=>x.1.isSome)
   && decide ((e::es).length+([]:List Keyword).length+(if ([]:List Keyword).isEmpty then 0 else 1)<30))=true:=by rfl)
  (hline:(apos.endLine == cpos.line)=true:=by rfl) (hs:starEach (e::es) X.env=(false,eval e X.env)::starEach es X.env:=by rfl) (hplain:(backTo cpos (starEach es X.env)).any (·.1)=false:=by rfl) :
  PE X (.Call (.Attribute o name apos) (e::es) [] cpos) (tBM X.K T r to t):=by
 intro pins s σ H Q I h;refine wpAny_Call_method_late hbase hfew hline rfl (thn (ho pins s σ H _ I h) fun v s1 ⟨x,H1,I1,r1,ty,q1⟩=>?_);obtain ⟨h1,h2⟩:=tyV_is I1 r1 ty;refine ⟨T,id,pa,slot,hty,h1,h2,?_⟩;have hA:=ha cpos pins s1 σ H1 _ I1 q1;rw [hs] at hA ⊢;refine Calls.callWith_builtin (by show (false || (backTo cpos (starEach es X.env)).any (·.1))=false;rw [hplain]<;>rfl) (Calls.evalArgs_plain ?_);exact thn hA fun us s2 ⟨vs,H2,I2,r2,q2⟩=>hm pins s2 σ H2 x vs v us Q I2 r1 r2 q2
end
def MtM (X:Cx)(id:String)(r:V->List V->Hp->VK->Prop):Prop :=
 ∀ (pins:List (Addr × Obj)) (s:Shared) (σ:St) (H:Hp) (x:V) (xs:List V) (v:Value) (us:List Value) (Q:VK),Inv X pins σ H s->RelV x v->Vals xs us->r x xs H Q ->
  wpAny (model X.prog X.w) X.A (call (.builtin id) (v::us)) (EP X pins σ Q) X.xe s
theorem Vals.one:∀ {x:V}{us:List Value},Vals [x] us->∃ u,us=[u]/\RelV x u
 | _,_,.cons r .nil=>⟨_,rfl,r⟩
theorem Vals.rep {xs:List V}{us:List Value}(h:Vals xs us):∀ k:Nat,Vals (List.replicate k xs).flatten (List.replicate k us).flatten
 | 0=>.nil
 | k+1=>by
  rw [List.replicate_succ,List.replicate_succ,List.flatten_cons,List.flatten_cons];exact Vals.append h (Vals.rep h k)
theorem M5 (its:List Value):∀ (k:Nat) (acc:List Value),
  List.foldl (fun x1 x2=>x1++x2) acc.toArray (List.replicate k its.toArray)=(acc++(List.replicate k its).flatten).toArray
 | 0,acc=>by simp
 | k+1,acc=>by
  have e:acc.toArray++its.toArray=(acc++its).toArray:=by simp
  have e2:(acc++its)++(List.replicate k its).flatten=acc++(List.replicate (k+1) its).flatten:=by
   rw [List.replicate_succ,List.flatten_cons,qdB]
  rw [<- e2,<- M5 its k (acc++its),<- e,List.replicate_succ,qjC]
section
variable {X:Cx}{pins:List (Addr × Obj)}{σ:St}{H:Hp}{s:Shared}{l b:Addr}{xs ys zs:List V}
theorem Inv.lset {its its':List Value}{n:Nat}{f:Array Value->Array Value}{t':Nat}(I:Inv X pins σ H s)(hH:H l=some (.lst xs))
  (e:s.heap.get? l=some { cls:=.type "list",data:=.seq its.toArray n }) (hf:f its.toArray=its'.toArray) (hv:Vals ys its') (hz:ys.length<=sizeLine) :
  Inv X pins σ (upd H l (.lst ys)) { s with heap:=s.heap.update l (Obj.mapSeq f),toks:=t' }:=by
 have q:=PySem.IsL.update e f;rw [hf] at q;refine I.write (x:=l) (e:=l) (by rw [hH];exact trivial) (.inl rfl) (fun b' u hb hu=>(Heap.get?_update_other s.heap (Obj.mapSeq f) (Ne.symm hb)).trans hu) ⟨_,q⟩ ?_;exact ⟨hz,its',_,hv,q⟩
theorem Inv.lnew {its:List Value}{t':Nat}(I:Inv X pins σ H s)(hv:Vals ys its)(hz:ys.length<=sizeLine) :
  Inv X pins σ (upd H s.heap.objs.size (.lst ys)) { s with heap:=s.heap.push { cls:=.type "list",data:=.seq its.toArray },toks:=t' } :=
 I.laid (fun _ _ q=>qnB _ q) (qgB _) ⟨hz,its,0,hv,qoB _ rfl⟩
theorem Inv.fresh (I:Inv X pins σ H s):H s.heap.objs.size=none:=I.hok.fresh (qgB _)
theorem Inv.lstM (I:Inv X pins σ H s)(hH:H l=some (.lst xs)):xs.length<=sizeLine/\∃ (its:List Value) (n:Nat),Vals xs its/\xs.length=its.length/\s.heap.get? l=some { cls:=.type "list",data:=.seq its.toArray n }:=by
 obtain ⟨z,its,n,r,e⟩:=I.hok l _ hH;exact ⟨z,its,n,r,r.length,e⟩
theorem Ki {n:Nat}(h:n<=sizeLine):Builtin.List.listTooLong n=false:=by
 unfold Builtin.List.listTooLong;exact decide_eq_false (by omega)
end
section
variable {X:Cx}
def Hd:V->List V->Hp->VK->Prop:=fun x vs H Q=>∃ l xs y,x = .ref l/\vs=[y]/\H l=some (.lst xs)/\xs.length<sizeLine/\Q .non (upd H l (.lst (xs++[y])))
theorem Ib:MtM X "list.append" Hd:=by
 intro pins s σ H x vs v us Q I rx rv h;obtain ⟨l,xs,y,rfl,rfl,hH,hz,q⟩:=h;cases rx;obtain ⟨u,rfl,ru⟩:=rv.one;obtain ⟨z,its,n,r,hl,e⟩:=I.lstM hH;refine call_meets F.slot_list_append ⟨_,e,rfl⟩ F.entry_list_append (F.args_list_append_2 _ _) (PySem.list_append l its.toArray n u (by rw [qvB];omega)) ⟨e,?_⟩;refine ⟨.non,_,I.lset (its':=its++[u]) hH e (by simp) (r.append (.cons ru .nil)) ?_,rfl,q⟩;rw [qgA,qiA];omega
def rRep:R2:=fun x y H Q=>∃ l k xs,x = .ref l/\y = .int k/\H l=some (.lst xs)/\-(2 ^ 63)<=k/\k<2 ^ 63/\xs.length * k.toNat<=sizeLine /\
 ∀ p,H p=none->Q (.ref p) (upd H p (.lst (List.replicate k.toNat xs).flatten))
theorem len_rep {α:Type}(xs:List α)(k:Nat):(List.replicate k xs).flatten.length=k * xs.length:=by
 induction k with
 | zero=>simp
 | succ k ih=>rw [List.replicate_succ,List.flatten_cons,qgA,ih,Nat.succ_mul,Nat.add_comm]
theorem op_rep:OpR X (binaryOp .Mult) rRep:=by
 intro pins s σ H x y v u Q I rx ry h;obtain ⟨l,k,xs,rfl,rfl,hH,h1,h2,hz,q⟩:=h;cases rx;obtain ⟨t,rfl⟩:=ry;obtain ⟨z,its,n,r,hl,e⟩:=I.lstM hH;have hlen:its.toArray.size * k.toNat<=sizeLine:=by rw [qvB,<- hl];exact hz
 have hcap:¬ its.toArray.size * k.toNat > (2 ^ 63 - 1) / 8:=by
  have:(sizeLine:Nat)<=(2 ^ 63 - 1) / 8:=by decide
  omega
 have hfit:¬ (!Builtin.List.listFitsIndex k)=true:=by
  rw [fitsIndex_both h1 h2];exact quB
 have hlong:¬ Builtin.List.listTooLong (its.toArray.size * k.toNat)=true:=by
  rw [Ki hlen];exact quB
 have hnew:List.foldl (fun x1 x2=>x1++x2) #[] (List.replicate (if its.toArray.isEmpty=true then 0 else k.toNat) its.toArray)=(List.replicate k.toNat its).flatten.toArray:=by
  have f0:∀ m:Nat,List.foldl (fun x1 x2=>x1++x2) #[] (List.replicate m its.toArray)=(List.replicate m its).flatten.toArray:=fun m=>by
   have:=M5 its m [];rw [List.nil_append] at this;exact this
  rw [f0]
  cases its with
  | nil=>simp
  | cons a r'=>rw [if_neg (by simp)]
 refine wpAny_binaryOp_repeat_ref (T := "list") (U := "int") (by decide) ⟨_,e,rfl⟩ (fun s'=>typeIs_int s' k t) noFill_list_mul F.fills_int_mul F.slot_int_rmul repeat_list F.slot_int_index.lookup
  (call_meets F.slot_int_rmul (typeIs_int s k t) F.entry_int_rmul (F.args_int_rmul_2 _ _) (int___rmul___int_list k t l its.toArray n)
   ⟨e,rfl,⟨_,e,rfl⟩,call_meets F.slot_list_mul ⟨_,e,rfl⟩ F.entry_list_mul (F.args_list_mul_2 _ _) (AutoListH.list___mul___list_int_3 l its.toArray n k t hfit hcap hlong) ⟨e,?_⟩⟩)
 rw [hnew];exact ⟨.ref _,_,I.lnew (t':=s.toks) (r.rep k.toNat) (by rw [len_rep,Nat.mul_comm];exact hz),rfl,q _ I.fresh⟩
end
end L2
namespace Att
open PySem PySem.W PySem.Calls PyProof.Rows
theorem JX {P:Params}{h:Heap}:∀ (ns:List Int) (vs:List Value),WellAll P h vs (ns.map WData.int)->IntsAre vs ns:=by
 intro ns
 induction ns with
 | nil =>
  intro vs w;rw [List.map_nil] at w;cases w;exact .nil
 | cons n ns ih =>
  intro vs w;rw [qbB] at w
  cases w with
  | cons a b =>
   cases a;exact .cons _ _ (ih _ b)
theorem Sl {l:OpenLaw}{n:Nat}(hn:l.most=some n){P:Params}{h:Heap}{args:List WData}{vals:List Value}
  (hpre:l.row.toRowW.claim.pre args=true) (hwl:WellAll P h vals args) :
  ∃ a vs ns,vals=[Value.ref a]/\args=[WData.list (ns.map WData.int)]/\h.get? a=some { cls:=.type "list",data:=.seq vs.toArray }/\IntsAre vs ns/\ns.length<=n:=by
 have hsh:WShape.hasAll [] args [.list .int]=true:=(pre_splitW hpre).1;have hc:l.pre.holds [] { args:=args }=true:=(pre_splitW hpre).2;obtain ⟨d,r,rfl,h1,h2⟩:=hasAllW_cons hsh;obtain rfl:=hasAllW_nil h2;obtain ⟨xs,rfl,h3⟩:=hasW_list h1;obtain ⟨ns,rfl⟩:=items_int h3
 have hlen:ns.length<=n:=by
  unfold OpenLaw.pre at hc
  have h4:(WTm.not (.lt (.lit (.int (n:Int))) (.len (.arg 0)))).holds [] { args:=[.list (ns.map .int)] }=true:=by
   have h4:=(holds_andW hc).1;rw [hn] at h4;exact h4
  have h5:=condW_of h4 (w_not (w_lt w_lit (w_len_list (w_arg rfl))));rw [qfA] at h5;refine Nat.le_of_not_lt fun q=>?_;have q':(n:Int)<((ns.length:Nat):Int):=by omega
  first
   | (rw [decide_eq_true q'] at h5;exact absurd h5 (by decide))
   | (simp at h5;omega)
 cases hwl with
 | cons w1 w2 =>
  cases w2
  cases w1 with
  | list ho hall=>exact ⟨_,_,ns,rfl,rfl,ho,JX ns _ hall,hlen⟩
theorem SK (l:OpenLaw)(args:List WData):l.row.toRowW.claim.post args (.bool true) args=true :=
 postW_of (r:=l.row.toRowW) (X:=(true == true))
  (show WShape.has [] (.bool true) .bool=true by first|rfl|decide|simp [WShape.has,WShape.arms,WShape.armsAll])
  (show (WTm.eq .res (.lit (.bool true))).value [] { args:=args,res:=some (.bool true),after:=args }=some (.bool (true == true)) from w_eq_bool (w_res rfl) w_lit) rfl
theorem attach_call {l:OpenLaw}{n:Nat}{q:Program}{loose:List Str}{XP:(Str->Option Value)->Heap->Prop}{YP:World->Heap->Prop}{d:DefRec}
  (hn:l.most=some n) (hdf:d.params.defaults=[])
  (call:∀ (w:World) (s₀ s₁:Shared) (mg mb:Str->Option Value) (fa:Addr) (o:Obj) (pm cd doc:Value) (a:Addr) (vs:List Value) (ns:List Int),
   Ground q loose [] XP w s₀ mg mb s₁.heap->YP w s₁.heap ->
   s₁.heap.get? fa=some o->o.data = .func (docDef d.name d.params d.body d.scope pm cd doc)->s₁.heap.CodeRec cd d.name->mg d.name=some (.ref fa) ->
   s₁.heap.get? a=some { cls:=.type "list",data:=.seq vs.toArray }->IntsAre vs ns->ns.length<=n->s₁.gens = #[] ->
   codeAny (model l.prog w) callerA (.call (.ref fa) ⟨[.ref a],[]⟩) (fun r s'=>r = .ok (.ret (.bool true))/\OldK s₁.heap s'.heap/\s'.os=s₁.os/\AllBare s'.gens) s₁) :
  WalkO q loose XP YP l.row.toRowW d [] (fun f vs=>PySem.call f vs):=by
 intro w s₀ s₁ mg mb G Y fa o pm cd doc dV kV ho hd hcd hD hmg hg args vals as hpre hlay hrd hwl hlo;obtain rfl:dV = .none:=Dflts.none hD hdf;obtain rfl:kV = .none:=Dflts.noKw hD;obtain ⟨a,vs,ns,rfl,rfl,hobj,hints,hlen⟩:=Sl hn hpre hwl;refine enter_call (codeAny_mono (call w s₀ s₁ mg mb fa o pm cd doc a vs ns G Y ho (fd_plain hd) hcd hmg hobj hints hlen hg) fun r s' hq=>?_);obtain ⟨rfl,h2,h3,h4⟩:=hq;exact ⟨.inl ⟨.bool true,.bool true,[],rfl,fun _=>rfl,.bool true,SK l _,fun _=>⟨List.Pairwise.nil,fun _ hm=>(nomatch hm)⟩⟩,h2,h3,h4⟩
end Att
namespace L2
open PySem PySem.Spec PyProof.Rows
theorem Lr:∀ {vs:List Value}{ns:List Int},IntsAre vs ns->Vals (ns.map V.int) vs
 | _,_,.nil=>.nil
 | _,_,.cons n t h=>.cons ⟨t,rfl⟩ (Lr h)
def Only (H:Hp):Prop:=∀ b,H b=none\/∃ o xs,H b=some (.frz o (.lst xs))
theorem law_call {P:Program}{w:World}{K:FZ9}{mg mb:Str->Option Value}{CX:CXT}{k:Nat}{fa a:Addr}{fd:FuncData}{x:Str}{sp:Sp}{s₁:Shared}{vs:List Value}{ns:List Int}
  (KX:K.In s₁.heap) (hns:s₁.heap.Ns mainGlobals mg) (hb:s₁.heap.Ns builtinsNs mb) (hbb:∀ x:Str,x ≠ "__name__" -> mb x=bootBuiltins x) (hlim:s₁.heap.NoLimit) (hg:s₁.gens = #[])
  (ha:s₁.heap.get? a=some { cls:=.type "list",data:=.seq vs.toArray }) (hi:IntsAre vs ns) (hl:ns.length<=sizeLine) (hr:Room k callerA)
  (F:∀ base:Heap,K.In base->base.Ns mainGlobals mg->FnOk P w K mg base CX k fa fd [x] sp) (hbind:∀ (s:Shared) (u:Value),BindsTo s fd ⟨[u],[]⟩ [(x,u)])
  (hsp:∀ H:Hp,Only H->SqL K H a (ns.map V.int)->sp [.ref a] H (fun v _=>v = .bl true) fun _ _ _=>False)
  (hCX:∀ H e s',CX [] H s₁ (fun _ _ _=>False) e s'->False) :
  codeAny (model P w) callerA (.call (.ref fa) ⟨[.ref a],[]⟩) (fun r s'=>r = .ok (.ret (.bool true))/\OldK s₁.heap s'.heap/\s'.os=s₁.os/\AllBare s'.gens) s₁:=by
 have rv:=Lr hi;have lenV:=hi.length
 have core:∀ H:Hp,Only H->SqL K H a (ns.map V.int)->HOk P w H s₁.heap->(∀ b,H b≠none->b=a)->(H a≠none->K.lookup a=none) ->
   codeAny (model P w) callerA (.call (.ref fa) ⟨[.ref a],[]⟩) (fun r s'=>r = .ok (.ret (.bool true))/\OldK s₁.heap s'.heap/\s'.os=s₁.os/\AllBare s'.gens) s₁:=by
  intro H hO hS hok hA hK;have base_of:∀ {b:Addr}{o:Obj},s₁.heap.get? b=some o->H b=none->(Np s₁.heap H).get? b=some o:=fun e n=>hidT_get e n
  have noA:∀ {b:Addr}{o:Obj}{es:Array DictEntry}{ep:Nat},s₁.heap.get? b=some o->o.data = .dict es ep->H b=none:=fun {b o es ep} e d=>by
   cases q:H b with
   | none=>rfl
   | some u =>
    have e':b=a:=hA b (by rw [q];simp);subst e';rw [ha] at e;cases e;have d':Data.seq vs.toArray _=Data.dict es ep:=d;cases d'
  have nsK:∀ {b:Addr}{m:Str->Option Value},s₁.heap.Ns b m->(Np s₁.heap H).Ns b m:=fun {b m} ⟨o,es,ep,e,d,r⟩=>⟨o,es,ep,base_of e (noA e d),d,r⟩
  have hKb:K.In (Np s₁.heap H):=fun b o e=>base_of (KX b o e) (by
   cases q:H b with
   | none=>rfl
   | some u =>
    have e':b=a:=hA b (by rw [q];simp);subst e'
    rw [hK (by rw [q];simp)] at e;cases e)
  have hM:Mod K mg (Np s₁.heap H):=⟨hKb,nsK hns,⟨mb,nsK hb,hbb⟩,let ⟨mc,h1,h2⟩:=hlim;⟨mc,nsK h1,h2⟩⟩;have e0:Env0 P w K mg (Np s₁.heap H) callerA [] s₁ H:=⟨rfl,hM,fun b o e=>of_hidT e,Nat.le_of_eq (TD _ _),trivial,fun b hb=>absurd (show b∈([]:List Addr) from hb) (by simp),hok,.of_eq hg⟩;refine codeAny_mono ((F _ hKb (nsK hns)).run callerA [] s₁ H ⟨[.ref a],[]⟩ [.ref a] [.ref a] _ _ hr e0 (hbind s₁ (.ref a)) (.cons rfl .nil) (hsp H hO hS)) fun r s' h=>?_
  cases r with
  | error e=>exact (hCX H e s' h).elim
  | ok fl =>
   cases fl with
   | next=>exact False.elim h
   | brk=>exact False.elim h
   | cont=>exact False.elim h
   | ret u =>
    obtain ⟨v,H',os,bare,un,hok',r',q⟩:=h;have q':v = .bl true:=q;subst q';obtain rfl:u=Value.bool true:=r';refine ⟨rfl,OldK.of_keep fun b o e=>?_,os,bare⟩
    cases q:H b with
    | none=>exact un.keep b o e q (by intro z;exact absurd (show b∈([]:List Addr) from z) (by simp)) (by simp)
    | some u =>
     rcases hO b with z | ⟨ob,xs,z⟩
     ·rw [q] at z;cases z
     ·have z2:=un.frzs b ob _ z;obtain ⟨e1,_⟩:=hok b _ z;obtain ⟨e2,_⟩:=hok' b _ z2;rw [e] at e1;cases e1;exact e2
 cases hk:K.lookup a with
 | some o =>
  have e:=KX a o hk;rw [ha] at e;cases e;refine core (fun _=>none) (fun _=>.inl rfl) (.inr ⟨_,vs.toArray,_,hk,rfl,rfl,rfl,by rw [qvB,lenV];exact hl,by simpa using rv⟩) (fun b u z=>by have z':(none:Option HO)=some u:=z;cases z') (fun b z=>absurd rfl z) fun z=>absurd rfl z
 | none =>
  refine core (fun b=>if b=a then some (.frz { cls:=.type "list",data:=.seq vs.toArray } (.lst (ns.map V.int))) else none) (fun b=>?_) (.inl (.inr ⟨{ cls:=.type "list",data:=.seq vs.toArray },if_pos rfl⟩)) (fun b u z=>?_) (fun b z=>?_) fun _=>hk
  ·by_cases hb:b=a
   ·exact .inr ⟨_,_,if_pos hb⟩
   ·exact .inl (if_neg hb)
  ·by_cases hb:b=a
   ·have z':=(if_pos hb).symm.trans z;cases z';subst hb;exact ⟨ha,by rw [qfA];exact hl,vs,_,rv,ha⟩
   ·have z':=(if_neg hb).symm.trans z;cases z'
  ·by_cases hb:b=a
   ·exact hb
   ·exact absurd (if_neg hb) z
theorem walk_of {l:PySem.W.OpenLaw}{n k:Nat}{q:Program}{loose:List Str}{XP:(Str->Option Value)->Heap->Prop}{YP:World->Heap->Prop}{d:DefRec}{K:Params->FZ9}{CX:World->CXT}{sp:World->Sp}{x:Str}
  (hn:l.most=some n) (hn2:n<=sizeLine) (hdf:d.params.defaults=[]) (hr:Room k callerA)
  (hY:∀ (w:World) (h:Heap),YP w h->(K w.params).In h)
  (F:∀ (w:World) (mg:Str->Option Value) (fa:Addr) (h:Heap),(K w.params).In h->h.Ns mainGlobals mg->mg d.name=some (.ref fa) ->
   ∃ fd:FuncData,(∀ (s:Shared) (u:Value),BindsTo s fd ⟨[u],[]⟩ [(x,u)]) /\
    ∀ base:Heap,(K w.params).In base->base.Ns mainGlobals mg->FnOk l.prog w (K w.params) mg base (CX w) k fa fd [x] (sp w))
  (hsp:∀ (w:World) (H:Hp) (a:Addr) (ns:List Int),ns.length<=n->Only H->SqL (K w.params) H a (ns.map V.int)->sp w [.ref a] H (fun v _=>v = .bl true) fun _ _ _=>False)
  (hCX:∀ (w:World) (H:Hp) (s:Shared) (e:Value) (s':Shared),CX w [] H s (fun _ _ _=>False) e s'->False) :
  PySem.W.WalkO q loose XP YP l.row.toRowW d [] (fun f vs=>PySem.call f vs):=by
 refine Att.attach_call hn hdf fun w s₀ s₁ mg mb fa o pm cd doc a vs ns G Y ho hd hcd hmg hobj hints hlen hg=>?_;have KX:=hY w _ Y;obtain ⟨fd,hb,hF⟩:=F w mg fa _ KX G.T.g hmg;exact law_call KX G.T.g G.T.b G.T.builtins G.T.nolimit hg hobj hints (qhB hlen hn2) hr hF hb (fun H hO hS=>hsp w H a ns hlen hO hS) fun H e s'=>hCX w H s₁ e s'
def Dk (s:Stmt):Arguments:=match s with
 | .FunctionDef _ a _ _ _ _ _ _ _ _=>a
 | _=>{ posonlyargs:=[],args:=[],vararg:=none,kwonlyargs:=[],kw_defaults:=[],kwarg:=none,defaults:=[] }
def Bu (s:Stmt):List Stmt:=match s with
 | .FunctionDef _ _ b _ _ _ _ _ _ _=>b
 | _=>[]
def AF (s:Stmt):Scope:=match s with
 | .FunctionDef _ _ _ _ _ _ sc _ _ _=>sc
 | _=>{ kind:=.function,names:=[],isGenerator:=false,isCoroutine:=false }
abbrev CX0:CXT:=fun _ _ _ _ _ _=>False
abbrev E0:XK:=fun _ _ _=>False
theorem pass0 {X:Cx}:QN CX0 X E0:=fun _ _ _ _ _ _ _ h=>h.elim
structure Fun (K:FZ9)(x qual:Str)(st:Stmt)(f:Addr)(fd:FuncData):Prop where
 ex:∃ (oc:Value) (od:Option Addr) (kV doc pm:Value) (an:Option Addr) (cdv ct:Value) (osl:Array (Option Value)),
  fd=qaC x qual (Dk st) (Bu st) (AF st) .none kV doc pm an cdv ct/\K.lookup f=some ⟨oc,od,.func fd,osl⟩/\PySem.W.codeIn K cdv qual=true
 kp:qzB K (.ref f)=true
section
variable {P:Program}{w:World}{K:FZ9}{mg:Str->Option Value}{base:Heap}
theorem Fun.ok {x qual:Str}{st:Stmt}{f:Addr}{fd:FuncData}{N ps:List Str}{k:Nat}{sp:Sp}(F:Fun K x qual st f fd)(S:FnScope N ps (AF st))(len:∀ vs H Q E,sp vs H Q E->vs.length=ps.length)
  (hbody:∀ (cdv:Value) (A:Around) (outer:List Env) (s:Shared) (H:Hp) (vs:List V) (Q:VK) (E:XK),Room k (A.deeper (envOfC qual (AF st) s.heap.objs.size f cdv))->sp vs H Q E ->
   ∃ t,PSs (IY CX0 P w K mg base N qual (AF st) f cdv A outer s H E).nox (Bu st) t/\t { nx:=fun _ H'=>Q .non H',rt:=Q } (start N vs) H):FnOk P w K mg base CX0 (k+1) f fd ps sp:=by
 obtain ⟨oc,od,kV,doc,pm,an,cdv,ct,osl,rfl,lk,hcd⟩:=F.ex;refine fn_of lk hcd S len fun A outer s H vs Q E hr hsp=>?_;obtain ⟨t,h,q⟩:=hbody cdv A outer s H vs Q E hr hsp;exact ⟨t,h.nox,q⟩
theorem Fun.binds {x qual:Str}{st:Stmt}{f:Addr}{fd:FuncData}{ps:List Str}(F:Fun K x qual st f fd)
  (h:∀ (kV doc pm:Value) (an:Option Addr) (cdv ct:Value) (us:List Value),us.length=ps.length->bindArgs (qaC x qual (Dk st) (Bu st) (AF st) .none kV doc pm an cdv ct) ⟨us,[]⟩=pure (ps.zip us)):Binds K fd ps []:=by
 obtain ⟨oc,od,kV,doc,pm,an,cdv,ct,osl,rfl,lk,hcd⟩:=F.ex;exact .all (h kV doc pm an cdv ct)
theorem fun_mk {x qual:Str}{st:Stmt}{f:Addr}{oc:Value}{od an:Option Addr}{osl:Array (Option Value)}{kV doc pm cdv ct:Value}(l:K.lookup f=some ⟨oc,od,.func (qaC x qual (Dk st) (Bu st) (AF st) .none kV doc pm an cdv ct),osl⟩)
  (c:PySem.W.codeIn K cdv qual=true) (k:qzB K (.ref f)=true):Fun K x qual st f (qaC x qual (Dk st) (Bu st) (AF st) .none kV doc pm an cdv ct):=⟨⟨oc,od,kV,doc,pm,an,cdv,ct,osl,rfl,l,c⟩,k⟩
end
section
variable {X:Cx}
theorem pv (i:Nat){x:Str}{pos:Pos}(hN:X.N[i]? = some x:=by rfl)(hv:Vis X.env.scope x:=by first|exact Or.inl rfl|exact Or.inr (Or.inl rfl)|exact Or.inr (Or.inr rfl))(hd:(x == ("__debug__" : Str))=false:=by decide)
  (hcd:(x == ("__classdict__" : Str))=false:=by decide):PE X (.Name x pos) (BQ i):=pe_var hN hv hd hcd
end
theorem BS {A B:Prop}(h:B):if false=true then A else B:=by
 rw [if_neg quB];exact h
theorem BM {A B:Prop}(h:A):if true=true then A else B:=by
 rw [if_pos rfl];exact h
def Same (H H':Hp):Prop:=∀ b o,H b=some o->H' b=some o
theorem Same.refl (H:Hp):Same H H:=fun _ _ h=>h
theorem Same.trans {H H1 H2:Hp}(a:Same H H1)(b:Same H1 H2):Same H H2:=fun c o h=>b c o (a c o h)
theorem Same.free {H H':Hp}(e:Same H H'){l:Addr}(h:H' l=Option.none):H l=Option.none:=by
 cases q:H l with
 | none=>rfl
 | some o =>
  rw [e l o q] at h;cases h
theorem Same.seq {K:FZ9}{H H':Hp}{a:Addr}{xs:List V}(e:Same H H')(h:SqL K H a xs):SqL K H' a xs:=by
 rcases h with (h | ⟨o,h⟩)|h
 ·exact .inl (.inl (e _ _ h))
 ·exact .inl (.inr ⟨o,e _ _ h⟩)
 ·exact .inr h
section
variable {κ:Type}[DecidableEq κ]
def Fd (kvs:List (κ × V))(k:κ):Option V:=(kvs.find? fun kv=>decide (kv.1=k)).map (·.2)
def CG (kvs:List (κ × V))(k:κ)(v:V):List (κ × V) :=
 if (kvs.any fun kv=>decide (kv.1=k))=true then kvs.map (fun kv=>if kv.1=k then (kv.1,v) else kv) else kvs++[(k,v)]
theorem Cu {p:κ × V}{r:List (κ × V)}{k:κ}(e:p.1=k):Fd (p::r) k=some p.2:=by simp [Fd,List.find?_cons,e]
theorem D1 {p:κ × V}{r:List (κ × V)}{k:κ}(e:¬ p.1=k):Fd (p::r) k=Fd r k:=by simp [Fd,List.find?_cons,e]
theorem LF (k:κ):∀ kvs:List (κ × V),(kvs.any fun kv=>decide (kv.1=k))=(Fd kvs k).isSome
 | []=>rfl
 | p::r=>by
  rw [List.any_cons];by_cases e:p.1=k
  ·simp only [Cu e,decide_eq_true e,Bool.true_or,Option.isSome_some]
  ·rw [D1 e,decide_eq_false e,Bool.false_or];exact LF k r
theorem M9 (k j:κ)(y:V):∀ kvs:List (κ × V),Fd kvs k=none->Fd (kvs++[(k,y)]) j=if j=k then some y else Fd kvs j
 | [],_=>by
  by_cases e:k=j
  ·rw [if_pos e.symm];exact Cu (p:=(k,y)) e
  ·rw [if_neg (fun z=>e z.symm)];exact D1 (p:=(k,y)) e
 | p::r,hn=>by
  rw [List.cons_append];have hk:¬ p.1=k:=fun z=>by rw [Cu z] at hn;cases hn
  rw [D1 hk] at hn;have ih:=M9 k j y r hn;by_cases e:p.1=j
  ·rw [Cu e,Cu e,if_neg (fun z=>hk (e.trans z))]
  ·rw [D1 e,D1 e,ih]
theorem Fi (kvs:List (κ × V))(k:κ)(v:V):(CG kvs k v).length<=kvs.length+1:=by
 unfold CG;split
 ·rw [qfA];omega
 ·rw [qgA,qhA,List.length_nil];omega
theorem putK_new {kvs:List (κ × V)}{k:κ}(v:V)(h:Fd kvs k=none):CG kvs k v=kvs++[(k,v)]:=by
 unfold CG;rw [LF,h];exact if_neg (by decide)
theorem RelO.isSome_eq {o:Option V}{u:Option Value}(r:RelO o u):o.isSome=u.isSome:=by
 cases o with
 | none=>cases u with
  | none=>rfl
  | some _=>exact (show False from r).elim
 | some _=>cases u with
  | none=>exact (show False from r).elim
  | some _=>rfl
theorem KV.val {kvs:List (κ × V)}{vs:List (κ × Value)}(r:KV kvs vs)(k:κ):RelO (Fd kvs k) (valueAt vs k):=by
 unfold KV at r
 induction r with
 | nil=>exact True.intro
 | @cons p q ps qs h t ih =>
  obtain ⟨h1,h2⟩:=h;by_cases e:p.1=k
  ·have e':q.1=k:=h1.symm.trans e;have b:valueAt (q::qs) k=some q.2:=by simp [valueAt,List.find?_cons,e']
   rw [Cu e,b];exact h2
  ·have e':¬ q.1=k:=fun z=>e (h1.trans z);have b:valueAt (q::qs) k=valueAt qs k:=by simp [valueAt,List.find?_cons,e']
   rw [D1 e,b];exact ih
theorem KV.any {kvs:List (κ × V)}{vs:List (κ × Value)}(r:KV kvs vs)(k:κ):(kvs.any fun kv=>decide (kv.1=k))=vs.any fun kv=>decide (kv.1=k):=by
 unfold KV at r
 induction r with
 | nil=>rfl
 | cons h t ih=>rw [List.any_cons,List.any_cons,ih,h.1]
theorem KV.repl {kvs:List (κ × V)}{vs:List (κ × Value)}(r:KV kvs vs)(k:κ){y:V}{u:Value}(ry:RelV y u) :
  KV (kvs.map fun kv=>if kv.1=k then (kv.1,y) else kv) (vs.map fun kv=>if kv.1=k then (kv.1,u) else kv):=by
 unfold KV at r ⊢
 induction r with
 | nil=>exact .nil
 | @cons p q ps qs h t ih =>
  rw [qbB,qbB];refine .cons ?_ ih;obtain ⟨h1,h2⟩:=h;by_cases e:p.1=k
  ·rw [if_pos e,if_pos (h1.symm.trans e)];exact ⟨h1,ry⟩
  ·rw [if_neg e,if_neg (fun z=>e (h1.trans z))];exact ⟨h1,h2⟩
theorem KV.put {kvs:List (κ × V)}{vs:List (κ × Value)}(r:KV kvs vs)(k:κ){y:V}{u:Value}(ry:RelV y u):KV (CG kvs k y) (stored vs k u):=by
 unfold CG stored;rw [r.any k];by_cases e:(vs.any fun kv=>decide (kv.1=k))=true
 ·rw [if_pos e,if_pos e];exact r.repl k ry
 ·rw [if_neg e,if_neg e];exact Paired.snoc r ⟨rfl,ry⟩
theorem KV.length {kvs:List (κ × V)}{vs:List (κ × Value)}(r:KV kvs vs):kvs.length=vs.length:=Paired.length r
end
theorem OD {P:Program}{w:World}{k:Key}{u:Value}(r:RelV (kV k) u):(Av P w).is k u=true:=by
 cases k with
 | inl i=>obtain ⟨t,e⟩:=(show ∃ t,u=Value.int i t from r);subst e;exact Pl P w i t
 | inr x=>obtain ⟨t,e⟩:=(show ∃ t,u=Value.str x t from r);subst e;exact Op P w x t
theorem MP {P:Program}{w:World}:∀ {ks:List Key}{us:List Value},Vals (ks.map kV) us->ItemsAre (Av P w) ks us
 | [],_,r=>by rw [List.map_nil] at r;cases r;exact .nil
 | k::ks,_,r=>by
  rw [qbB] at r
  cases r with
  | cons h t=>exact .cons (OD h) (MP t)
abbrev KT (H:Hp):List (List Key × V)->List (List Key × Addr × Value)->Prop:=Paired fun p q=>p.1=q.1/\H q.2.1=some (.tup (p.1.map kV))/\RelV p.2 q.2.2
theorem KT.val {H:Hp}{kvs:List (List Key × V)}{xs:List (List Key × Addr × Value)}(r:KT H kvs xs)(k:List Key):RelO (Fd kvs k) ((atKey xs k).map (·.2)):=by
 induction r with
 | nil=>exact True.intro
 | @cons p q ps qs h t ih =>
  obtain ⟨h1,_,h2⟩:=h;by_cases e:p.1=k
  ·have e':q.1=k:=h1.symm.trans e;have b:atKey (q::qs) k=some q.2:=by simp [atKey,List.find?_cons,e']
   rw [Cu e,b];exact h2
  ·have e':¬ q.1=k:=fun z=>e (h1.trans z);have b:atKey (q::qs) k=atKey qs k:=by simp [atKey,List.find?_cons,e']
   rw [D1 e,b];exact ih
theorem KT.repl {H:Hp}{kvs:List (List Key × V)}{xs:List (List Key × Addr × Value)}(r:KT H kvs xs)(k:List Key){y:V}{u:Value}(ry:RelV y u) :
  KT H (kvs.map fun kv=>if kv.1=k then (kv.1,y) else kv) (xs.map (putAt k u)):=by
 induction r with
 | nil=>exact .nil
 | @cons p q ps qs h t ih =>
  rw [qbB,qbB];refine .cons ?_ ih;obtain ⟨h1,h2,h3⟩:=h;unfold putAt;by_cases e:p.1=k
  ·rw [if_pos e,if_pos (h1.symm.trans e)];exact ⟨h1,h2,ry⟩
  ·rw [if_neg e,if_neg (fun z=>e (h1.trans z))];exact ⟨h1,h2,h3⟩
theorem KT.put {H:Hp}{kvs:List (List Key × V)}{xs:List (List Key × Addr × Value)}(r:KT H kvs xs)(k:List Key){b:Addr}{y:V}{u:Value}(hb:H b=some (.tup (k.map kV)))(ry:RelV y u) :
  KT H (CG kvs k y) (storedH xs k b u):=by
 have e:(kvs.any fun kv=>decide (kv.1=k))=(atKey xs k).isSome:=by
  rw [LF,(r.val k).isSome_eq,Option.isSome_map]
 unfold CG storedH;rw [e];by_cases q:(atKey xs k).isSome=true
 ·rw [if_pos q,if_pos q];exact r.repl k ry
 ·rw [if_neg q,if_neg q];exact Paired.snoc r ⟨rfl,hb,ry⟩
theorem KT.keeps {H H':Hp}{kvs:List (List Key × V)}{xs:List (List Key × Addr × Value)}(r:KT H kvs xs)(ht:∀ b ys,H b=some (.tup ys)->H' b=some (.tup ys)):KT H' kvs xs :=
 Paired.mapP r fun _ _ z=>⟨z.1,ht _ _ z.2.1,z.2.2⟩
section
variable {P:Program}{w:World}{H:Hp}{h:Heap}{a:Addr}
theorem rd_of {u:HO}(ok:HOk P w H h)(e:Rd H a u):ObjOk P w H h a u:=e.ok ok
theorem Os {kvs:List (Key × V)}(ok:HOk P w H h)(e:Rd H a (.dK kvs)):kvs.length<=sizeLine/\(a == sysModules)=false/\∃ vs,KV kvs vs/\h.DictOf (Av P w) a vs :=
 show ObjOk P w H h a (.dK kvs) from rd_of ok e
theorem dk_of {kvs:List (Key × V)}(ok:HOk P w H h)(e:H a=some (.dK kvs)):kvs.length<=sizeLine/\(a == sysModules)=false/\∃ vs,KV kvs vs/\h.DictOf (Av P w) a vs:=Os ok (.inl e)
theorem Nj {ks:List Key}(ok:HOk P w H h)(e:H a=some (.tup (ks.map kV))):(tupleKind (Av P w)).is h ks a:=by
 obtain ⟨_,its,r,o,h1,h2,n,h3⟩:=(show ObjOk P w H h a (.tup (ks.map kV)) from ok a _ e);exact ⟨o,its.toArray,n,h1,h2,h3,by simpa using MP r⟩
theorem Rm {kvs:List (List Key × V)}(ok:HOk P w H h)(e:Rd H a (.dT kvs)):kvs.length<=sizeLine/\(a == sysModules)=false /\
  ∃ xs,KT H kvs xs/\h.DictOfH (tupleKind (Av P w)) a xs:=by
 obtain ⟨z,y,xs,r,o,es,ep,h1,h2,h3,h4,h5⟩:=(show ObjOk P w H h a (.dT kvs) from rd_of ok e);refine ⟨z,y,xs,r,o,es,ep,h1,h2,h3,h4,fun x hx=>?_,h5⟩
 have all:∀ {l:List (List Key × V)}{m:List (List Key × Addr × Value)},KT H l m->∀ x∈m,(tupleKind (Av P w)).is h x.1 x.2.1:=by
  intro l m q
  induction q with
  | nil=>intro x hx;exact nomatch hx
  | @cons p q ps qs hq t ih =>
   intro x hx;rcases qnA.mp hx with e|hx
   ·subst e;exact Nj ok (by rw [<- hq.1];exact hq.2.1)
   ·exact ih x hx
 exact all r x hx
theorem dt_of {kvs:List (List Key × V)}(ok:HOk P w H h)(e:H a=some (.dT kvs)):kvs.length<=sizeLine/\(a == sysModules)=false /\
  ∃ xs,KT H kvs xs/\h.DictOfH (tupleKind (Av P w)) a xs:=Rm ok (.inl e)
end
def DGet (H:Hp)(a:Addr)(y:V)(r:Option V):Prop :=
 (∃ kvs k,Rd H a (.dK kvs)/\y=kV k/\r=Fd kvs k)\/∃ kvs k b,Rd H a (.dT kvs)/\y = .ref b/\H b=some (.tup (k.map kV))/\r=Fd kvs k
def DPut (H:Hp)(a:Addr)(y v:V)(H':Hp):Prop :=
 (∃ kvs k,H a=some (.dK kvs)/\y=kV k/\kvs.length<sizeLine/\H'=upd H a (.dK (CG kvs k v))) \/
 ∃ kvs k b,H a=some (.dT kvs)/\y = .ref b/\H b=some (.tup (k.map kV))/\kvs.length<sizeLine/\H'=upd H a (.dT (CG kvs k v))
theorem DGet.t {H:Hp}{a b:Addr}{kvs:List (List Key × V)}{k:List Key}(e:H a=some (.dT kvs))(eb:H b=some (.tup (k.map kV))):DGet H a (.ref b) (Fd kvs k):=.inr ⟨kvs,k,b,.inl e,rfl,eb,rfl⟩
theorem DPut.t {H:Hp}{a b:Addr}{kvs:List (List Key × V)}{k:List Key}{v:V}(e:H a=some (.dT kvs))(eb:H b=some (.tup (k.map kV)))(hl:kvs.length<sizeLine) :
  DPut H a (.ref b) v (upd H a (.dT (CG kvs k v))):=.inr ⟨kvs,k,b,e,rfl,eb,hl,rfl⟩
section
variable {X:Cx}{pins:List (Addr × Obj)}{σ:St}{H:Hp}{s:Shared}{a:Addr}{y v:V}{u r:Value}{o:Option V}{A:Around}{E:Value->Shared->Prop}
theorem Inv.big (I:Inv X pins σ H s):sysModules<s.heap.objs.size:=by
 have h:mainGlobals<s.heap.objs.size:=(I.mod.glob.keeps I.bk).lt;exact Nat.lt_trans (by decide) h
theorem SA {Q:Value->Shared->Prop}(hu:A.units+1<cLine)(I:Inv X pins σ H s)(g:DGet H a y (some v))(ry:RelV y u)(h:∀ w' s',Inv X pins σ H s'->RelV v w'->Q w' s') :
  wpAny (model X.prog X.w) A (getItem (.ref a) u) Q E s:=by
 rcases g with ⟨kvs,k,e,ey,l⟩ | ⟨kvs,k,b,e,ey,eb,l⟩
 ·subst ey;obtain ⟨z,hd,vs,rel,dd⟩:=Os I.hok e;obtain ⟨w',hw,rw'⟩:=RelO.some_of (v:=v) (o:=valueAt vs k) (by rw [l];exact rel.val k);exact wpAny_getItem_of (OD ry) dd.mapOf hw (h w' _ (I.tok _) rw')
 ·subst ey;cases (show u=Value.ref b from ry);obtain ⟨z,hd,xs,rel,dd⟩:=Rm I.hok e;obtain ⟨w',hw,rw'⟩:=RelO.some_of (v:=v) (o:=(atKey xs k).map (·.2)) (by rw [l];exact rel.val k);obtain ⟨p,hp,hp2⟩:=qjB.mp hw;refine wpAny_getItem_heap (tupleKind_room_in1 hu) (Nj I.hok eb) dd hp ?_;rw [hp2];exact h w' _ (I.tok _) rw'
theorem d_notIn {Q:Value->Shared->Prop}(hu:A.units+1<cLine)(I:Inv X pins σ H s)(g:DGet H a y o)(ry:RelV y u)(h:∀ s',Inv X pins σ H s'->Q (.bool (!o.isSome)) s') :
  wpAny (model X.prog X.w) A (compareOp .NotIn u (.ref a)) Q E s:=by
 rcases g with ⟨kvs,k,e,ey,l⟩ | ⟨kvs,k,b,e,ey,eb,l⟩
 ·subst ey;obtain ⟨z,hd,vs,rel,dd⟩:=Os I.hok e;refine wpAny_notIn_of (OD ry) hd dd.mapOf ?_;rw [<- (rel.val k).isSome_eq,<- l];exact h _ (I.tok _)
 ·subst ey;cases (show u=Value.ref b from ry);obtain ⟨z,hd,xs,rel,dd⟩:=Rm I.hok e;refine wpAny_notIn_heap (tupleKind_room_in1 hu) (Nj I.hok eb) hd dd ?_;have q:=(rel.val k).isSome_eq;rw [Option.isSome_map] at q;rw [<- q,<- l];exact h _ (I.tok _)
theorem NK {h':Heap}{t':Nat}{ob:HO}(I:Inv X pins σ H s)(mu:Mut (H a))(hs:Heap.SameBut a s.heap h')(he:∃ q,h'.get? a=some q)(new:ObjOk X.prog X.w (upd H a ob) h' a ob) :
  Inv X pins σ (upd H a ob) { s with heap:=h',toks:=t' } :=
 I.write (x:=a) (e:=a) mu (.inl rfl) (fun b q hb z=>(hs.2 b hb).trans z) he new
theorem dk_new {P:Program}{w:World}{H':Hp}{h':Heap}{kvs:List (Key × V)}{vs:List (Key × Value)}(z:kvs.length<=sizeLine)(hd:(a == sysModules)=false)(rel:KV kvs vs)(dd:h'.DictOf (Av P w) a vs) :
  ObjOk P w H' h' a (.dK kvs):=⟨z,hd,vs,rel,dd⟩
theorem SJ {H':Hp}{Q:Unit->Shared->Prop}(hu:A.units+1<cLine)(I:Inv X pins σ H s)(g:DPut H a y v H')(ry:RelV y u)(rv:RelV v r)(h:∀ s',Inv X pins σ H' s'->Q () s') :
  wpAny (model X.prog X.w) A (setItem (.ref a) u r) Q E s:=by
 rcases g with ⟨kvs,k,e,ey,l,eH⟩ | ⟨kvs,k,b,e,ey,eb,l,eH⟩
 ·subst ey eH;obtain ⟨z,hd,vs,rel,dd⟩:=dk_of I.hok e;have hz:vs.length<=sizeLine:=by rw [<- rel.length];exact z
  have hl:(CG kvs k v).length<=sizeLine:=by have:=Fi kvs k v;omega
  refine wpAny_setItem_pairs (hsz:=hz) (OD ry) dd fun h' dd' hs=>h _ ?_;have he:∃ q,h'.get? a=some q:=let ⟨q,_,_,hq,_⟩:=dd';⟨q,hq⟩
  exact NK I (by rw [e];exact True.intro) hs he (dk_new hl hd (rel.put k rv) dd')
 ·subst ey eH;cases (show u=Value.ref b from ry);obtain ⟨z,hd,xs,rel,dd⟩:=dt_of I.hok e;have hz:xs.length<=sizeLine:=by rw [<- Paired.length rel];exact z
  have hl:(CG kvs k v).length<=sizeLine:=by have:=Fi kvs k v;omega
  refine wpAny_setItem_heap (hsz:=hz) (tupleKind_room_in1 hu) (Nj I.hok eb) dd fun h' dd' hs=>h _ ?_;obtain ⟨q,es,ep,hq,h2,h3,h4,_,h5⟩:=dd';refine NK I (by rw [e];exact True.intro) hs ⟨q,hq⟩ ⟨hl,hd,_,(rel.put k eb rv).keeps fun c ys ec=>?_,q,es,ep,hq,h2,h3,h4,h5⟩;rw [Ag (ne_of ec e (fun z=>nomatch z))];exact ec
end
section
variable {X:Cx}{pins:List (Addr × Obj)}{σ:St}{H:Hp}{s:Shared}{a:Addr}{kvs:List (Key × V)}{k:Key}{u:Value}{A:Around}{E:Value->Shared->Prop}
theorem d_len {Q:Value->Shared->Prop}(I:Inv X pins σ H s)(e:Rd H a (.dK kvs))(h:∀ t s',Inv X pins σ H s'->Q (.int kvs.length t) s'):wpAny (model X.prog X.w) A (call (.builtin "len") [.ref a]) Q E s:=by
 obtain ⟨z,hd,vs,rel,dd⟩:=Os I.hok e;refine call_len_dict hd dd (by rw [<- rel.length];rw [qpB] at z;omega) ?_;rw [<- rel.length];exact h _ _ (I.tok _)
end
def NoSl (i:Expr):Prop:=∀ ov iv,subscripted i false ov iv=operate [ov,iv] (getItem ov iv)
theorem Mw {prog:Program}{w:World}{A:Around}{E:Value->Shared->Prop}{s:Shared}{env:Env}{value slice:Expr}{pos:Pos}{T id:String}{Q:Value->Shared->Prop}
  (hl:typeLookup (.type T) "__getitem__" = pure (some (.builtin id))) (hs:NoSl slice)
  (h:wpAny (model prog w) A (eval value env) (fun o s₁=>wpAny (model prog w) A (eval slice env) (fun i s₂=>s₂.TypeIs o T/\wpAny (model prog w) A (getItem o i) Q E s₂) E s₁) E s) :
  wpAny (model prog w) A (eval (.Subscript value slice pos) env) Q E s:=by
 refine Subscript_ (wpAny_mono h (fun o s₁ h₁=>wpAny_mono h₁ (fun i s₂ h₂=>?_) fun _ _ x=>x) fun _ _ x=>x);obtain ⟨hT,h₂⟩:=h₂;unfold subscriptTail;refine qbA ?_;rw [getitemInPython_of_ne hT.not_modules];refine qbA (wpAny_specialOf hT hl ?_)
 have fin:wpAny (model prog w) A (subscripted slice false o i) (fun r s₃=>wpAny (model prog w) A (letTemporaryGo value o r >>= fun _=>pure r) Q E s₃) E s₂:=by
  rw [hs o i];exact wpAny_operating (wpAny_mono h₂ (fun r s₃ h₃=>qbA (wpAny_letTemporaryGo (qcA h₃))) fun _ _ x=>x)
 first
  | exact qcA (qbA fin)
  | exact qbA (qcA (qbA fin))
  | exact qbA fin
theorem PV {X:Cx}{pins:List (Addr × Obj)}{σ:St}{H:Hp}{s:Shared}{a:Addr}{y:V}{o:Option V}(I:Inv X pins σ H s)(g:DGet H a y o):s.TypeIs (.ref a) "dict" := by
 rcases g with ⟨kvs,k,e,_,_⟩ | ⟨kvs,k,b,e,_,_,_⟩
 ·obtain ⟨_,_,vs,_,dd⟩:=Os I.hok e;exact dd.typeIs
 ·obtain ⟨_,_,xs,_,dd⟩:=Rm I.hok e;exact dd.typeIs
def tDGet (td ty:TE):TE:=fun σ H Q=>td σ H fun x H1=>ty σ H1 fun y H2=>∃ a v,x = .ref a/\DGet H2 a y (some v)/\Q v H2
def RM (ty td:TE):TE:=fun σ H Q=>ty σ H fun y H1=>td σ H1 fun x H2=>∃ a o,x = .ref a/\DGet H2 a y o/\Q (.bl (!o.isSome)) H2
def sDPut (td ty tv:TE):TS:=fun D σ H=>tv σ H fun v H1=>td σ H1 fun x H2=>ty σ H2 fun y H3=>∃ a H4,x = .ref a/\DPut H3 a y v H4/\D.nx σ H4
section
variable {X:Cx}{o i e value:Expr}{pos pos' tpos:Pos}{td ty tv:TE}
theorem Nm (hu:X.A.units+1<cLine)(ho:PE X o td)(hi:PE X i ty)(hs:NoSl i):PE X (.Subscript o i pos) (tDGet td ty):=by
 intro pins s σ H Q I h;refine Mw PySem.F.slot_dict_getitem.lookup hs (thn (ho pins s σ H _ I h) fun u s1 ⟨x,H1,I1,rx,q1⟩=>thn (hi pins s1 σ H1 _ I1 q1) fun iv s2 ⟨y,H2,I2,ry,a,v,ex,g,q2⟩=>?_);subst ex;obtain rfl:u=Value.ref a:=rx;exact ⟨PV I2 g,SA hu I2 g ry fun w' s3 I3 rw'=>⟨v,H2,I3,rw',q2⟩⟩
theorem Sq (hu:X.A.units+1<cLine)(hi:PE X i ty)(ho:PE X o td):PC X .NotIn i o (RM ty td):=by
 intro pins s σ H Q I h;refine thn (hi pins s σ H _ I h) fun iv s1 ⟨y,H1,I1,ry,q1⟩=>thn (ho pins s1 σ H1 _ I1 q1) fun u s2 ⟨x,H2,I2,rx,a,ov,ex,g,q2⟩=>?_;subst ex;obtain rfl:u=Value.ref a:=rx;exact d_notIn hu I2 g ry fun s3 I3=>⟨.bl (!ov.isSome),H2,I3,rfl,q2⟩
theorem RO (hu:X.A.units+1<cLine)(ho:PE X o td)(hi:PE X i ty)(hv:PE X value tv)(hs:swapsWith value (some (.Subscript o i pos')) pos.line X.env=pure false) :
  PS X (.Assign [.Subscript o i pos'] value pos) (sDPut td ty tv):=by
 intro pins s σ H D I h;refine wpAny_Assign_Subscript (thn (hv pins s σ H _ I h) fun r s1 ⟨v,H1,I1,rv,q1⟩=>thn (ho pins s1 σ H1 _ I1 q1) fun u s2 ⟨x,H2,I2,rx,q2⟩=>thn (hi pins s2 σ H2 _ I2 q2) fun iv s3 ⟨y,H3,I3,ry,a,H4,ex,g,q3⟩=>?_) hs;subst ex;obtain rfl:u=Value.ref a:=rx;exact SJ hu I3 g ry rv fun s4 I4=>⟨σ,H4,I4,q3⟩
end
theorem dk_empty {P:Program}{w:World}{H:Hp}(h:Heap)(hb:sysModules<h.objs.size):ObjOk P w H (h.push { cls:=.type "dict",data:=.dict #[] }) h.objs.size (.dK []) :=
 ⟨qkC _,beq_eq_false_iff_ne.mpr (Ne.symm (qdC hb)),[],.nil,Heap.DictOf.new h⟩
theorem dt_empty {P:Program}{w:World}{H:Hp}(h:Heap)(hb:sysModules<h.objs.size):ObjOk P w H (h.push { cls:=.type "dict",data:=.dict #[] }) h.objs.size (.dT []) :=
 ⟨qkC _,beq_eq_false_iff_ne.mpr (Ne.symm (qdC hb)),[],.nil,_,#[],0,qoB _ rfl,⟨rfl,rfl,rfl⟩,rfl,rfl,List.nodup_nil⟩
def Qy:TE:=fun _ H Q=>∀ p,H p=none->Q (.ref p) (upd H p (.dT []))
section
variable {X:Cx}{pos:Pos}
theorem pe_dnewT:PE X (.Dict [] [] pos) Qy:=fun pins s σ H Q I h =>
 wpAny_Dict_empty ⟨.ref s.heap.objs.size,_,I.laid (a:=s.heap.objs.size) (o:=.dT []) (t':=s.toks) (fun _ _ q=>qnB _ q) (qgB _) (dt_empty s.heap I.big),rfl,h _ (I.hok.fresh (qgB _))⟩
end
def QW:List (TE × TE)->St->Hp->(List (V × V)->Hp->Prop)->Prop
 | [],_,H,Q=>Q [] H
 | (tk,tv)::r,σ,H,Q=>tk σ H fun x H1=>tv σ H1 fun y H2=>QW r σ H2 fun ps H3=>Q ((x,y)::ps) H3
abbrev VV:List (V × V)->List (Value × Value)->Prop:=Paired fun p q=>RelV p.1 q.1/\RelV p.2 q.2
def PPs (X:Cx)(pos:Pos)(keys:List (Option Expr))(values:List Expr)(trs:List (TE × TE)):Prop :=
 ∀ (pins:List (Addr × Obj)) (s:Shared) (σ:St) (H:Hp) (Q:List (V × V)->Hp->Prop),Inv X pins σ H s->QW trs σ H Q ->
  wpAny (model X.prog X.w) X.A (evalPairs (pairTrees keys values X.env pos)) (fun vs s'=>∃ ps H',Inv X pins σ H' s'/\VV ps vs/\Q ps H') X.xe s
theorem Rv {X:Cx}{pos:Pos}:PPs X pos [] [] []:=fun pins s σ H Q I h=>pairTrees_nil_walk ⟨[],H,I,.nil,h⟩
theorem O8 {X:Cx}{pos:Pos}{k v:Expr}{ks:List (Option Expr)}{vs:List Expr}{tk tv:TE}{trs:List (TE × TE)}(hk:PE X k tk)(hv:PE X v tv)(hr:PPs X pos ks vs trs) :
  PPs X pos (some k::ks) (v::vs) ((tk,tv)::trs):=fun pins s σ H Q I h =>
 pairTrees_cons_walk (thn (hk pins s σ H _ I h) fun u s1 ⟨x,H1,I1,rx,q1⟩=>thn (hv pins s1 σ H1 _ I1 q1) fun w2 s2 ⟨y,H2,I2,ry,q2⟩ =>
  thn (hr pins s2 σ H2 _ I2 q2) fun ws s3 ⟨ps,H3,I3,rel,q3⟩=>⟨(x,y)::ps,H3,I3,.cons ⟨rx,ry⟩ rel,q3⟩)
def IX (kvs more:List (Key × V)):List (Key × V):=more.foldl (fun acc kv=>CG acc kv.1 kv.2) kvs
theorem KV.merge:∀ {more:List (Key × V)}{rs:List (Key × Value)}{kvs:List (Key × V)}{vs:List (Key × Value)},KV more rs->KV kvs vs->KV (IX kvs more) (merged vs rs):=by
 intro more rs kvs vs r;unfold KV at r
 induction r generalizing kvs vs with
 | nil=>intro q;exact q
 | @cons p q ps qs h t ih =>
  intro r0
  have e:KV (CG kvs p.1 p.2) (stored vs q.1 q.2):=by
   have:=r0.put p.1 h.2;rw [<- h.1];exact this
  exact ih e
theorem GY:∀ (more kvs:List (Key × V)),(IX kvs more).length<=kvs.length+more.length
 | [],kvs=>by show kvs.length<=kvs.length+0;omega
 | p::r,kvs=>by
  have h1:=GY r (CG kvs p.1 p.2);have h2:=Fi kvs p.1 p.2;show (IX (CG kvs p.1 p.2) r).length<=_;rw [qhA];omega
theorem Kn {P:Program}{w:World}:∀ {kvs:List (Key × V)}{ws:List (Value × Value)},VV (kvs.map fun kv=>(kV kv.1,kv.2)) ws->∃ rs,Carries (Av P w) ws rs/\KV kvs rs
 | [],_,r=>by rw [List.map_nil] at r;cases r;exact ⟨[],True.intro,.nil⟩
 | p::kvs,_,r=>by
  rw [qbB] at r
  cases r with
  | @cons a b as bs h t =>
   obtain ⟨rs,c,q⟩:=Kn (P:=P) (w:=w) t;obtain ⟨b1,b2⟩:=b;exact ⟨(p.1,b2)::rs,⟨OD h.1,rfl,c⟩,.cons ⟨rfl,h.2⟩ q⟩
def tDisp (trs:List (TE × TE)):TE:=fun σ H Q=>∀ p,H p=none->QW trs σ (upd H p (.dK [])) fun ps H2=>H2 p=some (.dK [])/\∃ kvs:List (Key × V),ps=kvs.map (fun kv=>(kV kv.1,kv.2))/\kvs.length<=15/\Q (.ref p) (upd H2 p (.dK (IX [] kvs)))
theorem RW {X:Cx}{pos:Pos}{keys:List (Option Expr)}{values:List Expr}{trs:List (TE × TE)}(h:PPs X pos keys values trs)(hall:keys.all (·.isSome)=true)(hl:keys.length=values.length)(h0:keys ≠ [])
  (h15:keys.length<=15):PE X (.Dict keys values pos) (tDisp trs):=by
 intro pins s σ H Q I q;have hn:=I.hok.fresh (qgB s.heap.objs.size);have I1:=I.laid (a:=s.heap.objs.size) (o:=.dK []) (h':=s.heap.push { cls:=.type "dict",data:=.dict #[] }) (t':=s.toks) (fun _ _ q=>qnB _ q) (qgB _) (dk_empty s.heap I.big);refine wpAny_Dict_walk (knd:=Av X.prog X.w) hall hl h0 h15 (thn (h pins _ σ _ _ I1 (q _ hn)) fun ws s2 ⟨ps,H2,I2,rel,e,kvs,ep,lk,q2⟩=>?_);subst ep;obtain ⟨rs,c,rk⟩:=Kn (P:=X.prog) (w:=X.w) rel;obtain ⟨z,hd,vs0,r0,dd⟩:=dk_of I2.hok e;cases r0;refine ⟨rs,c,dd,fun h' dd' hs=>⟨.ref s.heap.objs.size,_,?_,rfl,q2⟩⟩
 have hz:(IX [] kvs).length<=sizeLine:=by
  have h1:=GY kvs [];rw [List.length_nil] at h1;rw [qpB];omega
 have he:∃ q,h'.get? s.heap.objs.size=some q:=let ⟨q,_,_,hq,_⟩:=dd';⟨q,hq⟩
 exact NK I2 (by rw [e];exact True.intro) hs he (dk_new hz hd (rk.merge .nil) dd')
theorem len_app (x y:Str):(x++y).length=x.length+y.length:=by
 show (x.cps++y.cps).size=_;rw [Array.size_append]
 rfl
theorem cps_app (x y:Str):(x++y).cps.toList=x.cps.toList++y.cps.toList:=by
 show (x.cps++y.cps).toList=_;rw [Array.toList_append]
theorem Re {x y:Str}(h:x.cps.toList=y.cps.toList):x=y:=by
 cases x;cases y;simp only [Str.mk.injEq];exact Array.ext' h
theorem Ss:("" : Str).cps = #[]:=by decide +kernel
theorem P7:∀ (ps:List Str) (acc:Array Nat),(ps.foldl (fun acc p=>acc++("" : Str).cps++p.cps) acc).toList=acc.toList++(ps.map (·.cps.toList)).flatten
 | [],acc=>by simp
 | p::ps,acc=>by
  rw [qjC,P7 ps];simp [Ss]
theorem join_cps (ys:List Str):(Txt.join "" ys).cps.toList=(ys.map (·.cps.toList)).flatten:=by
 show ((ys.drop 1).foldl (fun acc p=>acc++("" : Str).cps++p.cps) (ys.headD Str.empty).cps).toList=_;rw [P7]
 cases ys with
 | nil=>rfl
 | cons a r=>simp
theorem MT:∀ (cs:List Nat),((cs.map fun c=>(⟨#[c]⟩:Str)).map (·.cps.toList)).flatten=cs
 | []=>rfl
 | c::cs=>by
  have:=MT cs;simp only [qbB,List.flatten_cons];rw [this]
  rfl
theorem R6 (cs:List Nat):(Txt.join "" (cs.map fun c=>(⟨#[c]⟩:Str))).cps.toList=cs:=by
 rw [join_cps,MT]
theorem PX:∀ (cs:List Nat),((cs.map fun c=>(⟨#[c]⟩:Str)).map (·.length)).sum=cs.length
 | []=>rfl
 | c::cs=>by
  have:=PX cs;simp only [qbB,List.sum_cons,this,qhA];show 1+cs.length=_;omega
theorem sing_lt (a b:Nat):([a] < [b]) ↔ a<b:=by
 rw [List.cons_lt_cons_iff];simp
def IZ (scope:Scope)(env:Env):List (Str × Addr) :=
 (scope.names.filterMap fun p=>if p.2 == NameKind.free then (env.cells.lookup p.1).map fun c=>(p.1,c) else none).reverse
theorem FJ {env:Env}:∀ (names:List (Str × NameKind)) (acc:List (Str × Addr)),(∀ y∈names,y.2 = .free->∃ c,env.cells.lookup y.1=some c) ->
  (forIn names acc fun (x:Str × NameKind) (cs:List (Str × Addr))=>(match x with
   | (name,kind)=>if (kind == NameKind.free)=true then do
     let c <- cellOf env name
     pure (ForInStep.yield ((name,c)::cs))
    else pure (ForInStep.yield cs):Sem (ForInStep (List (Str × Addr))))) =
   pure ((names.filterMap fun p=>if p.2 == NameKind.free then (env.cells.lookup p.1).map fun c=>(p.1,c) else none).reverse++acc)
 | [],acc,_=>rfl
 | (n,k)::r,acc,h=>by
  rw [List.forIn_cons];by_cases hk:k = .free
  ·subst hk;obtain ⟨c,hc⟩:=h (n,.free) qrA rfl;have e1:cellOf env n=pure c:=by unfold cellOf;rw [hc]
   have ih:=FJ r ((n,c)::acc) fun y hy=>h y (qsA _ hy);simp only [beq_self_eq_true,if_true,e1,pure_bind,List.filterMap_cons,hc,Option.map_some,List.reverse_cons,qdB,List.singleton_append];exact ih
  ·have hb:(k == NameKind.free)=false:=by simpa using hk
   have ih:=FJ r acc fun y hy=>h y (qsA _ hy);simp only [hb,Bool.false_eq_true,if_false,pure_bind,List.filterMap_cons];exact ih
theorem Lh {scope:Scope}{env:Env}(h:∀ y∈scope.names,y.2 = .free->∃ c,env.cells.lookup y.1=some c):closureFor scope env=pure (IZ scope env):=by
 have e:=FJ (env:=env) scope.names [] h;unfold closureFor;rw [qeB] at e;exact (congrArg (· >>= pure) e).trans (by rfl)
theorem clOf_mem {scope:Scope}{env:Env}{y:Str}{c:Addr}(h:(y,c)∈IZ scope env):(y,NameKind.free)∈scope.names/\env.cells.lookup y=some c:=by
 unfold IZ at h;obtain ⟨⟨n,k⟩,hp,e⟩:=List.mem_filterMap.mp (List.mem_reverse.mp h);by_cases hk:k = .free
 ·subst hk;simp only [beq_self_eq_true,if_true] at e
  cases hc:env.cells.lookup n with
  | none=>rw [hc] at e;cases e
  | some c' =>
   rw [hc] at e;have e':(n,c')=(y,c):=qkB e;cases e';exact ⟨hp,hc⟩
 ·have hb:(k == NameKind.free)=false:=by simpa using hk
  simp only [hb,Bool.false_eq_true,if_false] at e;cases e
theorem CJ {scope:Scope}{env:Env}{y:Str}{c:Addr}(h:(IZ scope env).lookup y=some c):env.cells.lookup y=some c:=(clOf_mem (PySem.mem_of_lookup h)).2
theorem GP {α:Type}{y:Str}:∀ {l:List (Str × α)}{c:α},(y,c)∈l->∃ c',l.lookup y=some c'
 | (n,a)::r,c,h=>by
  by_cases e:y=n
  ·subst e;exact ⟨a,by simp [List.lookup_cons]⟩
  ·have hb:(y == n)=false:=by simpa using e
   rcases qnA.mp h with h|h
   ·cases h;exact absurd rfl e
   ·obtain ⟨c',h'⟩:=GP h;exact ⟨c',by simp [List.lookup_cons,hb,h']⟩
theorem ID {scope:Scope}{env:Env}{y:Str}{c:Addr}(h1:(y,NameKind.free)∈scope.names)(h2:env.cells.lookup y=some c):(IZ scope env).lookup y=some c:=by
 have m:(y,c)∈IZ scope env:=by
  unfold IZ;exact List.mem_reverse.mpr (List.mem_filterMap.mpr ⟨(y,.free),h1,by simp [h2]⟩)
 obtain ⟨c',h'⟩:=GP m;have:=CJ h';rw [h2] at this;cases this;exact h'
theorem Hi {scope:Scope}{env:Env}(hcell:∀ y∈scope.names,y.2 ≠ .cell){y:Str}(h:(relabel scope env).names.lookup y=some .cell\/(relabel scope env).names.lookup y=some .free):(y,NameKind.free)∈scope.names:=by
 have m:∃ k,(k = .cell\/k = .free)/\(y,k)∈(relabel scope env).names:=by
  rcases h with h|h
  ·exact ⟨_,.inl rfl,PySem.mem_of_lookup h⟩
  ·exact ⟨_,.inr rfl,PySem.mem_of_lookup h⟩
 obtain ⟨k,hk,hm⟩:=m;unfold relabel at hm;obtain ⟨⟨n,k'⟩,hp,e⟩:=qoA.mp hm;dsimp only at e;by_cases hf:k' = .free
 ·subst hf;split at e<;>(cases e;exact hp)
 ·have hb:(k' == NameKind.free)=false:=by simpa using hf
  rw [hb,Bool.false_and,Bool.false_and,if_neg (by decide)] at e;cases e;rcases hk with hk|hk
  ·exact absurd hk (hcell _ hp)
  ·exact absurd hk hf
def BD (X:Cx)(N:List Str)(scope:Scope)(C:Addr)(s:Shared)(H:Hp)(fp:List Addr):Cx where
 prog:=X.prog
 w:=X.w
 K:=X.K
 mg:=X.mg
 base:=X.base
 A:=X.A
 N:=N
 s₀:=s
 H₀:=H
 env:=compEnvC scope (IZ scope X.env) C X.env
 outer:=X.stack
 stack:=X.stack
 ex:=fp
 fn:=fun _=>false
 calm:=true
 pn:=[]
 xe:=fun _ _=>False
def Caps (X:Cx)(scope:Scope):List Str->List Nat->Prop
 | [],[]=>True
 | x::xs,i::is=>(X.N[i]? = some x/\(X.env.scope.names.lookup x=some .cell\/X.env.scope.names.lookup x=some .free)/\scope.names.lookup x=some .free)/\Caps X scope xs is
 | _,_=>False
theorem Caps.len {X:Cx}{scope:Scope}:∀ {xs:List Str}{is:List Nat},Caps X scope xs is->is.length=xs.length
 | [],[],_=>rfl
 | _::_,_::_,h=>congrArg (· + 1) (Caps.len h.2)
 | [],_::_,h=>h.elim
 | _::_,[],h=>h.elim
theorem Caps.at {X:Cx}{scope:Scope}:∀ {xs:List Str}{is:List Nat}{j:Nat}{x:Str},Caps X scope xs is->xs[j]? = some x->∃ i,is[j]? = some i/\X.N[i]? = some x/\(X.env.scope.names.lookup x=some .cell\/X.env.scope.names.lookup x=some .free)/\scope.names.lookup x=some .free
 | [],[],_,_,_,e=>by simp at e
 | y::_,i::_,0,x,h,e=>by
  simp at e;subst e;exact ⟨i,rfl,h.1⟩
 | _::xs,_::is,j+1,x,h,e=>by
  obtain ⟨i,h1,h2⟩:=Caps.at (j:=j) h.2 (by simpa using e);exact ⟨i,by simpa using h1,h2⟩
 | [],_::_,_,_,h,_=>h.elim
 | _::_,[],_,_,h,_=>h.elim
def inner (cap:List Nat)(σ:St):St:=none::cap.map fun i=>(σ[i]?).join
def PTs (X:Cx)(ifs:List Expr)(t:TT):Prop :=
 ∀ (pins:List (Addr × Obj)) (s:Shared) (σ:St) (H:Hp) (Q:Bool->Hp->Prop),Inv X pins σ H s->t σ H Q ->
  wpAny (model X.prog X.w) X.A (forIn ifs true fun c r=>if r=true then do let ok <- isTrue c X.env (eval c X.env);pure (ForInStep.yield ok) else pure (ForInStep.yield r)) (TP X pins σ Q) X.xe s
def LZ:TT:=fun _ H Q=>Q true H
theorem EM {X:Cx}:PTs X [] LZ:=fun _ _ _ H _ I h=>wpAny_tests_nil ⟨H,I,h⟩
theorem Jg {X:Cx}{c:Expr}{t:TT}(h:PT X c t):PTs X [c] t:=fun pins s σ H Q I q=>wpAny_tests_one (h pins s σ H Q I q)
theorem Hz {prog:Program}{w:World}{A:Around}{R:Result->Shared->Prop}{s:Shared}{elt target iter:Expr}{ifs:List Expr}{scope:Scope}{pos:Pos}{it acc:Value}{env:Env}(I:Nat->Shared->Prop)
  (turn:∀ n s,I n s->wpAny (model prog w) A (pyNext it) (fun r s₁=>match r with
   | none=>R (.ok .next) s₁
   | some v=>wpAny (model prog w) A (letOwnedTupleGo target it v) (fun _ s₁'=>wpAny (model prog w) A (assign target env v) (fun _ s₂ =>
     wpAny (model prog w) A (forIn ifs true fun c r=>if r=true then do let ok <- isTrue c env (eval c env);pure (ForInStep.yield ok) else pure (ForInStep.yield r)) (fun ok s₃ =>
      if ok=true then wpAny (model prog w) A (eval elt env) (fun x s₄ =>
       wpAny (model prog w) A (call (.builtin "list.append") [acc,x]) (fun _ s₅=>∃ m,m<n/\I m s₅) (fun _ _=>False) s₄) (fun _ _=>False) s₃
      else ∃ m,m<n/\I m s₃) (fun _ _=>False) s₂) (fun _ _=>False) s₁') (fun _ _=>False) s₁) (fun _ _=>False) s)
  (n:Nat) (h:I n s) :
  codeAny (model prog w) A (.compLoop (.ListComp elt [⟨target,iter,ifs,0⟩] scope pos) 0 it acc env) R s:=by
 refine codeAny_loop rfl I (fun n s hI=>?_) n h;show wpAny _ A ((compTurn (.ListComp elt [⟨target,iter,ifs,0⟩] scope pos) 0 it acc env).onRaise (fun x=>do noteFrame x env;theTreesLotGoes x)) _ _ s;refine wpAny_noted ?_;rw [compTurn_list];refine qbA (wpAny_standAt (qbA (wpAny_mono (turn n s hI) (fun r s₁ h₁=>?_) fun _ _ h'=>h'.elim)))
 cases r with
 | none=>exact qcA h₁
 | some v =>
  refine qbA (wpAny_mono h₁ (fun _ s₁' h₁'=>?_) fun _ _ h'=>h'.elim);refine qbA (wpAny_mono h₁' (fun _ s₂ h₂=>qbA (wpAny_mono h₂ (fun ok s₃ h₃=>?_) fun _ _ h'=>h'.elim)) fun _ _ h'=>h'.elim)
  cases ok with
  | false=>exact qcA ⟨rfl,h₃⟩
  | true =>
   exact qbA (qbA (wpAny_mono h₃ (fun x s₄ h₄=>qbA (wpAny_mono h₄ (fun _ s₅ h₅=>qcA (qcA ⟨rfl,h₅⟩)) fun _ _ h'=>h'.elim)) fun _ _ h'=>h'.elim))
def Ju (cap:List Nat)(wi:TI)(tc:TT)(te:TE):TE:=fun σ H Q=>wi σ H fun J H1=>∀ p,H1 p=none ->
 ∃ W:Nat->Nat->List V->Hp->Prop,(∃ m,W 0 m [] (upd H1 p (.lst [])))/\∀ i m xs H2,W i m xs H2 ->
  (J.stop i H2/\Q (.ref p) H2)\/(J.go i H2/\∃ N:List V->Hp->Prop,(∀ xs' H',N xs' H'->∃ m',m'<m/\W (i+1) m' xs' H') /\
   ∀ x H3,J.yld i H2 x H3->tc ((inner cap σ).set 0 (some x)) H3 fun b H5=>if b=true then te ((inner cap σ).set 0 (some x)) H5 fun v H6=>H6 p=some (.lst xs)/\xs.length<sizeLine/\N (xs++[v]) (upd H6 p (.lst (xs++[v]))) else N xs H5)
section
variable {X:Cx}{pins:List (Addr × Obj)}{σ:St}
structure CompScope (X:Cx)(scope:Scope):Prop where
 cell:∀ y∈scope.names,y.2 ≠ .cell
 kind:scope.kind = .function
 names:∀ y∈scope.names,y.2 = .local -> scope.names.lookup y.1=some .local
 free:∀ y∈scope.names,y.2 = .free->X.env.scope.names.lookup y.1=some .cell\/X.env.scope.names.lookup y.1=some .free
theorem CompScope.clos {scope:Scope}{H:Hp}{s:Shared}(S:CompScope X scope)(I:Inv X pins σ H s):closureFor scope X.env=pure (IZ scope X.env) :=
 Lh fun y hy hf=>I.ok.has y.1 (S.free y hy hf)
theorem QZ {scope:Scope}{x:Str}{cn:List Str}{cap:List Nat}{s3:Shared}{H3:Hp}{fp:List Addr}{h₁:Heap}{tk:Nat}{H2:Hp}(S:CompScope X scope)(I:Inv X pins σ H3 s3)(hc:X.calm=true)(hcap:Caps X scope cn cap)
  (f2:∀ b∈fp,Ft X pins H2 b) (lt:∀ b∈fp,b<s3.heap.objs.size) (keep:∀ b o,s3.heap.get? b=some o->h₁.get? b=some o) (hns:h₁.Ns s3.heap.objs.size fun _=>none) :
  Inv (BD X (x::cn) scope s3.heap.objs.size s3 H3 fp) [] (inner cap σ) H3 { s3 with heap:=h₁,toks:=tk }:=by
 have noS:∀ b o,X.base.get? b=some o->b<X.s₀.heap.objs.size:=fun b o e=>qfC (qmB e) I.ok.bsz
 refine ⟨⟨I.ok.mod,S.kind,I.ok.glob,I.ok.blt,qgB _,fun y z c h1 h2=>I.ok.inj y z c (CJ h1) (CJ h2),fun y hy=>?_,fun y c h=>?_,fun _=>I.ok.hd hc,I.ok.frames,.inl rfl,fun b hb=>⟨qdC (lt b hb),fun y c h=>(f2 b hb).2.2.2.2.1 y c (CJ h)⟩,
  I.bs,qhB I.ok.bsz I.sz,fun b o e hb=>?_,fun b hb z=>?_,I.stack,I.stkFree⟩,rfl,I.bare,Un.kept keep,⟨_,hns,fun i y v e1 e2 e3=>?_⟩,fun y c e=>?_,I.hok.fresh (qgB _),fun y c e=>I.freeC y c (CJ e),fun p hp=>absurd (show p∈([]:List (Addr × Obj)) from hp) (by simp),I.hok.kept keep,?_⟩
 ·have m:=Hi S.cell hy;obtain ⟨c,hc'⟩:=I.ok.has y (S.free _ m rfl);exact ⟨c,ID m hc'⟩
 ·cases h
 ·rcases (f2 b hb).2.2.2.1 with z|z
  ·exact I.ok.noex b o e z
  ·exact absurd (qfC (noS b o e) z) (qiB _)
 ·rcases qnA.mp (I.stkSub b z) with e|e
  ·exact (f2 b hb).2.1 e
  ·exact (f2 b hb).2.2.1 e
 ·cases i with
  | zero =>
   have e2:(some none:Option (Option V))=some (some v):=e2;cases e2
  | succ j =>
   have e1:cn[j]? = some y:=e1;obtain ⟨k,hk,hN,hkind,hfr⟩:=hcap.at e1;have e2:(cap.map fun i=>(σ[i]?).join)[j]? = some (some v):=e2;rw [qzA,hk] at e2;have e2:(σ[k]?).join=some v:=qkB e2
   have e2:σ[k]? = some (some v):=by
    cases q:σ[k]? with
    | none=>rw [q] at e2;cases e2
    | some o=>rw [q] at e2;cases o with
     | none=>cases e2
     | some v'=>have e2:some v'=some v:=e2;rw [e2]
   obtain ⟨m,hn,hl⟩:=I.loc;obtain ⟨u,r,l⟩:=hl k y v hN e2 (.inr hkind);refine ⟨u,r,?_⟩;rcases l with ⟨kl,_⟩ | ⟨_,c,hc',o,ho,hd⟩
   ·have kl:X.env.scope.names.lookup y=some .local := kl;rw [kl] at hkind;rcases hkind with z|z<;>cases z
   ·refine .inr ⟨?_,c,ID (PySem.mem_of_lookup hfr) hc',o,keep c o ho,hd⟩;rcases e3 with z|z
    ·
     exfalso;have z:(relabel scope X.env).names.lookup y=some .local := z;have hm:=PySem.mem_of_lookup z;unfold relabel at hm;obtain ⟨⟨n,k'⟩,hp,e⟩:=qoA.mp hm;dsimp only at e
     have hl2:(y,NameKind.local)∈scope.names:=by
      split at e
      ·cases e
      ·cases e;exact hp
     have:=S.names _ hl2 rfl;rw [hfr] at this;cases this
    ·exact z
 ·obtain ⟨v,o,ho,hd⟩:=I.cell y c (CJ e);exact ⟨v,o,keep c o ho,hd⟩
 ·show (inner cap σ).length=(x::cn).length;unfold inner;rw [qhA,qfA,hcap.len,qhA]
theorem L7 {scope:Scope}{N:List Str}{C:Addr}{s3 s':Shared}{H2 H3 Hf:Hp}{fp:List Addr}{pins':List (Addr × Obj)}{σ':St}(I:Inv X pins σ H3 s3)(J:Inv (BD X N scope C s3 H3 fp) pins' σ' Hf s')(f2:∀ b∈fp,Ft X pins H2 b):Inv X pins σ Hf s' :=
 I.call' (ch:=fp) J.os J.base J.hok J.bare fun b hb=>⟨(f2 b hb).2.2.2.1,(f2 b hb).2.1,(f2 b hb).2.2.2.2.1,(f2 b hb).2.2.2.2.2⟩
theorem MV {scope:Scope}{x:Str}{px pos:Pos}{elt iter:Expr}{ifs:List Expr}{cn:List Str}{cap:List Nat}{s2:Shared}{H2:Hp}{it:Addr}{fp:List Addr}{tn:Nat->Heap->Prop}{J:It}{tc:TT}{te:TE}{Q:VK}{RR:Value->Addr->Result->Shared->Prop}{E:Value->Shared->Prop}
  (S:CompScope X scope) (I2:Inv X pins σ H2 s2) (hc:X.calm=true) (hcap:Caps X scope cn cap) (hx:scope.names.lookup x=some .local) (hnd:(x::cn).Nodup)
  (T:Turn X.prog X.w X.K (.Name x px) J fp it tn) (st2:tn 0 s2.heap) (f2:∀ b∈fp,Ft X pins H2 b)
  (body:∀ (C:Addr) (s:Shared) (H:Hp) (fp:List Addr),PTs (BD X (x::cn) scope C s H fp) ifs tc/\PE (BD X (x::cn) scope C s H fp) elt te)
  (q:∀ p,H2 p=none->∃ W:Nat->Nat->List V->Hp->Prop,(∃ m,W 0 m [] (upd H2 p (.lst [])))/\∀ i m xs H3,W i m xs H3 ->
   (J.stop i H3/\Q (.ref p) H3)\/(J.go i H3/\∃ N:List V->Hp->Prop,(∀ xs' H',N xs' H'->∃ m',m'<m/\W (i+1) m' xs' H') /\
    ∀ v H4,J.yld i H3 v H4->tc ((inner cap σ).set 0 (some v)) H4 fun b H5=>if b=true then te ((inner cap σ).set 0 (some v)) H5 fun v H6=>H6 p=some (.lst xs)/\xs.length<sizeLine/\N (xs++[v]) (upd H6 p (.lst (xs++[v]))) else N xs H5))
  (hRR:∀ (p C:Addr) (s3 s':Shared) (H3 Hf:Hp) (σ':St),Inv X pins σ H3 s3->s3.heap.objs.size=C->Inv (BD X (x::cn) scope C s3 H3 fp) [] σ' Hf s'->Q (.ref p) Hf->RR (.ref p) C (.ok .next) s') :
  wpAny (model X.prog X.w) X.A (newList []) (fun acc s₃=>wpAny (model X.prog X.w) X.A (newFunctionEnv scope X.env.globals (IZ scope X.env) [] X.env.qual none .none (some X.env)) (fun cenv s₄ =>
   codeAny (model X.prog X.w) X.A (.compStart (.ListComp elt [⟨.Name x px,iter,ifs,0⟩] scope pos) 0 (.ref it) acc { cenv with scope:=relabel scope X.env }) (RR acc cenv.locals) s₄) E s₃) E s2:=by
 refine wpAny_newObj_type (wpAny_newFunctionEnv S.cell (by intro y hy;simp at hy) (fun h₁ hns₁ hsb₁=>?_) S.kind);dsimp only at hns₁ hsb₁ ⊢;have hfr:H2 s2.heap.objs.size=none:=I2.hok.fresh (qgB _);obtain ⟨W,⟨m0,w0⟩,turn⟩:=q _ hfr
 have I3:Inv X pins σ (upd H2 s2.heap.objs.size (.lst [])) { s2 with heap:=s2.heap.push { cls:=.type "list",data:=.seq ([]:List Value).toArray } } :=
  I2.lnew (its:=[]) (t':=s2.toks) .nil (qkC _)
 generalize hs3:({ s2 with heap:=s2.heap.push { cls:=.type "list",data:=.seq ([]:List Value).toArray } }:Shared)=s3 at I3;have hs3h:s3.heap=s2.heap.push { cls:=.type "list",data:=.seq ([]:List Value).toArray }:=by rw [<- hs3]
 have hst3:tn 0 s3.heap:=T.keep _ _ _ st2 fun b hb o e=>by rw [hs3h];exact qnB _ e
 have ltf:∀ b∈fp,b<s3.heap.objs.size:=fun b hb=>by
  obtain ⟨o,e,_⟩:=T.obj _ _ hst3 b hb;exact qmB e
 have hC:(s2.heap.push { cls:=.type "list",dict:=none,data:=.seq ([]:List Value).toArray }).objs.size=s3.heap.objs.size:=by rw [hs3h]
 rw [hC] at hns₁ hsb₁ ⊢
 have keep:∀ b o,s3.heap.get? b=some o->h₁.get? b=some o:=fun b o e=>by
  refine hsb₁.extBut b o (qdC (qmB e)) (qnB _ ?_);rw [hs3h] at e;exact e
 have J4:Inv (BD X (x::cn) scope s3.heap.objs.size s3 (upd H2 s2.heap.objs.size (.lst [])) fp) [] (inner cap σ) (upd H2 s2.heap.objs.size (.lst [])) { s3 with heap:=h₁,toks:=s2.toks+([]:List (Str × Value)).length } :=
  QZ S I3 hc hcap f2 ltf keep hns₁
 have st4:tn 0 h₁:=T.keep _ _ _ hst3 fun b hb o e=>keep b o e
 have fr4:∀ b∈fp,(upd H2 s2.heap.objs.size (.lst [])) b=none:=fun b hb=>by
  obtain ⟨o,e,_⟩:=T.obj _ _ st2 b hb;rw [Ag (qdC (qmB e))];exact (f2 b hb).1
 have hst:({ s2 with heap:=h₁,toks:=s2.toks+([]:List (Str × Value)).length }:Shared) = { s3 with heap:=h₁,toks:=s2.toks+([]:List (Str × Value)).length }:=by rw [<- hs3]
 have loop:codeAny (model X.prog X.w) X.A (.compLoop (.ListComp elt [⟨.Name x px,iter,ifs,0⟩] scope pos) 0 (.ref it) (.ref s2.heap.objs.size) (compEnvC scope (IZ scope X.env) s3.heap.objs.size X.env))
   (RR (.ref s2.heap.objs.size) s3.heap.objs.size) { s2 with heap:=h₁,toks:=s2.toks+([]:List (Str × Value)).length }:=by
  rw [hst];generalize hX':BD X (x::cn) scope s3.heap.objs.size s3 (upd H2 s2.heap.objs.size (.lst [])) fp=X' at J4
  have hfpk:∀ {Hc:Hp},(∀ b∈fp,Hc b=none)->∀ b∈fp,Ft X' [] Hc b:=fun {Hc} hn b hb=>by
   subst hX';refine ⟨hn b hb,(J4.ok.exf b hb).1,J4.ok.exfs b hb,.inl hb,(J4.ok.exf b hb).2,fun p hp=>absurd (show p∈([]:List (Addr × Obj)) from hp) (by simp)⟩
  refine Hz (fun n s'=>∃ i xs Hc,Inv X' [] (inner cap σ) Hc s'/\tn i s'.heap/\(∀ b∈fp,Hc b=none)/\W i n xs Hc) ?_ m0 ⟨0,[],_,J4,st4,fr4,w0⟩;rintro n s5 ⟨i,xs,Hc,I5,st5,fr5,w5⟩;have B:=body s3.heap.objs.size s3 (upd H2 s2.heap.objs.size (.lst [])) fp;rcases turn i n xs Hc w5 with ⟨stop,qn⟩ | ⟨go,N,hN,step⟩
  ·subst hX';refine thn (T.done (BD X (x::cn) scope s3.heap.objs.size s3 (upd H2 s2.heap.objs.size (.lst [])) fp) rfl rfl rfl rfl i [] s5 (inner cap σ) Hc (fun _ _=>False) I5 (hfpk fr5) st5 stop) fun r s6 ⟨hr,I6⟩=>?_;subst hr;exact hRR _ _ s3 s6 _ Hc _ I3 rfl I6 qn
  ·subst hX';refine thn (T.item (BD X (x::cn) scope s3.heap.objs.size s3 (upd H2 s2.heap.objs.size (.lst [])) fp) rfl rfl rfl rfl i [] s5 (inner cap σ) Hc (fun _ _=>False) I5 (hfpk fr5) st5 go) fun r s6 ⟨u,hr,h6⟩=>?_;subst hr;refine thn h6 fun _ s7 ⟨v,H7,I7,r7,y7,st7,fr7⟩=>?_;have I7':=I7.pinned (hfpk fr7) (T.obj _ _ st7);have hlook:(relabel scope X.env).names.lookup x=some .local := lookup_relabel_local hx;refine wpAny_assign_Name (Hj (X:=BD X (x::cn) scope s3.heap.objs.size s3 (upd H2 s2.heap.objs.size (.lst [])) fp) I7' (i:=0) hnd rfl (.inl hlook) r7 (fun s8 I8=>?_) (.inr hlook))
   have again:∀ {s9:Shared}{H9:Hp}{ys:List V},Inv (BD X (x::cn) scope s3.heap.objs.size s3 (upd H2 s2.heap.objs.size (.lst [])) fp) ([]++Is fp s7.heap) ((inner cap σ).set 0 (some v)) H9 s9->N ys H9 ->
     ∃ m,m<n/\∃ i xs Hc,Inv (BD X (x::cn) scope s3.heap.objs.size s3 (upd H2 s2.heap.objs.size (.lst [])) fp) [] (inner cap σ) Hc s9/\tn i s9.heap/\(∀ b∈fp,Hc b=none)/\W i m xs Hc:=fun {s9 H9 ys} I9 n9=>by
    obtain ⟨m',hm,w9⟩:=hN ys H9 n9;refine ⟨m',hm,i+1,ys,H9,(I9.unpinned (pins:=[])).weak (by simp [inner]) (fun j w e=>?_),T.keep _ _ _ st7 fun b hb o e=>(I9.pin (b,o) (qgC _ (qgC _ (Db hb e)))).1,fun b hb=>?_,w9⟩
    ·cases j with
     | zero =>
      have e:(some none:Option (Option V))=some (some w):=e;cases e
     | succ j=>exact e
    ·obtain ⟨o,e,_⟩:=T.obj _ _ st7 b hb;exact (I9.pin (b,o) (qgC _ (qgC _ (Db hb e)))).2.1
   refine thn (B.1 _ s8 _ H7 _ I8 (step v H7 y7)) fun ok s9 ⟨H9,I9,q9⟩=>?_
   cases ok with
   | false =>
    rw [if_neg quB] at q9 ⊢;exact again I9 q9
   | true =>
    rw [if_pos rfl] at q9 ⊢;refine thn (B.2 _ s9 _ H9 _ I9 q9) fun uy s10 ⟨y,H10,I10,r10,hp,hl,n10⟩=>?_;refine thn (Ib _ s10 _ H10 (.ref s2.heap.objs.size) [y] (.ref s2.heap.objs.size) [uy] (fun _ H11=>N (xs++[y]) H11) I10 rfl (.cons r10 .nil) ⟨_,xs,y,rfl,rfl,hp,hl,n10⟩) fun _ s11 ⟨_,H11,I11,_,n11⟩=>?_;exact again I11 n11
 exact codeAny_compStart_list loop (T.self _ _ _ _ _ st4 loop)
theorem FF {scope:Scope}{x:Str}{px pos:Pos}{elt iter:Expr}{ifs:List Expr}{cn:List Str}{cap:List Nat}{wi:TI}{tc:TT}{te:TE}
  (hc:X.calm=true) (S:CompScope X scope) (hx:scope.names.lookup x=some .local) (hnd:(x::cn).Nodup) (hcap:Caps X scope cn cap) (hi:PI X (.Name x px) iter wi)
  (body:∀ (C:Addr) (s:Shared) (H:Hp) (fp:List Addr),PTs (BD X (x::cn) scope C s H fp) ifs tc/\PE (BD X (x::cn) scope C s H fp) elt te)
  (hs:∀ x,foldedSetIterable iter X.env x=pure x:=by intro _;rfl):PE X (.ListComp elt [⟨.Name x px,iter,ifs,0⟩] scope pos) (Ju cap wi tc te):=by
 intro pins s σ H Q I h;rw [eval_ListComp];refine wpAny_comprehension_free (use:=none) rfl hs (S.clos I) S.kind S.names (thn (hi pins s σ H _ I h) fun xv s1 h1=>thn h1 fun itv s2 h2=>?_);obtain ⟨it,fp,tn,J,H2,e,I2,T,st2,f2,q⟩:=h2;subst e;refine MV (RR:=fun acc C=>compPost (model X.prog X.w) X.A X.xe none (EP X pins σ Q) acc C) S I2 hc hcap hx hnd T st2 f2 body q ?_;intro p C s3 s' H3 Hf σ' I3 hC J' qf;subst hC;have I4:=L7 I3 J' f2;obtain ⟨m,hn,_⟩:=J'.loc;refine ⟨m,hn,fun h' hs'=>?_⟩;refine ⟨.ref p,Hf,?_,rfl,qf⟩;have f:=I3.fpOk (H':=Hf) (qgB _) J'.free;exact I4.turned (t':=s'.toks) (it:=s3.heap.objs.size) (fun b o hb e=>(hs'.2 b hb).trans e) f.1 f.2.1 f.2.2.2.1 f.2.2.2.2.1 f.2.2.2.2.2
theorem KF {scope:Scope}{x y:Str}{px py pos spos:Pos}{elt iter:Expr}{ifs:List Expr}{cn:List Str}{cap:List Nat}{wi:TI}{tc:TT}{te:TE}{i:Nat}
  (hN:X.N.Nodup) (hi:X.N[i]? = some y) (hy:Loc X.env.scope y) (hc:X.calm=true) (S:CompScope X scope) (hx:scope.names.lookup x=some .local) (hnd:(x::cn).Nodup) (hcap:Caps X scope cn cap) (hit:PI X (.Name x px) iter wi)
  (body:∀ (C:Addr) (s:Shared) (H:Hp) (fp:List Addr),PTs (BD X (x::cn) scope C s H fp) ifs tc/\PE (BD X (x::cn) scope C s H fp) elt te)
  (hsw:swapsWith (.ListComp elt [⟨.Name x px,iter,ifs,0⟩] scope pos) (some (.Name y py)) spos.line X.env=pure true:=by rfl)
  (hf:X.fn y=true\/X.env.scope.names.lookup y=some .local := by first|exact .inl rfl|exact .inr rfl|assumption)
  (hs:∀ x,foldedSetIterable iter X.env x=pure x:=by intro _;rfl):PS X (.Assign [.Name y py] (.ListComp elt [⟨.Name x px,iter,ifs,0⟩] scope pos) spos) (GO (Ju cap wi tc te) (Bm i)):=by
 intro pins s σ H D I h;rw [exec_Assign_Name_used _ _ _ _ hsw];refine qbA (wpAny_standAt (qbA ?_));show wpAny _ X.A (do let _ <- comprehension (.ListComp elt [⟨.Name x px,iter,ifs,0⟩] scope pos) scope X.env _ (newList []) false (eval iter X.env) (some (assign (.Name y py) X.env))) _ _ s
 refine qbA (wpAny_mono (wpAny_comprehension_free (use:=some (assign (.Name y py) X.env)) (Q:=fun _ s'=>SP X pins D .next s') rfl hs (S.clos I) S.kind S.names
  (thn (hit pins s σ H _ I h) fun xv s1 h1=>thn h1 fun itv s2 h2=>?_)) (fun _ s' hq=>qcA (qcA hq)) fun _ _ e=>e)
 obtain ⟨it,fp,tn,J,H2,e,I2,T,st2,f2,q⟩:=h2;subst e;refine MV (Q:=fun v H1=>Bm i v σ H1 D.nx) (RR:=fun acc C=>compPost (model X.prog X.w) X.A X.xe (some (assign (.Name y py) X.env)) (fun _ s'=>SP X pins D .next s') acc C) S I2 hc hcap hx hnd T st2 f2 body q ?_;intro p C s3 s' H3 Hf σ' I3 hC J' qf;subst hC;have I4:=L7 I3 J' f2;obtain ⟨m,hn,_⟩:=J'.loc;have f:=I3.fpOk (H':=Hf) (qgB _) J'.free;show wpAny _ X.A (assign (.Name y py) X.env (.ref p)) _ _ _;refine wpAny_assign_Name (MQ (v:=V.ref p) I4 hN hi hy rfl (fun s'' I5 ch=>?_) hf);obtain ⟨a,hsb,ha⟩:=ch
 have hCa:s3.heap.objs.size≠a:=by
  rcases ha with rfl|ha
  ·exact f.2.1
  ·exact fun z=>f.2.2.2.2.1 y a ha z.symm
 refine ⟨m,hn.sameBut hsb hCa,fun h' hs'=>?_⟩;exact ⟨_,Hf,I5.turned (t':=s''.toks) (it:=s3.heap.objs.size) (fun b o hb e=>(hs'.2 b hb).trans e) f.1 f.2.1 f.2.2.2.1 f.2.2.2.2.1 f.2.2.2.2.2,qf⟩
end
theorem bt_len:bootBuiltins "len" = some (.builtin "len"):=by decide +kernel
theorem Bv:bootBuiltins "isinstance" = some (.builtin "isinstance"):=by decide +kernel
theorem bt_min:bootBuiltins "min" = some (.builtin "min"):=by decide +kernel
theorem IP:bootBuiltins "sorted" = some (.builtin "sorted"):=by decide +kernel
theorem HN:bootBuiltins "tuple" = some (.type "tuple"):=by decide +kernel
theorem bt_int:bootBuiltins "int" = some (.type "int"):=by decide +kernel
theorem bt_str:bootBuiltins "str" = some (.type "str"):=by decide +kernel
theorem RY:bootBuiltins "dict" = some (.type "dict"):=by decide +kernel
theorem Py:bootBuiltins "set" = some (.type "set"):=by decide +kernel
theorem Kw {X:Cx}{x:Str}{i:Int}{pos:Pos}(hg:Gl X x)(h:∃ t,X.mg x=some (.int i t))(hd:(x == ("__debug__" : Str))=false:=by decide):PE X (.Name x pos) (tC (.int i)):=by
 obtain ⟨t,h⟩:=h;exact Dj (u:=.int i t) hg h ⟨t,rfl⟩ hd
def kitC (T c:String):Option Bool:=if (T == c)=true then some true else if PySem.W.kitMeta c=true then (fastBuiltinMro T).map (·.contains (.type c)) else none
theorem kit_of {K:FZ9}{T c:String}{b:Bool}(h:kitC T c=some b):PySem.W.kitOne K (.type T) (.type c)=some b:=by
 unfold kitC at h;unfold PySem.W.kitOne;by_cases e:T=c
 ·subst e;rw [if_pos (by simp)] at h;rw [if_pos (by simp)];exact h
 ·rw [if_neg (by simpa using e)] at h;rw [if_neg (by intro z;exact e (by simpa using z))];exact h
structure DefOk (P:Program)(w:World)(K:FZ9)(mg:Str->Option Value)(base:Heap)(x:Str)(k:Nat)(ps:List Str)(sp:Sp):Prop where
 ex:∃ f fd,FnOk P w K mg base CX0 k f fd ps sp/\mg x=some (.ref f)/\qzB K (.ref f)=true/\Binds K fd ps []
section
variable {X:Cx}{x:Str}{k j:Nat}{ps:List Str}{sp:Sp}{e:Expr}{es:List Expr}{t:TA}{p pos:Pos}
theorem AN (F:DefOk X.prog X.w X.K X.mg X.base x k ps sp)(hr:Room j X.A)(hj:k<=j)(hg:Gl X x)(ha:PA X (e::es) t)(hdb:(x == ("__debug__" : Str))=false:=by decide)
  (he:starEach (e::es) X.env=(false,eval e X.env)::starEach es X.env:=by rfl) (hpl:(backTo pos (starEach es X.env)).any (·.1)=false:=by rfl) :
  PE X (.Call (.Name x p) (e::es) [] pos) (Dt sp [] E0 t):=by
 obtain ⟨f,fd,G,m,kp,b⟩:=F.ex;exact pe_call G (hr.mono hj) hg m kp b .nil pass0 ha hdb he hpl
end
theorem Gi {P:Program}{w:World}{K:FZ9}{mg:Str->Option Value}{base:Heap}{x:Str}{st:Stmt}{f:Addr}{fd:FuncData}{k:Nat}{ps:List Str}{sp:Sp}(F:Fun K x x st f fd)(m:mg x=some (.ref f))(b:Binds K fd ps [])(G:FnOk P w K mg base CX0 k f fd ps sp):DefOk P w K mg base x k ps sp :=
 ⟨f,fd,G,m,F.kp,b⟩
theorem Cc {X:Cx}{scope:Scope}(h:(scope.names.all fun p=>p.2 != .free || X.env.scope.names.lookup p.1 == some .cell || X.env.scope.names.lookup p.1 == some .free)=true) :
  ∀ y∈scope.names,y.2 = .free->X.env.scope.names.lookup y.1=some .cell\/X.env.scope.names.lookup y.1=some .free:=fun y hy hf=>by
 have:=List.all_eq_true.mp h y hy;rw [hf] at this
 simpa using this
theorem Same.new {H:Hp}{p:Addr}{o:HO}(h:H p=none):Same H (upd H p o):=fun b u e=>by rw [Ag (CH e h)];exact e
theorem Same.put {H H':Hp}{p:Addr}{o:HO}(s:Same H H')(h:H p=none):Same H (upd H' p o):=fun b u e=>by rw [Ag (CH e h)];exact s b u e
def Its (x:Str):It:=⟨fun i _=>i<x.cps.size,fun i H v H'=>H'=H/\∃ c,x.cps[i]? = some c/\v = .str ⟨#[c]⟩,fun i _=>i=x.cps.size⟩
def StrIt (it:Addr)(x:Str)(t:Tok)(i:Nat)(h:Heap):Prop:=h.IsStrIter it "str_ascii_iterator" x t i\/h.IsStrIter it "str_iterator" x t i
theorem P6 {P:Program}{w:World}{K:FZ9}{tg:Expr}(x:Str)(t:Tok)(it:Addr):Turn P w K tg (Its x) [it] it (StrIt it x t) where
 mem:=by simp
 obj:=fun i h st b hb=>by
  have e:b=it:=by simpa using hb
  subst e;rcases st with ⟨o,e,c,d⟩ | ⟨o,e,c,d⟩<;>exact ⟨o,e,fun v z=>by rw [d] at z;cases z⟩
 keep:=fun i h h' st k=>by
  rcases st with ⟨o,e,r⟩ | ⟨o,e,r⟩
  ·exact .inl ⟨o,k it (by simp) o e,r⟩
  ·exact .inr ⟨o,k it (by simp) o e,r⟩
 item:=by
  intro X hP hw hK hc i pins s σ H E I hf st hg;subst hP hw hK;obtain ⟨f0,f1,f2,f3,f4,f5⟩:=hf it (by simp);rcases st with st|st
  ·refine (Walks.strAscii (prog:=X.prog) (w:=X.w) (I.ok.hd hc) it x t).item i s _ _ hg st fun v h' tk hv st' kk=>?_;obtain ⟨c,u,hcx,rfl⟩:=hv;have I1:=I.turned (h':=h') (t':=tk) (fun b o hb e=>kk b o (by simpa using hb) e) f0 f1 f3 f4 f5;obtain ⟨o,e,hc',d⟩:=id st';exact ⟨_,rfl,P0 (s:={ s with heap:=h',toks:=tk }) e hc' d (by decide) ⟨.str ⟨#[c]⟩,H,I1,⟨u,rfl⟩,⟨rfl,c,hcx,rfl⟩,.inl st',fun b hb=>(hf b hb).1⟩⟩
  ·refine (Walks.strWide (prog:=X.prog) (w:=X.w) (I.ok.hd hc) it x t).item i s _ _ hg st fun v h' tk hv st' kk=>?_;obtain ⟨c,u,hcx,rfl⟩:=hv;have I1:=I.turned (h':=h') (t':=tk) (fun b o hb e=>kk b o (by simpa using hb) e) f0 f1 f3 f4 f5;obtain ⟨o,e,hc',d⟩:=id st';exact ⟨_,rfl,P0 (s:={ s with heap:=h',toks:=tk }) e hc' d (by decide) ⟨.str ⟨#[c]⟩,H,I1,⟨u,rfl⟩,⟨rfl,c,hcx,rfl⟩,.inr st',fun b hb=>(hf b hb).1⟩⟩
 done:=by
  intro X hP hw hK hc i pins s σ H E I hf st hg;subst hP hw hK;obtain ⟨f0,f1,f2,f3,f4,f5⟩:=hf it (by simp);have hg:i=x.cps.size:=hg;subst hg;rcases st with st|st
  ·exact (Walks.strAscii (prog:=X.prog) (w:=X.w) (I.ok.hd hc) it x t).done s _ _ st fun h' tk kk=>⟨rfl,I.turned (fun b o hb e=>kk b o (by simpa using hb) e) f0 f1 f3 f4 f5⟩
  ·exact (Walks.strWide (prog:=X.prog) (w:=X.w) (I.ok.hd hc) it x t).done s _ _ st fun h' tk kk=>⟨rfl,I.turned (fun b o hb e=>kk b o (by simpa using hb) e) f0 f1 f3 f4 f5⟩
 self:=fun _ _ _ _ _ st h=>by
  rcases st with st|st
  ·exact wpAny_pyIter_striter_ascii st h
  ·exact wpAny_pyIter_striter_wide st h
section
variable {X:Cx}{tg:Expr}
def K4 (K:FZ9)(tl:TE):TI:=fun σ H R=>tl σ H fun v H1=>match v with
 | .str x=>R (Its x) H1
 | .ref a=>((∃ xs,SqL K H1 a xs)/\R (Itl K a) H1)\/((∃ xs,SqT K H1 a xs)/\R (Itt K a) H1)
 | _=>False
theorem pi_any {l:Expr}{tl:TE}(hl:PE X l tl):PI X tg l (K4 X.K tl):=by
 intro pins s σ H R I h;refine thn (hl pins s σ H _ I h) fun v s1 ⟨x,H1,I1,r1,q1⟩=>?_
 have one:∀ b∈[s1.heap.objs.size],Ft X pins H1 b:=fun b hb=>by
  have e:b=s1.heap.objs.size:=by simpa using hb
  subst e;exact I1.fpOk (qgB _) (I1.hok.fresh (qgB _))
 cases x with
 | str z =>
  obtain ⟨t,rfl⟩:=r1;have q1:R (Its z) H1:=q1;cases ha:z.cps.all (· < 128)
  ·exact wpAny_pyIter_wide ha ⟨s1.heap.objs.size,[s1.heap.objs.size],_,_,H1,rfl,I1.kept (t':=s1.toks) fun b o e=>qnB _ e,P6 z t _,.inr ⟨_,qoB _ rfl,rfl,rfl⟩,one,q1⟩
  ·exact wpAny_pyIter_ascii ha ⟨s1.heap.objs.size,[s1.heap.objs.size],_,_,H1,rfl,I1.kept (t':=s1.toks) fun b o e=>qnB _ e,P6 z t _,.inl ⟨_,qoB _ rfl,rfl,rfl⟩,one,q1⟩
 | ref a =>
  cases r1;have q1:((∃ xs,SqL X.K H1 a xs)/\R (Itl X.K a) H1)\/((∃ xs,SqT X.K H1 a xs)/\R (Itt X.K a) H1):=q1;rcases q1 with ⟨⟨xs,hq⟩,q⟩ | ⟨⟨xs,hq⟩,q⟩
  ·obtain ⟨its,rv,p,hz⟩:=I1.list hq;exact wpAny_pyIter_list p.isList ⟨s1.heap.objs.size,[s1.heap.objs.size],_,_,H1,rfl,I1.kept (t':=s1.toks) fun b o e=>qnB _ e,T8 a _,⟨_,qoB _ rfl,rfl,rfl⟩,one,q⟩
  ·obtain ⟨its,rv,p,hz⟩:=I1.tuple hq;exact wpAny_pyIter_tuple (show s1.heap.IsTuple a its.toArray from p) ⟨s1.heap.objs.size,[s1.heap.objs.size],_,_,H1,rfl,I1.kept (t':=s1.toks) fun b o e=>qnB _ e,QI a _,⟨_,qoB _ rfl,rfl,rfl⟩,one,q⟩
 | _=>exact (show False from q1).elim
end
structure Yields (J:It)(H:Hp)(xs:List V):Prop where
 go:∀ i H',Same H H'->i<xs.length->J.go i H'
 stop:∀ H',Same H H'->J.stop xs.length H'
 yld:∀ i H' x H'',Same H H'->i<xs.length->J.yld i H' x H''->H''=H'/\xs[i]? = some x
def Dr (x:Str):List V:=x.cps.toList.map fun c=>.str ⟨#[c]⟩
theorem KG (x:Str)(H:Hp):Yields (Its x) H (Dr x) where
 go:=fun i H' _ hi=>by
  have:(Dr x).length=x.cps.size:=by simp [Dr]
  show i<x.cps.size;omega
 stop:=fun H' _=>by
  show (Dr x).length=x.cps.size;simp [Dr]
 yld:=fun i H' v H'' _ _ y=>by
  obtain ⟨rfl,c,hc,rfl⟩:=y;refine ⟨rfl,?_⟩;simp only [Dr,qzA,Array.getElem?_toList,hc,Option.map_some]
theorem Mc (lo:Int)(n:Nat)(H:Hp):Yields (Itr lo n) H ((List.range n).map fun (i:Nat)=>V.int (lo+(i:Int))) where
 go:=fun i H' _ hi=>by
  show i<n
  simpa using hi
 stop:=fun H' _=>by
  show n<=((List.range n).map fun (i:Nat)=>V.int (lo+(i:Int))).length;simp
 yld:=fun i H' v H'' _ hi y=>by
  obtain ⟨rfl,rfl⟩:=y;rw [qfA,qjA] at hi;refine ⟨rfl,?_⟩;simp [hi]
theorem JF {K:FZ9}{a:Addr}{xs:List V}{H:Hp}(h:SqL K H a xs):Yields (Itl K a) H xs where
 go:=fun i H' s hi=>⟨xs,xs[i],s.seq h,by simp [hi]⟩
 stop:=fun H' s=>⟨xs,s.seq h,qgB _⟩
 yld:=fun i H' v H'' s _ y=>⟨y.1,y.2 xs (s.seq h)⟩
section
variable {X:Cx}
def ME (K:FZ9):R2:=fun x y H Q=>match x,y with
 | .int i,.int j=>Q (.int (i+j)) H
 | .str a,.str b=>a.length+b.length<=sizeLine/\Q (.str (a++b)) H
 | .ref a,.ref b=>∃ xs ys,Rd H a (.lst xs)/\Rd H b (.lst ys)/\xs.length+ys.length<=sizeLine/\∀ p,H p=none->Q (.ref p) (upd H p (.lst (xs++ys)))
 | _,_=>False
theorem op_catS:OpR X (binaryOp .Add) (fun x y H Q=>∃ a b xs ys,x = .ref a/\y = .ref b/\Rd H a (.lst xs)/\Rd H b (.lst ys)/\xs.length+ys.length<=sizeLine/\∀ p,H p=none->Q (.ref p) (upd H p (.lst (xs++ys)))):=by
 intro pins s σ H x y v u Q I rx ry h;obtain ⟨l,b,xs,zs,rfl,rfl,hH,hB,hz,q⟩:=h;cases rx;cases ry;obtain ⟨z,its,n,r,e⟩:=hH.ok I.hok;obtain ⟨z2,its2,n2,r2,e2⟩:=hB.ok I.hok;have hl:=r.length;have hl2:=r2.length;refine PySem.P.add_list e e2 ?_ (by rw [qvB,qvB];omega);have ea:its.toArray++its2.toArray=(its++its2).toArray:=by simp
 rw [ea];exact ⟨.ref _,_,I.lnew (t':=s.toks) (r.append r2) (by rw [qgA];omega),rfl,q _ I.fresh⟩
theorem op_plus:OpR X (binaryOp .Add) (ME X.K):=by
 intro pins s σ H x y v u Q I rx ry h
 cases x with
 | int i=>cases y with
  | int j=>exact op_add pins s σ H _ _ v u Q I rx ry ⟨i,j,rfl,rfl,h⟩
  | _=>exact (show False from h).elim
 | str a=>cases y with
  | str b=>exact QM pins s σ H _ _ v u Q I rx ry ⟨a,b,rfl,rfl,h.1,h.2⟩
  | _=>exact (show False from h).elim
 | ref a=>cases y with
  | ref b =>
   obtain ⟨xs,ys,h1,h2,h3,h4⟩:=h;exact op_catS pins s σ H _ _ v u Q I rx ry ⟨a,b,xs,ys,rfl,rfl,h1,h2,h3,h4⟩
  | _=>exact (show False from h).elim
 | _=>exact (show False from h).elim
def Sv (fi:Int->Int->Bool)(fs:List Nat->List Nat->Bool):R2:=fun x y H Q=>match x,y with
 | .int i,.int j=>Q (.bl (fi i j)) H
 | .str a,.str b=>Q (.bl (fs a.cps.toList b.cps.toList)) H
 | _,_=>False
theorem Qi {f:Value->Value->Sem Value}{fi:Int->Int->Bool}{fs:List Nat->List Nat->Bool}(hi:OpR X f (rI0 fun i j=>.bl (fi i j)))
  (hs:∀ (s:Shared) (a b:Str) (t u:Tok) (Q:Value->Shared->Prop),Q (.bool (fs a.cps.toList b.cps.toList)) s->wpAny (model X.prog X.w) X.A (f (.str a t) (.str b u)) Q X.xe s):OpR X f (Sv fi fs):=by
 intro pins s σ H x y v u Q I rx ry h
 cases x with
 | int i=>cases y with
  | int j=>exact hi pins s σ H _ _ v u Q I rx ry ⟨i,j,rfl,rfl,h⟩
  | _=>exact (show False from h).elim
 | str a=>cases y with
  | str b =>
   obtain ⟨t,rfl⟩:=rx;obtain ⟨t',rfl⟩:=ry;exact hs s a b t t' _ ⟨.bl _,H,I,rfl,h⟩
  | _=>exact (show False from h).elim
 | _=>exact (show False from h).elim
theorem Qs:OpR X (compareOp .Lt) (Sv (fun i j=>decide (i<j)) fun a b=>decide (a<b)):=Qi op_lt fun _ _ _ _ _ _ h=>lt_str h
theorem op_leU:OpR X (compareOp .LtE) (Sv (fun i j=>decide (i<=j)) fun a b=>!decide (b<a)):=Qi op_le fun _ _ _ _ _ _ h=>PySem.P.le_str h
theorem Ee:OpR X (compareOp .Gt) (Sv (fun i j=>decide (j<i)) fun a b=>decide (b<a)):=Qi op_gt fun _ _ _ _ _ _ h=>PySem.P.gt_str h
def rMul (K:FZ9):R2:=fun x y H Q=>match x,y with
 | .int i,.int j=>CMul i j/\Q (.int (i * j)) H
 | .ref l,.int k=>∃ xs,H l=some (.lst xs)/\-(2 ^ 63)<=k/\k<2 ^ 63/\xs.length * k.toNat<=sizeLine/\∀ p,H p=none->Q (.ref p) (upd H p (.lst (List.replicate k.toNat xs).flatten))
 | _,_=>False
theorem op_mulU:OpR X (binaryOp .Mult) (rMul X.K):=by
 intro pins s σ H x y v u Q I rx ry h
 cases x with
 | int i=>cases y with
  | int j=>exact op_mul pins s σ H _ _ v u Q I rx ry ⟨i,j,rfl,rfl,h.1,h.2⟩
  | _=>exact (show False from h).elim
 | ref l=>cases y with
  | int k =>
   obtain ⟨xs,h1,h2,h3,h4,h5⟩:=h;exact op_rep pins s σ H _ _ v u Q I rx ry ⟨l,k,xs,rfl,rfl,h1,h2,h3,h4,h5⟩
  | _=>exact (show False from h).elim
 | _=>exact (show False from h).elim
def rAt (K:FZ9):R2:=fun x y H Q=>match x,y with
 | .str z,.int i=>z.length<=sizeLine/\∃ c,atI z.cps.toList i=some c/\Q (.str ⟨#[c]⟩) H
 | .ref p,.int i=>(∃ xs v,SqL K H p xs/\atI xs i=some v/\Q v H)\/(∃ xs v,SqT K H p xs/\atI xs i=some v/\Q v H)
 | _,_=>False
theorem ix_any:IxR X (rAt X.K):=by
 intro value slice pins s σ H x y v u Q I rx ry q hs
 cases x with
 | str z=>cases y with
  | int i =>
   obtain ⟨hz,c,hc,q⟩:=q;exact ix_str value slice pins s σ H _ _ v u Q I rx ry ⟨z,i,c,rfl,rfl,hz,hc,q⟩ hs
  | _=>exact (show False from q).elim
 | ref p=>cases y with
  | int i =>
   rcases q with ⟨xs,w',h1,h2,h3⟩ | ⟨xs,w',h1,h2,h3⟩
   ·exact ix_list value slice pins s σ H _ _ v u Q I rx ry ⟨p,xs,i,w',rfl,rfl,h1,h2,h3⟩ hs
   ·exact ix_tup value slice pins s σ H _ _ v u Q I rx ry ⟨p,xs,i,w',rfl,rfl,h1,h2,h3⟩ hs
  | _=>exact (show False from q).elim
 | _=>exact (show False from q).elim
def MZ (K:FZ9):List V->Hp->VK->Prop:=fun vs H Q=>match vs with
 | [.str z]=>z.length<=sizeLine/\Q (.int z.length) H
 | [.ref p]=>∃ ys,(SqL K H p ys\/SqT K H p ys)/\Q (.int ys.length) H
 | _=>False
theorem Sr:CW X (.builtin "len") (MZ X.K):=by
 intro pins s σ H vs us Q I r h
 match vs,h with
 | [.str z],h=>exact Mv pins s σ H _ us Q I r ⟨z,rfl,h.1,h.2⟩
 | [.ref p],h =>
  obtain ⟨ys,h1,h2⟩:=h;exact N4 pins s σ H _ us Q I r ⟨p,ys,rfl,h1,h2⟩
theorem L6 {ys:List Str}:∀ {us:List Value},Vals (ys.map V.str) us->StrsAre us ys:=by
 induction ys with
 | nil=>intro us r;rw [List.map_nil] at r;cases r;exact .nil
 | cons n ns ih =>
  intro us r;rw [qbB] at r
  cases r with
  | cons r1 r2 =>
   obtain ⟨t,e⟩:=r1;subst e;exact .cons n t (ih r2)
def rJoin (K:FZ9):V->List V->Hp->VK->Prop:=fun x vs H Q=>∃ z l ys,x = .str z/\vs=[.ref l]/\SqL K H l (ys.map V.str)/\(ys.map (·.length)).sum+ys.length * z.length<=16777216/\Q (.str (Txt.join z ys)) H
theorem mt_join:MtR X "str.join" (rJoin X.K):=by
 intro pins s σ H x vs v us Q I rx rv h;obtain ⟨z,l,ys,rfl,rfl,hl,hz,q⟩:=h;obtain ⟨t,rfl⟩:=rx;obtain ⟨u,rfl,ru⟩:=Ev rv;cases ru;obtain ⟨its,r,pl,_⟩:=I.list hl;exact join_list pl.isList (by simpa using L6 r) hz fun t' k=>⟨.str _,H,I.tok k,⟨t',rfl⟩,q⟩
end
structure EqTy (K:FZ9)(k:Nat){α:Type}[DecidableEq α](R:Hp->V->α->Prop):Prop where
 fn:∀ {X:Cx}{pins:List (Addr × Obj)}{σ:St}{H:Hp}{s:Shared}{x:V}{a b:α},X.K=K->Inv X pins σ H s->R H x a->R H x b->a=b
 eq:∀ {X:Cx}{pins:List (Addr × Obj)}{σ:St}{H:Hp}{s:Shared}{x y:V}{u v:Value}{a b:α}(A:Around),X.K=K->Inv X pins σ H s->A.units+k<cLine->RelV x u->RelV y v->R H x a->R H y b->SeqAt.EqAt A s u v (decide (a=b))
 rc:∀ {X:Cx}{pins:List (Addr × Obj)}{σ:St}{H:Hp}{s:Shared}{x y:V}{u v:Value}{a b:α}(A:Around),X.K=K->Inv X pins σ H s->A.units+k<cLine->RelV x u->RelV y v->R H x a->R H y b->SeqAt.RcAt A s u v (decide (a=b))/\SeqAt.RcNeAt A s u v (!decide (a=b))
def isStr:Hp->V->Str->Prop:=fun _ x a=>x = .str a
def isInt:Hp->V->Int->Prop:=fun _ x a=>x = .int a
def isBl:Hp->V->Bool->Prop:=fun _ x a=>x = .bl a
theorem FK {α:Type}[DecidableEq α][BEq α][LawfulBEq α](a b:α):(a == b)=decide (a=b):=by
 by_cases h:a=b
 ·subst h;simp
 ·rw [decide_eq_false h];simpa using h
theorem eqStr {K:FZ9}:EqTy K 0 isStr where
 fn:=fun _ _ h1 h2=>by cases h1;cases h2;rfl
 eq:=fun A _ _ _ r1 r2 h1 h2=>by
  cases h1;cases h2;obtain ⟨t,rfl⟩:=r1;obtain ⟨t',rfl⟩:=r2;rw [<- FK];exact SeqAt.EqAt.str_str _ _ _ _
 rc:=fun A _ _ _ r1 r2 h1 h2=>by
  cases h1;cases h2;obtain ⟨t,rfl⟩:=r1;obtain ⟨t',rfl⟩:=r2;rw [<- FK];exact ⟨SeqAt.RcAt.str_str _ _ _ _,SeqAt.RcNeAt.str_str _ _ _ _⟩
theorem eqInt {K:FZ9}:EqTy K 0 isInt where
 fn:=fun _ _ h1 h2=>by cases h1;cases h2;rfl
 eq:=fun A _ _ _ r1 r2 h1 h2=>by
  cases h1;cases h2;obtain ⟨t,rfl⟩:=r1;obtain ⟨t',rfl⟩:=r2;rw [<- FK];exact SeqAt.EqAt.int_int _ _ _ _
 rc:=fun A _ _ _ r1 r2 h1 h2=>by
  cases h1;cases h2;obtain ⟨t,rfl⟩:=r1;obtain ⟨t',rfl⟩:=r2;rw [<- FK];exact ⟨SeqAt.RcAt.int_int _ _ _ _,SeqAt.RcNeAt.int_int _ _ _ _⟩
theorem eqBl {K:FZ9}:EqTy K 0 isBl where
 fn:=fun _ _ h1 h2=>by cases h1;cases h2;rfl
 eq:=fun A _ _ _ r1 r2 h1 h2=>by
  cases h1;cases h2;cases r1;cases r2;rw [<- FK];exact SeqAt.EqAt.bool_bool _ _
 rc:=fun A _ _ _ r1 r2 h1 h2=>by
  cases h1;cases h2;cases r1;cases r2;rw [<- FK];exact ⟨SeqAt.RcAt.bool_bool _ _,SeqAt.RcNeAt.bool_bool _ _⟩
theorem Paired.at' {α β:Type}{F:α->β->Prop}:∀ {l₁:List α}{l₂:List β}{i:Nat}{a:α}{b:β},Paired F l₁ l₂->l₁[i]? = some a->l₂[i]? = some b->F a b
 | _,_,_,_,_,.nil,e,_=>by simp at e
 | _,_,0,_,_,.cons h _,e1,e2=>by simp at e1 e2;subst e1;subst e2;exact h
 | _,_,i+1,_,_,.cons _ t,e1,e2=>Paired.at' (i:=i) t (by simpa using e1) (by simpa using e2)
theorem MH {α β:Type}{F:α->β->Prop}(hf:∀ a b c,F a b->F a c->b=c):∀ {xs:List α}{as bs:List β},Paired F xs as->Paired F xs bs->as=bs
 | _,_,_,.nil,.nil=>rfl
 | _,_,_,.cons h t,.cons h' t'=>by rw [hf _ _ _ h h',MH hf t t']
theorem all_dec {α:Type}[DecidableEq α]:∀ (as bs:List α) (hl:as.length=bs.length),((List.range as.length).all fun j=>decide (as[j]? = bs[j]?))=decide (as=bs):=by
 intro as bs hl;apply Bool.eq_iff_iff.mpr;rw [decide_eq_true_iff,List.all_eq_true];constructor
 ·intro h;apply List.ext_getElem?;intro i;by_cases hi:i<as.length
  ·exact of_decide_eq_true (h i (qtA.mpr hi))
  ·rw [qyA (by omega),qyA (by omega)]
 ·rintro rfl i _;simp
theorem QO {K:FZ9}{k:Nat}{α:Type}[DecidableEq α]{R:Hp->V->α->Prop}(E:EqTy K k R){X:Cx}{pins:List (Addr × Obj)}{σ:St}{H:Hp}{s:Shared}{A:Around}(hK:X.K=K)(I:Inv X pins σ H s)(hu:A.units+(k+1)<cLine)
  {xs ys:List V}{us vs:List Value}{as bs:List α}(rx:Vals xs us) (ry:Vals ys vs) (px:Paired (R H) xs as) (py:Paired (R H) ys bs) :
  ∀ j (h1:j<us.toArray.size) (h2:j<vs.toArray.size),SeqAt.EqAt A.in1 s us.toArray[j] vs.toArray[j] (decide (as[j]? = bs[j]?)):=by
 intro j h1 h2;have h1':j<us.length:=by simpa using h1
 have h2':j<vs.length:=by simpa using h2
 have lx:=rx.length;have ly:=ry.length;have lpx:=Paired.length px;have lpy:=Paired.length py;have ex:xs[j]? = some xs[j]:=qwA (by omega);have ey:ys[j]? = some ys[j]:=qwA (by omega);have ea:as[j]? = some as[j]:=qwA (by omega);have eb:bs[j]? = some bs[j]:=qwA (by omega);obtain ⟨u,hu',ru⟩:=rx.get ex;obtain ⟨v,hv',rv⟩:=ry.get ey
 have e1:us.toArray[j]=u:=by
  rw [qwA h1'] at hu'
  simpa using hu'
 have e2:vs.toArray[j]=v:=by
  rw [qwA h2'] at hv'
  simpa using hv'
 rw [e1,e2,ea,eb];have:=E.eq A.in1 hK I (show A.units+1+k<cLine by omega) ru rv (Paired.at' px ex ea) (Paired.at' py ey eb);have e3:decide (some as[j]=some bs[j])=decide (as[j]=bs[j]):=by simp
 rw [e3];exact this
def K0 (K:FZ9){α β:Type}(R:Hp->V->α->Prop)(S:Hp->V->β->Prop):Hp->V->α × β->Prop:=fun H x p=>∃ t a b,x = .ref t/\SqT K H t [a,b]/\R H a p.1/\S H b p.2
theorem eqPair {K:FZ9}{k:Nat}{α β:Type}[DecidableEq α][DecidableEq β]{R:Hp->V->α->Prop}{S:Hp->V->β->Prop}(E:EqTy K k R)(G:EqTy K k S):EqTy K (k+1) (K0 K R S):=by
 have fn:∀ {X:Cx}{pins:List (Addr × Obj)}{σ:St}{H:Hp}{s:Shared}{x:V}{a b:α × β},X.K=K->Inv X pins σ H s->K0 K R S H x a->K0 K R S H x b->a=b:=by
  intro X pins σ H s x a b hK I ha hb;obtain ⟨l,x1,x2,rfl,h1,p1,p2⟩:=ha;obtain ⟨l',y1,y2,e,h2,q1,q2⟩:=hb;cases e;subst hK;have:=I.tuple_inj h1 h2;cases this;exact Prod.ext (E.fn rfl I p1 q1) (G.fn rfl I p2 q2)
 have rc:∀ {X:Cx}{pins:List (Addr × Obj)}{σ:St}{H:Hp}{s:Shared}{x y:V}{u v:Value}{a b:α × β}(A:Around),X.K=K->Inv X pins σ H s->A.units+(k+1)<cLine->RelV x u->RelV y v->K0 K R S H x a->K0 K R S H y b ->
   SeqAt.RcAt A s u v (decide (a=b))/\SeqAt.RcNeAt A s u v (!decide (a=b)):=by
  intro X pins σ H s x y u v a b A hK I hu r1 r2 ha hb;obtain ⟨l,x1,x2,rfl,h1,p1,p2⟩:=ha;obtain ⟨l',y1,y2,rfl,h2,q1,q2⟩:=hb;cases r1;cases r2;subst hK;obtain ⟨us,rx,plx,_⟩:=I.tuple h1;obtain ⟨vs,ry,ply,_⟩:=I.tuple h2;obtain ⟨u1,u2,rfl,ru1,ru2⟩:=MG rx;obtain ⟨v1,v2,rfl,rv1,rv2⟩:=MG ry;have e1:=E.eq A.in1 rfl I (show A.units+1+k<cLine by omega) ru1 rv1 p1 q1;have e2:=G.eq A.in1 rfl I (show A.units+1+k<cLine by omega) ru2 rv2 p2 q2
  have it:∀ j (h1:j < [u1,u2].toArray.size) (h2:j < [v1,v2].toArray.size),SeqAt.EqAt A.in1 s [u1,u2].toArray[j] [v1,v2].toArray[j] ((fun j=>if j=0 then decide (a.1=b.1) else decide (a.2=b.2)) j):=by
   intro j h1 h2
   match j,h1 with
   | 0,_=>exact e1
   | 1,_=>exact e2
   | j+2,h=>exact absurd h (by simp)
  have ed:((List.range (min [u1,u2].toArray.size [v1,v2].toArray.size)).all (fun j=>if j=0 then decide (a.1=b.1) else decide (a.2=b.2)) && [u1,u2].toArray.size == [v1,v2].toArray.size)=decide (a=b):=by
   apply Bool.eq_iff_iff.mpr;rw [decide_eq_true_iff];constructor
   ·intro h;have h:(decide (a.1=b.1) && (decide (a.2=b.2) && true) && true)=true:=h;simp only [Bool.and_true,qnC,decide_eq_true_iff] at h;exact Prod.ext h.1 h.2
   ·rintro rfl;show (decide (a.1=a.1) && (decide (a.2=a.2) && true) && true)=true;simp
  rw [<- ed];exact ⟨SeqAt.RcAt.tuples plx ply (by omega) it,SeqAt.RcNeAt.tuples plx ply (by omega) it⟩
 refine ⟨fn,?_,rc⟩;intro X pins σ H s x y u v a b A hK I hu r1 r2 ha hb;have h:=(rc A hK I hu r1 r2 ha hb).1;obtain ⟨l,x1,x2,rfl,h1,p1,p2⟩:=id ha;obtain ⟨l',y1,y2,rfl,h2,q1,q2⟩:=id hb;cases r1;cases r2;by_cases e:l=l'
 ·subst e;have:a=b:=fn hK I ha hb;rw [decide_eq_true this];exact SeqAt.EqAt.same _
 ·exact SeqAt.EqAt.of_refs e h
section
variable {X:Cx}
theorem op_eqD {k j:Nat}{α:Type}[DecidableEq α]{R:Hp->V->α->Prop}(E:EqTy X.K k R)(hr:Room j X.A)(hk:k<=10):OpR X (compareOp .Eq) (fun x y H Q=>∃ a b,R H x a/\R H y b/\Q (.bl (decide (a=b))) H):=by
 intro pins s σ H x y v u Q I rx ry h;obtain ⟨a,b,h1,h2,q⟩:=h;exact (E.rc X.A rfl I (by have:=hr.un;omega) rx ry h1 h2).1 _ _ _ _ ⟨.bl _,H,I,rfl,q⟩
end
class Rp (α:Type) where
 rel:FZ9->Hp->V->α->Prop
 mono:∀ {K:FZ9}{H H':Hp}{v:V}{a:α},Same H H'->rel K H v a->rel K H' v a
theorem Same.rd {H H':Hp}{a:Addr}{u:HO}(s:Same H H')(h:Rd H a u):Rd H' a u:=by
 rcases h with h | ⟨o,h⟩
 ·exact .inl (s _ _ h)
 ·exact .inr ⟨o,s _ _ h⟩
theorem Same.tup {K:FZ9}{H H':Hp}{a:Addr}{xs:List V}(e:Same H H')(h:SqT K H a xs):SqT K H' a xs:=by
 rcases h with h|h
 ·exact .inl (e.rd h)
 ·exact .inr h
instance rpInt:Rp Int:=⟨fun _ _ v a=>v = .int a,fun _ h=>h⟩
instance rpBool:Rp Bool:=⟨fun _ _ v a=>v = .bl a,fun _ h=>h⟩
instance rpStr:Rp Str:=⟨fun _ _ v a=>v = .str a/\a.length<=sizeLine,fun _ h=>h⟩
instance rpUnit:Rp Unit:=⟨fun _ _ v _=>v = .non,fun _ h=>h⟩
instance rpList {α:Type}[Rp α]:Rp (List α) :=
 ⟨fun K H v as=>∃ l xs,v = .ref l/\Rd H l (.lst xs)/\xs.length<=sizeLine/\Paired (Rp.rel K H) xs as,
  fun s ⟨l,xs,e,h,z,p⟩=>⟨l,xs,e,s.rd h,z,Paired.imp' (fun _ _ r=>Rp.mono s r) p⟩⟩
instance rpPair {α β:Type}[Rp α][Rp β]:Rp (α × β) :=
 ⟨fun K H v p=>∃ t a b,v = .ref t/\SqT K H t [a,b]/\Rp.rel K H a p.1/\Rp.rel K H b p.2,
  fun s ⟨t,a,b,e,h,r1,r2⟩=>⟨t,a,b,e,s.tup h,Rp.mono s r1,Rp.mono s r2⟩⟩
structure T3 (α β γ:Type) where
 a:α
 b:β
 c:γ
 deriving DecidableEq
structure T4 (α β γ δ:Type) where
 a:α
 b:β
 c:γ
 d:δ
 deriving DecidableEq
structure Tp (α:Type) where
 l:List α
 deriving DecidableEq
instance rpT4 {α β γ δ:Type}[Rp α][Rp β][Rp γ][Rp δ]:Rp (T4 α β γ δ) :=
 ⟨fun K H v p=>∃ t a b c d,v = .ref t/\SqT K H t [a,b,c,d]/\Rp.rel K H a p.a/\Rp.rel K H b p.b/\Rp.rel K H c p.c/\Rp.rel K H d p.d,
  fun s ⟨t,a,b,c,d,e,h,r1,r2,r3,r4⟩=>⟨t,a,b,c,d,e,s.tup h,Rp.mono s r1,Rp.mono s r2,Rp.mono s r3,Rp.mono s r4⟩⟩
instance rpTp {α:Type}[Rp α]:Rp (Tp α) :=
 ⟨fun K H v as=>∃ t xs,v = .ref t/\SqT K H t xs/\xs.length<=sizeLine/\Paired (Rp.rel K H) xs as.l,
  fun s ⟨l,xs,e,h,z,p⟩=>⟨l,xs,e,s.tup h,z,Paired.imp' (fun _ _ r=>Rp.mono s r) p⟩⟩
instance rpOpt {α:Type}[Rp α]:Rp (Option α) :=
 ⟨fun K H v o=>match o with|none=>v = .non|some a=>Rp.rel K H v a,
  fun {K H H' v o} s h=>by cases o with|none=>exact h|some a=>exact Rp.mono (α:=α) s h⟩
class RpA (α:Type) where
 n:Nat
 rel:FZ9->Hp->List V->α->Prop
 mono:∀ {K:FZ9}{H H':Hp}{v:List V}{a:α},Same H H'->rel K H v a->rel K H' v a
 len:∀ {K:FZ9}{H:Hp}{v:List V}{a:α},rel K H v a->v.length=n
instance raNil:RpA Unit:=⟨0,fun _ _ vs _=>vs=[],fun _ h=>h,fun h=>by rw [h];rfl⟩
instance raCons {α β:Type}[Rp α][RpA β]:RpA (α × β) :=
 ⟨RpA.n β+1,fun K H vs p=>∃ v r,vs=v::r/\Rp.rel K H v p.1/\RpA.rel K H r p.2,
  fun s ⟨v,r,e,h1,h2⟩=>⟨v,r,e,Rp.mono s h1,RpA.mono s h2⟩,fun ⟨v,r,e,h1,h2⟩=>by rw [e,qhA,RpA.len h2]⟩
structure Ext (G H G' H':Hp):Prop where
 gg:Same G G'
 gh:Same G' H'
 hh:Same H H'
 no:∀ b,G b=none->H b≠none->G' b=none
section
variable {G H G1 H1 G2 H2 G0 H0:Hp}{p:Addr}{o:HO}
theorem Ext.refl (s:Same G H):Ext G H G H:=⟨.refl _,s,.refl _,fun _ h _=>h⟩
theorem Ext.trans (x:Ext G H G1 H1)(y:Ext G1 H1 G2 H2):Ext G H G2 H2 :=
 ⟨x.gg.trans y.gg,y.gh,x.hh.trans y.hh,fun b h1 h2=>y.no b (x.no b h1 h2) fun z=>h2 (x.hh.free z)⟩
theorem Same.both (s:Same G H):Same (upd G p o) (upd H p o):=fun b u e=>by
 by_cases hb:b=p
 ·subst hb;rw [AH] at e ⊢;exact e
 ·rw [Ag hb] at e ⊢;exact s b u e
theorem Ext.new (s:Same G H)(h:H p=none):Ext G H (upd G p o) (upd H p o) :=
 ⟨Same.new (s.free h),s.both,Same.new h,fun b h1 h2=>by
  have hb:b≠p:=fun z=>h2 (by rw [z];exact h);rw [Ag hb]
  exact h1⟩
theorem Ext.own (s:Same G H)(h:H p=none):Ext G H G (upd H p o):=⟨.refl _,s.trans (Same.new h),Same.new h,fun _ h _=>h⟩
theorem Ext.put (x:Ext G0 H0 G H)(h0:H0 p=none)(hg:G p=none):Ext G0 H0 G (upd H p o):=⟨x.gg,x.gh.put hg,x.hh.put h0,x.no⟩
theorem Ext.frz (x:Ext G0 H0 G H)(h0:H0 p=none)(hg:G p=none)(hh:H p=some o):Ext G0 H0 (upd G p o) H :=
 ⟨x.gg.trans (Same.new hg),fun b u e=>by
  by_cases hb:b=p
  ·subst hb;rw [AH] at e;rw [hh];exact e
  ·rw [Ag hb] at e
   exact x.gh b u e,x.hh,fun b h1 h2=>by
  have hb:b≠p:=fun z=>h2 (by rw [z];exact h0);rw [Ag hb]
  exact x.no b h1 h2⟩
end
section
variable {K:FZ9}{σ:St}{G:Hp}
def EV (K:FZ9){α:Type}[Rp α](te:TE)(σ:St)(G:Hp)(m:Option α):Prop :=
 ∀ G1,Same G G1->∀ a,m=some a->∀ H,Same G1 H->∀ Q:VK,(∀ v G2 H2,Ext G1 H G2 H2->Rp.rel K G2 v a->Q v H2)->te σ H Q
def TV (t:TT)(σ:St)(G:Hp)(m:Option Bool):Prop :=
 ∀ G1,Same G G1->∀ a,m=some a->∀ H,Same G1 H->∀ Q:Bool->Hp->Prop,(∀ G2 H2,Ext G1 H G2 H2->Q a H2)->t σ H Q
def AV (K:FZ9){α:Type}[RpA α](t:TA)(σ:St)(G:Hp)(m:Option α):Prop :=
 ∀ G1,Same G G1->∀ a,m=some a->∀ H,Same G1 H->∀ Q:List V->Hp->Prop,(∀ vs G2 H2,Ext G1 H G2 H2->RpA.rel K G2 vs a->Q vs H2)->t σ H Q
def LV (K:FZ9){α:Type}[Rp α](t:TA)(σ:St)(G:Hp)(n:Nat)(m:Option (List α)):Prop :=
 ∀ G1,Same G G1->∀ a,m=some a->∀ H,Same G1 H->∀ Q:List V->Hp->Prop,(∀ vs G2 H2,Ext G1 H G2 H2->vs.length=n->Paired (Rp.rel K G2) vs a->Q vs H2)->t σ H Q
def OV (t:TO)(σ:St)(G:Hp)(m:Option (Option Int)):Prop :=
 ∀ G1,Same G G1->∀ a,m=some a->∀ H,Same G1 H->∀ Q:Option Int->Hp->Prop,(∀ G2 H2,Ext G1 H G2 H2->Q a H2)->t σ H Q
def FV (K:FZ9){α:Type}[Rp α](te:TE)(σ:St)(G:Hp)(m:Option (List α)):Prop :=
 ∀ G1,Same G G1->∀ a,m=some a->∀ H,Same G1 H->∀ Q:VK,(∀ p vs G2 H2,Ext G1 H G2 H2->H p=none->G2 p=none->H2 p=some (.lst vs)->vs.length<=sizeLine->Paired (Rp.rel K G2) vs a->Q (.ref p) H2)->te σ H Q
section
variable {α β γ δ:Type}[Rp α][Rp β][Rp γ][Rp δ]{ta tb tc td:TE}{ma:Option α}{mb:Option β}{mc:Option γ}
theorem EV.run {te:TE}{H:Hp}{a:α}{Q:VK}{m:Option α}(e:EV K te σ G m)(hm:m=some a)(s:Same G H)(k:∀ v G2 H2,Ext G H G2 H2->Rp.rel K G2 v a->Q v H2):te σ H Q:=e G (.refl G) a hm H s Q k
theorem TV.run {t:TT}{H:Hp}{a:Bool}{Q:Bool->Hp->Prop}{m:Option Bool}(e:TV t σ G m)(hm:m=some a)(s:Same G H)(k:∀ G2 H2,Ext G H G2 H2->Q a H2):t σ H Q:=e G (.refl G) a hm H s Q k
theorem EV.of {te:TE}{m m':Option α}(e:EV K te σ G m)(h:m=m'):EV K te σ G m':=h ▸ e
theorem FV.ev {te:TE}{m:Option (List α)}(e:FV K te σ G m):EV K te σ G m:=by
 intro G1 s1 a ha H sH Q k;refine e G1 s1 a ha H sH Q fun p vs G2 H2 x h0 hg hh hz hp=>?_;exact k _ _ _ (x.frz h0 hg hh) ⟨p,vs,rfl,.inl AH,hz,Paired.imp' (fun _ _ r=>Rp.mono (Same.new hg) r) hp⟩
theorem Kp {i:Nat}{v:V}{a:α}(h:σ[i]? = some (some v))(r:Rp.rel K G v a):EV K (BQ i) σ G (some a):=fun G1 s a' e H sH Q k=>by
 cases e;exact ⟨v,h,k v G1 H (.refl sH) (Rp.mono s r)⟩
theorem KH {v:V}{a:α}(h:∀ G,Rp.rel K G v a):EV K (tC v) σ G (some a):=fun G1 s a' e H sH Q k=>by
 cases e;exact k v G1 H (.refl sH) (h _)
theorem Af {i:Int}:EV K (tC (.int i)) σ G (some i):=KH fun _=>rfl
theorem Ej {b:Bool}:EV K (tC (.bl b)) σ G (some b):=KH fun _=>rfl
theorem Am {x:Str}(h:x.length<=sizeLine:=by decide +kernel):EV K (tC (.str x)) σ G (some x):=KH fun _=>⟨rfl,h⟩
theorem ev_n:EV K (tC .non) σ G (some ()):=KH fun _=>rfl
theorem RG {te:TE}{m:Option α}(e:EV K te σ G m):EV K te σ G (m.bind fun a=>some (some a)):=by
 clear 7;obtain ⟨a,ha,hc⟩:=qaA.mp hc;cases hc;exact e G1 s1 a ha H sH Q k
theorem C7 {r:R2}{f:α->β->Option γ}
  (h:∀ {G H:Hp}{v u:V}{a:α}{b:β}{c:γ},Same G H->Rp.rel K G v a->Rp.rel K G u b->f a b=some c->∀ {Q:VK},(∀ w G2 H2,Ext G H G2 H2->Rp.rel K G2 w c->Q w H2)->r v u H Q)
  (ea:EV K ta σ G ma) (eb:EV K tb σ G mb):EV K (tOp r ta tb) σ G (ma.bind fun a=>mb.bind fun b=>f a b):=by
 clear 7;obtain ⟨a,ha,hc⟩:=qaA.mp hc;obtain ⟨b,hb,hc⟩:=qaA.mp hc;clear 8 ea a ha;refine eb G2 (s1.trans x2.gg) b hb H2 x2.gh _ fun u G3 H3 x3 r3=>?_;exact h x3.gh (Rp.mono x3.gg r2) r3 hc fun w G4 H4 x4 r4=>k w G4 H4 ((x2.trans x3).trans x4) r4
instance decMul (i j:Int):Decidable (CMul i j):=by unfold CMul;infer_instance
instance decDiv (i j:Int):Decidable (Q9 i j):=by unfold Q9;infer_instance
def Na (a b:Int):Option Int:=if CMul a b then some (a * b) else none
def divO (a b:Int):Option Int:=if Q9 a b then some (a / b) else none
def SV (a b:Int):Option Int:=if 0<b then some (a % b) else none
theorem B4 {p:Prop}[Decidable p]{α:Type}{a c:α}(h:(if p then some a else none)=some c):p/\a=c:=by
 by_cases hp:p
 ·rw [if_pos hp] at h;exact ⟨hp,qkB h⟩
 ·rw [if_neg hp] at h;cases h
section
variable {ia ib:Option Int}
theorem CF (ea:EV K ta σ G ia)(eb:EV K tb σ G ib):EV K (tOp (ME K) ta tb) σ G (ia.bind fun a=>ib.bind fun b=>some (a+b)) :=
 C7 (fun s ra rb e Q k=>by cases ra;cases rb;cases e;exact k _ _ _ (.refl s) rfl) ea eb
theorem ev_sub (ea:EV K ta σ G ia)(eb:EV K tb σ G ib):EV K (tOp (rI0 fun i j=>.int (i - j)) ta tb) σ G (ia.bind fun a=>ib.bind fun b=>some (a - b)) :=
 C7 (fun s ra rb e Q k=>by cases ra;cases rb;cases e;exact ⟨_,_,rfl,rfl,k _ _ _ (.refl s) rfl⟩) ea eb
theorem Pu (ea:EV K ta σ G ia)(eb:EV K tb σ G ib):EV K (tOp (rMul K) ta tb) σ G (ia.bind fun a=>ib.bind fun b=>Na a b) :=
 C7 (fun s ra rb e Q k=>by cases ra;cases rb;obtain ⟨h,rfl⟩:=B4 e;exact ⟨h,k _ _ _ (.refl s) rfl⟩) ea eb
theorem ev_mod (ea:EV K ta σ G ia)(eb:EV K tb σ G ib):EV K (tOp (rI (fun _ j=>0<j) fun i j=>.int (i % j)) ta tb) σ G (ia.bind fun a=>ib.bind fun b=>SV a b) :=
 C7 (fun s ra rb e Q k=>by cases ra;cases rb;obtain ⟨h,rfl⟩:=B4 e;exact ⟨_,_,rfl,rfl,h,k _ _ _ (.refl s) rfl⟩) ea eb
theorem ev_div (ea:EV K ta σ G ia)(eb:EV K tb σ G ib):EV K (tOp (rI Q9 fun i j=>.int (i / j)) ta tb) σ G (ia.bind fun a=>ib.bind fun b=>divO a b) :=
 C7 (fun s ra rb e Q k=>by cases ra;cases rb;obtain ⟨h,rfl⟩:=B4 e;exact ⟨_,_,rfl,rfl,h,k _ _ _ (.refl s) rfl⟩) ea eb
theorem E5 {p:Int->Int->Bool}{q:List Nat->List Nat->Bool}(ea:EV K ta σ G ia)(eb:EV K tb σ G ib):EV K (tOp (Sv p q) ta tb) σ G (ia.bind fun a=>ib.bind fun b=>some (p a b)) :=
 C7 (fun s ra rb e Q k=>by cases ra;cases rb;cases e;exact k _ _ _ (.refl s) rfl) ea eb
theorem Ck (ea:EV K ta σ G ia)(eb:EV K tb σ G ib):EV K (tOp rEq ta tb) σ G (ia.bind fun a=>ib.bind fun b=>some (decide (a=b))) :=
 C7 (fun s ra rb e Q k=>by cases ra;cases rb;cases e;exact ⟨rfl,k _ _ _ (.refl s) (by show V.bl _=V.bl _;congr 1;simp)⟩) ea eb
end
section
variable {ba bb:Option Bool}
theorem QS (ea:EV K ta σ G ba):EV K (tNotV ta) σ G (ba.bind fun a=>some (!a)):=by
 clear 7;obtain ⟨a,ha,hc⟩:=qaA.mp hc;cases hc;clear 8 ea a ha;cases r2;exact ⟨_,rfl,k _ _ _ x2 rfl⟩
theorem Gj (ea:EV K ta σ G ba)(eb:EV K tb σ G bb):EV K (tAndV ta tb) σ G (ba.bind fun a=>cond a bb (some false)):=by
 clear 7;obtain ⟨a,ha,hc⟩:=qaA.mp hc;clear 8 ea a ha;cases r2;refine ⟨_,rfl,?_⟩
 cases a with
 | false=>cases hc;exact BS (k _ _ _ x2 rfl)
 | true=>exact BM (eb G2 (s1.trans x2.gg) c hc H2 x2.gh _ fun u G3 H3 x3 r3=>k _ _ _ (x2.trans x3) r3)
theorem ev_or (ea:EV K ta σ G ba)(eb:EV K tb σ G bb):EV K (tOrV ta tb) σ G (ba.bind fun a=>cond a (some true) bb):=by
 clear 7;obtain ⟨a,ha,hc⟩:=qaA.mp hc;clear 8 ea a ha;cases r2;refine ⟨_,rfl,?_⟩
 cases a with
 | true=>cases hc;exact BM (k _ _ _ x2 rfl)
 | false=>exact BS (eb G2 (s1.trans x2.gg) c hc H2 x2.gh _ fun u G3 H3 x3 r3=>k _ _ _ (x2.trans x3) r3)
theorem AT (ea:EV K ta σ G ba):TV (tTest ta) σ G ba:=by
 clear 7;clear 8 ea c hc;cases r2;exact ⟨_,rfl,k _ _ x2⟩
theorem Ky {t:TT}(ea:TV t σ G ba):TV (tNot t) σ G (ba.bind fun a=>some (!a)):=by
 clear 7;obtain ⟨a,ha,hc⟩:=qaA.mp hc;cases hc;exact ea G1 s1 a ha H sH _ fun G2 H2 x2=>k _ _ x2
theorem Kq {t u:TT}(ea:TV t σ G ba)(eb:TV u σ G bb):TV (tOr t u) σ G (ba.bind fun a=>cond a (some true) bb):=by
 clear 7;obtain ⟨a,ha,hc⟩:=qaA.mp hc;refine ea G1 s1 a ha H sH _ fun G2 H2 x2=>?_
 cases a with
 | true=>cases hc;exact BM (k _ _ x2)
 | false=>exact BS (eb G2 (s1.trans x2.gg) c hc H2 x2.gh _ fun G3 H3 x3=>k _ _ (x2.trans x3))
theorem tv_tru {f:α->Bool}(h:∀ {G:Hp}{v:V}{a:α},Rp.rel K G v a->TruV K v G (f a))(mn:∀ {G H:Hp}{v:V}{k:Bool},Same G H->TruV K v G k->TruV K v H k)(ea:EV K ta σ G ma) :
  TV (fun σ H Q=>ta σ H fun x H'=>∃ k,TruV K x H' k/\Q k H') σ G (ma.bind fun a=>some (f a)):=by
 clear 7;obtain ⟨a,ha,hc⟩:=qaA.mp hc;cases hc;clear 8 ea a ha;exact ⟨_,mn x2.gh (h r2),k _ _ x2⟩
end
end
end
section
variable {K:FZ9}{σ:St}{G:Hp}{α β γ δ:Type}[Rp α][Rp β][Rp γ][Rp δ]{ta tb tc td:TE}{ma:Option α}{mb:Option β}{mc:Option γ}{md:Option δ}
section
variable {sa sb:Option Str}{ia ib:Option Int}
def catS (a b:Str):Option Str:=if a.length+b.length<=sizeLine then some (a++b) else none
theorem ev_catS (ea:EV K ta σ G sa)(eb:EV K tb σ G sb):EV K (tOp (ME K) ta tb) σ G (sa.bind fun a=>sb.bind fun b=>catS a b) :=
 C7 (fun s ra rb e Q k=>by
  obtain ⟨rfl,z1⟩:=ra;obtain ⟨rfl,z2⟩:=rb;obtain ⟨h,rfl⟩:=B4 e
  exact ⟨h,k _ _ _ (.refl s) ⟨rfl,by rw [len_app];exact h⟩⟩) ea eb
theorem NC {p:Int->Int->Bool}{q:List Nat->List Nat->Bool}(ea:EV K ta σ G sa)(eb:EV K tb σ G sb):EV K (tOp (Sv p q) ta tb) σ G (sa.bind fun a=>sb.bind fun b=>some (q a.cps.toList b.cps.toList)) :=
 C7 (fun s ra rb e Q k=>by obtain ⟨rfl,z1⟩:=ra;obtain ⟨rfl,z2⟩:=rb;cases e;exact k _ _ _ (.refl s) rfl) ea eb
theorem BR (ea:EV K ta σ G sa)(eb:EV K tb σ G sb):EV K (tOp rEq ta tb) σ G (sa.bind fun a=>sb.bind fun b=>some (decide (a=b))) :=
 C7 (fun s ra rb e Q k=>by obtain ⟨rfl,z1⟩:=ra;obtain ⟨rfl,z2⟩:=rb;cases e;exact ⟨rfl,k _ _ _ (.refl s) (by show V.bl _=V.bl _;congr 1;simp)⟩) ea eb
def inS (a b:Str):Bool:=!(Builtin.Str.occurrences b a 0 b.length 1).isEmpty
theorem ev_inS (ea:EV K ta σ G sa)(eb:EV K tb σ G sb):EV K (tOp (fun x y H Q=>∃ i j,x = .str i/\y = .str j/\Q (.bl (!(Builtin.Str.occurrences j i 0 j.length 1).isEmpty)) H) ta tb) σ G (sa.bind fun a=>sb.bind fun b=>some (inS a b)) :=
 C7 (fun s ra rb e Q k=>by obtain ⟨rfl,z1⟩:=ra;obtain ⟨rfl,z2⟩:=rb;cases e;exact ⟨_,_,rfl,rfl,k _ _ _ (.refl s) rfl⟩) ea eb
theorem Mz (ea:EV K ta σ G sa)(eb:EV K tb σ G ib):EV K (tOp (rAt K) ta tb) σ G (sa.bind fun a=>ib.bind fun i=>(atI a.cps.toList i).bind fun c=>some (⟨#[c]⟩:Str)) :=
 C7 (fun s ra rb e Q k=>by
  obtain ⟨rfl,z1⟩:=ra;cases rb;obtain ⟨c,hc,e⟩:=qaA.mp e;cases e
  exact ⟨z1,c,hc,k _ _ _ (.refl s) ⟨rfl,by show 1<=sizeLine;decide⟩⟩) ea eb
end
theorem DN {R:V->α->Prop}{xs:List V}{as:List α}{i:Int}{a:α}(p:Paired R xs as)(h:atI as i=some a):∃ v,atI xs i=some v/\R v a:=by
 have hl:=Paired.length p;unfold atI at h ⊢;obtain ⟨j,hj,h⟩:=qaA.mp h;rw [hl,hj]
 have hlt:j<xs.length:=by
  have:=(qvA.mp h).1;omega
 exact ⟨xs[j],qwA hlt,Paired.at' p (qwA hlt) h⟩
theorem Paired.app {α β:Type}{F:α->β->Prop}:∀ {l1 l2:List α}{m1 m2:List β},Paired F l1 m1->Paired F l2 m2->Paired F (l1++l2) (m1++m2)
 | _,_,_,_,.nil,h=>h
 | _,_,_,_,.cons r t,h=>.cons r (Paired.app t h)
theorem Paired.tk {α β:Type}{F:α->β->Prop}:∀ (n:Nat) {l:List α}{m:List β},Paired F l m->Paired F (l.take n) (m.take n)
 | 0,_,_,_=>by simpa using .nil
 | n+1,_,_,.nil=>by simpa using .nil
 | n+1,_,_,.cons r t=>.cons r (Paired.tk n t)
theorem Paired.dp {α β:Type}{F:α->β->Prop}:∀ (n:Nat) {l:List α}{m:List β},Paired F l m->Paired F (l.drop n) (m.drop n)
 | 0,_,_,h=>h
 | n+1,_,_,.nil=>by simpa using .nil
 | n+1,_,_,.cons r t=>Paired.dp n t
section
variable {la lb:Option (List α)}{ia ib:Option Int}
theorem ER (ea:EV K ta σ G la)(eb:EV K tb σ G ib):EV K (tOp (rAt K) ta tb) σ G (la.bind fun a=>ib.bind fun i=>atI a i) :=
 C7 (fun s ra rb e Q k=>by
  obtain ⟨l,xs,rfl,h,z,p⟩:=ra;cases rb;obtain ⟨v,hv,r⟩:=DN p e
  exact .inl ⟨xs,v,.inl (s.rd h),hv,k _ _ _ (.refl s) r⟩) ea eb
theorem BB {pa:Option (Tp α)}(ea:EV K ta σ G pa)(eb:EV K tb σ G ib):EV K (tOp (rAt K) ta tb) σ G (pa.bind fun a=>ib.bind fun i=>atI a.l i) :=
 C7 (fun s ra rb e Q k=>by
  obtain ⟨l,xs,rfl,h,z,p⟩:=ra;cases rb;obtain ⟨v,hv,r⟩:=DN p e
  exact .inr ⟨xs,v,s.tup h,hv,k _ _ _ (.refl s) r⟩) ea eb
theorem Me {τ:Type}[Rp τ]{mt:Option τ}{i:Int}{f:τ->α}(h:∀ {G:Hp}{v:V}{p:τ},Rp.rel K G v p->∃ t xs w,v = .ref t/\SqT K G t xs/\atI xs i=some w/\Rp.rel K G w (f p))(ea:EV K ta σ G mt) :
  EV K (tOp (rAt K) ta (tC (.int i))) σ G (mt.bind fun p=>some (f p)):=by
 clear 7;obtain ⟨a,ha,hc⟩:=qaA.mp hc;cases hc;clear 8 ea a ha;obtain ⟨t,xs,w,rfl,ht,hw,r⟩:=h r2;exact .inr ⟨xs,w,x2.gh.tup ht,hw,k _ _ _ x2 r⟩
theorem Ir {mt:Option (α × β)}(ea:EV K ta σ G mt):EV K (tOp (rAt K) ta (tC (.int 0))) σ G (mt.bind fun p=>some p.1) :=
 Me (τ:=α × β) (fun ⟨t,a,b,e,h,r1,r2⟩=>⟨t,_,a,e,h,rfl,r1⟩) ea
theorem Nb {mt:Option (α × β)}(ea:EV K ta σ G mt):EV K (tOp (rAt K) ta (tC (.int 1))) σ G (mt.bind fun p=>some p.2) :=
 Me (τ:=α × β) (fun ⟨t,a,b,e,h,r1,r2⟩=>⟨t,_,b,e,h,rfl,r2⟩) ea
theorem ev_p42 {mt:Option (T4 α β γ δ)}(ea:EV K ta σ G mt):EV K (tOp (rAt K) ta (tC (.int 1))) σ G (mt.bind fun p=>some p.b) :=
 Me (τ:=T4 α β γ δ) (fun ⟨t,a,b,c,d,e,h,r1,r2,r3,r4⟩=>⟨t,_,b,e,h,rfl,r2⟩) ea
theorem Oh {H:Hp}{Q:VK}{as:List α}{G1:Hp}(s:Same G1 H){vs:List V}(hz:vs.length<=sizeLine)(hp:Paired (Rp.rel K G1) vs as)
  (k:∀ p vs G2 H2,Ext G1 H G2 H2->H p=none->G2 p=none->H2 p=some (.lst vs)->vs.length<=sizeLine->Paired (Rp.rel K G2) vs as->Q (.ref p) H2):∀ p,H p=none->Q (.ref p) (upd H p (.lst vs)) :=
 fun p h=>k p vs G1 _ (.own s h) h (s.free h) AH hz hp
theorem FV.mono {H H' G1 G2:Hp}{as:List α}{Q:VK}(x:Ext G1 H G2 H')
  (k:∀ p vs G3 H3,Ext G1 H G3 H3->H p=none->G3 p=none->H3 p=some (.lst vs)->vs.length<=sizeLine->Paired (Rp.rel K G3) vs as->Q (.ref p) H3) :
  ∀ p vs G3 H3,Ext G2 H' G3 H3->H' p=none->G3 p=none->H3 p=some (.lst vs)->vs.length<=sizeLine->Paired (Rp.rel K G3) vs as->Q (.ref p) H3 :=
 fun p vs G3 H3 y h0=>k p vs G3 H3 (x.trans y) (x.hh.free h0)
def catL {α:Type}(a b:List α):Option (List α):=if a.length+b.length<=sizeLine then some (a++b) else none
theorem fv_cat (ea:EV K ta σ G la)(eb:EV K tb σ G lb):FV K (tOp (ME K) ta tb) σ G (la.bind fun a=>lb.bind fun b=>catL a b):=by
 clear 7;obtain ⟨a,ha,hc⟩:=qaA.mp hc;obtain ⟨b,hb,hc⟩:=qaA.mp hc;obtain ⟨hl,rfl⟩:=B4 hc;clear 8 ea a ha;refine eb G2 (s1.trans x2.gg) b hb H2 x2.gh _ fun u G3 H3 x3 r3=>?_;obtain ⟨l1,xs,rfl,h1,z1,p1⟩:=Rp.mono x3.gg r2;obtain ⟨l2,ys,rfl,h2,z2,p2⟩:=r3;have e1:=Paired.length p1;have e2:=Paired.length p2;have hz:(xs++ys).length<=sizeLine:=by rw [qgA];omega
 exact ⟨xs,ys,x3.gh.rd h1,x3.gh.rd h2,by rw [qgA] at hz;exact hz,Oh x3.gh hz (Paired.app p1 p2) (FV.mono (x2.trans x3) k)⟩
def cutA {α:Type}(xs:List α)(lo hi:Option Int):List α:=(xs.drop (HT.sIx xs.length 0 lo)).take (HT.sIx xs.length xs.length hi - HT.sIx xs.length 0 lo)
theorem Paired.cut {α:Type}{R:V->α->Prop}{xs:List V}{as:List α}(p:Paired R xs as)(lo hi:Option Int):Paired R (Qc xs lo hi) (cutA as lo hi):=by
 unfold Qc cutA;rw [Paired.length p];exact Paired.tk _ (Paired.dp _ p)
section
variable {t1 t2:TO}{m1 m2:Option (Option Int)}
theorem Nr:OV S8 σ G (some none):=fun G1 s1 a ha H sH Q k=>by
 cases ha;exact k _ _ (.refl sH)
theorem Md (ea:EV K ta σ G ia):OV (tPart ta) σ G (ia.bind fun i=>some (some i)):=by
 clear 7;obtain ⟨a,ha,hc⟩:=qaA.mp hc;cases hc;clear 8 ea a ha;cases r2;exact ⟨_,rfl,k _ _ x2⟩
end
end
section
variable {t:TA}{n:Nat}{ml:Option (List α)}
theorem AS:LV K B7 σ G 0 (some ([]:List α)):=fun G1 s1 a ha H sH Q k=>by
 cases ha;exact k _ _ _ (.refl sH) rfl .nil
theorem A7 (ea:EV K ta σ G ma)(er:LV K t σ G n ml):LV K (AK ta t) σ G (n+1) (ma.bind fun a=>ml.bind fun r=>some (a::r)):=by
 clear 7;obtain ⟨a,ha,hc⟩:=qaA.mp hc;obtain ⟨r,hr,hc⟩:=qaA.mp hc;cases hc;clear 8 ea a ha;refine er G2 (s1.trans x2.gg) r hr H2 x2.gh _ fun vs G3 H3 x3 hl hp=>?_;exact k _ _ _ (x2.trans x3) (by rw [qhA,hl]) (.cons (Rp.mono x3.gg r2) hp)
theorem D5 (e:LV K t σ G n ml)(hn:n<=sizeLine:=by decide):FV K (tLst t) σ G ml:=by
 clear 7;refine e G1 s1 c hc H sH _ fun vs G2 H2 x2 hl hp=>?_;exact ⟨by omega,Oh x2.gh (by omega) hp (FV.mono x2 k)⟩
theorem Bs (e:LV K t σ G n ml)(hn:n<=sizeLine:=by decide):EV K (JY t) σ G (ml.bind fun l=>some (Tp.mk l)):=by
 clear 7;obtain ⟨l,hl,hc⟩:=qaA.mp hc;cases hc;refine e G1 s1 l hl H sH _ fun vs G2 H2 x2 hl hp=>⟨by omega,fun p h=>?_⟩;exact k _ _ _ (x2.trans (.new x2.gh h)) ⟨p,vs,rfl,SqT.of AH,by omega,Paired.imp' (fun _ _ r=>Rp.mono (Same.new (x2.gh.free h)) r) hp⟩
theorem GM (ea:EV K ta σ G ma)(eb:EV K tb σ G mb):EV K (JY (AK ta (AK tb B7))) σ G (ma.bind fun a=>mb.bind fun b=>some (a,b)):=by
 clear 7;obtain ⟨a,ha,hc⟩:=qaA.mp hc;obtain ⟨b,hb,hc⟩:=qaA.mp hc;cases hc;clear 8 ea a ha;refine eb G2 (s1.trans x2.gg) b hb H2 x2.gh _ fun u G3 H3 x3 r3=>⟨by show 2<=sizeLine;decide,fun p h=>?_⟩;have s:=Same.new (o:=.tup [v,u]) (x3.gh.free h);exact k _ _ _ ((x2.trans x3).trans (.new x3.gh h)) ⟨p,v,u,rfl,SqT.of AH,Rp.mono (x3.gg.trans s) r2,Rp.mono s r3⟩
theorem NJ (ea:EV K ta σ G ma)(eb:EV K tb σ G mb)(ec:EV K tc σ G mc)(ed:EV K td σ G md):EV K (JY (AK ta (AK tb (AK tc (AK td B7))))) σ G (ma.bind fun a=>mb.bind fun b=>mc.bind fun c=>md.bind fun d=>some (T4.mk a b c d)):=by
 clear 7;obtain ⟨a,ha,hc⟩:=qaA.mp hc;obtain ⟨b,hb,hc⟩:=qaA.mp hc;obtain ⟨c',hc',hc⟩:=qaA.mp hc;obtain ⟨d,hd,hc⟩:=qaA.mp hc;cases hc;clear 8 ea a ha;refine eb G2 (s1.trans x2.gg) b hb H2 x2.gh _ fun u G3 H3 x3 r3=>?_;refine ec G3 (s1.trans (x2.trans x3).gg) c' hc' H3 x3.gh _ fun w G4 H4 x4 r4=>?_;refine ed G4 (s1.trans ((x2.trans x3).trans x4).gg) d hd H4 x4.gh _ fun y G5 H5 x5 r5=>⟨by show 4<=sizeLine;decide,fun p h=>?_⟩;have s:=Same.new (o:=.tup [v,u,w,y]) (x5.gh.free h);exact k _ _ _ ((((x2.trans x3).trans x4).trans x5).trans (.new x5.gh h)) ⟨p,v,u,w,y,rfl,SqT.of AH,Rp.mono (((x3.trans x4).trans x5).gg.trans s) r2,Rp.mono ((x4.trans x5).gg.trans s) r3,Rp.mono (x5.gg.trans s) r4,Rp.mono s r5⟩
end
section
variable {t:TA}{A B:Type}[RpA A][RpA B]{mA:Option A}
theorem av_nil:AV K B7 σ G (some ()):=fun G1 s1 a ha H sH Q k=>by
 cases ha;exact k _ _ _ (.refl sH) rfl
theorem av_cons (ea:EV K ta σ G ma)(er:AV K t σ G mA):AV K (AK ta t) σ G (ma.bind fun a=>mA.bind fun r=>some (a,r)):=by
 clear 7;obtain ⟨a,ha,hc⟩:=qaA.mp hc;obtain ⟨r,hr,hc⟩:=qaA.mp hc;cases hc;clear 8 ea a ha;refine er G2 (s1.trans x2.gg) r hr H2 x2.gh _ fun vs G3 H3 x3 hp=>?_;exact k _ _ _ (x2.trans x3) ⟨v,vs,rfl,Rp.mono x3.gg r2,hp⟩
def spM (K:FZ9){A:Type}{ρ:Type}[RpA A][Rp ρ](m:A->Option ρ):Sp:=fun vs H Q _ =>
 ∃ G a r,Same G H/\RpA.rel K G vs a/\m a=some r/\∀ v G2 H2,Ext G H G2 H2->Rp.rel K G2 v r->Q v H2
theorem Dy {A:Type}{ρ:Type}[RpA A][Rp ρ]{m:A->Option ρ}{vs:List V}{H:Hp}{Q:VK}{E:XK}(h:spM K m vs H Q E):vs.length=RpA.n A:=by
 obtain ⟨G,a,r,_,h,_⟩:=h;exact RpA.len h
theorem ev_def {m:A->Option α}(ea:AV K t σ G mA):EV K (Dt (spM K m) [] E0 t) σ G (mA.bind fun a=>m a):=by
 clear 7;obtain ⟨a,ha,hc⟩:=qaA.mp hc;refine ea G1 s1 a ha H sH _ fun vs G2 H2 x2 hp=>?_;show spM K m (vs++[]) H2 Q E0;rw [qeB];exact ⟨G2,a,c,x2.gh,hp,hc,fun v G3 H3 x3 r3=>k v G3 H3 (x2.trans x3) r3⟩
theorem Gk {la:Option (List α)}(ea:EV K ta σ G la):EV K (tCB (MZ K) (AK ta B7)) σ G (la.bind fun a=>some (a.length:Int)):=by
 clear 7;obtain ⟨a,ha,hc⟩:=qaA.mp hc;cases hc;clear 8 ea a ha;obtain ⟨l,xs,rfl,h,z,p⟩:=r2;exact ⟨xs,.inl (.inl (x2.gh.rd h)),by rw [Paired.length p];exact k _ _ _ x2 rfl⟩
theorem ev_lenT {la:Option (Tp α)}(ea:EV K ta σ G la):EV K (tCB (MZ K) (AK ta B7)) σ G (la.bind fun a=>some (a.l.length:Int)):=by
 clear 7;obtain ⟨a,ha,hc⟩:=qaA.mp hc;cases hc;clear 8 ea a ha;obtain ⟨l,xs,rfl,h,z,p⟩:=r2;exact ⟨xs,.inr (x2.gh.tup h),by rw [Paired.length p];exact k _ _ _ x2 rfl⟩
theorem ev_lenS {sa:Option Str}(ea:EV K ta σ G sa):EV K (tCB (MZ K) (AK ta B7)) σ G (sa.bind fun a=>some (a.length:Int)):=by
 clear 7;obtain ⟨a,ha,hc⟩:=qaA.mp hc;cases hc;clear 8 ea a ha;obtain ⟨rfl,z⟩:=r2;exact ⟨z,k _ _ _ x2 rfl⟩
theorem ev_min {ia ib:Option Int}(ea:EV K ta σ G ia)(eb:EV K tb σ G ib):EV K (tCB (fun xs H Q=>∃ i j,xs=[.int i,.int j]/\Q (.int (if j<i then j else i)) H) (AK ta (AK tb B7))) σ G (ia.bind fun a=>ib.bind fun b=>some (if b<a then b else a)):=by
 clear 7;obtain ⟨a,ha,hc⟩:=qaA.mp hc;obtain ⟨b,hb,hc⟩:=qaA.mp hc;cases hc;clear 8 ea a ha;refine eb G2 (s1.trans x2.gg) b hb H2 x2.gh _ fun u G3 H3 x3 r3=>?_;cases r2;cases r3;exact ⟨_,_,rfl,k _ _ _ (x2.trans x3) rfl⟩
theorem ev_intB {ba:Option Bool}(ea:EV K ta σ G ba):EV K (tCB (fun xs H Q=>(∃ i,xs=[.int i]/\Q (.int i) H)\/∃ k,xs=[.bl k]/\Q (.int (if k then 1 else 0)) H) (AK ta B7)) σ G (ba.bind fun a=>some (if a then (1:Int) else 0)):=by
 clear 7;obtain ⟨a,ha,hc⟩:=qaA.mp hc;cases hc;clear 8 ea a ha;cases r2;exact .inr ⟨_,rfl,k _ _ _ x2 (by show V.int _=V.int _;cases a<;>rfl)⟩
end
inductive TyS (K:FZ9)(H:Hp):V->String->Prop where
 | non:TyS K H .non "NoneType"
 | bl (x:Bool):TyS K H (.bl x) "bool"
 | int (i:Int):TyS K H (.int i) "int"
 | str (x:Str):TyS K H (.str x) "str"
 | lst {a:Addr}{xs:List V}(e:SqL K H a xs):TyS K H (.ref a) "list"
 | tup {a:Addr}{xs:List V}(e:SqT K H a xs):TyS K H (.ref a) "tuple"
 | dK {a:Addr}{kvs:List (Key × V)}(e:Rd H a (.dK kvs)):TyS K H (.ref a) "dict"
 | dT {a:Addr}{kvs:List (List Key × V)}(e:Rd H a (.dT kvs)):TyS K H (.ref a) "dict"
def rInst (K:FZ9):List V->Hp->VK->Prop:=fun vs H Q=>∃ x t T b,vs=[x,.ty T]/\TyS K H x t/\kitC t T=some b/\Q (.bl b) H
theorem TK {X:Cx}:CW X (.builtin "isinstance") (rInst X.K):=by
 intro pins s σ H vs us Q I r h;obtain ⟨x,t,T,b,rfl,ty,e,q⟩:=h;obtain ⟨u,w',rfl,rx,r2⟩:=MG r;obtain rfl:w'=Value.type T:=r2;have e:=kit_of (K:=X.K) e;have fin:∀ tk,EP X pins σ Q (.bool b) { s with toks:=tk }:=fun tk=>⟨.bl b,H,I.tok tk,rfl,q⟩
 cases ty with
 | non=>cases (show u=Value.none from rx);exact PySem.W.kia_one PySem.W.kitx_none I.kIn True.intro e (fun z=>nomatch z) fin
 | bl y=>cases (show u=Value.bool y from rx);exact PySem.W.kia_one PySem.W.kitx_bool I.kIn True.intro e (fun z=>nomatch z) fin
 | int i=>obtain ⟨t,q'⟩:=(show ∃ t,u=Value.int i t from rx);cases q';exact PySem.W.kia_one PySem.W.kitx_int I.kIn True.intro e (fun z=>nomatch z) fin
 | str y=>obtain ⟨t,q'⟩:=(show ∃ t,u=Value.str y t from rx);cases q';exact PySem.W.kia_one PySem.W.kitx_str I.kIn True.intro e (fun z=>nomatch z) fin
 | @lst a xs ea =>
  cases (show u=Value.ref a from rx);obtain ⟨its,_,pl,_⟩:=I.list ea;obtain ⟨o,n,h1,h2,_⟩:=pl;exact PySem.W.kia_one PySem.W.kitx_list I.kIn ⟨o,h1,h2⟩ e (fun z=>nomatch z) fin
 | @tup a xs ea =>
  cases (show u=Value.ref a from rx);obtain ⟨its,_,pl,_⟩:=I.tuple ea;obtain ⟨o,h1,h2,_⟩:=pl;exact PySem.W.kia_one PySem.W.kitx_tuple I.kIn ⟨o,h1,h2⟩ e (fun z=>nomatch z) fin
 | @dK a kvs ea =>
  cases (show u=Value.ref a from rx);obtain ⟨_,_,vs,_,p⟩:=ea.ok I.hok;obtain ⟨o,es,ep,h1,h2,_⟩:=p;exact PySem.W.kia_one PySem.W.kitx_dict I.kIn ⟨o,h1,h2.1⟩ e (fun z=>nomatch z) fin
 | @dT a kvs ea =>
  cases (show u=Value.ref a from rx);obtain ⟨_,_,xs,_,o,es,ep,h1,h2,_⟩:=ea.ok I.hok;exact PySem.W.kia_one PySem.W.kitx_dict I.kIn ⟨o,h1,h2.1⟩ e (fun z=>nomatch z) fin
class RpT (α:Type) [Rp α] where
 tn:String
 ty:∀ {K:FZ9}{H:Hp}{v:V}{a:α},Rp.rel K H v a->TyS K H v tn
theorem TyS.mono {H H':Hp}{v:V}{t:String}(s:Same H H')(h:TyS K H v t):TyS K H' v t:=by
 cases h with
 | non=>exact .non
 | bl=>exact .bl _
 | int=>exact .int _
 | str=>exact .str _
 | lst e=>exact .lst (s.seq e)
 | tup e=>exact .tup (s.tup e)
 | dK e=>exact .dK (s.rd e)
 | dT e=>exact .dT (s.rd e)
theorem EqTy.imp {k:Nat}{α:Type}[DecidableEq α]{R R':Hp->V->α->Prop}(E:EqTy K k R)(h:∀ H v a,R' H v a->R H v a):EqTy K k R' :=
 ⟨fun hK I a b=>E.fn hK I (h _ _ _ a) (h _ _ _ b),fun A hK I hu r1 r2 a b=>E.eq A hK I hu r1 r2 (h _ _ _ a) (h _ _ _ b),fun A hK I hu r1 r2 a b=>E.rc A hK I hu r1 r2 (h _ _ _ a) (h _ _ _ b)⟩
class RpE (α:Type) [Rp α] [DecidableEq α] where
 k:Nat
 ty:∀ K:FZ9,EqTy K k (Rp.rel (α:=α) K)
instance reInt:RpE Int:=⟨0,fun _=>eqInt⟩
instance reStr:RpE Str:=⟨0,fun _=>eqStr.imp fun _ _ _ h=>h.1⟩
theorem EqTy.up {k j:Nat}{α:Type}[DecidableEq α]{R:Hp->V->α->Prop}(E:EqTy K k R)(h:k<=j):EqTy K j R :=
 ⟨fun hK I a b=>E.fn hK I a b,fun A hK I hu r1 r2 a b=>E.eq A hK I (by omega) r1 r2 a b,fun A hK I hu r1 r2 a b=>E.rc A hK I (by omega) r1 r2 a b⟩
instance rePair {α β:Type}[Rp α][DecidableEq α][RpE α][Rp β][DecidableEq β][RpE β]:RpE (α × β) :=
 ⟨max (RpE.k α) (RpE.k β)+1,fun K=>(eqPair ((RpE.ty (α:=α) K).up (Nat.le_max_left _ _)) ((RpE.ty (α:=β) K).up (Nat.le_max_right _ _)))⟩
section
variable {α:Type}[Rp α][DecidableEq α]{m1 m2:Option α}
def rEqD (K:FZ9)(α:Type)[Rp α][DecidableEq α]:R2:=fun x y H Q=>∃ a b:α,Rp.rel K H x a/\Rp.rel K H y b/\Q (.bl (decide (a=b))) H
theorem op_eqM {X:Cx}{j:Nat}(α:Type)[Rp α][DecidableEq α][RpE α](hr:Room j X.A)(hk:RpE.k α<=10):OpR X (compareOp .Eq) (rEqD X.K α):=op_eqD (RpE.ty X.K) hr hk
end
end
inductive Fl (S ρ:Type) where
 | nx (s:S)
 | bk (s:S)
 | rt (r:ρ)
def CV {α S ρ:Type}(f:α->S->Option (Fl S ρ)):List α->S->Option (Fl S ρ)
 | [],s=>some (.nx s)
 | a::as,s=>(f a s).bind fun fl=>match fl with
  | .nx s'=>CV f as s'
  | .bk s'=>some (.nx s')
  | .rt r=>some (.rt r)
def Gq {S ρ:Type}(c:S->Option Bool)(f:S->Option (Fl S ρ)):Nat->S->Option (Fl S ρ)
 | 0,_=>none
 | n+1,s=>(c s).bind fun b=>cond b ((f s).bind fun fl=>match fl with
  | .nx s'=>Gq c f n s'
  | .bk s'=>some (.nx s')
  | .rt r=>some (.rt r)) (some (.nx s))
def RD:Nat:=16777216
def Cm {α β:Type}(fc:α->Option Bool)(fe:α->Option β):List α->Option (List β)
 | []=>some []
 | a::r=>(fc a).bind fun b=>cond b ((fe a).bind fun y=>(Cm fc fe r).bind fun ys=>some (y::ys)) (Cm fc fe r)
def F0 {α β:Type}(fe:α->Option β):List α->Option (List β)
 | []=>some []
 | a::r=>(fe a).bind fun y=>(F0 fe r).bind fun ys=>some (y::ys)
theorem HH {α β:Type}(fe:α->Option β):∀ as,Cm (fun _=>some true) fe as=F0 fe as
 | []=>rfl
 | a::r=>by
  show ((fe a).bind fun y=>(Cm (fun _=>some true) fe r).bind fun ys=>some (y::ys))=_;rw [HH fe r]
  rfl
def Ob (lo hi:Int):Option (List Int):=if (-(2 ^ 62)<=lo/\lo<2 ^ 62/\-(2 ^ 62)<=hi/\hi<2 ^ 62)/\(hi - lo).toNat<=sizeLine then some ((List.range (hi - lo).toNat).map fun (i:Nat)=>lo+(i:Int)) else none
section
variable {K:FZ9}{σ:St}{G:Hp}{α β γ δ:Type}[Rp α][Rp β][Rp γ][Rp δ]{ta tb tc td:TE}{ma:Option α}{mb:Option β}{mc:Option γ}{md:Option δ}
def IW (K:FZ9){α:Type}[Rp α](wi:TI)(σ:St)(G:Hp)(m:Option (List α)):Prop :=
 ∀ G1,Same G G1->∀ a,m=some a->∀ H,Same G1 H->∀ R:It->Hp->Prop,(∀ J vs G2 H2,Ext G1 H G2 H2->Yields J G2 vs->vs.length<=sizeLine->Paired (Rp.rel K G2) vs a->R J H2)->wi σ H R
theorem KU {a:Addr}{xs:List V}{H:Hp}(h:SqT K H a xs):Yields (Itt K a) H xs where
 go:=fun i H' s hi=>⟨xs,xs[i],s.tup h,by simp [hi]⟩
 stop:=fun H' s=>⟨xs,s.tup h,qgB _⟩
 yld:=fun i H' v H'' s _ y=>⟨y.1,y.2 xs (s.tup h)⟩
theorem D4 {la:Option (List α)}(ea:EV K ta σ G la):IW K (K4 K ta) σ G la:=by
 intro G1 s1 a ha H sH R k;clear 8 ea a ha;obtain ⟨l,xs,rfl,h,z,p⟩:=r2;exact .inl ⟨⟨xs,.inl (x2.gh.rd h)⟩,k _ xs G2 H2 x2 (JF (.inl h)) z p⟩
theorem iw_tup {la:Option (Tp α)}(ea:EV K ta σ G la):IW K (K4 K ta) σ G (la.bind fun a=>some a.l):=by
 intro G1 s1 a ha H sH R k;obtain ⟨b,hb,ha⟩:=qaA.mp ha;cases ha;clear 8 ea b hb;obtain ⟨l,xs,rfl,h,z,p⟩:=r2;exact .inr ⟨⟨xs,x2.gh.tup h⟩,k _ xs G2 H2 x2 (KU h) z p⟩
def IT (x:Str):List Str:=x.cps.toList.map fun c=>(⟨#[c]⟩:Str)
theorem HZ (x:Str)(H:Hp):Paired (Rp.rel K H) (Dr x) (IT x):=by
 unfold Dr IT
 induction x.cps.toList with
 | nil=>exact .nil
 | cons c r ih=>exact .cons ⟨rfl,by show 1<=sizeLine;decide⟩ ih
theorem iw_str {sa:Option Str}(ea:EV K ta σ G sa):IW K (K4 K ta) σ G (sa.bind fun a=>some (IT a)):=by
 intro G1 s1 a ha H sH R k;obtain ⟨b,hb,ha⟩:=qaA.mp ha;cases ha;clear 8 ea b hb;obtain ⟨rfl,z⟩:=r2;exact k _ (Dr b) G2 H2 x2 (KG b G2) (by unfold Dr;rw [qfA];exact z) (HZ b G2)
theorem JP (H:Hp)(f:Nat->Int):∀ l:List Nat,Paired (Rp.rel K H) (l.map fun i=>V.int (f i)) (l.map fun i=>f i)
 | []=>.nil
 | a::r=>.cons rfl (JP H f r)
theorem GJ {ia:Option Int}(ea:EV K ta σ G ia):IW K (iRng1 (AK ta B7)) σ G (ia.bind fun j=>Ob 0 j):=by
 intro G1 s1 a ha H sH R k;obtain ⟨j,hj,ha⟩:=qaA.mp ha;obtain ⟨⟨hb,hz⟩,rfl⟩:=B4 ha;clear 8 ea j hj;cases r2;refine ⟨j,rfl,hb.2.2.1,hb.2.2.2,?_⟩;have e:(j - 0).toNat=j.toNat:=by omega
 rw [e] at hz k;exact k (Itr 0 j.toNat) _ G2 H2 x2 (Mc 0 j.toNat G2) (by rw [qfA,qjA];exact hz) (JP G2 (fun i=>(0:Int)+(i:Int)) _)
theorem tv_yes:TV LZ σ G (some true):=fun G1 s1 a ha H sH Q k=>by
 cases ha;exact k _ _ (.refl sH)
theorem Paired.getR {F:V->α->Prop}:∀ {xs:List V}{as:List α}{i:Nat}{v:V},Paired F xs as->xs[i]? = some v->∃ a,as[i]? = some a/\F v a
 | _,_,_,_,.nil,e=>by simp at e
 | _,_,0,_,.cons r _,e=>by simp at e;subst e;exact ⟨_,rfl,r⟩
 | _,_,i+1,_,.cons _ t,e=>Paired.getR (i:=i) t (by simpa using e)
theorem Nc {cap:List Nat}{wi:TI}{tt:TT}{te:TE}{mi:Option (List α)}{fc:α->Option Bool}{fe:α->Option β}(ei:IW K wi σ G mi)
  (hb:∀ (x:V) (a:α) (G1:Hp),Same G G1->Rp.rel K G1 x a->TV tt ((inner cap σ).set 0 (some x)) G1 (fc a)/\EV K te ((inner cap σ).set 0 (some x)) G1 (fe a)) :
  FV K (Ju cap wi tt te) σ G (mi.bind fun as=>Cm fc fe as):=by
 clear 7;obtain ⟨as,has,hc⟩:=qaA.mp hc;refine ei G1 s1 as has H sH _ fun J vs Ga Ha xa Y hz pr p hp=>?_;have hla:=Paired.length pr
 refine ⟨fun i m ys H2=>m=vs.length - i/\i<=vs.length/\∃ G2 bs cs,Ext Ga Ha G2 H2/\G2 p=none/\H2 p=some (.lst ys)/\ys.length<=i/\Paired (Rp.rel K G2) ys bs/\Cm fc fe (as.drop i)=some cs/\c=bs++cs,
  ⟨vs.length,by simp,qkC _,Ga,[],c,.own xa.gh hp,xa.gh.free hp,AH,qgB _,.nil,hc,rfl⟩,?_⟩
 rintro i m ys H2 ⟨rfl,hi,G2,bs,cs,x2,hg,hh,hy,hpr,hcs,rfl⟩;by_cases hlt:i<vs.length
 ·refine .inr ⟨Y.go i _ (x2.gg.trans x2.gh) hlt,fun ys' H'=>∃ G2 bs' cs',Ext Ga Ha G2 H'/\G2 p=none/\H' p=some (.lst ys')/\ys'.length<=i+1/\Paired (Rp.rel K G2) ys' bs'/\Cm fc fe (as.drop (i+1))=some cs'/\bs++cs=bs'++cs',
   fun ys' H' ⟨G3,bs',cs',h⟩=>⟨vs.length - (i+1),by omega,rfl,hlt,G3,bs',cs',h⟩,fun x H3 y=>?_⟩
  obtain ⟨rfl,hx⟩:=Y.yld i _ x H3 (x2.gg.trans x2.gh) hlt y;obtain ⟨a,hai,ra⟩:=Paired.getR pr hx
  have hd:as.drop i=a::as.drop (i+1):=by
   obtain ⟨h1,h2⟩:=qvA.mp hai;rw [List.drop_eq_getElem_cons h1,h2]
  rw [hd] at hcs;obtain ⟨b,hbb,hcs⟩:=qaA.mp hcs;have B:=hb x a G2 (s1.trans (xa.gg.trans x2.gg)) (Rp.mono x2.gg ra);refine B.1 G2 (.refl _) b hbb _ x2.gh _ fun G5 H5 x5=>?_;have hp5:H5 p=some (.lst ys):=x5.hh _ _ hh;have hg5:G5 p=none:=x5.no p hg (by rw [hh];exact fun z=>nomatch z)
  cases b with
  | false =>
   rw [if_neg quB];exact ⟨G5,bs,cs,x2.trans x5,hg5,hp5,by omega,Paired.imp' (fun _ _ r=>Rp.mono x5.gg r) hpr,hcs,rfl⟩
  | true =>
   rw [if_pos rfl];obtain ⟨z,hze,hcs⟩:=qaA.mp hcs;obtain ⟨cs',hcs',hcs⟩:=qaA.mp hcs;cases hcs;refine B.2 G5 x5.gg z hze H5 x5.gh _ fun v G6 H6 x6 r6=>?_;have hp6:H6 p=some (.lst ys):=x6.hh _ _ hp5;have hg6:G6 p=none:=x6.no p hg5 (by rw [hp5];exact fun z=>nomatch z);refine ⟨hp6,by omega,G6,bs++[z],cs',((x2.trans x5).trans x6).put hp hg6,hg6,AH,?_,Paired.app (Paired.imp' (fun _ _ r=>Rp.mono (x5.trans x6).gg r) hpr) (.cons r6 .nil),hcs',by simp⟩;rw [qgA,qiA];omega
 ·have e:i=vs.length:=by omega
  subst e;have hd:as.drop vs.length=[]:=List.drop_eq_nil_of_le (by omega);rw [hd] at hcs;cases hcs;refine .inl ⟨Y.stop _ (x2.gg.trans x2.gh),?_⟩;rw [qeB] at k;exact k p ys G2 H2 (xa.trans x2) (xa.hh.free hp) hg hh (by omega) hpr
theorem IR {cap:List Nat}{wi:TI}{te:TE}{mi:Option (List α)}{fe:α->Option β}(ei:IW K wi σ G mi)
  (hb:∀ (x:V) (a:α) (G1:Hp),Same G G1->Rp.rel K G1 x a->EV K te ((inner cap σ).set 0 (some x)) G1 (fe a)) :
  FV K (Ju cap wi LZ te) σ G (mi.bind fun as=>F0 fe as):=by
 have h:=Nc (tt:=LZ) (fc:=fun _=>some true) ei fun x a G1 s r=>⟨tv_yes,hb x a G1 s r⟩;have e:(fun as=>Cm (fun _=>some true) fe as)=fun as=>F0 fe as:=funext (HH fe);rw [e] at h;exact h
def Rj (z:Str)(ys:List Str):Option Str:=if (ys.map (·.length)).sum+ys.length * z.length<=16777216 then some (Txt.join z ys) else none
theorem Iz {H:Hp}:∀ {xs:List V}{ys:List Str},Paired (Rp.rel K H) xs ys->xs=ys.map V.str
 | _,_,.nil=>rfl
 | _,_,.cons r t=>by
  obtain ⟨rfl,_⟩:=r;rw [Iz t]
  rfl
theorem S9 (z:Str):∀ (ps:List Str) (acc:Array Nat),(ps.foldl (fun acc p=>acc++z.cps++p.cps) acc).size=acc.size+(ps.map (·.length)).sum+ps.length * z.length
 | [],acc=>by simp
 | p::ps,acc=>by
  rw [qjC,S9 z ps];simp only [Array.size_append,qbB,List.sum_cons,qhA,Nat.succ_mul];have:p.cps.size=p.length:=rfl;have:z.cps.size=z.length:=rfl;omega
theorem join_len (z:Str)(ys:List Str):(Txt.join z ys).length<=(ys.map (·.length)).sum+ys.length * z.length:=by
 show ((ys.drop 1).foldl (fun acc p=>acc++z.cps++p.cps) (ys.headD Str.empty).cps).size<=_;rw [S9]
 cases ys with
 | nil=>simp;rfl
 | cons a r =>
  simp only [List.headD_cons,List.drop_succ_cons,List.drop_zero,qbB,List.sum_cons,qhA,Nat.succ_mul];have:a.cps.size=a.length:=rfl;omega
theorem ev_join {sa:Option Str}{lb:Option (List Str)}(ea:EV K ta σ G sa)(eb:EV K tb σ G lb):EV K (tBM K "str" (rJoin K) ta (AK tb B7)) σ G (sa.bind fun z=>lb.bind fun ys=>Rj z ys):=by
 clear 7;obtain ⟨a,ha,hc⟩:=qaA.mp hc;obtain ⟨b,hb,hc⟩:=qaA.mp hc;obtain ⟨hz,rfl⟩:=B4 hc;clear 8 ea a ha;obtain ⟨rfl,za⟩:=r2;refine ⟨rfl,?_⟩;refine eb G2 (s1.trans x2.gg) b hb H2 x2.gh _ fun u G3 H3 x3 r3=>?_;obtain ⟨l,xs,rfl,h,z,p⟩:=r3;obtain rfl:=Iz p;exact ⟨a,l,b,rfl,rfl,.inl (x3.gh.rd h),hz,k _ _ _ (x2.trans x3) ⟨rfl,qhB (join_len _ _) (by rw [qpB];exact hz)⟩⟩
theorem Ri {mo:Option (Option α)}(hn:∀ {G:Hp}{v:V}{a:α},Rp.rel K G v a->v ≠ .non)(ea:EV K ta σ G mo) :
  EV K (tOp (fun x y H Q=>y = .non/\Q (.bl (!decide (x = .non))) H) ta (tC .non)) σ G (mo.bind fun o=>some o.isSome):=by
 clear 7;obtain ⟨a,ha,hc⟩:=qaA.mp hc;cases hc;refine ea G1 s1 a ha H sH _ fun v G2 H2 x2 r2=>⟨rfl,?_⟩;refine k _ _ _ x2 ?_;show V.bl _=V.bl _
 congr 1
 cases a with
 | none=>rw [decide_eq_true (show v=V.non from r2)];rfl
 | some a=>rw [decide_eq_false (hn (show Rp.rel K G2 v a from r2))];rfl
end
section
variable {K:FZ9}{σ:St}{G H:Hp}{α β:Type}[Rp α][Rp β]{te:TE}{tt:TT}{t u rest:TS}{D:Ends}{i:Nat}{a:α}{m:Option α}
theorem Ak (e:EV K te σ G m)(hm:m=some a)(s:Same G H)(k:∀ v G2 H2,Ext G H G2 H2->Rp.rel K G2 v a->rest D (σ.set i (some v)) H2):Bz (GO te (Bm i)) rest D σ H:=e.run hm s k
theorem AO (e:EV K te σ G m)(hm:m=some a)(s:Same G H)(k:∀ v G2 H2,Ext G H G2 H2->Rp.rel K G2 v a->D.rt v H2):Bz (Ny te) rest D σ H:=e.run hm s k
theorem Ay {b:Bool}{m:Option Bool}(e:TV tt σ G m)(hm:m=some b)(s:Same G H)(k:∀ G2 H2,Ext G H G2 H2->if b=true then t { D with nx:=rest D } σ H2 else u { D with nx:=rest D } σ H2) :
  Bz (KS tt t u) rest D σ H:=e.run hm s k
theorem GN (Pv:St->Hp->Prop)(h:∀ nx:St->Hp->Prop,(∀ σ' H',Pv σ' H'->nx σ' H')->Bz t By { D with nx:=nx } σ H)(key:∀ σ' H',Pv σ' H'->rest D σ' H'):Bz t rest D σ H:=h (rest D) key
structure LoopOb (K:FZ9){α S ρ:Type}[Rp α](RR:ρ->V->Hp->Hp->Prop)(f:α->S->Option (Fl S ρ))(g:TG)(tb:TS)(D:Ends)(σ:St)(G2 H2:Hp)(as:List α)(s0:S)(res:Fl S ρ)(RS:S->St->Hp->Hp->Prop):Prop where
 start:RS s0 σ G2 H2
 keep:∀ s σ' G' H',RS s σ' G' H'->Same G2 G'/\Same G' H'
 step:∀ (x:V) (a:α) (s:S) (σ1:St) (G1 H1:Hp) (fl:Fl S ρ),a∈as->RS s σ1 G1 H1->Rp.rel K G1 x a->f a s=some fl->∀ D':Ends,(∀ s' σ' G' H',fl = .nx s'->RS s' σ' G' H'->D'.nx σ' H')->(∀ s' σ' G' H',fl = .nx s'->RS s' σ' G' H'->D'.ct σ' H') ->
  (∀ s' σ' G' H',fl = .bk s'->RS s' σ' G' H'->D'.bk σ' H')->(∀ r v G' H',fl = .rt r->RR r v G' H'->D'.rt v H')->g x σ1 H1 fun σ2 H2=>tb D' σ2 H2
 nxt:∀ s σ' G' H',res = .nx s->RS s σ' G' H'->D.nx σ' H'
 rtn:∀ r v G' H',res = .rt r->RR r v G' H'->D.rt v H'
theorem E9 {S ρ:Type}{RR:ρ->V->Hp->Hp->Prop}{f:α->S->Option (Fl S ρ)}{wi:TI}{g:TG}{tb:TS}{mi:Option (List α)}{as:List α}{s0:S}{res:Fl S ρ}(ei:IW K wi σ G mi)(hm:mi=some as)(hf:CV f as s0=some res)(sg:Same G H)
  (k:∀ G2 H2,Ext G H G2 H2->∃ RS,LoopOb K RR f g tb { D with nx:=rest D } σ G2 H2 as s0 res RS):Bz (tFor wi g tb) rest D σ H:=by
 refine ei G (.refl G) as hm H sg _ fun J vs G2 H2 x2 Y hz pr=>?_;obtain ⟨RS,L⟩:=k G2 H2 x2;have hla:=Paired.length pr;refine ⟨fun i m σ' H'=>m=vs.length - i/\i<=vs.length/\∃ s G',RS s σ' G' H'/\CV f (as.drop i) s=some res,⟨vs.length,by simp,qkC _,s0,G2,L.start,hf⟩,?_⟩;rintro i m σ' H' ⟨rfl,hi,s,G',rs,hfo⟩;obtain ⟨k1,k2⟩:=L.keep _ _ _ _ rs;by_cases hlt:i<vs.length
 ·refine .inr ⟨Y.go i _ (k1.trans k2) hlt,fun σ'' H''=>∃ s' G'',RS s' σ'' G'' H''/\CV f (as.drop (i+1)) s'=some res,fun σ'' H'' ⟨s',G'',h⟩=>⟨vs.length - (i+1),by omega,rfl,hlt,s',G'',h⟩,fun x H3 y=>?_⟩;obtain ⟨rfl,hx⟩:=Y.yld i _ x H3 (k1.trans k2) hlt y;obtain ⟨a,hai,ra⟩:=Paired.getR pr hx
  have hd:as.drop i=a::as.drop (i+1):=by
   obtain ⟨h1,h2⟩:=qvA.mp hai;rw [List.drop_eq_getElem_cons h1,h2]
  rw [hd] at hfo;obtain ⟨fl,hfl,hfo⟩:=qaA.mp hfo;refine L.step x a s σ' G' _ fl (quA hai) rs (Rp.mono k1 ra) hfl _ ?_ ?_ ?_ ?_
  ·intro s' σ'' G'' H'' e r;subst e;exact ⟨s',G'',r,hfo⟩
  ·intro s' σ'' G'' H'' e r;subst e;exact ⟨s',G'',r,hfo⟩
  ·intro s' σ'' G'' H'' e r;subst e;exact L.nxt s' σ'' G'' H'' (qkB hfo).symm r
  ·intro r v G'' H'' e rl;subst e;exact L.rtn r v G'' H'' (qkB hfo).symm rl
 ·have e:i=vs.length:=by omega
  subst e;have hd:as.drop vs.length=[]:=List.drop_eq_nil_of_le (by omega);rw [hd] at hfo;exact .inl ⟨Y.stop _ (k1.trans k2),L.nxt s σ' G' H' (qkB hfo).symm rs⟩
structure WhileOb (K:FZ9){S ρ:Type}(RR:ρ->V->Hp->Hp->Prop)(c:S->Option Bool)(f:S->Option (Fl S ρ))(tt:TT)(tb:TS)(D:Ends)(σ:St)(G2 H2:Hp)(s0:S)(res:Fl S ρ)(RS:S->St->Hp->Hp->Prop):Prop where
 start:RS s0 σ G2 H2
 keep:∀ s σ' G' H',RS s σ' G' H'->Same G' H'
 test:∀ s σ' G' H' b,RS s σ' G' H'->c s=some b->∀ Q:Bool->Hp->Prop,(∀ G'' H'',RS s σ' G'' H''->Q b H'')->tt σ' H' Q
 step:∀ (s:S) (σ1:St) (G1 H1:Hp) (fl:Fl S ρ),RS s σ1 G1 H1->f s=some fl->c s=some true->∀ D':Ends,(∀ s' σ' G' H',fl = .nx s'->RS s' σ' G' H'->D'.nx σ' H')->(∀ s' σ' G' H',fl = .nx s'->RS s' σ' G' H'->D'.ct σ' H') ->
  (∀ s' σ' G' H',fl = .bk s'->RS s' σ' G' H'->D'.bk σ' H')->(∀ r v G' H',fl = .rt r->RR r v G' H'->D'.rt v H')->tb D' σ1 H1
 nxt:∀ s σ' G' H',res = .nx s->RS s σ' G' H'->D.nx σ' H'
 rtn:∀ r v G' H',res = .rt r->RR r v G' H'->D.rt v H'
theorem sv_while {S ρ:Type}{RR:ρ->V->Hp->Hp->Prop}{c:S->Option Bool}{f:S->Option (Fl S ρ)}{tb:TS}{n:Nat}{s0:S}{res:Fl S ρ}(hf:Gq c f n s0=some res)(RS:S->St->Hp->Hp->Prop)
  (L:WhileOb K RR c f tt tb { D with nx:=rest D } σ G H s0 res RS):Bz (tWhile tt tb) rest D σ H:=by
 refine ⟨fun m σ' H'=>∃ s G',RS s σ' G' H'/\Gq c f m s=some res,⟨n,s0,G,L.start,hf⟩,?_⟩;rintro m σ' H' ⟨s,G',rs,hw⟩
 cases m with
 | zero=>cases hw
 | succ m =>
  obtain ⟨b,hb,hw⟩:=qaA.mp hw;refine L.test s σ' G' H' b rs hb _ fun G'' H'' rs'=>?_
  cases b with
  | false=>exact BS (L.nxt s σ' G'' H'' (qkB hw).symm rs')
  | true =>
   obtain ⟨fl,hfl,hw⟩:=qaA.mp hw;refine BM ⟨fun σ2 H2=>∃ s' G2,RS s' σ2 G2 H2/\Gq c f m s'=some res,fun σ2 H2 h=>⟨m,Nat.lt_succ_self m,h⟩,?_⟩;refine L.step s σ' G'' H'' fl rs' hfl hb _ ?_ ?_ ?_ ?_
   ·intro s' σ2 G2 H2 e r;subst e;exact ⟨s',G2,r,hw⟩
   ·intro s' σ2 G2 H2 e r;subst e;exact ⟨s',G2,r,hw⟩
   ·intro s' σ2 G2 H2 e r;subst e;exact L.nxt s' σ2 G2 H2 (qkB hw).symm r
   ·intro r v G2 H2 e rl;subst e;exact L.rtn r v G2 H2 (qkB hw).symm rl
end
structure Own (K:FZ9){α:Type}[Rp α](G H:Hp)(v:V)(p:Addr)(vs:List V)(as:List α):Prop where
 v:v = .ref p
 g:G p=none
 h:H p=some (.lst vs)
 z:vs.length<=sizeLine
 p:Paired (Rp.rel K G) vs as
section
variable {K:FZ9}{σ:St}{G H G1 H1 G0 H0:Hp}{α β:Type}[Rp α][Rp β]{te ti:TE}{tt:TT}{t u rest:TS}{D:Ends}{i:Nat}{a:α}{m:Option α}{as:List α}{v:V}{p q:Addr}{vs:List V}
theorem Own.ext (o:Own K G H v p vs as)(x:Ext G H G1 H1):Own K G1 H1 v p vs as :=
 ⟨o.v,x.no p o.g (by rw [o.h];exact fun z=>nomatch z),x.hh _ _ o.h,o.z,Paired.imp' (fun _ _ r=>Rp.mono x.gg r) o.p⟩
theorem Own.put {ho:HO}(o:Own K G H v p vs as)(h:p≠q):Own K G (upd H q ho) v p vs as:=⟨o.v,o.g,by rw [Ag h];exact o.h,o.z,o.p⟩
theorem Own.tell (o:Own K G H v p vs as):Rp.rel K (upd G p (.lst vs)) v as:=⟨p,vs,o.v,.inl AH,o.z,Paired.imp' (fun _ _ r=>Rp.mono (Same.new o.g) r) o.p⟩
theorem Own.same (o:Own K G H v p vs as)(s:Same G H):Same (upd G p (.lst vs)) H:=fun b x e=>by
 by_cases hb:b=p
 ·subst hb;rw [AH] at e;rw [o.h];exact e
 ·rw [Ag hb] at e;exact s b x e
theorem Kf {m:Option (List α)}{as:List α}(e:FV K te σ G m)(hm:m=some as)(s:Same G H)(k:∀ p vs G2 H2,Ext G H G2 H2->H p=none->Own K G2 H2 (.ref p) p vs as->rest D (σ.set i (some (.ref p))) H2):Bz (GO te (Bm i)) rest D σ H :=
 e G (.refl G) as hm H s _ fun p vs G2 H2 x h0 hg hh hz hp=>k p vs G2 H2 x h0 ⟨rfl,hg,hh,hz,hp⟩
def LB {α:Type}(as:List α)(a:α):Option (List α):=if as.length<sizeLine then some (as++[a]) else none
theorem IV {as':List α}(hσ:σ[i]? = some (some v))(o:Own K G H v p vs as)(e:EV K te σ G m)(hm:m=some a)(hp:LB as a=some as')(s:Same G H)
  (k:∀ G2 H2 w,Ext G H G2 H2->Own K G2 (upd H2 p (.lst (vs++[w]))) v p (vs++[w]) as'->rest D σ (upd H2 p (.lst (vs++[w])))):Bz (KZ (tBM K "list" Hd (BQ i) (AK te B7))) rest D σ H:=by
 obtain ⟨hl,rfl⟩:=B4 hp;have hlen:=Paired.length o.p;obtain ⟨rfl,og,oh,oz,op⟩:=o;refine ⟨_,hσ,.inl ⟨rfl,_,SqL.of oh⟩,?_⟩;refine e.run hm s fun w G2 H2 x r=>?_;refine ⟨p,vs,w,rfl,rfl,x.hh _ _ oh,by omega,?_⟩;refine k G2 H2 w x ⟨rfl,x.no p og (by rw [oh];exact fun z=>nomatch z),AH,?_,Paired.app (Paired.imp' (fun _ _ r=>Rp.mono x.gg r) op) (.cons r .nil)⟩;rw [qgA,qiA];omega
structure TupK (H H':Hp):Prop where
 rd:∀ b xs,Rd H b (.tup xs)->Rd H' b (.tup xs)
 eq:∀ b xs,H b=some (.tup xs)->H' b=some (.tup xs)
class Imm (α:Type) [Rp α]:Prop where
 im:∀ {K:FZ9}{H H':Hp}{v:V}{a:α},TupK H H'->Rp.rel K H v a->Rp.rel K H' v a
instance imBool:Imm Bool:=⟨fun _ h=>h⟩
def del (G:Hp)(p:Addr):Hp:=fun b=>if b=p then none else G b
theorem Ip {G:Hp}{p b:Addr}(h:b≠p):del G p b=G b:=by unfold del;rw [if_neg h]
theorem O3 {G:Hp}{p:Addr}:del G p p=none:=by unfold del;rw [if_pos rfl]
theorem Ext.del {ho:HO}{G2 H2:Hp}(hg:G p=none)(x:Ext (upd G p ho) H G2 H2):Ext G H (L2.del G2 p) H2 :=
 ⟨fun b o e=>by
  have hb:b≠p:=CH e hg;rw [Ip hb]
  exact x.gg b o (by rw [Ag hb];exact e),fun b o e=>by
  by_cases hb:b=p
  ·subst hb;rw [O3] at e;cases e
  ·rw [Ip hb] at e
   exact x.gh b o e,x.hh,fun b h1 h2=>by
  by_cases hb:b=p
  ·subst hb;exact O3
  ·rw [Ip hb]
   exact x.no b (by rw [Ag hb];exact h1) h2⟩
theorem Imm.del {β:Type}[Rp β][Imm β]{G2:Hp}{w:V}{c:β}{ys:List V}(h:G2 p=some (.lst ys))(r:Rp.rel K G2 w c):Rp.rel K (L2.del G2 p) w c :=
 Imm.im ⟨fun b xs e=>by
  have hb:b≠p:=fun z=>by
   subst z;rcases e with e | ⟨o,e⟩<;>(rw [h] at e;cases e)
  rcases e with e | ⟨o,e⟩
  ·exact .inl (by rw [Ip hb];exact e)
  ·exact .inr ⟨o,by rw [Ip hb];exact e⟩,fun b xs e=>by
  have hb:b≠p:=fun z=>by
   subst z;rw [h] at e;cases e
  rw [Ip hb]
  exact e⟩ r
theorem EV.runB {β:Type}[Rp β][Imm β]{mb:Option β}{b:β}{Q:VK}(o:Own K G H v p vs as)(e:EV K te σ (upd G p (.lst vs)) mb)(hm:mb=some b)(s:Same G H)(k:∀ w G2 H2,Ext G H G2 H2->Rp.rel K G2 w b->Q w H2):te σ H Q :=
 e.run hm (o.same s) fun w G2 H2 x r=>k w (del G2 p) H2 (x.del o.g) (Imm.del (x.gg _ _ AH) r)
theorem TV.runB {mb:Option Bool}{b:Bool}{Q:Bool->Hp->Prop}(o:Own K G H v p vs as)(e:TV tt σ (upd G p (.lst vs)) mb)(hm:mb=some b)(s:Same G H)(k:∀ G2 H2,Ext G H G2 H2->Q b H2):tt σ H Q :=
 e.run hm (o.same s) fun G2 H2 x=>k (del G2 p) H2 (x.del o.g)
end
section
variable {K:FZ9}{σ:St}{G:Hp}
theorem Aj {ρ A0:Type}[Rp ρ][Rp A0]{t0:TE}{m0:Option A0}{m:A0 × Unit->Option ρ}(e0:EV K t0 σ G m0):EV K (Dt (spM K m) [] E0 (AK t0 B7)) σ G (m0.bind fun a0=>m (a0,())):=by
 clear 7;obtain ⟨a0,ha0,hc⟩:=qaA.mp hc;refine e0 G1 s1 a0 ha0 H sH _ fun v0 G2 H2 x0 r0=>?_;have y0:=x0;exact ⟨G2,_,c,y0.gh,⟨v0,_,rfl,r0,rfl⟩,hc,fun v G9 H9 x9 r9=>k v G9 H9 (y0.trans x9) r9⟩
theorem BI {ρ A0 A1:Type}[Rp ρ][Rp A0][Rp A1]{t0 t1:TE}{m0:Option A0}{m1:Option A1}{m:A0 × A1 × Unit->Option ρ}(e0:EV K t0 σ G m0)(e1:EV K t1 σ G m1):EV K (Dt (spM K m) [] E0 (AK t0 (AK t1 B7))) σ G (m0.bind fun a0=>m1.bind fun a1=>m (a0,a1,())):=by
 clear 7;obtain ⟨a0,ha0,hc⟩:=qaA.mp hc;obtain ⟨a1,ha1,hc⟩:=qaA.mp hc;refine e0 G1 s1 a0 ha0 H sH _ fun v0 G2 H2 x0 r0=>?_;have y0:=x0;refine e1 G2 (s1.trans y0.gg) a1 ha1 H2 y0.gh _ fun v1 G3 H3 x1 r1=>?_;have y1:=y0.trans x1;exact ⟨G3,_,c,y1.gh,⟨v0,_,rfl,(Rp.mono x1.gg r0),⟨v1,_,rfl,r1,rfl⟩⟩,hc,fun v G9 H9 x9 r9=>k v G9 H9 (y1.trans x9) r9⟩
theorem Jj {ρ A0 A1 A2:Type}[Rp ρ][Rp A0][Rp A1][Rp A2]{t0 t1 t2:TE}{m0:Option A0}{m1:Option A1}{m2:Option A2}{m:A0 × A1 × A2 × Unit->Option ρ}(e0:EV K t0 σ G m0)(e1:EV K t1 σ G m1)(e2:EV K t2 σ G m2):EV K (Dt (spM K m) [] E0 (AK t0 (AK t1 (AK t2 B7)))) σ G (m0.bind fun a0=>m1.bind fun a1=>m2.bind fun a2=>m (a0,a1,a2,())):=by
 clear 7;obtain ⟨a0,ha0,hc⟩:=qaA.mp hc;obtain ⟨a1,ha1,hc⟩:=qaA.mp hc;obtain ⟨a2,ha2,hc⟩:=qaA.mp hc;refine e0 G1 s1 a0 ha0 H sH _ fun v0 G2 H2 x0 r0=>?_;have y0:=x0;refine e1 G2 (s1.trans y0.gg) a1 ha1 H2 y0.gh _ fun v1 G3 H3 x1 r1=>?_;have y1:=y0.trans x1;refine e2 G3 (s1.trans y1.gg) a2 ha2 H3 y1.gh _ fun v2 G4 H4 x2 r2=>?_;have y2:=y1.trans x2;exact ⟨G4,_,c,y2.gh,⟨v0,_,rfl,(Rp.mono x2.gg (Rp.mono x1.gg r0)),⟨v1,_,rfl,(Rp.mono x2.gg r1),⟨v2,_,rfl,r2,rfl⟩⟩⟩,hc,fun v G9 H9 x9 r9=>k v G9 H9 (y2.trans x9) r9⟩
theorem ev_def5 {ρ A0 A1 A2 A3 A4:Type}[Rp ρ][Rp A0][Rp A1][Rp A2][Rp A3][Rp A4]{t0 t1 t2 t3 t4:TE}{m0:Option A0}{m1:Option A1}{m2:Option A2}{m3:Option A3}{m4:Option A4}{m:A0 × A1 × A2 × A3 × A4 × Unit->Option ρ}(e0:EV K t0 σ G m0)(e1:EV K t1 σ G m1)(e2:EV K t2 σ G m2)(e3:EV K t3 σ G m3)(e4:EV K t4 σ G m4):EV K (Dt (spM K m) [] E0 (AK t0 (AK t1 (AK t2 (AK t3 (AK t4 B7)))))) σ G (m0.bind fun a0=>m1.bind fun a1=>m2.bind fun a2=>m3.bind fun a3=>m4.bind fun a4=>m (a0,a1,a2,a3,a4,())):=by
 clear 7;obtain ⟨a0,ha0,hc⟩:=qaA.mp hc;obtain ⟨a1,ha1,hc⟩:=qaA.mp hc;obtain ⟨a2,ha2,hc⟩:=qaA.mp hc;obtain ⟨a3,ha3,hc⟩:=qaA.mp hc;obtain ⟨a4,ha4,hc⟩:=qaA.mp hc;refine e0 G1 s1 a0 ha0 H sH _ fun v0 G2 H2 x0 r0=>?_;have y0:=x0;refine e1 G2 (s1.trans y0.gg) a1 ha1 H2 y0.gh _ fun v1 G3 H3 x1 r1=>?_;have y1:=y0.trans x1;refine e2 G3 (s1.trans y1.gg) a2 ha2 H3 y1.gh _ fun v2 G4 H4 x2 r2=>?_;have y2:=y1.trans x2;refine e3 G4 (s1.trans y2.gg) a3 ha3 H4 y2.gh _ fun v3 G5 H5 x3 r3=>?_;have y3:=y2.trans x3;refine e4 G5 (s1.trans y3.gg) a4 ha4 H5 y3.gh _ fun v4 G6 H6 x4 r4=>?_;have y4:=y3.trans x4;exact ⟨G6,_,c,y4.gh,⟨v0,_,rfl,(Rp.mono x4.gg (Rp.mono x3.gg (Rp.mono x2.gg (Rp.mono x1.gg r0)))),⟨v1,_,rfl,(Rp.mono x4.gg (Rp.mono x3.gg (Rp.mono x2.gg r1))),⟨v2,_,rfl,(Rp.mono x4.gg (Rp.mono x3.gg r2)),⟨v3,_,rfl,(Rp.mono x4.gg r3),⟨v4,_,rfl,r4,rfl⟩⟩⟩⟩⟩,hc,fun v G9 H9 x9 r9=>k v G9 H9 (y4.trans x9) r9⟩
section
variable {ta tb:TE}{a b:Bool}{tt tu:TT}{mb:Option Bool}
theorem TV.of {m m':Option Bool}(e:TV tt σ G m)(h:m=m'):TV tt σ G m':=h ▸ e
theorem tv_orP (ea:TV tt σ G (some a))(eb:TV tu σ G (some b)):TV (tOr tt tu) σ G (some (a || b)):=(Kq ea eb).of (by cases a<;>rfl)
theorem TruV.mono {G H:Hp}{v:V}{k:Bool}(s:Same G H)(h:TruV K v G k):TruV K v H k:=by
 cases v with
 | ref p =>
  rcases h with ⟨xs,hx,e⟩ | ⟨xs,hx,e⟩ | ⟨kvs,hx,e⟩
  ·exact .inl ⟨xs,s.seq hx,e⟩
  ·exact .inr (.inl ⟨xs,s.tup hx,e⟩)
  ·exact .inr (.inr ⟨kvs,s _ _ hx,e⟩)
 | _=>exact h
theorem QC {mb:Option Bool}(ea:EV K ta σ G mb):TV (fun σ H Q=>ta σ H fun x H'=>∃ k,TruV K x H' k/\Q k H') σ G mb:=by
 have h:=tv_tru (K:=K) (f:=fun (a:Bool)=>a) (fun {G v a}(r:Rp.rel K G v a)=>by cases r;exact rfl) (fun s=>TruV.mono s) ea;refine h.of ?_;cases mb<;>rfl
end
theorem cT {α:Type}{A B:Option α}{r:Option α}(h:cond true A B=r):A=r:=h
theorem cF {α:Type}{A B:Option α}{r:Option α}(h:cond false A B=r):B=r:=h
theorem Dl {i:Nat}{x:V}{σ:St}{H:Hp}{tb:TS}{D:Ends}(h:tb D (σ.set i (some x)) H):Bm i x σ H fun σ2 H2=>tb D σ2 H2:=h
end
section
variable {K:FZ9}{σ:St}{G H:Hp}{α β γ:Type}[Rp α][Rp β][Rp γ]{ta tb te:TE}{ia ib:Option Int}{c:Int}{rest t u:TS}{D:Ends}{i j:Nat}{tt:TT}
theorem Jm (ea:EV K ta σ G ia)(hc:-(2 ^ 64)<c/\c<2 ^ 64:=by decide):EV K (tOp (rMul K) ta (tC (.int c))) σ G (ia.bind fun a=>some (a * c)):=by
 have h:=Pu ea (Af (K:=K) (σ:=σ) (G:=G) (i:=c))
 have e:(ia.bind fun a=>(some c).bind fun b=>Na a b)=ia.bind fun a=>some (a * c):=by
  congr 1;funext a
  show Na a c=_;unfold Na;rw [if_pos (.inr hc)]
 exact h.of e
theorem ev_mulL (eb:EV K tb σ G ib)(hc:-(2 ^ 64)<c/\c<2 ^ 64:=by decide):EV K (tOp (rMul K) (tC (.int c)) tb) σ G (ib.bind fun b=>some (c * b)):=by
 have h:=Pu (Af (K:=K) (σ:=σ) (G:=G) (i:=c)) eb
 have e:((some c).bind fun a=>ib.bind fun b=>Na a b)=ib.bind fun b=>some (c * b):=by
  show (ib.bind fun b=>Na c b)=_
  congr 1;funext b
  unfold Na;rw [if_pos (.inl hc)]
 exact h.of e
theorem Bl (ea:EV K ta σ G ia)(hc:0<c:=by decide):EV K (tOp (rI (fun _ j=>0<j) fun i j=>.int (i % j)) ta (tC (.int c))) σ G (ia.bind fun a=>some (a % c)):=by
 have h:=ev_mod ea (Af (K:=K) (σ:=σ) (G:=G) (i:=c))
 have e:(ia.bind fun a=>(some c).bind fun b=>SV a b)=ia.bind fun a=>some (a % c):=by
  congr 1;funext a
  show SV a c=_;unfold SV;rw [if_pos hc]
 exact h.of e
theorem Hs (ea:EV K ta σ G ia)(hc:0<c/\c<1073741824:=by decide):EV K (tOp (rI Q9 fun i j=>.int (i / j)) ta (tC (.int c))) σ G (ia.bind fun a=>some (a / c)):=by
 have h:=ev_div ea (Af (K:=K) (σ:=σ) (G:=G) (i:=c))
 have e:(ia.bind fun a=>(some c).bind fun b=>divO a b)=ia.bind fun a=>some (a / c):=by
  congr 1;funext a
  show divO a c=_;unfold divO;rw [if_pos (show Q9 a c from hc)]
 exact h.of e
structure Scr where
 l:List Int
instance rpScr:Rp Scr:=⟨fun K H v a=>∃ l,v = .ref l/\SqL K H l (a.l.map V.int),fun s ⟨l,e,h⟩=>⟨l,e,s.seq h⟩⟩
theorem ND {ma:Option Scr}(ea:EV K ta σ G ma):EV K (tCB (MZ K) (AK ta B7)) σ G (ma.bind fun a=>some (a.l.length:Int)):=by
 clear 7;obtain ⟨a,ha,hc⟩:=qaA.mp hc;cases hc;clear 8 ea a ha;obtain ⟨l,rfl,h⟩:=r2;exact ⟨_,.inl (x2.gh.seq h),by rw [qfA];exact k _ _ _ x2 rfl⟩
theorem RE {H:Hp}:∀ ns:List Int,Paired (Rp.rel K H) (ns.map V.int) ns
 | []=>.nil
 | _::r=>.cons rfl (RE r)
theorem ev_atX {ma:Option Scr}(ea:EV K ta σ G ma)(eb:EV K tb σ G ib):EV K (tOp (rAt K) ta tb) σ G (ma.bind fun a=>ib.bind fun i=>atI a.l i) :=
 C7 (fun s ra rb e Q k=>by
  obtain ⟨l,rfl,h⟩:=ra;cases rb;obtain ⟨v,hv,r⟩:=DN (RE (K:=K) _) e
  exact .inl ⟨_,v,s.seq h,hv,k _ _ _ (.refl s) r⟩) ea eb
theorem sv_ifB {b:Bool}{m:Option Bool}{v:V}{p:Addr}{vs:List V}{as:List β}(o:Own K G H v p vs as)(e:TV tt σ (upd G p (.lst vs)) m)(hm:m=some b)(s:Same G H)(k:∀ G2 H2,Ext G H G2 H2->if b=true then t { D with nx:=rest D } σ H2 else u { D with nx:=rest D } σ H2) :
  Bz (KS tt t u) rest D σ H:=TV.runB o e hm s k
end
structure Own2 (K:FZ9){α β:Type}[Rp α][Rp β](G H:Hp)(v:V)(p q:Addr)(vs ws:List V)(a:List α × List β):Prop where
 t:∃ t,v = .ref t/\G t=some (.tup [.ref p,.ref q])
 o1:Own K G H (.ref p) p vs a.1
 o2:Own K G H (.ref q) q ws a.2
 ne:p≠q
section
variable {K:FZ9}{σ:St}{G H G1 H1 G0 H0:Hp}{α β γ:Type}[Rp α][Rp β][Rp γ]{ta tb te ti:TE}{tt:TT}{t u rest:TS}{D:Ends}{i j:Nat}{v:V}{p q r:Addr}{vs ws:List V}{a:List α × List β}
def two (G:Hp)(p q:Addr)(vs ws:List V):Hp:=upd (upd G p (.lst vs)) q (.lst ws)
theorem Own2.g2 (o:Own2 K G H v p q vs ws a):(upd G p (.lst vs)) q=none:=by rw [Ag (Ne.symm o.ne)];exact o.o2.g
theorem Own2.up (o:Own2 K G H v p q vs ws a):Same G (two G p q vs ws):=(Same.new o.o1.g).trans (Same.new o.g2)
theorem Own2.tell (o:Own2 K G H v p q vs ws a):Rp.rel K (two G p q vs ws) v a:=by
 obtain ⟨t,rfl,ht⟩:=o.t;refine ⟨t,.ref p,.ref q,rfl,SqT.of (o.up _ _ ht),⟨p,vs,rfl,.inl ?_,o.o1.z,Paired.imp' (fun _ _ r=>Rp.mono o.up r) o.o1.p⟩,⟨q,ws,rfl,.inl AH,o.o2.z,Paired.imp' (fun _ _ r=>Rp.mono o.up r) o.o2.p⟩⟩;unfold two;rw [Ag o.ne];exact AH
theorem Own2.frz (o:Own2 K G H v p q vs ws a)(x:Ext G0 H0 G H)(h1:H0 p=none)(h2:H0 q=none):Ext G0 H0 (two G p q vs ws) H :=
 (x.frz h1 o.o1.g o.o1.h).frz h2 o.g2 o.o2.h
def NV (K:FZ9){α β:Type}[Rp α][Rp β](te:TE)(σ:St)(G:Hp)(m:Option (List α × List β)):Prop :=
 ∀ G1,Same G G1->∀ a,m=some a->∀ H,Same G1 H->∀ Q:VK,(∀ v p q vs ws G2 H2,Ext G1 H G2 H2->H p=none->H q=none->Own2 K G2 H2 v p q vs ws a->Q v H2)->te σ H Q
theorem NV.ev {m:Option (List α × List β)}(e:NV K te σ G m):EV K te σ G m:=by
 intro G1 s1 a ha H sH Q k;refine e G1 s1 a ha H sH Q fun v p q vs ws G2 H2 x h1 h2 o=>?_;exact k v _ H2 (o.frz x h1 h2) o.tell
def spN (K:FZ9){A:Type}[RpA A]{α β:Type}[Rp α][Rp β](m:A->Option (List α × List β)):Sp:=fun vs H Q _ =>
 ∃ G a r,Same G H/\RpA.rel K G vs a/\m a=some r/\∀ v p q vs ws G2 H2,Ext G H G2 H2->H p=none->H q=none->Own2 K G2 H2 v p q vs ws r->Q v H2
theorem spN_len {A:Type}[RpA A]{m:A->Option (List α × List β)}{vs:List V}{H:Hp}{Q:VK}{E:XK}(h:spN K m vs H Q E):vs.length=RpA.n A:=by
 obtain ⟨G,a,r,_,h,_⟩:=h;exact RpA.len h
theorem nv_def1 {A0:Type}[Rp A0]{t0:TE}{m0:Option A0}{m:A0 × Unit->Option (List α × List β)}(e0:EV K t0 σ G m0):NV K (Dt (spN K m) [] E0 (AK t0 B7)) σ G (m0.bind fun a0=>m (a0,())):=by
 clear 7;obtain ⟨a0,ha0,hc⟩:=qaA.mp hc;refine e0 G1 s1 a0 ha0 H sH _ fun v0 G2 H2 x0 r0=>?_;have y0:=x0;exact ⟨G2,_,c,y0.gh,⟨v0,_,rfl,r0,rfl⟩,hc,fun v p q vs ws G9 H9 x9 h1 h2 o=>k v p q vs ws G9 H9 (y0.trans x9) (y0.hh.free h1) (y0.hh.free h2) o⟩
theorem sv_retO2 {v1 v2:V}{as:List α}{bs:List β}(h1:σ[i]? = some (some v1))(h2:σ[j]? = some (some v2))(o1:Own K G H v1 p vs as)(o2:Own K G H v2 q ws bs)(ne:p≠q)(s:Same G H)
  (k:∀ v G2 H2,Ext G H G2 H2->Own2 K G2 H2 v p q vs ws (as,bs)->D.rt v H2):Bz (Ny (JY (AK (BQ i) (AK (BQ j) B7)))) rest D σ H:=by
 obtain ⟨rfl,g1,hh1,z1,p1⟩:=o1;obtain ⟨rfl,g2,hh2,z2,p2⟩:=o2;refine ⟨_,h1,_,h2,by show 2<=sizeLine;decide,fun t ht=>?_⟩;have x4:Ext G H (upd G t (.tup [.ref p,.ref q])) (upd H t (.tup [.ref p,.ref q])):=.new s ht;exact k (.ref t) _ _ x4 ⟨⟨t,rfl,AH⟩,Own.ext ⟨rfl,g1,hh1,z1,p1⟩ x4,Own.ext ⟨rfl,g2,hh2,z2,p2⟩ x4,ne⟩
end
section
variable {X:Cx}{K:FZ9}
theorem op_plusK (h:X.K=K):OpR X (binaryOp .Add) (ME K):=h ▸ op_plus
theorem GK (h:X.K=K):OpR X (binaryOp .Mult) (rMul K):=h ▸ op_mulU
theorem ix_anyK (h:X.K=K):IxR X (rAt K):=h ▸ ix_any
theorem T9 (h:X.K=K):CW X (.builtin "len") (MZ K):=h ▸ Sr
theorem Gz (h:X.K=K):CW X (.builtin "isinstance") (rInst K):=h ▸ TK
theorem mt_joinK (h:X.K=K):MtR X "str.join" (rJoin K):=h ▸ mt_join
theorem op_eqK {j:Nat}(h:X.K=K)(α:Type)[Rp α][DecidableEq α][RpE α](hr:Room j X.A)(hk:RpE.k α<=10):OpR X (compareOp .Eq) (rEqD K α):=h ▸ op_eqM α hr hk
theorem C5 {tg l:Expr}{tl:TE}(h:X.K=K)(hl:PE X l tl):PI X tg l (K4 K tl):=h ▸ pi_any hl
theorem Sg {a:Expr}{ta:TE}(h:X.K=K)(ha:PE X a ta)(he:∀ whole,isTrue a X.env whole=(do let v <- whole;standAt a.pos;holding [v] (truthy v))) :
  PT X a (fun σ H Q=>ta σ H fun x H'=>∃ k,TruV K x H' k/\Q k H'):=h ▸ pt_truth ha he
section
variable {o e:Expr}{es:List Expr}{to:TE}{t:TA}{name:Str}{apos cpos:Pos}{T id:String}{r:V->List V->Hp->VK->Prop}
theorem Mn (h:X.K=K)(pa:PlainAttrs T)(slot:Slot T name id)(hty:typeOf (.builtin id)=pure (.type "method_descriptor"))(hm:MtR X id r)(ho:PE X o to)(ha:PA X (e::es) t)
  (hbase:attributeBase o name X.env (eval o X.env)=eval o X.env:=by rfl)
  (hfew:((backTo cpos (starEach (e::es) X.env)).all (fun x=>!x.1) && (backToKw cpos (keywordEach [] X.env)).all (fun x=>x.1.isSome)
   && decide ((e::es).length+([]:List Keyword).length+(if ([]:List Keyword).isEmpty then 0 else 1)<30))=true:=by rfl)
  (hline:(apos.endLine == cpos.line)=true:=by rfl) (hs:starEach (e::es) X.env=(false,eval e X.env)::starEach es X.env:=by rfl) (hplain:(backTo cpos (starEach es X.env)).any (·.1)=false:=by rfl) :
  PE X (.Call (.Attribute o name apos) (e::es) [] cpos) (tBM K T r to t):=h ▸ pe_bm pa slot hty hm ho ha hbase hfew hline hs hplain
end
end
theorem Eu {f:St->Hp->Prop}{rt:VK}{bk ct:St->Hp->Prop}{σ:St}{H:Hp}(h:f σ H):({ nx:=f,rt:=rt,bk:=bk,ct:=ct }:Ends).nx σ H:=h
section
variable {K:FZ9}{σ:St}{G H:Hp}{α β γ:Type}[Rp α][Rp β][Rp γ]{ta tb te:TE}{rest t u:TS}{D:Ends}{i j:Nat}
def extO {α:Type}(as bs:List α):Option (List α):=if as.length+bs.length<=sizeLine then some (as++bs) else none
end
inductive D where
 | non
 | bl (b:Bool)
 | int (i:Int)
 | str (x:Str)
 | lst (l:List D)
 | tup (l:List D)
 | dic
mutual
inductive RelD (K:FZ9)(H:Hp):V->D->Prop where
 | non:RelD K H .non .non
 | bl (b:Bool):RelD K H (.bl b) (.bl b)
 | int (i:Int):RelD K H (.int i) (.int i)
 | str (x:Str) (z:x.length<=sizeLine):RelD K H (.str x) (.str x)
 | lst {a:Addr}{xs:List V}{ds:List D}(h:Rd H a (.lst xs)) (z:xs.length<=sizeLine) (r:RelDs K H xs ds):RelD K H (.ref a) (.lst ds)
 | tup {a:Addr}{xs:List V}{ds:List D}(h:SqT K H a xs) (z:xs.length<=sizeLine) (r:RelDs K H xs ds):RelD K H (.ref a) (.tup ds)
 | dK {a:Addr}{kvs:List (Key × V)}(h:Rd H a (.dK kvs)):RelD K H (.ref a) .dic
inductive RelDs (K:FZ9)(H:Hp):List V->List D->Prop where
 | nil:RelDs K H [] []
 | cons {x:V}{d:D}{xs:List V}{ds:List D}(h:RelD K H x d) (t:RelDs K H xs ds):RelDs K H (x::xs) (d::ds)
end
mutual
theorem RelD.mono {K:FZ9}{H H':Hp}(s:Same H H'):∀ {v:V}{d:D},RelD K H v d->RelD K H' v d
 | _,_,.non=>.non
 | _,_,.bl b=>.bl b
 | _,_,.int i=>.int i
 | _,_,.str x z=>.str x z
 | _,_,.lst h z r=>.lst (s.rd h) z (RelDs.mono s r)
 | _,_,.tup h z r=>.tup (s.tup h) z (RelDs.mono s r)
 | _,_,.dK h=>.dK (s.rd h)
theorem RelDs.mono {K:FZ9}{H H':Hp}(s:Same H H'):∀ {v:List V}{d:List D},RelDs K H v d->RelDs K H' v d
 | _,_,.nil=>.nil
 | _,_,.cons h t=>.cons (RelD.mono s h) (RelDs.mono s t)
end
instance rpD:Rp D:=⟨RelD,fun s h=>RelD.mono s h⟩
theorem K9 {K:FZ9}{H:Hp}:∀ {xs:List V}{ds:List D},Paired (Rp.rel K H) xs ds->RelDs K H xs ds
 | _,_,.nil=>.nil
 | _,_,.cons h t=>.cons h (K9 t)
theorem EE {K:FZ9}{H:Hp}:∀ {xs:List V}{ds:List D},RelDs K H xs ds->Paired (Rp.rel K H) xs ds
 | _,_,.nil=>.nil
 | _,_,.cons h t=>.cons h (EE t)
class ToD (α:Type) [Rp α] where
 to:α->D
 rel:∀ {K:FZ9}{H:Hp}{v:V}{a:α},Rp.rel K H v a->RelD K H v (to a)
theorem toDs {K:FZ9}{H:Hp}{α:Type}[Rp α][ToD α]:∀ {xs:List V}{as:List α},Paired (Rp.rel K H) xs as->Paired (Rp.rel (α:=D) K H) xs (as.map ToD.to)
 | _,_,.nil=>.nil
 | _,_,.cons h t=>.cons (ToD.rel h) (toDs t)
instance tdD:ToD D:=⟨id,fun h=>h⟩
instance tdInt:ToD Int:=⟨.int,fun h=>by cases h;exact .int _⟩
instance tdBool:ToD Bool:=⟨.bl,fun h=>by cases h;exact .bl _⟩
instance tdStr:ToD Str:=⟨.str,fun h=>by obtain ⟨rfl,z⟩:=h;exact .str _ z⟩
instance tdUnit:ToD Unit:=⟨fun _=>.non,fun h=>by cases h;exact .non⟩
instance tdList {α:Type}[Rp α][ToD α]:ToD (List α):=⟨fun l=>.lst (l.map ToD.to),fun ⟨l,xs,e,h,z,p⟩=>by subst e;exact .lst h z (K9 (toDs p))⟩
instance tdTp {α:Type}[Rp α][ToD α]:ToD (Tp α):=⟨fun l=>.tup (l.l.map ToD.to),fun ⟨l,xs,e,h,z,p⟩=>by subst e;exact .tup h z (K9 (toDs p))⟩
def EJ:D->Option Str
 | .str x=>some x
 | _=>none
def dk:D->String
 | .non => "NoneType"
 | .bl _ => "bool"
 | .int _ => "int"
 | .str _ => "str"
 | .lst _ => "list"
 | .tup _ => "tuple"
 | .dic => "dict"
def isK (T:String)(d:D):Bool:=dk d == T || (T == "int" && dk d == "bool")
def NY:D->Option Int
 | .str x=>some (x.length:Int)
 | .lst l=>some (l.length:Int)
 | .tup l=>some (l.length:Int)
 | _=>none
def atD:D->Int->Option D
 | .lst l,i=>atI l i
 | .tup l,i=>atI l i
 | .str x,i=>(atI x.cps.toList i).bind fun c=>some (.str ⟨#[c]⟩)
 | _,_=>none
def iterD:D->Option (List D)
 | .lst l=>some l
 | .tup l=>some l
 | .str x=>some ((IT x).map D.str)
 | _=>none
section
variable {K:FZ9}{σ:St}{G:Hp}{α β:Type}[Rp α][Rp β]{ta tb te:TE}{md:Option D}
theorem BH [ToD α]{m:Option α}(e:EV K te σ G m):EV K te σ G (m.bind fun a=>some (ToD.to a)):=by
 clear 7;obtain ⟨a,ha,hc⟩:=qaA.mp hc;cases hc;exact e G1 s1 a ha H sH Q fun v G2 H2 x r=>k v G2 H2 x (ToD.rel r)
theorem Dq (e:EV K te σ G md):EV K te σ G (md.bind fun d=>EJ d):=by
 clear 7;obtain ⟨d,hd,hc⟩:=qaA.mp hc;refine e G1 s1 d hd H sH Q fun v G2 H2 x r=>?_
 cases d with
 | str y =>
  cases hc
  cases r with
  | str _ z=>exact k _ _ _ x ⟨rfl,z⟩
 | _=>cases hc
theorem RelD.ty {H:Hp}{v:V}{d:D}(r:RelD K H v d):TyS K H v (dk d):=by
 cases r with
 | non=>exact .non
 | bl=>exact .bl _
 | int=>exact .int _
 | str=>exact .str _
 | lst h=>exact .lst (.inl h)
 | tup h=>exact .tup h
 | dK h=>exact .dK h
theorem kit_all:∀ n∈["NoneType","bool","int","str","list","tuple","dict"],∀ T∈["str","list","tuple","bool","int","dict"],kitC n T=some (n == T || (T == "int" && n == "bool")):=by decide +kernel
theorem isK_ok {T:String}(hT:T∈["str","list","tuple","bool","int","dict"])(d:D):kitC (dk d) T=some (isK T d):=by
 unfold isK;exact kit_all (dk d) (by cases d<;>simp [dk]) T hT
theorem L4 {T:String}(hT:T∈["str","list","tuple","bool","int","dict"])(ea:EV K ta σ G md):EV K (tCB (rInst K) (AK ta (AK (tC (.ty T)) B7))) σ G (md.bind fun d=>some (isK T d)):=by
 clear 7;obtain ⟨a,ha,hc⟩:=qaA.mp hc;cases hc;clear 8 ea a ha;exact ⟨_,_,_,_,rfl,(RelD.ty r2).mono x2.gh,isK_ok hT a,k _ _ _ x2 rfl⟩
theorem RelDs.len {H:Hp}{xs:List V}{ds:List D}(r:RelDs K H xs ds):xs.length=ds.length:=Paired.length (EE r)
theorem Jb (ea:EV K ta σ G md):EV K (tCB (MZ K) (AK ta B7)) σ G (md.bind fun d=>NY d):=by
 clear 7;obtain ⟨a,ha,hc⟩:=qaA.mp hc;clear 8 ea a ha
 cases r2 with
 | str x z=>cases hc;exact ⟨z,k _ _ _ x2 rfl⟩
 | lst h z r=>cases hc;exact ⟨_,.inl (.inl (x2.gh.rd h)),by rw [r.len];exact k _ _ _ x2 rfl⟩
 | tup h z r=>cases hc;exact ⟨_,.inr (x2.gh.tup h),by rw [r.len];exact k _ _ _ x2 rfl⟩
 | _=>cases hc
theorem Iq {ib:Option Int}(ea:EV K ta σ G md)(eb:EV K tb σ G ib):EV K (tOp (rAt K) ta tb) σ G (md.bind fun d=>ib.bind fun i=>atD d i) :=
 C7 (fun s ra rb e Q k=>by
  cases rb
  cases ra with
  | str x z =>
   obtain ⟨c,hc,e⟩:=qaA.mp e;cases e;exact ⟨z,c,hc,k _ _ _ (.refl s) (.str _ (by show 1<=sizeLine;decide))⟩
  | lst h z r =>
   obtain ⟨v,hv,r⟩:=DN (EE r) e;exact .inl ⟨_,v,.inl (s.rd h),hv,k _ _ _ (.refl s) r⟩
  | tup h z r =>
   obtain ⟨v,hv,r⟩:=DN (EE r) e;exact .inr ⟨_,v,s.tup h,hv,k _ _ _ (.refl s) r⟩
  | _=>cases e) ea eb
theorem iw_any (ea:EV K ta σ G md):IW K (K4 K ta) σ G (md.bind fun d=>iterD d):=by
 intro G1 s1 a ha H sH R k;obtain ⟨b,hb,ha⟩:=qaA.mp ha;clear 8 ea b hb
 cases r2 with
 | str x z =>
  cases ha;exact k _ (Dr x) G2 H2 x2 (KG x G2) (by unfold Dr;rw [qfA];exact z) (toDs (HZ x G2))
 | lst h z r=>cases ha;exact .inl ⟨⟨_,.inl (x2.gh.rd h)⟩,k _ _ G2 H2 x2 (JF (.inl h)) z (EE r)⟩
 | tup h z r=>cases ha;exact .inr ⟨⟨_,x2.gh.tup h⟩,k _ _ G2 H2 x2 (KU h) z (EE r)⟩
 | _=>cases ha
theorem Ih {X:Cx}(h:X.K=K):CW X (.type "tuple") (fun xs H Q=>∃ p ys,xs=[.ref p]/\((SqL K H p ys/\∀ l,H l=none->Q (.ref l) (upd H l (.tup ys)))\/(SqT K H p ys/\Q (.ref p) H))):=h ▸ Ln
theorem KL {la:Option (List α)}(ea:EV K ta σ G la):EV K (tCB (fun xs H Q=>∃ p ys,xs=[.ref p]/\((SqL K H p ys/\∀ l,H l=none->Q (.ref l) (upd H l (.tup ys)))\/(SqT K H p ys/\Q (.ref p) H))) (AK ta B7)) σ G (la.bind fun a=>some (Tp.mk a)):=by
 clear 7;obtain ⟨a,ha,hc⟩:=qaA.mp hc;cases hc;clear 8 ea a ha;obtain ⟨l,xs,rfl,h,z,p⟩:=r2;refine ⟨l,xs,rfl,.inl ⟨.inl (x2.gh.rd h),fun q hq=>?_⟩⟩;exact k _ _ _ (x2.trans (.new x2.gh hq)) ⟨q,xs,rfl,SqT.of AH,z,Paired.imp' (fun _ _ r=>Rp.mono (Same.new (x2.gh.free hq)) r) p⟩
theorem ev_disp1 {x:Str}{m:Option α}(e:EV K te σ G m):EV K (tDisp [(tC (.str x),te)]) σ G (m.bind fun _=>some D.dic):=by
 clear 7;obtain ⟨a,ha,hc⟩:=qaA.mp hc;cases hc;intro p hp;have x0:Ext G1 H G1 (upd H p (.dK [])):=.own sH hp;refine e G1 s1 a ha _ x0.gh _ fun v G2 H2 x2 r2=>?_;have hg:G2 p=none:=x2.no p (sH.free hp) (by rw [AH];exact fun z=>nomatch z);refine ⟨x2.hh _ _ AH,[(Sum.inr x,v)],rfl,by show 1<=15;decide,?_⟩;have xt:=(x0.trans x2).put (o:=.dK (IX [] [(Sum.inr x,v)])) hp hg;exact k _ _ _ (xt.frz hp hg AH) (.dK (.inl AH))
end
def OK {α:Type}(m:Option α)(P:α->Prop):Prop:=∃ a,m=some a/\P a
section
variable {α β S ρ:Type}{m:Option α}{P Q:α->Prop}{R:β->Prop}
theorem OK.mono (h:OK m P)(k:∀ a,P a->Q a):OK m Q:=let ⟨a,e,p⟩:=h;⟨a,e,k a p⟩
theorem AB {a:α}(h:P a):OK (some a) P:=⟨a,rfl,h⟩
theorem AD {f:α->Option β}(h:OK m fun a=>OK (f a) R):OK (m.bind f) R:=by
 obtain ⟨a,rfl,h⟩:=h;exact h
theorem RA {f:α->Option β}(a:α)(e:m=some a)(h:OK (f a) R):OK (m.bind f) R:=AD ⟨a,e,h⟩
theorem GV {f:α->Option β}(h:OK m P)(k:∀ a,P a->OK (f a) R):OK (m.bind f) R:=AD (h.mono k)
theorem ok_bs {a:α}{f:α->Option β}(h:OK (f a) R):OK ((some a).bind f) R:=h
theorem Al {b:Bool}{x y:Option α}(h1:b=true->OK x P)(h2:b=false->OK y P):OK (cond b x y) P:=by
 cases b with
 | true=>exact h1 rfl
 | false=>exact h2 rfl
theorem OK.eq {a:α}(h:OK m fun b=>b=a):m=some a:=by obtain ⟨b,e,rfl⟩:=h;exact e
theorem OK.of {a:α}(e:m=some a)(h:P a):OK m P:=⟨a,e,h⟩
theorem AZ {α β:Type}(a:α)(f:α->Option β):(some a).bind f=f a:=by rw [Option.bind_some]
theorem AJ {α:Type}(m:Option α):(m.bind fun x=>some x)=m:=by cases m<;>rfl
theorem ok_mod {a b:Int}{P:Int->Prop}(hb:0<b)(h:P (a % b)):OK (SV a b) P:=⟨_,if_pos hb,h⟩
theorem ok_mul {a b:Int}{P:Int->Prop}(hb:CMul a b)(h:P (a * b)):OK (Na a b) P:=⟨_,if_pos hb,h⟩
theorem ok_catL {a b:List α}{P:List α->Prop}(hb:a.length+b.length<=sizeLine)(h:P (a++b)):OK (catL a b) P:=⟨_,if_pos hb,h⟩
theorem Jh {a:List α}{b:α}{P:List α->Prop}(hb:a.length<sizeLine)(h:P (a++[b])):OK (LB a b) P:=⟨_,if_pos hb,h⟩
theorem Jv {lo hi:Int}{n:Nat}{P:List Int->Prop}(hn:hi - lo=n)(h0:-1000000000<=lo/\lo<=1000000000)(h1:n<=sizeLine)(h:P ((List.range n).map fun (i:Nat)=>lo+(i:Int))):OK (Ob lo hi) P:=by
 have hs:sizeLine=16777216:=qpB;have e:(hi - lo).toNat=n:=by omega
 refine ⟨_,if_pos ⟨⟨by omega,by omega,by omega,by omega⟩,by omega⟩,?_⟩;rw [e];exact h
theorem P3 {a:List α}{i:Int}(h0:0<=i)(h1:i<a.length)(h:∀ x,a[i.toNat]? = some x->P x):OK (atI a i) P:=by
 obtain ⟨k,rfl⟩:=Int.eq_ofNat_of_zero_le h0;have hk:k<a.length:=by omega
 refine ⟨a[k],BJ (by simp [hk]),h _ ?_⟩;rw [qrB];simp [hk]
theorem ok_for {f:α->S->Option (Fl S ρ)}{as:List α}{s0:S}(I:Nat->S->Prop)(J:S->Prop)(R:ρ->Prop){P:Fl S ρ->Prop}(h0:I 0 s0)
  (hs:∀ (i:Nat) a s,as[i]? = some a->I i s->OK (f a s) fun fl=>match fl with | .nx s'=>I (i+1) s' | .bk s'=>J s' | .rt r=>R r)
  (hn:∀ s,I as.length s->P (.nx s)) (hj:∀ s,J s->P (.nx s)) (hr:∀ r,R r->P (.rt r)):OK (CV f as s0) P:=by
 have key:∀ (n i:Nat) (s:S),n=as.length - i->i<=as.length->I i s->OK (CV f (as.drop i) s) P:=by
  intro n
  induction n with
  | zero =>
   intro i s hn0 hi hI;have e:i=as.length:=by omega
   subst e;rw [List.drop_length];exact AB (hn s hI)
  | succ n ih =>
   intro i s hn0 hi hI;have hlt:i<as.length:=by omega
   rw [List.drop_eq_getElem_cons hlt];obtain ⟨fl,e,h⟩:=hs i as[i] s (by simp [hlt]) hI;show OK ((f as[i] s).bind _) P;rw [e]
   cases fl with
   | nx s'=>exact ih (i+1) s' (by omega) hlt h
   | bk s'=>exact AB (hj s' h)
   | rt r=>exact AB (hr r h)
 exact key as.length 0 s0 (by omega) (qkC _) h0
theorem FB {f:α->S->Option (Fl S ρ)}{as:List α}{s0:S}(I:Nat->S->Prop){P:Fl S ρ->Prop}(h0:I 0 s0)
  (hs:∀ (i:Nat) a s,as[i]? = some a->I i s->OK (f a s) fun fl=>∃ s',fl = .nx s'/\I (i+1) s') (hn:∀ s,I as.length s->P (.nx s)):OK (CV f as s0) P :=
 ok_for I (fun _=>False) (fun _=>False) h0 (fun i a s ha hI=>(hs i a s ha hI).mono fun fl ⟨s',e,h⟩=>by subst e;exact h) hn (fun _ h=>h.elim) fun _ h=>h.elim
theorem P1 {c:S->Option Bool}{f:S->Option (Fl S ρ)}{s0:S}(I:S->Prop)(J:S->Prop)(R:ρ->Prop)(μ:S->Nat){P:Fl S ρ->Prop}(h0:I s0)(hμ:μ s0<1000000)
  (hs:∀ s,I s->OK (c s) fun b=>if b=true then OK (f s) fun fl=>match fl with | .nx s'=>I s'/\μ s'<μ s | .bk s'=>J s' | .rt r=>R r else P (.nx s))
  (hj:∀ s,J s->P (.nx s)) (hr:∀ r,R r->P (.rt r)):OK (Gq c f RD s0) P:=by
 have key:∀ (n:Nat) (s:S),μ s<n->I s->OK (Gq c f n s) P:=by
  intro n
  induction n with
  | zero=>intro s h;exact absurd h (Nat.not_lt_zero _)
  | succ n ih =>
   intro s hlt hI;obtain ⟨b,e,h⟩:=hs s hI;show OK ((c s).bind _) P;rw [e]
   cases b with
   | false =>
    rw [if_neg quB] at h;exact AB h
   | true =>
    rw [if_pos rfl] at h;obtain ⟨fl,e2,h⟩:=h;show OK ((f s).bind _) P;rw [e2]
    cases fl with
    | nx s'=>exact ih s' (by have:=h.2;omega) h.1
    | bk s'=>exact AB (hj s' h)
    | rt r=>exact AB (hr r h)
 exact key RD s0 (by unfold RD;omega) h0
theorem Qu {f:α->Option β}{g:α->β}{P:List β->Prop}:∀ {as:List α},(∀ a∈as,f a=some (g a))->P (as.map g)->OK (F0 f as) P:=by
 intro as
 have key:∀ as:List α,(∀ a∈as,f a=some (g a))->F0 f as=some (as.map g):=by
  intro as
  induction as with
  | nil=>intro _;rfl
  | cons a r ih =>
   intro h;show ((f a).bind fun y=>(F0 f r).bind fun ys=>some (y::ys))=_;rw [h a qrA,ih fun x hx=>h x (qsA _ hx)]
   rfl
 exact fun h p=>⟨_,key as h,p⟩
theorem Jt {fc:α->Option Bool}{fe:α->Option β}{c:α->Bool}{g:α->β}{P:List β->Prop}{as:List α}(hc:∀ a∈as,fc a=some (c a))(he:∀ a∈as,c a=true->fe a=some (g a))(p:P ((as.filter c).map g)):OK (Cm fc fe as) P:=by
 have key:∀ as:List α,(∀ a∈as,fc a=some (c a))->(∀ a∈as,c a=true->fe a=some (g a))->Cm fc fe as=some ((as.filter c).map g):=by
  intro as
  induction as with
  | nil=>intro _ _;rfl
  | cons a r ih =>
   intro h1 h2;have i:=ih (fun x hx=>h1 x (qsA _ hx)) fun x hx=>h2 x (qsA _ hx);show ((fc a).bind fun b=>cond b ((fe a).bind fun y=>(Cm fc fe r).bind fun ys=>some (y::ys)) (Cm fc fe r))=_;rw [h1 a qrA,i]
   cases hb:c a with
   | true =>
    show ((fe a).bind fun y=>_)=_;rw [h2 a qrA hb];simp [hb]
   | false=>simp [hb]
 exact ⟨_,key as hc he,p⟩
end
end L2
namespace Lasso
variable {α β:Type}
end Lasso
namespace Lasso
variable {α:Type}[DecidableEq α]
end Lasso
namespace L2
open PySem PySem.Spec PyProof.Rows
section
variable {K:FZ9}{σ:St}{G H G1 H1 G0 H0:Hp}{α β:Type}[Rp α][Rp β]{te ti:TE}{tt:TT}{t u rest:TS}{D:Ends}{i j:Nat}{a:α}{m:Option α}{as:List α}{v:V}{p q:Addr}{vs:List V}
def era (H:Hp)(C:List Addr):Hp:=fun a=>if a∈C then none else H a
theorem N9 {C:List Addr}{b:Addr}(h:b∈C):era H C b=none:=if_pos h
theorem Jf {C:List Addr}{b:Addr}(h:b ∉ C):era H C b=H b:=if_neg h
theorem era_same {C:List Addr}:Same (era H C) H:=fun b o e=>by
 by_cases h:b∈C
 ·rw [N9 h] at e;cases e
 ·rw [Jf h] at e;exact e
theorem Ext.begin {C:List Addr}(s:Same G H):Ext G (era H C) G H:=⟨.refl _,s,era_same,fun _ h _=>h⟩
theorem Ext.past {C:List Addr}(x:Ext G0 H0 G H)(h0:∀ b∈C,H0 b=none)(y:Ext G (era H C) G1 H1):Ext G0 H0 G1 H1:=by
 refine ⟨x.gg.trans y.gg,y.gh,fun b o e=>?_,fun b g h=>?_⟩
 ·have hb:b ∉ C:=fun hc=>by
   rw [h0 b hc] at e;cases e
  exact y.hh b o (by rw [Jf hb];exact x.hh b o e)
 ·have hb:b ∉ C:=fun hc=>h (h0 b hc);refine y.no b (x.no b g h) ?_;rw [Jf hb]
  cases e:H0 b with
  | none=>exact absurd e h
  | some o =>
   rw [x.hh b o e];exact fun z=>nomatch z
end
inductive Nt where
 | txt (x:Str)
 | tup (l:List Nt)
 | int (n:Int)
mutual
def Nt.dec:(a b:Nt)->Decidable (a=b)
 | .txt x,.txt y=>if h:x=y then .isTrue (by rw [h]) else .isFalse fun e=>h (by cases e;rfl)
 | .txt _,.tup _=>.isFalse fun e=>by cases e
 | .tup _,.txt _=>.isFalse fun e=>by cases e
 | .int m,.int n=>if h:m=n then .isTrue (by rw [h]) else .isFalse fun e=>h (by cases e;rfl)
 | .int _,.txt _=>.isFalse fun e=>by cases e
 | .int _,.tup _=>.isFalse fun e=>by cases e
 | .txt _,.int _=>.isFalse fun e=>by cases e
 | .tup _,.int _=>.isFalse fun e=>by cases e
 | .tup l,.tup m=>match Nt.decs l m with
  | .isTrue h=>.isTrue (by rw [h])
  | .isFalse h=>.isFalse fun e=>h (by cases e;rfl)
def Nt.decs:(l m:List Nt)->Decidable (l=m)
 | [],[]=>.isTrue rfl
 | [],_::_=>.isFalse fun e=>by cases e
 | _::_,[]=>.isFalse fun e=>by cases e
 | a::l,b::m=>match Nt.dec a b with
  | .isFalse h=>.isFalse fun e=>h (by cases e;rfl)
  | .isTrue h=>match Nt.decs l m with
   | .isTrue h2=>.isTrue (by rw [h,h2])
   | .isFalse h2=>.isFalse fun e=>h2 (by cases e;rfl)
end
mutual
def Nt.dep:Nt->Nat
 | .txt _=>0
 | .int _=>0
 | .tup l=>Nt.deps l+1
def Nt.deps:List Nt->Nat
 | []=>0
 | a::l=>max (Nt.dep a) (Nt.deps l)
end
mutual
inductive RelN (K:FZ9)(H:Hp):V->Nt->Prop where
 | txt (x:Str) (z:x.length<=sizeLine):RelN K H (.str x) (.txt x)
 | int (n:Int):RelN K H (.int n) (.int n)
 | tup {a:Addr}{xs:List V}{ds:List Nt}(h:SqT K H a xs) (z:xs.length<=sizeLine) (r:RelNs K H xs ds) (l:ds[0]? = some (.txt "lamp")->H a=some (.tup xs)):RelN K H (.ref a) (.tup ds)
inductive RelNs (K:FZ9)(H:Hp):List V->List Nt->Prop where
 | nil:RelNs K H [] []
 | cons {x:V}{d:Nt}{xs:List V}{ds:List Nt}(h:RelN K H x d) (t:RelNs K H xs ds):RelNs K H (x::xs) (d::ds)
end
mutual
theorem RelN.mono {K:FZ9}{H H':Hp}(s:Same H H'):∀ {v:V}{d:Nt},RelN K H v d->RelN K H' v d
 | _,_,.txt x z=>.txt x z
 | _,_,.int n=>.int n
 | _,_,.tup h z r l=>.tup (s.tup h) z (RelNs.mono s r) fun e=>s _ _ (l e)
theorem RelNs.mono {K:FZ9}{H H':Hp}(s:Same H H'):∀ {v:List V}{d:List Nt},RelNs K H v d->RelNs K H' v d
 | _,_,.nil=>.nil
 | _,_,.cons h t=>.cons (RelN.mono s h) (RelNs.mono s t)
end
instance rpN:Rp Nt:=⟨RelN,fun s h=>RelN.mono s h⟩
theorem PP {K:FZ9}{H:Hp}:∀ {xs:List V}{ds:List Nt},Paired (Rp.rel K H) xs ds->RelNs K H xs ds
 | _,_,.nil=>.nil
 | _,_,.cons h t=>.cons h (PP t)
theorem Pa {K:FZ9}{H:Hp}:∀ {xs:List V}{ds:List Nt},RelNs K H xs ds->Paired (Rp.rel K H) xs ds
 | _,_,.nil=>.nil
 | _,_,.cons h t=>.cons h (Pa t)
theorem SqT.keep {K:FZ9}{H H':Hp}{a:Addr}{xs:List V}(s:TupK H H')(h:SqT K H a xs):SqT K H' a xs:=by
 rcases h with h|h
 ·exact .inl (s.rd _ _ h)
 ·exact .inr h
mutual
theorem RelN.keep {K:FZ9}{H H':Hp}(s:TupK H H'):∀ {v:V}{d:Nt},RelN K H v d->RelN K H' v d
 | _,_,.txt x z=>.txt x z
 | _,_,.int n=>.int n
 | _,_,.tup h z r l=>.tup (SqT.keep s h) z (RelNs.keep s r) fun e=>s.eq _ _ (l e)
theorem RelNs.keep {K:FZ9}{H H':Hp}(s:TupK H H'):∀ {v:List V}{d:List Nt},RelNs K H v d->RelNs K H' v d
 | _,_,.nil=>.nil
 | _,_,.cons h t=>.cons (RelN.keep s h) (RelNs.keep s t)
end
instance imN:Imm Nt:=⟨fun s h=>RelN.keep s h⟩
def isTxt:Hp->V->Nt->Prop:=fun _ v a=>(∃ x,v = .str x/\a = .txt x)\/∃ n,v = .int n/\a = .int n
def isU (K:FZ9)(R:Hp->V->Nt->Prop):Hp->V->Nt->Prop:=fun H v a=>isTxt H v a\/∃ t xs l,v = .ref t/\SqT K H t xs/\a = .tup l/\Paired (R H) xs l
section
variable {K:FZ9}{σ:St}{G:Hp}{ta tb te:TE}{m1 m2 md:Option Nt}
theorem Ai {m:Option Str}(e:EV K te σ G m):EV K te σ G (m.bind fun x=>some (Nt.txt x)):=by
 clear 7;obtain ⟨x,hx,hc⟩:=qaA.mp hc;cases hc;exact e G1 s1 x hx H sH Q fun v G2 H2 x2 ⟨e,z⟩=>k v G2 H2 x2 (by subst e;exact .txt _ z)
def D8:Nt->Option Str
 | .txt x=>some x
 | _=>none
def Bq:Nt->Option (Tp Nt)
 | .tup l=>some ⟨l⟩
 | _=>none
theorem Eo (e:EV K te σ G md):EV K te σ G (md.bind fun d=>D8 d):=by
 clear 7;obtain ⟨d,hd,hc⟩:=qaA.mp hc;refine e G1 s1 d hd H sH Q fun v G2 H2 x r=>?_
 cases r with
 | txt y z =>
  cases hc;exact k _ _ _ x ⟨rfl,z⟩
 | int n=>cases hc
 | tup h z r l=>cases hc
theorem Bi (e:EV K te σ G md):EV K te σ G (md.bind fun d=>Bq d):=by
 clear 7;obtain ⟨d,hd,hc⟩:=qaA.mp hc;refine e G1 s1 d hd H sH Q fun v G2 H2 x r=>?_
 cases r with
 | txt y z=>cases hc
 | int n=>cases hc
 | tup h z r l =>
  cases hc;exact k _ _ _ x ⟨_,_,rfl,h,z,Pa r⟩
end
section
variable {X:Cx}{K:FZ9}
theorem N3 (h:X.K=K):SlR X (rSlT K):=h ▸ sl_tup
theorem op_inK (h:X.K=K):OpR X (compareOp .In) (rIn K false):=h ▸ SZ
end
section
variable {K:FZ9}{σ:St}{G:Hp}{α:Type}[Rp α]{ta tb tc te:TE}{t1 t2:TO}{ia ib ic:Option Int}{m1 m2:Option (Option Int)}
def JC {α:Type}(l:List α)(lo hi:Option Int):Option (Tp α):=if ¬ (HT.sIx l.length 0 lo=0/\HT.sIx l.length l.length hi=l.length) then some ⟨cutA l lo hi⟩ else none
theorem IM {ma:Option (Tp α)}(ea:EV K ta σ G ma)(e1:OV t1 σ G m1)(e2:OV t2 σ G m2):EV K (tSl (rSlT K) ta t1 t2) σ G (ma.bind fun a=>m1.bind fun lo=>m2.bind fun hi=>JC a.l lo hi):=by
 clear 7;obtain ⟨a,ha,hc⟩:=qaA.mp hc;obtain ⟨lo,hlo,hc⟩:=qaA.mp hc;obtain ⟨hi,hhi,hc⟩:=qaA.mp hc;obtain ⟨hw,rfl⟩:=B4 hc;clear 8 ea a ha;refine e1 G2 (s1.trans x2.gg) lo hlo H2 x2.gh _ fun G3 H3 x3=>?_;refine e2 G3 (s1.trans (x2.trans x3).gg) hi hhi H3 x3.gh _ fun G4 H4 x4=>?_;obtain ⟨l,xs,rfl,h,z,p⟩:=Rp.mono (x3.trans x4).gg r2;have hl:=Paired.length p;refine ⟨l,xs,rfl,x4.gh.tup h,by rw [hl];exact hw,fun q hq=>?_⟩;have hg:G4 q=none:=x4.gh.free hq;refine k _ (upd G4 q (.tup (Qc xs lo hi))) _ (((x2.trans x3).trans x4).trans ⟨Same.new hg,fun b o e=>?_,Same.new hq,fun b h1 h2=>?_⟩) ⟨q,_,rfl,.inl (.inl AH),qhB (JS _ _ _) z,Paired.imp' (fun _ _ r=>Rp.mono (Same.new hg) r) (Paired.cut p lo hi)⟩
 ·by_cases hb:b=q
  ·subst hb;rw [AH] at e ⊢;exact e
  ·rw [Ag hb] at e ⊢;exact x4.gh b o e
 ·have hb:b≠q:=fun e=>h2 (by rw [e];exact hq);rw [Ag hb];exact h1
class Flat (α:Type) [Rp α] [DecidableEq α]:Prop where
 fl:∀ {K:FZ9}{H:Hp}{v:V}{a:α},Rp.rel K H v a->GX v=true
 eq:∀ {K:FZ9}{H H':Hp}{v u:V}{a b:α},Rp.rel K H v a->Rp.rel K H' u b->eqV v u=decide (a=b)
instance flInt:Flat Int:=⟨fun h=>by cases h;rfl,fun h h'=>by cases h;cases h';exact FK _ _⟩
theorem PD [DecidableEq α][Flat α]{H:Hp}:∀ {xs:List V}{as:List α},Paired (Rp.rel K H) xs as->xs.all GX=true
 | _,_,.nil=>rfl
 | _,_,.cons h t=>by rw [List.all_cons,Flat.fl h,PD t];rfl
theorem RJ [DecidableEq α][Flat α]{H H':Hp}{v:V}{a:α}(hv:Rp.rel K H' v a):∀ {xs:List V}{as:List α},Paired (Rp.rel K H) xs as->inV v xs=decide (a∈as)
 | _,_,.nil=>by simp [inV]
 | _,_,.cons (b:=b) h t=>by
  have ih:=RJ hv t;unfold inV at ih ⊢;rw [List.any_cons,ih,Flat.eq h hv];apply Bool.eq_iff_iff.mpr;simp only [Bool.or_eq_true,decide_eq_true_iff,qnA];exact ⟨fun h=>h.imp Eq.symm id,fun h=>h.imp Eq.symm id⟩
theorem ev_inT [DecidableEq α][Flat α]{ma:Option α}{ml:Option (Tp α)}(ea:EV K ta σ G ma)(eb:EV K tb σ G ml):EV K (tOp (rIn K false) ta tb) σ G (ma.bind fun a=>ml.bind fun l=>some (decide (a∈l.l))) :=
 C7 (fun s ra rb e Q k=>by
  cases e;obtain ⟨l,xs,rfl,h,z,p⟩:=rb
  exact ⟨l,xs,rfl,.inr (s.tup h),Flat.fl ra,PD p,by rw [if_neg quB,RJ ra p];exact k _ _ _ (.refl s) rfl⟩) ea eb
end
mutual
def Nt.toD:Nt->D
 | .txt x=>.str x
 | .int n=>.int n
 | .tup l=>.tup (Nt.toDs l)
def Nt.toDs:List Nt->List D
 | []=>[]
 | a::l=>Nt.toD a::Nt.toDs l
end
mutual
theorem RelN.toD {K:FZ9}{H:Hp}:∀ {v:V}{a:Nt},RelN K H v a->RelD K H v a.toD
 | _,_,.txt x z=>by unfold Nt.toD;exact .str x z
 | _,_,.int n=>by unfold Nt.toD;exact .int n
 | _,_,.tup h z r _=>by unfold Nt.toD;exact .tup h z (RelNs.toD r)
theorem RelNs.toD {K:FZ9}{H:Hp}:∀ {xs:List V}{l:List Nt},RelNs K H xs l->RelDs K H xs (Nt.toDs l)
 | _,_,.nil=>by unfold Nt.toDs;exact .nil
 | _,_,.cons h t=>by unfold Nt.toDs;exact .cons (RelN.toD h) (RelNs.toD t)
end
instance tdN:ToD Nt:=⟨Nt.toD,fun h=>RelN.toD h⟩
theorem Cw {X:Cx}{x:Str}{a:Addr}{pos:Pos}(hg:Gl X x)(h:X.mg x=some (.ref a))(hd:(x == ("__debug__" : Str))=false:=by decide):PE X (.Name x pos) (tC (.ref a)) :=
 Dj (u:=.ref a) hg h rfl hd
theorem rel_tup1 {K:FZ9}{a:Addr}{od:Option Addr}{n:Nat}{osl:Array (Option Value)}{x:Str}{t:Tok}(h:K.lookup a=some ⟨.type "tuple",od,.seq #[.str x t] n,osl⟩)(z:x.length<=sizeLine)(G:Hp)(hx:x ≠ "lamp" := by decide +kernel) :
  Rp.rel K G (.ref a) (Nt.tup [Nt.txt x]) :=
 RelN.tup (xs:=[.str x]) (.inr ⟨_,_,_,h,rfl,rfl,(by show 1<=sizeLine;decide),.cons ⟨t,rfl⟩ .nil⟩) (by show 1<=sizeLine;decide) (.cons (.txt x z) .nil) fun e=>absurd (Nt.txt.inj (qkB e)) hx
section
variable {K:FZ9}{σ:St}{G:Hp}{ta:TE}
theorem Ad {t:TA}{n:Nat}{ml:Option (List Nt)}(e:LV K t σ G n ml)(z:n<=sizeLine:=by decide):EV K (JY t) σ G (ml.bind fun l=>some (Nt.tup l)) :=
 fun G1 s1 c hc H sH Q k=>by
  obtain ⟨l,hl,hc⟩:=qaA.mp hc;cases hc;refine e G1 s1 l hl H sH _ fun vs G2 H2 x2 hl hp=>⟨by omega,fun p h=>?_⟩;exact k _ _ _ (x2.trans (.new x2.gh h)) (.tup (SqT.of AH) (by omega) (PP (Paired.imp' (fun _ _ r=>Rp.mono (Same.new (x2.gh.free h)) r) hp)) fun _=>AH)
end
theorem Inv.turned2 {X:Cx}{pins:List (Addr × Obj)}{σ:List (Option V)}{H:Hp}{s:Shared}{h':Heap}{t':Nat}{e it:Addr}(I:Inv X pins σ H s)(k:∀ b o,b≠e->b≠it->s.heap.get? b=some o->h'.get? b=some o)(fe:Ft X pins H e)(fi:Ft X pins H it) :
  Inv X pins σ H { s with heap:=h',toks:=t' }:=by
 have nit:∀ b u,H b=some u->b≠e/\b≠it:=fun b u q=>⟨fun z=>(by rw [z,fe.1] at q;cases q),fun z=>(by rw [z,fi.1] at q;cases q)⟩;have nm:∀ b,b ∉ [e,it]->b≠e/\b≠it:=fun b hb=>⟨fun z=>hb (by simp [z]),fun z=>hb (by simp [z])⟩
 refine I.step (g':=s.gens) (d':=s.drawn) (ch:=[e,it]) (fun b hb=>?_) (fun b o _ _ hc q _=>k b o (nm b hc).1 (nm b hc).2 q) (fun b o _ _ hc q _=>⟨o.slots,k b o (nm b hc).1 (nm b hc).2 q⟩) (fun _ _ _ _ n=>n)
  (fun b o hc q=>⟨o,k b o (nm b hc).1 (nm b hc).2 q⟩) (fun _ _ q=>q) (fun _ _ _ q=>q) (fun b ps q=>⟨#[],by rw [q];simp⟩) (fun m hm=>?_) (fun b u q=>?_) I.bare
 ·simp only [qnA,qeC,or_false] at hb;rcases hb with z|z
  ·subst z;exact ⟨fe.2.2.2.1,fe.2.1,fe.2.2.2.2.1,fe.2.2.2.2.2⟩
  ·subst z;exact ⟨fi.2.2.2.1,fi.2.1,fi.2.2.2.2.1,fi.2.2.2.2.2⟩
 ·obtain ⟨o,es,ep,ho,r⟩:=hm;exact ⟨o,es,ep,k _ o (Ne.symm fe.2.1) (Ne.symm fi.2.1) ho,r⟩
 ·refine (I.hok b u q).stay (fun c v hc z=>?_) (fun _ z=>z) fun _ _ z=>z;rcases hc with y|y
  ·rw [y] at z ⊢;exact k b v (nit b u q).1 (nit b u q).2 z
  ·exact k c v (nit c _ y).1 (nit c _ y).2 z
def Itn (K:FZ9)(a:Addr):It :=
 ⟨fun i H=>∃ xs x,SqL K H a xs/\xs[i]? = some x,fun i H x H'=>∃ t v,x = .ref t/\H t=none/\H'=upd H t (.tup [.int i,v])/\∀ xs,SqL K H a xs->xs[i]? = some v,fun i H=>∃ xs,SqL K H a xs/\xs.length<=i⟩
theorem T0 {P:Program}{w:World}{K:FZ9}{elts:List Expr}{x1:_}{pos:Pos}(a e it:Addr)(ne:e≠it):Turn P w K (.Tuple elts x1 pos) (Itn K a) [e,it] e (fun i h=>(∃ old,IsEnum h e it i old)/\h.IsListIter it a i) where
 mem:=by simp
 obj:=fun i h st b hb=>by
  obtain ⟨⟨old,he⟩,o,q,c,d⟩:=st;simp only [qnA,qeC,or_false] at hb;rcases hb with z|z
  ·subst z
   exact ⟨_,he,fun v z=>by
    have z':Data.fields _=Data.cell v:=z
    cases z'⟩
  ·subst z;exact ⟨o,q,fun v z=>by rw [d] at z;cases z⟩
 keep:=fun i h h' st k=>⟨let ⟨old,he⟩:=st.1;⟨old,k e (by simp) _ he⟩,st.2.at fun o q=>k it (by simp) o q⟩
 item:=by
  intro X hP hw hK hc i pins s σ H E I hf st hg;subst hP hw hK;obtain ⟨⟨old,he⟩,hit⟩:=st;obtain ⟨xs,x,hq,hx⟩:=hg;obtain ⟨its,rv,p,hz⟩:=I.list hq;obtain ⟨u,hu,ru⟩:=rv.get hx;have fe:=hf e (by simp);have fi:=hf it (by simp);refine wpAny_pyNext_enum_item he hit p.isList (x:=u) (by simpa using hu) ne fun h1 heo hit1 ht1 hz1 hk1=>?_;refine ⟨_,rfl,wpAny_letOwnedTupleGo_enum heo fun h2 he2 hs2=>?_⟩;replace hs2:Heap.SameBut e h1 h2:=hs2;have heH:e<s.heap.objs.size:=qmB he;have hiH:it<s.heap.objs.size:=by obtain ⟨o,q,_⟩:=hit;exact qmB q
  have ht2:h2.get? s.heap.objs.size=some { cls:=.type "tuple",data:=.seq #[.int i s.toks,u] }:=(hs2.2 _ (qmC heH)).trans ht1
  have I1:Inv X pins σ (upd H s.heap.objs.size (.tup [.int i,x])) { s with heap:=s.heap.push { cls:=.type "tuple",data:=.seq #[.int i s.toks,u] },toks:=s.toks } :=
   I.laid (fun b ob q=>qnB _ q) (qgB _) ⟨by show 2<=sizeLine;decide,[.int i s.toks,u],.cons ⟨_,rfl⟩ (.cons ru .nil),IsTup.new _ _⟩
  have fre:∀ b,b∈[e,it]->b≠s.heap.objs.size:=fun b hb=>by
   simp only [qnA,qeC,or_false] at hb;rcases hb with z|z
   ·rw [z];exact qdC heH
   ·rw [z];exact qdC hiH
  have fn:∀ b∈[e,it],Ft X pins (upd H s.heap.objs.size (.tup [.int i,x])) b:=fun b hb=>⟨by rw [Ag (fre b hb)];exact (hf b hb).1,(hf b hb).2⟩
  have I2:Inv X pins σ (upd H s.heap.objs.size (.tup [.int i,x])) { s with heap:=h2,toks:=s.toks+1 }:=I1.turned2 (h':=h2) (t':=s.toks+1) (fun b o h1' h2' q=>by
   replace q:(s.heap.push { cls:=.type "tuple",data:=.seq #[.int i s.toks,u] }).get? b=some o:=q;by_cases hb:b=s.heap.objs.size
   ·rw [hb] at q ⊢;rw [qoB _ rfl] at q;rw [ht2];exact q
   ·have q':s.heap.get? b=some o:=by rw [<- q];exact (Heap.get?_push_ne _ _ _ hb).symm
    exact (hs2.2 _ h1').trans (hk1 b o h1' h2' q')) (fn e (by simp)) (fn it (by simp))
  refine ⟨.ref s.heap.objs.size,_,I2,rfl,⟨_,x,rfl,I.hok.fresh (qgB _),rfl,fun ys hy=>by rw [I.list_inj hy hq];exact hx⟩,⟨⟨u,?_⟩,?_⟩,fun b hb=>(fn b hb).1⟩
  ·have:((i+1:Nat):Int)=(i:Int)+1:=by omega
   rw [this];exact he2
  ·exact hit1.extBut hs2.extBut (Ne.symm ne)
 done:=by
  intro X hP hw hK hc i pins s σ H E I hf st hg;subst hP hw hK;obtain ⟨⟨old,he⟩,hit⟩:=st;obtain ⟨xs,hq,hx⟩:=hg;obtain ⟨its,rv,p,hz⟩:=I.list hq;obtain ⟨f0,f1,f2,f3,f4,f5⟩:=hf it (by simp);have hl:=rv.length;exact wpAny_pyNext_enum_end (I.ok.hd hc) he hit p.isList (by simp;omega) fun h' eb=>⟨rfl,I.turned (t':=s.toks) (fun b o hb q=>eb b o hb q) f0 f1 f3 f4 f5⟩
 self:=fun _ _ _ _ _ st h=>by
  obtain ⟨⟨old,he⟩,_⟩:=st;exact wpAny_pyIter_enum he h
def iEnum (K:FZ9)(ta:TA):TI:=fun σ H R=>ta σ H fun vs H1=>∃ a,vs=[.ref a]/\(∃ xs,SqL K H1 a xs)/\R (Itn K a) H1
theorem Jp {X:Cx}{K:FZ9}{elts:List Expr}{x1:_}{tp:Pos}{a:Expr}{ta:TA}{p pos:Pos}(hK:X.K=K)(hg:Gl X "enumerate")(hm:X.mg "enumerate" = none)(ha:PA X [a] ta)(hs:starEach [a] X.env=[(false,eval a X.env)]:=by rfl) :
  PI X (.Tuple elts x1 tp) (.Call (.Name "enumerate" p) [a] [] pos) (iEnum K ta):=by
 subst hK;intro pins s σ H R I h;refine Call_ (HG I hg hm boot_enumerate (PyProof.Rows.callWith_type1 (thn (ha pos pins s σ H _ I h) fun us s1 ⟨vs,H1,I1,r1,q1⟩=>?_) hs rfl));obtain ⟨l,e,⟨xs,hq⟩,q⟩:=q1;subst e
 cases r1 with
 | cons r rr =>
  cases rr;cases r;obtain ⟨its,rv,pl,hz⟩:=I1.list hq;refine call_enumerate_list pl.isList fun h' he hit hz' hk=>?_;refine wpAny_pyIter_enum (s:={ s1 with heap:=h' }) he ?_;have I2:Inv X pins σ H1 { s1 with heap:=h' }:=I1.kept (t':=s1.toks) hk;refine ⟨s1.heap.objs.size+1,[s1.heap.objs.size+1,s1.heap.objs.size],_,_,H1,rfl,I2,T0 l (s1.heap.objs.size+1) s1.heap.objs.size (qmC (Nat.lt_succ_self _)),⟨⟨_,he⟩,hit⟩,fun b hb=>?_,q⟩;simp only [qnA,qeC,or_false] at hb;rcases hb with z|z
  ·subst z;exact I1.fpOk (by omega) (I1.hok.fresh (by omega))
  ·subst z;exact I1.fpOk (qgB _) (I1.hok.fresh (qgB _))
def BE {α:Type}:Nat->List α->List (Int × α)
 | _,[]=>[]
 | n,a::l=>((n:Int),a)::BE (n+1) l
theorem DK {α:Type}:∀ (l:List α) (n i:Nat),(BE n l)[i]? = (l[i]?).map fun a=>(((n+i:Nat):Int),a)
 | [],n,i=>by simp [BE]
 | a::l,n,0=>by simp [BE]
 | a::l,n,i+1=>by
  show (BE (n+1) l)[i]? = _;rw [DK l (n+1) i];have:n+1+i=n+(i+1):=by omega
  rw [this]
  rfl
theorem Cv {α:Type}:∀ (l:List α) (n:Nat),(BE n l).length=l.length
 | [],_=>rfl
 | a::l,n=>by show (BE (n+1) l).length+1=_;rw [Cv l (n+1)];rfl
section
variable {K:FZ9}{σ:St}{G H:Hp}{α β γ:Type}[Rp α][Rp β][Rp γ]{ta tb te:TE}{rest:TS}{D:Ends}{i j:Nat}
def IE (K:FZ9){α:Type}[Rp α](wi:TI)(σ:St)(G:Hp)(m:Option (List α)):Prop :=
 ∀ G1,Same G G1->∀ a,m=some a->∀ H,Same G1 H->∀ R:It->Hp->Prop,(∀ l vs G2 H2,Ext G1 H G2 H2->Rd G2 l (.lst vs)->Paired (Rp.rel K G2) vs a->R (Itn K l) H2)->wi σ H R
theorem ie_list {la:Option (List α)}(ea:EV K ta σ G la):IE K (iEnum K (AK ta B7)) σ G la:=by
 intro G1 s1 a ha H sH R k;clear 8 ea a ha;obtain ⟨l,xs,rfl,h,z,p⟩:=r2;exact ⟨l,rfl,⟨xs,.inl (x2.gh.rd h)⟩,k l xs G2 H2 x2 h p⟩
structure LoopObE (K:FZ9){α S ρ:Type}[Rp α](RR:ρ->V->Hp->Hp->Prop)(f:Int × α->S->Option (Fl S ρ))(g:TG)(tb:TS)(D:Ends)(σ:St)(G2 H2:Hp)(s0:S)(res:Fl S ρ)(RS:S->St->Hp->Hp->Prop):Prop where
 start:RS s0 σ G2 H2
 keep:∀ s σ' G' H',RS s σ' G' H'->Same G2 G'/\Same G' H'
 step:∀ (x:V) (t:Addr) (a:Int × α) (s:S) (σ1:St) (G1 H1:Hp) (fl:Fl S ρ),RS s σ1 G1 H1->H1 t=none->Rp.rel K G1 x a.2->f a s=some fl->∀ D':Ends,(∀ s' σ' G' H',fl = .nx s'->RS s' σ' G' H'->D'.nx σ' H')->(∀ s' σ' G' H',fl = .nx s'->RS s' σ' G' H'->D'.ct σ' H') ->
  (∀ s' σ' G' H',fl = .bk s'->RS s' σ' G' H'->D'.bk σ' H')->(∀ r v G' H',fl = .rt r->RR r v G' H'->D'.rt v H')->g (.ref t) σ1 (upd H1 t (.tup [.int a.1,x])) fun σ2 H2=>tb D' σ2 H2
 nxt:∀ s σ' G' H',res = .nx s->RS s σ' G' H'->D.nx σ' H'
 rtn:∀ r v G' H',res = .rt r->RR r v G' H'->D.rt v H'
theorem sv_forE {S ρ:Type}{RR:ρ->V->Hp->Hp->Prop}{f:Int × α->S->Option (Fl S ρ)}{wi:TI}{g:TG}{tb:TS}{mi:Option (List α)}{as:List α}{s0:S}{res:Fl S ρ}(ei:IE K wi σ G mi)(hm:mi=some as)(hf:CV f (BE 0 as) s0=some res)(sg:Same G H)
  (k:∀ G2 H2,Ext G H G2 H2->∃ RS,LoopObE K RR f g tb { D with nx:=rest D } σ G2 H2 s0 res RS):Bz (tFor wi g tb) rest D σ H:=by
 refine ei G (.refl G) as hm H sg _ fun l vs G2 H2 x2 hl pr=>?_;obtain ⟨RS,L⟩:=k G2 H2 x2;have hla:=Paired.length pr;have hle:=Cv as 0;refine ⟨fun i m σ' H'=>m=vs.length - i/\i<=vs.length/\∃ s G',RS s σ' G' H'/\CV f ((BE 0 as).drop i) s=some res,⟨vs.length,by simp,qkC _,s0,G2,L.start,hf⟩,?_⟩;rintro i m σ' H' ⟨rfl,hi,s,G',rs,hfo⟩;obtain ⟨k1,k2⟩:=L.keep _ _ _ _ rs;have hlH:SqL K H' l vs:=.inl ((k1.trans k2).rd hl);by_cases hlt:i<vs.length
 ·refine .inr ⟨⟨vs,vs[i],hlH,by simp [hlt]⟩,fun σ'' H''=>∃ s' G'',RS s' σ'' G'' H''/\CV f ((BE 0 as).drop (i+1)) s'=some res,fun σ'' H'' ⟨s',G'',h⟩=>⟨vs.length - (i+1),by omega,rfl,hlt,s',G'',h⟩,fun x H3 y=>?_⟩;obtain ⟨t,v,rfl,ht,rfl,hv⟩:=y;obtain ⟨a,hai,ra⟩:=Paired.getR pr (hv vs hlH);have hge:(BE 0 as)[i]? = some ((i:Int),a):=by rw [DK,hai];simp
  have hd:(BE 0 as).drop i=((i:Int),a)::(BE 0 as).drop (i+1):=by
   obtain ⟨h1,h2⟩:=qvA.mp hge;rw [List.drop_eq_getElem_cons h1,h2]
  rw [hd] at hfo;obtain ⟨fl,hfl,hfo⟩:=qaA.mp hfo;refine L.step v t ((i:Int),a) s σ' G' H' fl rs ht (Rp.mono k1 ra) hfl _ ?_ ?_ ?_ ?_
  ·intro s' σ'' G'' H'' e r;subst e;exact ⟨s',G'',r,hfo⟩
  ·intro s' σ'' G'' H'' e r;subst e;exact ⟨s',G'',r,hfo⟩
  ·intro s' σ'' G'' H'' e r;subst e;exact L.nxt s' σ'' G'' H'' (qkB hfo).symm r
  ·intro r v G'' H'' e rl;subst e;exact L.rtn r v G'' H'' (qkB hfo).symm rl
 ·have e:i=vs.length:=by omega
  subst e;have hd:(BE 0 as).drop vs.length=[]:=List.drop_eq_nil_of_le (by omega);rw [hd] at hfo;exact .inl ⟨⟨vs,hlH,qgB _⟩,L.nxt s σ' G' H' (qkB hfo).symm rs⟩
theorem sv_turnE {a:Int × α}{x:V}{t:Addr}{tb:TS}(k:tb D ((σ.set i (some (.int a.1))).set j (some x)) (upd H t (.tup [.int a.1,x]))) :
  gTup K 2 (GS (Bm i) (GS (Bm j) gNil)) (.ref t) σ (upd H t (.tup [.int a.1,x])) fun σ2 H2=>tb D σ2 H2 :=
 ⟨t,_,rfl,SqT.of AH,rfl,_,_,rfl,_,_,rfl,rfl,k⟩
end
def OZ (K:FZ9){α:Type}(R:Hp->V->α->Prop):Hp->V->Tp α->Prop:=fun H x a=>∃ t xs,x = .ref t/\SqT K H t xs/\Paired (R H) xs a.l
theorem tp_dec {α:Type}[DecidableEq α]{as bs:Tp α}{n m:Nat}(hn:n=as.l.length)(hm:m=bs.l.length):((List.range (min n m)).all (fun j=>decide (as.l[j]? = bs.l[j]?)) && n == m)=decide (as=bs):=by
 obtain ⟨as⟩:=as;obtain ⟨bs⟩:=bs;subst hn;subst hm;by_cases hl:as.length=bs.length
 ·show ((List.range (min as.length bs.length)).all (fun j=>decide (as[j]? = bs[j]?)) && as.length == bs.length)=_;rw [<- hl,Nat.min_self,beq_self_eq_true,Bool.and_true,all_dec as bs hl];exact decide_eq_decide.mpr ⟨fun e=>by rw [e],fun e=>by cases e;rfl⟩
 ·have h:(as.length == bs.length)=false:=by simpa using hl
  have ne:Tp.mk as≠Tp.mk bs:=fun e=>by
   cases e;exact hl rfl
  show (_ && as.length == bs.length)=_;rw [h,Bool.and_false,decide_eq_false ne]
theorem eqTp {K:FZ9}{k:Nat}{α:Type}[DecidableEq α]{R:Hp->V->α->Prop}(E:EqTy K k R):EqTy K (k+1) (OZ K R):=by
 have fn:∀ {X:Cx}{pins:List (Addr × Obj)}{σ:St}{H:Hp}{s:Shared}{x:V}{a b:Tp α},X.K=K->Inv X pins σ H s->OZ K R H x a->OZ K R H x b->a=b:=by
  intro X pins σ H s x a b hK I ha hb;obtain ⟨a⟩:=a;obtain ⟨b⟩:=b;obtain ⟨l,xs,rfl,h1,p1⟩:=ha;obtain ⟨l',ys,e,h2,p2⟩:=hb;cases e;subst hK;have:=I.tuple_inj h1 h2;subst this;exact congrArg Tp.mk (MH (F:=R H) (fun _ _ _ p q=>E.fn rfl I p q) p1 p2)
 have rc:∀ {X:Cx}{pins:List (Addr × Obj)}{σ:St}{H:Hp}{s:Shared}{x y:V}{u v:Value}{a b:Tp α}(A:Around),X.K=K->Inv X pins σ H s->A.units+(k+1)<cLine->RelV x u->RelV y v->OZ K R H x a->OZ K R H y b ->
   SeqAt.RcAt A s u v (decide (a=b))/\SeqAt.RcNeAt A s u v (!decide (a=b)):=by
  intro X pins σ H s x y u v a b A hK I hu r1 r2 ha hb;obtain ⟨l,xs,rfl,h1,p1⟩:=ha;obtain ⟨l',ys,rfl,h2,p2⟩:=hb;cases r1;cases r2;subst hK;obtain ⟨us,rx,plx,_⟩:=I.tuple h1;obtain ⟨vs,ry,ply,_⟩:=I.tuple h2;have lx:=rx.length;have ly:=ry.length;have lpx:=Paired.length p1;have lpy:=Paired.length p2;have it:=QO E rfl I hu rx ry p1 p2;rw [<- tp_dec (as:=a) (bs:=b) (n:=us.toArray.size) (m:=vs.toArray.size) (by simp;omega) (by simp;omega)];exact ⟨SeqAt.RcAt.tuples plx ply (by omega) it,SeqAt.RcNeAt.tuples plx ply (by omega) it⟩
 refine ⟨fn,?_,rc⟩;intro X pins σ H s x y u v a b A hK I hu r1 r2 ha hb;have h:=(rc A hK I hu r1 r2 ha hb).1;obtain ⟨l,xs,rfl,h1,p1⟩:=id ha;obtain ⟨l',ys,rfl,h2,p2⟩:=id hb;cases r1;cases r2;by_cases e:l=l'
 ·subst e;have:a=b:=fn hK I ha hb;rw [decide_eq_true this];exact SeqAt.EqAt.same _
 ·exact SeqAt.EqAt.of_refs e h
class NoN (α:Type) [Rp α]:Prop where
 no_non:∀ {K:FZ9}{H:Hp}{x:V}{a:α},Rp.rel K H x a->x ≠ .non
 ne:∀ {K:FZ9}{X:Cx}{pins:List (Addr × Obj)}{σ:St}{H:Hp}{s:Shared}{x:V}{u:Value}{a:α}(A:Around),X.K=K->Inv X pins σ H s->A.units<cLine->RelV x u->Rp.rel K H x a ->
  (SeqAt.EqAt A s .none u false/\SeqAt.RcAt A s .none u false/\SeqAt.RcNeAt A s .none u true)/\SeqAt.EqAt A s u .none false/\SeqAt.RcAt A s u .none false/\SeqAt.RcNeAt A s u .none true
instance reTp {α:Type}[Rp α][DecidableEq α][RpE α]:RpE (Tp α):=⟨RpE.k α+1,fun K=>(eqTp (RpE.ty K)).imp fun _ _ _ ⟨l,xs,e,h,_,p⟩=>⟨l,xs,e,h,p⟩⟩
class Fix (α:Type) [Rp α]:Prop where
 fx:∀ {K:FZ9}{G G':Hp}{v:V}{a:α},Rp.rel K G v a->Rp.rel K G' v a
end L2
namespace L3
open PySem
end L3
namespace L2
open PySem PySem.Spec PyProof.Rows
def Ch (cap:List Nat)(σ:St):St:=none::none::cap.map fun i=>(σ[i]?).join
abbrev gTwo (K:FZ9):TG:=gTup K 2 (GS (Bm 0) (GS (Bm 1) gNil))
theorem gTwo_at {K:FZ9}{v:V}{σ:St}{H:Hp}{Q:St->Hp->Prop}(h:gTwo K v σ H Q):gTwo K v σ H fun σ2 H2=>(∃ v0 v1,σ2=(σ.set 0 (some v0)).set 1 (some v1))/\Q σ2 H2:=by
 obtain ⟨a,xs,e,hs,hl,v0,r,e1,v1,r',e2,e3,q⟩:=h;exact ⟨a,xs,e,hs,hl,v0,r,e1,v1,r',e2,e3,⟨v0,v1,rfl⟩,q⟩
def Qh (K:FZ9)(cap:List Nat)(wi:TI)(tc:TT)(te:TE):TE:=fun σ H Q=>wi σ H fun J H1=>∀ p,H1 p=none ->
 ∃ W:Nat->Nat->List V->Hp->Prop,(∃ m,W 0 m [] (upd H1 p (.lst [])))/\∀ i m xs H2,W i m xs H2 ->
  (J.stop i H2/\Q (.ref p) H2)\/(J.go i H2/\∃ N:List V->Hp->Prop,(∀ xs' H',N xs' H'->∃ m',m'<m/\W (i+1) m' xs' H') /\
   ∀ x H3,J.yld i H2 x H3->gTwo K x (Ch cap σ) H3 fun σ2 H4=>tc σ2 H4 fun b H5=>if b=true then te σ2 H5 fun v H6=>H6 p=some (.lst xs)/\xs.length<sizeLine/\N (xs++[v]) (upd H6 p (.lst (xs++[v]))) else N xs H5)
section
variable {X:Cx}{pins:List (Addr × Obj)}{σ:St}
theorem OI {scope:Scope}{x x':Str}{cn:List Str}{cap:List Nat}{s3:Shared}{H3:Hp}{fp:List Addr}{h₁:Heap}{tk:Nat}{H2:Hp}(S:CompScope X scope)(I:Inv X pins σ H3 s3)(hc:X.calm=true)(hcap:Caps X scope cn cap)
  (f2:∀ b∈fp,Ft X pins H2 b) (lt:∀ b∈fp,b<s3.heap.objs.size) (keep:∀ b o,s3.heap.get? b=some o->h₁.get? b=some o) (hns:h₁.Ns s3.heap.objs.size fun _=>none) :
  Inv (BD X (x::x'::cn) scope s3.heap.objs.size s3 H3 fp) [] (Ch cap σ) H3 { s3 with heap:=h₁,toks:=tk }:=by
 have noS:∀ b o,X.base.get? b=some o->b<X.s₀.heap.objs.size:=fun b o e=>qfC (qmB e) I.ok.bsz
 refine ⟨⟨I.ok.mod,S.kind,I.ok.glob,I.ok.blt,qgB _,fun y z c h1 h2=>I.ok.inj y z c (CJ h1) (CJ h2),fun y hy=>?_,fun y c h=>?_,fun _=>I.ok.hd hc,I.ok.frames,.inl rfl,fun b hb=>⟨qdC (lt b hb),fun y c h=>(f2 b hb).2.2.2.2.1 y c (CJ h)⟩,
  I.bs,qhB I.ok.bsz I.sz,fun b o e hb=>?_,fun b hb z=>?_,I.stack,I.stkFree⟩,rfl,I.bare,Un.kept keep,⟨_,hns,fun i y v e1 e2 e3=>?_⟩,fun y c e=>?_,I.hok.fresh (qgB _),fun y c e=>I.freeC y c (CJ e),fun p hp=>absurd (show p∈([]:List (Addr × Obj)) from hp) (by simp),I.hok.kept keep,?_⟩
 ·have m:=Hi S.cell hy;obtain ⟨c,hc'⟩:=I.ok.has y (S.free _ m rfl);exact ⟨c,ID m hc'⟩
 ·cases h
 ·rcases (f2 b hb).2.2.2.1 with z|z
  ·exact I.ok.noex b o e z
  ·exact absurd (qfC (noS b o e) z) (qiB _)
 ·rcases qnA.mp (I.stkSub b z) with e|e
  ·exact (f2 b hb).2.1 e
  ·exact (f2 b hb).2.2.1 e
 ·cases i with
  | zero =>
   have e2:(some none:Option (Option V))=some (some v):=e2;cases e2
  | succ j =>
   cases j with
   | zero =>
   have e2:(some none:Option (Option V))=some (some v):=e2;cases e2
   | succ j =>
   have e1:cn[j]? = some y:=e1;obtain ⟨k,hk,hN,hkind,hfr⟩:=hcap.at e1;have e2:(cap.map fun i=>(σ[i]?).join)[j]? = some (some v):=e2;rw [qzA,hk] at e2;have e2:(σ[k]?).join=some v:=qkB e2
   have e2:σ[k]? = some (some v):=by
    cases q:σ[k]? with
    | none=>rw [q] at e2;cases e2
    | some o=>rw [q] at e2;cases o with
     | none=>cases e2
     | some v'=>have e2:some v'=some v:=e2;rw [e2]
   obtain ⟨m,hn,hl⟩:=I.loc;obtain ⟨u,r,l⟩:=hl k y v hN e2 (.inr hkind);refine ⟨u,r,?_⟩;rcases l with ⟨kl,_⟩ | ⟨_,c,hc',o,ho,hd⟩
   ·have kl:X.env.scope.names.lookup y=some .local := kl;rw [kl] at hkind;rcases hkind with z|z<;>cases z
   ·refine .inr ⟨?_,c,ID (PySem.mem_of_lookup hfr) hc',o,keep c o ho,hd⟩;rcases e3 with z|z
    ·
     exfalso;have z:(relabel scope X.env).names.lookup y=some .local := z;have hm:=PySem.mem_of_lookup z;unfold relabel at hm;obtain ⟨⟨n,k'⟩,hp,e⟩:=qoA.mp hm;dsimp only at e
     have hl2:(y,NameKind.local)∈scope.names:=by
      split at e
      ·cases e
      ·cases e;exact hp
     have:=S.names _ hl2 rfl;rw [hfr] at this;cases this
    ·exact z
 ·obtain ⟨v,o,ho,hd⟩:=I.cell y c (CJ e);exact ⟨v,o,keep c o ho,hd⟩
 ·show (Ch cap σ).length=(x::x'::cn).length;unfold Ch;rw [qhA,qhA,qfA,hcap.len,qhA,qhA]
theorem Q2 {scope:Scope}{x x':Str}{px px' pt pos:Pos}{k0:Nat}{elt iter:Expr}{ifs:List Expr}{cn:List Str}{cap:List Nat}{s2:Shared}{H2:Hp}{it:Addr}{fp:List Addr}{tn:Nat->Heap->Prop}{J:It}{tc:TT}{te:TE}{Q:VK}{RR:Value->Addr->Result->Shared->Prop}{E:Value->Shared->Prop}
  (S:CompScope X scope) (I2:Inv X pins σ H2 s2) (hc:X.calm=true) (hcap:Caps X scope cn cap) (hx:scope.names.lookup x=some .local) (hx':scope.names.lookup x'=some .local) (hnd:(x::x'::cn).Nodup)
  (T:Turn X.prog X.w X.K (.Tuple [.Name x px,.Name x' px'] k0 pt) J fp it tn) (st2:tn 0 s2.heap) (f2:∀ b∈fp,Ft X pins H2 b)
  (body:∀ (C:Addr) (s:Shared) (H:Hp) (fp:List Addr),PTs (BD X (x::x'::cn) scope C s H fp) ifs tc/\PE (BD X (x::x'::cn) scope C s H fp) elt te)
  (q:∀ p,H2 p=none->∃ W:Nat->Nat->List V->Hp->Prop,(∃ m,W 0 m [] (upd H2 p (.lst [])))/\∀ i m xs H3,W i m xs H3 ->
   (J.stop i H3/\Q (.ref p) H3)\/(J.go i H3/\∃ N:List V->Hp->Prop,(∀ xs' H',N xs' H'->∃ m',m'<m/\W (i+1) m' xs' H') /\
    ∀ v H4,J.yld i H3 v H4->gTwo X.K v (Ch cap σ) H4 fun σ2 H4=>tc σ2 H4 fun b H5=>if b=true then te σ2 H5 fun v H6=>H6 p=some (.lst xs)/\xs.length<sizeLine/\N (xs++[v]) (upd H6 p (.lst (xs++[v]))) else N xs H5))
  (hRR:∀ (p C:Addr) (s3 s':Shared) (H3 Hf:Hp) (σ':St),Inv X pins σ H3 s3->s3.heap.objs.size=C->Inv (BD X (x::x'::cn) scope C s3 H3 fp) [] σ' Hf s'->Q (.ref p) Hf->RR (.ref p) C (.ok .next) s') :
  wpAny (model X.prog X.w) X.A (newList []) (fun acc s₃=>wpAny (model X.prog X.w) X.A (newFunctionEnv scope X.env.globals (IZ scope X.env) [] X.env.qual none .none (some X.env)) (fun cenv s₄ =>
   codeAny (model X.prog X.w) X.A (.compStart (.ListComp elt [⟨.Tuple [.Name x px,.Name x' px'] k0 pt,iter,ifs,0⟩] scope pos) 0 (.ref it) acc { cenv with scope:=relabel scope X.env }) (RR acc cenv.locals) s₄) E s₃) E s2:=by
 refine wpAny_newObj_type (wpAny_newFunctionEnv S.cell (by intro y hy;simp at hy) (fun h₁ hns₁ hsb₁=>?_) S.kind);dsimp only at hns₁ hsb₁ ⊢;have hfr:H2 s2.heap.objs.size=none:=I2.hok.fresh (qgB _);obtain ⟨W,⟨m0,w0⟩,turn⟩:=q _ hfr
 have I3:Inv X pins σ (upd H2 s2.heap.objs.size (.lst [])) { s2 with heap:=s2.heap.push { cls:=.type "list",data:=.seq ([]:List Value).toArray } } :=
  I2.lnew (its:=[]) (t':=s2.toks) .nil (qkC _)
 generalize hs3:({ s2 with heap:=s2.heap.push { cls:=.type "list",data:=.seq ([]:List Value).toArray } }:Shared)=s3 at I3;have hs3h:s3.heap=s2.heap.push { cls:=.type "list",data:=.seq ([]:List Value).toArray }:=by rw [<- hs3]
 have hst3:tn 0 s3.heap:=T.keep _ _ _ st2 fun b hb o e=>by rw [hs3h];exact qnB _ e
 have ltf:∀ b∈fp,b<s3.heap.objs.size:=fun b hb=>by
  obtain ⟨o,e,_⟩:=T.obj _ _ hst3 b hb;exact qmB e
 have hC:(s2.heap.push { cls:=.type "list",dict:=none,data:=.seq ([]:List Value).toArray }).objs.size=s3.heap.objs.size:=by rw [hs3h]
 rw [hC] at hns₁ hsb₁ ⊢
 have keep:∀ b o,s3.heap.get? b=some o->h₁.get? b=some o:=fun b o e=>by
  refine hsb₁.extBut b o (qdC (qmB e)) (qnB _ ?_);rw [hs3h] at e;exact e
 have J4:Inv (BD X (x::x'::cn) scope s3.heap.objs.size s3 (upd H2 s2.heap.objs.size (.lst [])) fp) [] (Ch cap σ) (upd H2 s2.heap.objs.size (.lst [])) { s3 with heap:=h₁,toks:=s2.toks+([]:List (Str × Value)).length } :=
  OI S I3 hc hcap f2 ltf keep hns₁
 have st4:tn 0 h₁:=T.keep _ _ _ hst3 fun b hb o e=>keep b o e
 have fr4:∀ b∈fp,(upd H2 s2.heap.objs.size (.lst [])) b=none:=fun b hb=>by
  obtain ⟨o,e,_⟩:=T.obj _ _ st2 b hb;rw [Ag (qdC (qmB e))];exact (f2 b hb).1
 have hst:({ s2 with heap:=h₁,toks:=s2.toks+([]:List (Str × Value)).length }:Shared) = { s3 with heap:=h₁,toks:=s2.toks+([]:List (Str × Value)).length }:=by rw [<- hs3]
 have loop:codeAny (model X.prog X.w) X.A (.compLoop (.ListComp elt [⟨.Tuple [.Name x px,.Name x' px'] k0 pt,iter,ifs,0⟩] scope pos) 0 (.ref it) (.ref s2.heap.objs.size) (compEnvC scope (IZ scope X.env) s3.heap.objs.size X.env))
   (RR (.ref s2.heap.objs.size) s3.heap.objs.size) { s2 with heap:=h₁,toks:=s2.toks+([]:List (Str × Value)).length }:=by
  rw [hst];generalize hX':BD X (x::x'::cn) scope s3.heap.objs.size s3 (upd H2 s2.heap.objs.size (.lst [])) fp=X' at J4
  have hfpk:∀ {Hc:Hp},(∀ b∈fp,Hc b=none)->∀ b∈fp,Ft X' [] Hc b:=fun {Hc} hn b hb=>by
   subst hX';refine ⟨hn b hb,(J4.ok.exf b hb).1,J4.ok.exfs b hb,.inl hb,(J4.ok.exf b hb).2,fun p hp=>absurd (show p∈([]:List (Addr × Obj)) from hp) (by simp)⟩
  refine Hz (fun n s'=>∃ i xs Hc,Inv X' [] (Ch cap σ) Hc s'/\tn i s'.heap/\(∀ b∈fp,Hc b=none)/\W i n xs Hc) ?_ m0 ⟨0,[],_,J4,st4,fr4,w0⟩;rintro n s5 ⟨i,xs,Hc,I5,st5,fr5,w5⟩;have B:=body s3.heap.objs.size s3 (upd H2 s2.heap.objs.size (.lst [])) fp;rcases turn i n xs Hc w5 with ⟨stop,qn⟩ | ⟨go,N,hN,step⟩
  ·subst hX';refine thn (T.done (BD X (x::x'::cn) scope s3.heap.objs.size s3 (upd H2 s2.heap.objs.size (.lst [])) fp) rfl rfl rfl rfl i [] s5 (Ch cap σ) Hc (fun _ _=>False) I5 (hfpk fr5) st5 stop) fun r s6 ⟨hr,I6⟩=>?_;subst hr;exact hRR _ _ s3 s6 _ Hc _ I3 rfl I6 qn
  ·subst hX';refine thn (T.item (BD X (x::x'::cn) scope s3.heap.objs.size s3 (upd H2 s2.heap.objs.size (.lst [])) fp) rfl rfl rfl rfl i [] s5 (Ch cap σ) Hc (fun _ _=>False) I5 (hfpk fr5) st5 go) fun r s6 ⟨u,hr,h6⟩=>?_;subst hr;refine thn h6 fun _ s7 ⟨v,H7,I7,r7,y7,st7,fr7⟩=>?_;have I7':=I7.pinned (hfpk fr7) (T.obj _ _ st7);have hlook:(relabel scope X.env).names.lookup x=some .local := lookup_relabel_local hx;have hlook':(relabel scope X.env).names.lookup x'=some .local := lookup_relabel_local hx'
   have hg:PG (BD X (x::x'::cn) scope s3.heap.objs.size s3 (upd H2 s2.heap.objs.size (.lst [])) fp) (.Tuple [.Name x px,.Name x' px'] k0 pt) (gTwo X.K) :=
    Qb rfl (D6 (N5 (i:=0) hnd rfl (.inl hlook) (.inr hlook)) (D6 (N5 (i:=1) hnd rfl (.inl hlook') (.inr hlook')) N8))
   refine thn (hg _ s7 _ H7 v u _ I7' r7 (gTwo_at (step v H7 y7))) fun _ s8 ⟨σ8,H8,I8,⟨v0,v1,e8⟩,q8⟩=>?_;subst e8
   have again:∀ {s9:Shared}{H9:Hp}{ys:List V},Inv (BD X (x::x'::cn) scope s3.heap.objs.size s3 (upd H2 s2.heap.objs.size (.lst [])) fp) ([]++Is fp s7.heap) (((Ch cap σ).set 0 (some v0)).set 1 (some v1)) H9 s9->N ys H9 ->
     ∃ m,m<n/\∃ i xs Hc,Inv (BD X (x::x'::cn) scope s3.heap.objs.size s3 (upd H2 s2.heap.objs.size (.lst [])) fp) [] (Ch cap σ) Hc s9/\tn i s9.heap/\(∀ b∈fp,Hc b=none)/\W i m xs Hc:=fun {s9 H9 ys} I9 n9=>by
    obtain ⟨m',hm,w9⟩:=hN ys H9 n9;refine ⟨m',hm,i+1,ys,H9,(I9.unpinned (pins:=[])).weak (by simp [Ch]) (fun j w e=>?_),T.keep _ _ _ st7 fun b hb o e=>(I9.pin (b,o) (qgC _ (qgC _ (Db hb e)))).1,fun b hb=>?_,w9⟩
    ·cases j with
     | zero =>
      have e:(some none:Option (Option V))=some (some w):=e;cases e
     | succ j =>
      cases j with
      | zero =>
       have e:(some none:Option (Option V))=some (some w):=e;cases e
      | succ j=>exact e
    ·obtain ⟨o,e,_⟩:=T.obj _ _ st7 b hb;exact (I9.pin (b,o) (qgC _ (qgC _ (Db hb e)))).2.1
   refine thn (B.1 _ s8 _ H8 _ I8 q8) fun ok s9 ⟨H9,I9,q9⟩=>?_
   cases ok with
   | false =>
    rw [if_neg quB] at q9 ⊢;exact again I9 q9
   | true =>
    rw [if_pos rfl] at q9 ⊢;refine thn (B.2 _ s9 _ H9 _ I9 q9) fun uy s10 ⟨y,H10,I10,r10,hp,hl,n10⟩=>?_;refine thn (Ib _ s10 _ H10 (.ref s2.heap.objs.size) [y] (.ref s2.heap.objs.size) [uy] (fun _ H11=>N (xs++[y]) H11) I10 rfl (.cons r10 .nil) ⟨_,xs,y,rfl,rfl,hp,hl,n10⟩) fun _ s11 ⟨_,H11,I11,_,n11⟩=>?_;exact again I11 n11
 exact codeAny_compStart_list loop (T.self _ _ _ _ _ st4 loop)
theorem LG {scope:Scope}{x x':Str}{px px' pt pos:Pos}{k0:Nat}{elt iter:Expr}{ifs:List Expr}{cn:List Str}{cap:List Nat}{wi:TI}{tc:TT}{te:TE}
  (hc:X.calm=true) (S:CompScope X scope) (hx:scope.names.lookup x=some .local) (hx':scope.names.lookup x'=some .local) (hnd:(x::x'::cn).Nodup) (hcap:Caps X scope cn cap) (hi:PI X (.Tuple [.Name x px,.Name x' px'] k0 pt) iter wi)
  (body:∀ (C:Addr) (s:Shared) (H:Hp) (fp:List Addr),PTs (BD X (x::x'::cn) scope C s H fp) ifs tc/\PE (BD X (x::x'::cn) scope C s H fp) elt te)
  (hs:∀ x,foldedSetIterable iter X.env x=pure x:=by intro _;rfl):PE X (.ListComp elt [⟨.Tuple [.Name x px,.Name x' px'] k0 pt,iter,ifs,0⟩] scope pos) (Qh X.K cap wi tc te):=by
 intro pins s σ H Q I h;rw [eval_ListComp];refine wpAny_comprehension_free (use:=none) rfl hs (S.clos I) S.kind S.names (thn (hi pins s σ H _ I h) fun xv s1 h1=>thn h1 fun itv s2 h2=>?_);obtain ⟨it,fp,tn,J,H2,e,I2,T,st2,f2,q⟩:=h2;subst e;refine Q2 (RR:=fun acc C=>compPost (model X.prog X.w) X.A X.xe none (EP X pins σ Q) acc C) S I2 hc hcap hx hx' hnd T st2 f2 body q ?_;intro p C s3 s' H3 Hf σ' I3 hC J' qf;subst hC;have I4:=L7 I3 J' f2;obtain ⟨m,hn,_⟩:=J'.loc;refine ⟨m,hn,fun h' hs'=>?_⟩;refine ⟨.ref p,Hf,?_,rfl,qf⟩;have f:=I3.fpOk (H':=Hf) (qgB _) J'.free;exact I4.turned (t':=s'.toks) (it:=s3.heap.objs.size) (fun b o hb e=>(hs'.2 b hb).trans e) f.1 f.2.1 f.2.2.2.1 f.2.2.2.2.1 f.2.2.2.2.2
end
structure YieldsE (J:It)(H:Hp)(xs:List V):Prop where
 go:∀ i H',Same H H'->i<xs.length->J.go i H'
 stop:∀ H',Same H H'->J.stop xs.length H'
 yld:∀ (i:Nat) (H':Hp) (x:V) (H'':Hp),Same H H'->i<xs.length->J.yld i H' x H''->∃ t v,x = .ref t/\H' t=none/\H''=upd H' t (.tup [.int i,v])/\xs[i]? = some v
section
variable {K:FZ9}{σ:St}{G:Hp}{α β:Type}[Rp α][Rp β]{ta:TE}
def IF (K:FZ9){α:Type}[Rp α](wi:TI)(σ:St)(G:Hp)(m:Option (List α)):Prop :=
 ∀ G1,Same G G1->∀ a,m=some a->∀ H,Same G1 H->∀ R:It->Hp->Prop,(∀ J vs G2 H2,Ext G1 H G2 H2->YieldsE J G2 vs->vs.length<=sizeLine->Paired (Rp.rel K G2) vs a->R J H2)->wi σ H R
theorem Nl {la:Option (List α)}(ea:EV K ta σ G la):IF K (iEnum K (AK ta B7)) σ G la:=by
 intro G1 s1 a ha H sH R k;clear 8 ea a ha;obtain ⟨l,xs,rfl,h,z,p⟩:=r2;refine ⟨l,rfl,⟨xs,.inl (x2.gh.rd h)⟩,k _ xs G2 H2 x2 ⟨fun i H' s hi=>⟨xs,xs[i],.inl (s.rd h),by simp [hi]⟩,fun H' s=>⟨xs,.inl (s.rd h),qgB _⟩,fun i H' y H'' s hi hy=>?_⟩ z p⟩;obtain ⟨t,v,e1,e2,e3,e4⟩:=hy;exact ⟨t,v,e1,e2,e3,e4 xs (.inl (s.rd h))⟩
theorem rel_i (G:Hp)(i:Int):Rp.rel K G (V.int i) i:=rfl
theorem KY {cap:List Nat}{wi:TI}{tt:TT}{te:TE}{mi:Option (List α)}{fc:Int × α->Option Bool}{fe:Int × α->Option β}(ei:IF K wi σ G mi)
  (hb:∀ (x:V) (a:Int × α) (G1:Hp),Same G G1->Rp.rel K G1 x a.2->TV tt (((Ch cap σ).set 0 (some (.int a.1))).set 1 (some x)) G1 (fc a)/\EV K te (((Ch cap σ).set 0 (some (.int a.1))).set 1 (some x)) G1 (fe a)) :
  FV K (Qh K cap wi tt te) σ G (mi.bind fun as=>Cm fc fe (BE 0 as)):=by
 clear 7;obtain ⟨as,has,hc⟩:=qaA.mp hc;refine ei G1 s1 as has H sH _ fun J vs Ga Ha xa Y hz pr p hp=>?_;have hla:=Paired.length pr;have hle:=Cv as 0
 refine ⟨fun i m ys H2=>m=vs.length - i/\i<=vs.length/\∃ G2 bs cs,Ext Ga Ha G2 H2/\G2 p=none/\H2 p=some (.lst ys)/\ys.length<=i/\Paired (Rp.rel K G2) ys bs/\Cm fc fe ((BE 0 as).drop i)=some cs/\c=bs++cs,
  ⟨vs.length,by simp,qkC _,Ga,[],c,.own xa.gh hp,xa.gh.free hp,AH,qgB _,.nil,hc,rfl⟩,?_⟩
 rintro i m ys H2 ⟨rfl,hi,G2,bs,cs,x2,hg,hh,hy,hpr,hcs,rfl⟩;by_cases hlt:i<vs.length
 ·refine .inr ⟨Y.go i _ (x2.gg.trans x2.gh) hlt,fun ys' H'=>∃ G2 bs' cs',Ext Ga Ha G2 H'/\G2 p=none/\H' p=some (.lst ys')/\ys'.length<=i+1/\Paired (Rp.rel K G2) ys' bs'/\Cm fc fe ((BE 0 as).drop (i+1))=some cs'/\bs++cs=bs'++cs',
   fun ys' H' ⟨G3,bs',cs',h⟩=>⟨vs.length - (i+1),by omega,rfl,hlt,G3,bs',cs',h⟩,fun x H3 y=>?_⟩
  obtain ⟨t,v,rfl,ht,rfl,hv⟩:=Y.yld i _ x H3 (x2.gg.trans x2.gh) hlt y;obtain ⟨a,hai,ra⟩:=Paired.getR pr hv;have hge:(BE 0 as)[i]? = some ((i:Int),a):=by rw [DK,hai];simp
  have hd:(BE 0 as).drop i=((i:Int),a)::(BE 0 as).drop (i+1):=by
   obtain ⟨h1,h2⟩:=qvA.mp hge;rw [List.drop_eq_getElem_cons h1,h2]
  rw [hd] at hcs;obtain ⟨b,hbb,hcs⟩:=qaA.mp hcs;have xn:=Ext.new (o:=.tup [.int i,v]) x2.gh ht;have x2:=x2.trans xn;have ne:p≠t:=fun e=>by rw [e,ht] at hh;cases hh
  have hh:(upd H2 t (.tup [.int i,v])) p=some (.lst ys):=by rw [Ag ne];exact hh
  have hg:(upd G2 t (.tup [.int i,v])) p=none:=by rw [Ag ne];exact hg
  have hpr:=Paired.imp' (fun _ _ r=>Rp.mono xn.gg r) hpr;have B:=hb v ((i:Int),a) _ (s1.trans (xa.gg.trans x2.gg)) (Rp.mono x2.gg ra);refine ⟨t,_,rfl,SqT.of AH,rfl,_,_,rfl,_,_,rfl,rfl,?_⟩;refine B.1 _ (.refl _) b hbb _ x2.gh _ fun G5 H5 x5=>?_;have hp5:H5 p=some (.lst ys):=x5.hh _ _ hh;have hg5:G5 p=none:=x5.no p hg (by rw [hh];exact fun z=>nomatch z)
  cases b with
  | false =>
   rw [if_neg quB];exact ⟨G5,bs,cs,x2.trans x5,hg5,hp5,by omega,Paired.imp' (fun _ _ r=>Rp.mono x5.gg r) hpr,hcs,rfl⟩
  | true =>
   rw [if_pos rfl];obtain ⟨z,hze,hcs⟩:=qaA.mp hcs;obtain ⟨cs',hcs',hcs⟩:=qaA.mp hcs;cases hcs;refine B.2 G5 x5.gg z hze H5 x5.gh _ fun v G6 H6 x6 r6=>?_;have hp6:H6 p=some (.lst ys):=x6.hh _ _ hp5;have hg6:G6 p=none:=x6.no p hg5 (by rw [hp5];exact fun z=>nomatch z);refine ⟨hp6,by omega,G6,bs++[z],cs',((x2.trans x5).trans x6).put hp hg6,hg6,AH,?_,Paired.app (Paired.imp' (fun _ _ r=>Rp.mono (x5.trans x6).gg r) hpr) (.cons r6 .nil),hcs',by simp⟩;rw [qgA,qiA];omega
 ·have e:i=vs.length:=by omega
  subst e;have hd:(BE 0 as).drop vs.length=[]:=List.drop_eq_nil_of_le (by omega);rw [hd] at hcs;cases hcs;refine .inl ⟨Y.stop _ (x2.gg.trans x2.gh),?_⟩;rw [qeB] at k;exact k p ys G2 H2 (xa.trans x2) (xa.hh.free hp) hg hh (by omega) hpr
theorem fv_map2 {cap:List Nat}{wi:TI}{te:TE}{mi:Option (List α)}{fe:Int × α->Option β}(ei:IF K wi σ G mi)
  (hb:∀ (x:V) (a:Int × α) (G1:Hp),Same G G1->Rp.rel K G1 x a.2->EV K te (((Ch cap σ).set 0 (some (.int a.1))).set 1 (some x)) G1 (fe a)) :
  FV K (Qh K cap wi LZ te) σ G (mi.bind fun as=>F0 fe (BE 0 as)):=by
 have h:=KY (tt:=LZ) (fc:=fun _=>some true) ei fun x a G1 s r=>⟨tv_yes,hb x a G1 s r⟩;have e:(fun as:List α=>Cm (fun _=>some true) fe (BE 0 as))=fun as=>F0 fe (BE 0 as):=funext fun as=>HH fe (BE 0 as);rw [e] at h;exact h
end
inductive SI where
 | s (x:Str)
 | i (n:Int)
 deriving DecidableEq
def RelSI (v:V):SI->Prop
 | .s x=>v = .str x/\x.length<=sizeLine
 | .i n=>v = .int n
instance rpSI:Rp SI:=⟨fun _ _ v a=>RelSI v a,fun _ h=>h⟩
theorem HL {j:Nat}{A:Around}(hr:Room j A):A.units+1<cLine:=by
 have:=hr.un;omega
def asS:SI->Option Str
 | .s x=>some x
 | .i _=>none
def asI:SI->Option Int
 | .s _=>none
 | .i n=>some n
section
variable {K:FZ9}{σ:St}{G H:Hp}{ta tb te td ti:TE}{α:Type}[Rp α]{md:Option SI}{rest:TS}{D:Ends}{i:Nat}
theorem Em (e:EV K te σ G md):EV K te σ G (md.bind fun d=>asS d):=by
 clear 7;obtain ⟨d,hd,hc⟩:=qaA.mp hc;refine e G1 s1 d hd H sH Q fun v G2 H2 x r=>?_
 cases d with
 | s y=>cases hc;exact k _ _ _ x r
 | i n=>cases hc
theorem GC (e:EV K te σ G md):EV K te σ G (md.bind fun d=>asI d):=by
 clear 7;obtain ⟨d,hd,hc⟩:=qaA.mp hc;refine e G1 s1 d hd H sH Q fun v G2 H2 x r=>?_
 cases d with
 | s y=>cases hc
 | i n=>cases hc;exact k _ _ _ x r
end
theorem bt_sum:bootBuiltins "sum" = some (.builtin "sum"):=by decide +kernel
theorem ints_atF {ns:List Int}{its:List Value}(r:Vals (ns.map V.int) its){i:Nat}{v:Value}(h:its.toArray[i]? = some v):∃ t,v = .int (ns.getD i 0) t:=by
 have h:its[i]? = some v:=by simpa using h
 have hl:=r.length;rw [qfA] at hl;obtain ⟨hi,_⟩:=qvA.mp h
 have e:(ns.map V.int)[i]? = some (V.int (ns.getD i 0)):=by
  have:i<ns.length:=by omega
  simp [this]
 obtain ⟨u,hu,ru⟩:=r.get e;rw [h] at hu;cases hu;exact ru
theorem JJ (ns:List Int):∀ j,j<=ns.length->preSum (fun i=>ns.getD i 0) j=(ns.take j).sum
 | 0,_=>by simp [preSum]
 | j+1,h=>by
  have hj:j<ns.length:=by omega
  show preSum (fun i=>ns.getD i 0) j+ns.getD j 0=_;rw [JJ ns j (by omega),List.take_succ,List.sum_append];simp [hj]
theorem Cz {K:FZ9}{H:Hp}:∀ {xs:List V}{ns:List Int},Paired (Rp.rel K H) xs ns->xs=ns.map V.int
 | _,_,.nil=>rfl
 | _,_,.cons h t=>by
  cases h;rw [qbB,Cz t]
structure Mp (α:Type) where
 l:List (Int × α)
def Lb {α:Type}:List (Int × α)->Int->Option α
 | [],_=>none
 | (j,a)::r,k=>if j=k then some a else Lb r k
def Qo {α:Type}(l:List (Int × α))(k:Int)(a:α):List (Int × α):=if (l.any fun q=>decide (q.1=k))=true then l.map (fun q=>if q.1=k then (q.1,a) else q) else l++[(k,a)]
def NA (K:FZ9){α:Type}[Rp α](H:Hp)(kv:Key × V)(q:Int × α):Prop:=kv.1 = .inl q.1/\Rp.rel K H kv.2 q.2
instance rpMp {α:Type}[Rp α]:Rp (Mp α):=⟨fun K H v a=>∃ p kvs,v = .ref p/\H p=some (.dK kvs)/\Paired (NA K H) kvs a.l,
 fun s ⟨p,kvs,e,h,pr⟩=>⟨p,kvs,e,s _ _ h,Paired.imp' (fun _ _ r=>⟨r.1,Rp.mono s r.2⟩) pr⟩⟩
section
variable {K:FZ9}{σ:St}{G H G1 H1 G0 H0:Hp}{α β:Type}[Rp α][Rp β]{td te ti:TE}{rest:TS}{D:Ends}{i:Nat}{a:Mp α}{v:V}{p q:Addr}{kvs:List (Key × V)}
theorem JL {G:Hp}:∀ {kvs:List (Key × V)}{l:List (Int × α)}{k:Int}{b:α},Paired (NA K G) kvs l->Lb l k=some b->∃ w,Fd kvs (.inl k)=some w/\Rp.rel K G w b
 | _,_,k,b,.nil,e=>by cases e
 | kv::kvs,(j,c)::l,k,b,.cons h t,e=>by
  obtain ⟨h1,h2⟩:=h;unfold Lb at e;by_cases hj:j=k
  ·rw [if_pos hj] at e;cases e;exact ⟨kv.2,Cu (by rw [h1,hj]),h2⟩
  ·rw [if_neg hj] at e;obtain ⟨w,e1,e2⟩:=JL t e;refine ⟨w,?_,e2⟩;rw [D1 (fun z=>hj (by rw [h1] at z;exact Sum.inl.inj z))];exact e1
theorem LC {G:Hp}{k:Int}:∀ {kvs:List (Key × V)}{l:List (Int × α)},Paired (NA K G) kvs l->(kvs.any fun kv=>decide (kv.1 = .inl k))=l.any fun q=>decide (q.1=k)
 | _,_,.nil=>rfl
 | kv::kvs,q::l,.cons h t=>by
  rw [List.any_cons,List.any_cons,LC t,h.1]
  congr 1
  exact decide_eq_decide.mpr ⟨fun e=>Sum.inl.inj e,fun e=>by rw [e]⟩
theorem JG {G:Hp}{k:Int}{w:V}{b:α}(r:Rp.rel K G w b):∀ {kvs:List (Key × V)}{l:List (Int × α)},Paired (NA K G) kvs l->Paired (NA K G) (kvs.map fun kv=>if kv.1 = .inl k then (kv.1,w) else kv) (l.map fun q=>if q.1=k then (q.1,b) else q)
 | _,_,.nil=>.nil
 | kv::kvs,q::l,.cons h t=>by
  rw [qbB,qbB];refine .cons ?_ (JG r t);by_cases e:q.1=k
  ·rw [if_pos e,if_pos (by rw [h.1,e])];exact ⟨h.1,r⟩
  ·rw [if_neg e,if_neg (fun z=>e (by rw [h.1] at z;exact Sum.inl.inj z))];exact h
theorem Pp {G:Hp}{k:Int}{w:V}{b:α}{l:List (Int × α)}(r:Rp.rel K G w b)(h:Paired (NA K G) kvs l):Paired (NA K G) (CG kvs (.inl k) w) (Qo l k b):=by
 unfold CG Qo;rw [LC h];by_cases e:(l.any fun q=>decide (q.1=k))=true
 ·rw [if_pos e,if_pos e];exact JG r h
 ·rw [if_neg e,if_neg e];exact Paired.app h (.cons ⟨rfl,r⟩ .nil)
theorem Ru {md:Option (Mp α)}{mi:Option Int}(ed:EV K td σ G md)(ei:EV K ti σ G mi):EV K (tDGet td ti) σ G (md.bind fun d=>mi.bind fun k=>Lb d.l k):=by
 clear 7;obtain ⟨d,hd,hc⟩:=qaA.mp hc;obtain ⟨j,hj,hc⟩:=qaA.mp hc;clear 8 ed d hd;refine ei G2 (s1.trans x2.gg) j hj H2 x2.gh _ fun u G3 H3 x3 r3=>?_;obtain ⟨p,kvs,rfl,h,pr⟩:=Rp.mono x3.gg r2;cases r3;obtain ⟨w,e1,e2⟩:=JL pr hc;exact ⟨p,w,rfl,.inl ⟨kvs,.inl j,.inl (x3.gh _ _ h),rfl,e1.symm⟩,k _ _ _ (x2.trans x3) e2⟩
end
section
variable {K:FZ9}{σ:St}{G H:Hp}{α:Type}[Rp α]{te:TE}{rest:TS}{D:Ends}{i:Nat}{a:α}{m:Option α}{as:List α}{v:V}{p:Addr}{vs:List V}
theorem QY [Imm α]{as':List α}(hσ:σ[i]? = some (some v))(o:Own K G H v p vs as)(e:EV K te σ (upd G p (.lst vs)) m)(hm:m=some a)(hp:LB as a=some as')(s:Same G H)
  (k:∀ G2 H2 w,Ext G H G2 H2->Own K G2 (upd H2 p (.lst (vs++[w]))) v p (vs++[w]) as'->rest D σ (upd H2 p (.lst (vs++[w])))):Bz (KZ (tBM K "list" Hd (BQ i) (AK te B7))) rest D σ H:=by
 obtain ⟨hl,rfl⟩:=B4 hp;have hlen:=Paired.length o.p;have ov:=o.v;subst ov;refine ⟨_,hσ,.inl ⟨rfl,_,SqL.of o.h⟩,?_⟩;refine EV.runB o e hm s fun w G2 H2 x r=>?_;have o2:=o.ext x;refine ⟨p,vs,w,rfl,rfl,o2.h,by omega,?_⟩;refine k G2 H2 w x ⟨rfl,o2.g,AH,?_,Paired.app o2.p (.cons r .nil)⟩;rw [qgA,qiA];omega
end
section
variable {K:FZ9}{σ:St}{G H:Hp}{ta tb te:TE}{rest:TS}{D:Ends}{i:Nat}{v:V}{p:Addr}{vs:List V}
theorem FI {G:Hp}:∀ {xs:List V}{ys:List Str},Paired (Rp.rel K G) xs ys->xs=ys.map V.str
 | _,_,.nil=>rfl
 | _,_,.cons h t=>by
  obtain ⟨rfl,_⟩:=h;rw [qbB,FI t]
end
def leS (a b:Str):Bool:=!decide (b.cps.toList<a.cps.toList)
theorem leS_iff {a b:Str}:leS a b=true ↔ a.cps.toList<=b.cps.toList:=by
 unfold leS;rw [Bool.not_eq_true',decide_eq_false_iff_not];exact List.not_lt
theorem GL (a b c:Str)(h1:leS a b=true)(h2:leS b c=true):leS a c=true:=leS_iff.mpr (List.le_trans (leS_iff.mp h1) (leS_iff.mp h2))
theorem Il (a b:Str):(leS a b || leS b a)=true:=by
 rw [Bool.or_eq_true,leS_iff,leS_iff];exact List.le_total _ _
theorem KI {a b:Str}(h1:leS a b=true)(h2:leS b a=true):a=b:=by
 have:=List.le_antisymm (leS_iff.mp h1) (leS_iff.mp h2);cases a;cases b
 congr 1
 exact Array.toList_inj.mp this
def FU (ys:List Str):List Str:=ys.mergeSort leS
theorem Bf (ys:List Str):(FU ys).Perm ys:=List.mergeSort_perm ys leS
theorem Lx:∀ (p:Str) (l:List Str),risingS p l=true->(p::l).Pairwise fun a b=>leS a b=true
 | p,[],_=>by simp
 | p,x::r,h=>by
  have h:(!ltCps x.cps.toList p.cps.toList && risingS x r)=true:=h;rw [qnC,ltCps_eq] at h;have h1:leS p x=true:=h.1;have ih:=Lx x r h.2;refine List.pairwise_cons.mpr ⟨fun y hy=>?_,ih⟩;rcases qnA.mp hy with rfl|hy
  ·exact h1
  ·exact GL _ _ _ h1 (List.rel_of_pairwise_cons ih hy)
theorem Ph {ss ss':List Str}(hp:ss'.Perm ss)(hs:sortedS ss'=true):ss'=FU ss:=by
 have pw:ss'.Pairwise fun a b=>leS a b=true:=by
  cases ss' with
  | nil=>exact .nil
  | cons x r=>exact Lx x r hs
 exact List.Perm.eq_of_pairwise (fun a b _ _ h1 h2=>KI h1 h2) pw (List.pairwise_mergeSort GL Il ss) (hp.trans (Bf ss).symm)
def sortO (ys:List Str):Option (List Str):=if ys.length<64 then some (FU ys) else none
theorem Ii:∀ {vs:List Value}{ss:List Str},StrsAre vs ss->Vals (ss.map V.str) vs
 | _,_,.nil=>.nil
 | _,_,.cons x t r=>.cons ⟨t,rfl⟩ (Ii r)
def rSortS (K:FZ9):List V->Hp->VK->Prop:=fun vs H Q=>∃ (l:Addr) (ys:List Str),vs=[.ref l]/\SqL K H l (ys.map V.str)/\ys.length<64/\∀ p,H p=none->Q (.ref p) (upd H p (.lst ((FU ys).map V.str)))
theorem No {X:Cx}{K:FZ9}(h:X.K=K):CW X (.builtin "sorted") (rSortS K):=by
 subst h;intro pins s σ H vs us Q I r h;obtain ⟨l,ys,rfl,hl,h64,q⟩:=h;obtain ⟨u,rfl,ru⟩:=Ev r;cases ru;obtain ⟨its,rv,pl,_⟩:=I.list hl;have hlen:=rv.length;rw [qfA] at hlen;refine sorted_strs pl.isList (L6 rv) (by omega) fun out ss' a1 a2 a3=>?_;have e:=Ph a2 a3;subst e;obtain ⟨n,he⟩:=sortedAll_at s.heap its out;refine ⟨.ref (s.heap.objs.size+1),_,I.laid (a:=s.heap.objs.size+1) (t':=s.toks) (o:=.lst ((FU ys).map V.str)) (fun b ob q=>sortedAll_old q) (Nat.le_succ _) ?_,rfl,q _ (I.hok.fresh (Nat.le_succ _))⟩;refine ⟨?_,out.toList,n,Ii a1,he⟩;rw [qfA,(Bf ys).length_eq,qpB];omega
theorem Gf {K:FZ9}{G:Hp}:∀ {xs:List V}{ys:List Str},Paired (Rp.rel K G) xs ys->∀ y∈ys,y.length<=sizeLine
 | _,_,.nil=>fun y hy=>by cases hy
 | _,_,.cons h t=>fun y hy=>by
  rcases qnA.mp hy with rfl|hy
  ·exact h.2
  ·exact Gf t y hy
section
variable {K:FZ9}{σ:St}{G:Hp}{ta:TE}
theorem fv_sortS {la:Option (List Str)}(ea:EV K ta σ G la):FV K (tCB (rSortS K) (AK ta B7)) σ G (la.bind fun ys=>sortO ys):=by
 clear 7;obtain ⟨a,ha,hc⟩:=qaA.mp hc;obtain ⟨h64,rfl⟩:=B4 hc;clear 8 ea a ha;obtain ⟨l,xs,rfl,h,z,p⟩:=r2;have e:=FI p;subst e;refine ⟨l,a,rfl,.inl (x2.gh.rd h),h64,?_⟩;refine Oh x2.gh ?_ ?_ (FV.mono x2 k)
 ·rw [qfA,(Bf a).length_eq,qpB];omega
 ·have hl:∀ y∈a,y.length<=sizeLine:=fun y hy=>by
   have:=Gf p y hy;exact this
  have:∀ zs:List Str,(∀ y∈zs,y.length<=sizeLine)->Paired (Rp.rel K G2) (zs.map V.str) zs:=fun zs=>by
   induction zs with
   | nil=>intro _;exact .nil
   | cons y zs ih=>intro h;exact .cons ⟨rfl,h y qrA⟩ (ih fun w hw=>h w (qsA _ hw))
  exact this _ fun y hy=>hl y ((Bf a).mem_iff.mp hy)
end
def QD (K:FZ9):R2:=fun x y H Q=>∃ a b xs ys,x = .ref a/\y = .ref b/\SqT K H a xs/\SqT K H b ys/\xs.length+ys.length<=sizeLine/\(xs=[]->Q (.ref b) H)/\(ys=[]->Q (.ref a) H)/\∀ p,H p=none->Q (.ref p) (upd H p (.tup (xs++ys)))
theorem KW {X:Cx}{K:FZ9}(h:X.K=K):OpR X (binaryOp .Add) (QD K):=by
 subst h;intro pins s σ H x y v u Q I rx ry h;obtain ⟨t,b,xs,ys,rfl,rfl,h1,h2,hz,q0,q1,q2⟩:=h;cases rx;cases ry;obtain ⟨vs,rv,ht,_⟩:=I.tuple h1;obtain ⟨ws,rw',hb,_⟩:=I.tuple h2;have l1:=rv.length;have l2:=rw'.length;obtain ⟨⟨cls,dd,data,sl⟩,ho,hc,n,hd⟩:=id ht;obtain ⟨⟨cls2,dd2,data2,sl2⟩,ho2,hc2,n2,hd2⟩:=id hb;simp only at hc hd hc2 hd2;subst hc hd hc2 hd2;have e:vs.toArray++ws.toArray=(vs++ws).toArray:=by simp
 by_cases hv:vs=[]
 ·have hx:xs=[]:=List.length_eq_zero_iff.mp (by rw [l1,hv];rfl)
  exact concat_meets ⟨_,ho,rfl⟩ ⟨_,ho2,rfl⟩ noFill_tuple_add seq_tuple_add PySem.F.slot_tuple_add PySem.F.entry_tuple_add (PySem.F.args_tuple_add_2 _ _)
   (tuple_addW0 t b vs.toArray ws.toArray n n2 dd dd2 sl sl2 (by simp [hv])) ⟨ho,ho2,⟨.ref b,H,I.tok _,rfl,q0 hx⟩⟩
 ·by_cases hw:ws=[]
  ·have hy:ys=[]:=List.length_eq_zero_iff.mp (by rw [l2,hw];rfl)
   exact concat_meets ⟨_,ho,rfl⟩ ⟨_,ho2,rfl⟩ noFill_tuple_add seq_tuple_add PySem.F.slot_tuple_add PySem.F.entry_tuple_add (PySem.F.args_tuple_add_2 _ _)
    (tuple_addW1 t b vs.toArray ws.toArray n n2 dd dd2 sl sl2 (by simpa using hv) (by simp [hw])) ⟨ho,ho2,⟨.ref t,H,I.tok _,rfl,q1 hy⟩⟩
  ·refine concat_meets ⟨_,ho,rfl⟩ ⟨_,ho2,rfl⟩ noFill_tuple_add seq_tuple_add PySem.F.slot_tuple_add PySem.F.entry_tuple_add (PySem.F.args_tuple_add_2 _ _)
    (tuple_addW2 t b vs.toArray ws.toArray n n2 dd dd2 sl sl2 (by simpa using hv) (by simpa using hw) (by rw [qvB,qvB];omega)) ⟨ho,ho2,?_⟩
   rw [e];exact ⟨.ref s.heap.objs.size,_,I.laid (t':=s.toks) (o:=.tup (xs++ys)) (fun b ob q=>qnB _ q) (qgB _) ⟨by rw [qgA];exact hz,vs++ws,rv.append rw',IsTup.new _ _⟩,rfl,q2 _ (I.hok.fresh (qgB _))⟩
def PQ {α:Type}(a b:Tp α):Option (Tp α):=if a.l.length+b.l.length<=sizeLine then some ⟨a.l++b.l⟩ else none
section
variable {K:FZ9}{σ:St}{G:Hp}{α:Type}[Rp α]{ta tb:TE}
theorem PR {m1 m2:Option (Tp α)}(ea:EV K ta σ G m1)(eb:EV K tb σ G m2):EV K (tOp (QD K) ta tb) σ G (m1.bind fun a=>m2.bind fun b=>PQ a b) :=
 C7 (fun {G' H' x y a b c} s ra rb e Q k=>by
  obtain ⟨hz,rfl⟩:=B4 e;obtain ⟨l,xs,rfl,h,z,p⟩:=ra;obtain ⟨l',ys,rfl,h',z',p'⟩:=rb;have e1:=Paired.length p;have e2:=Paired.length p';refine ⟨l,l',xs,ys,rfl,rfl,s.tup h,s.tup h',by omega,fun hx=>?_,fun hy=>?_,fun q hq=>?_⟩
  ·have ea:a.l=[]:=List.length_eq_zero_iff.mp (by rw [<- e1,hx];rfl);exact k _ _ _ (.refl s) ⟨l',ys,rfl,h',z',by show Paired _ ys (a.l++b.l);rw [ea];exact p'⟩
  ·have eb:b.l=[]:=List.length_eq_zero_iff.mp (by rw [<- e2,hy];rfl);exact k _ _ _ (.refl s) ⟨l,xs,rfl,h,z,by show Paired _ xs (a.l++b.l);rw [eb,qeB];exact p⟩
  ·have sn:=Same.new (o:=.tup (xs++ys)) (s.free hq)
   exact k _ _ _ (.new s hq) ⟨q,xs++ys,rfl,SqT.of AH,by rw [qgA];omega,Paired.app (Paired.imp' (fun _ _ r=>Rp.mono sn r) p) (Paired.imp' (fun _ _ r=>Rp.mono sn r) p')⟩) ea eb
end
def Ris (xs:Array Nat):Prop:=∀ i j,i<j->(hj:j<xs.size)->xs.getD i 0<xs.getD j 0
theorem below_go (xs:Array Nat)(j:Nat)(hr:Ris xs):∀ fuel lo hi,lo<=hi->hi<=xs.size->hi - lo<=fuel->(∀ i,i<lo->xs.getD i 0<j)->(∀ i,hi<=i->i<xs.size->j<=xs.getD i 0) ->
  (SetTable.below.go xs j fuel lo hi<=xs.size/\(∀ i,i<SetTable.below.go xs j fuel lo hi->xs.getD i 0<j)/\∀ i,SetTable.below.go xs j fuel lo hi<=i->i<xs.size->j<=xs.getD i 0):=by
 intro fuel
 induction fuel with
 | zero =>
  intro lo hi h1 h2 h3 h4 h5;have e:lo=hi:=by omega
  subst e;exact ⟨h2,h4,h5⟩
 | succ fuel ih =>
  intro lo hi h1 h2 h3 h4 h5;unfold SetTable.below.go;by_cases hlt:lo<hi
  ·rw [if_pos hlt];dsimp only;have hm1:lo<=(lo+hi) / 2:=by omega
   have hm2:(lo+hi) / 2<hi:=by omega
   generalize (lo+hi) / 2=mid at hm1 hm2 ⊢;have hms:mid<xs.size:=by omega
   have e1:xs.getD mid j=xs.getD mid 0:=by simp [Array.getD,hms]
   rw [e1]
   have mono:∀ a b,a<=b->b<xs.size->xs.getD a 0<=xs.getD b 0:=fun a b hab hb=>by
    rcases Nat.lt_or_eq_of_le hab with h|h
    ·exact Nat.le_of_lt (hr a b h hb)
    ·rw [h];exact qgB _
   by_cases hc:xs.getD mid 0<j
   ·rw [if_pos hc];refine ih (mid+1) hi (by omega) h2 (by omega) (fun i hi'=>?_) h5;exact Nat.lt_of_le_of_lt (mono i mid (by omega) hms) hc
   ·rw [if_neg hc];refine ih lo mid hm1 (by omega) (by omega) h4 fun i hi' hs=>?_;exact qhB (Nat.le_of_not_lt hc) (mono mid i hi' hs)
  ·rw [if_neg hlt];have e:lo=hi:=by omega
   subst e;exact ⟨h2,h4,h5⟩
theorem P2 {xs:Array Nat}(hr:Ris xs)(j:Nat):SetTable.below xs j<=xs.size/\(∀ i,i<SetTable.below xs j->xs.getD i 0<j)/\∀ i,SetTable.below xs j<=i->i<xs.size->j<=xs.getD i 0 :=
 below_go xs j hr xs.size 0 xs.size (qkC _) (qgB _) (qgB _) (fun i h=>absurd h (Nat.not_lt_zero _)) fun i h h'=>absurd h' (Nat.not_lt.mpr h)
theorem Pn {xs:Array Nat}(hr:Ris xs){j p:Nat}(hp:p<=xs.size)(h1:∀ i,i<p->xs.getD i 0<j)(h2:∀ i,p<=i->i<xs.size->j<=xs.getD i 0):SetTable.below xs j=p:=by
 obtain ⟨a,b,c⟩:=P2 hr j;rcases Nat.lt_trichotomy (SetTable.below xs j) p with h|h|h
 ·have:=c _ (qgB _) (by omega);have:=h1 _ h;omega
 ·exact h
 ·have:=b _ h;have:=h2 p (qgB _) (by omega);omega
theorem QR {xs:Array Nat}(hr:Ris xs):SetTable.below xs 0=0:=Pn hr (qkC _) (fun i h=>absurd h (Nat.not_lt_zero _)) fun i _ _=>qkC _
theorem QE {xs:Array Nat}(hr:Ris xs){i:Nat}(hi:i<xs.size):SetTable.below xs (xs.getD i 0+1)=i+1 :=
 Pn hr hi (fun k hk=>by
  rcases Nat.lt_or_eq_of_le (Nat.le_of_lt_succ hk) with h|h
  ·have:=hr k i h hi;omega
  ·rw [h];exact Nat.lt_succ_self _) fun k hk hs=>hr i k hk hs
theorem Ig {xs:Array Nat}(h:xs.toList.Pairwise (· < ·)):Ris xs:=fun i j hij hj=>by
 have:=List.pairwise_iff_getElem.mp h i j (by simpa using Nat.lt_trans hij hj) (by simpa using hj) hij
 simpa [Array.getD,hj,Nat.lt_trans hij hj] using this
theorem Sc {xs:Array Nat}(h:Ris xs):xs.toList.Pairwise (· < ·):=by
 rw [List.pairwise_iff_getElem];intro i j hi hj hij;have hi':i<xs.size:=by simpa using hi
 have hj':j<xs.size:=by simpa using hj
 have:=h i j hij hj'
 simpa [Array.getD,hj',hi'] using this
theorem Q3 {xs:Array Nat}(hr:Ris xs){j:Nat}(hn:xs[SetTable.below xs j]?≠some j):Ris (SetTable.insertAt xs (SetTable.below xs j) j):=by
 apply Ig;rw [SetTable.toList_insertAt];obtain ⟨a,b,c⟩:=P2 hr j;have pw:=Sc hr;generalize hp:SetTable.below xs j=p at a b c hn
 have hA:∀ x∈xs.toList.take p,x<j:=fun x hx=>by
  obtain ⟨i,hi,rfl⟩:=List.mem_iff_getElem.mp hx;rw [qkA] at hi;have h1:i<p:=by omega
  have h2:i<xs.size:=by rw [qcC] at hi;omega
  have:=b i h1;rw [List.getElem_take]
  simpa [Array.getD,h2] using this
 have hB:∀ x∈xs.toList.drop p,j<x:=fun x hx=>by
  obtain ⟨i,hi,rfl⟩:=List.mem_iff_getElem.mp hx;rw [List.length_drop,qcC] at hi;have h2:p+i<xs.size:=by omega
  have hp2:p<xs.size:=by omega
  have h3:=c (p+i) (Nat.le_add_right _ _) h2;rw [List.getElem_drop]
  have h4:xs.getD (p+i) 0≠j:=fun e=>by
   have h5:=c p (qgB _) hp2
   have h6:xs.getD p 0<=xs.getD (p+i) 0:=by
    cases i with
    | zero=>exact qgB _
    | succ i=>exact Nat.le_of_lt (hr p (p+(i+1)) (by omega) h2)
   have h7:xs.getD p 0=j:=by omega
   apply hn;simp only [Array.getD,hp2,dite_true] at h7;rw [Array.getElem?_eq_getElem hp2];exact congrArg some h7
  simp only [Array.getD,h2,dite_true] at h3 h4;have e:xs.toList[p+i]'(by simpa using h2)=xs[p+i]:=by simp
  rw [e];have h3':j<=xs[p+i]:=by simpa using h3
  have h4':xs[p+i]≠j:=by simpa using h4
  omega
 rw [List.pairwise_append];refine ⟨pw.take,List.pairwise_cons.mpr ⟨hB,pw.drop⟩,fun x hx y hy=>?_⟩;have h1:=hA x hx;rcases qnA.mp hy with rfl|hy
 ·exact h1
 ·exact Nat.lt_trans h1 (hB y hy)
structure RT (t:SetTable):Prop where
 ris:Ris t.place
 dum:t.dummies = #[]
theorem Ls (j:Nat):SetTable.has #[] j=false:=by
 unfold SetTable.has;simp
theorem probe_go {t:SetTable}(hd:t.dummies = #[])(f:Nat->Int)(h:Int):∀ fuel p j d,p.dummy=none->SetTable.probe.go t f h fuel p=some (.empty j d)->d=none/\t.place[SetTable.below t.place j]?≠some j:=by
 intro fuel
 induction fuel with
 | zero=>intro p j d _ e;cases e
 | succ fuel ih =>
  intro p j d hp e;unfold SetTable.probe.go at e
  have hadv:(t.advance p).dummy=none:=by
   unfold SetTable.advance;split
   ·exact hp
   ·exact hp
  cases hs:t.slot p.j with
  | empty =>
   rw [hs] at e;dsimp only at e;cases e;refine ⟨hp,fun hc=>?_⟩;unfold SetTable.slot at hs;dsimp only at hs;rw [hc] at hs;simp at hs
  | dummy =>
   unfold SetTable.slot at hs;dsimp only at hs;rw [hd,Ls] at hs;split at hs<;>simp at hs
  | live i =>
   rw [hs] at e;dsimp only at e;split at e
   ·cases e
   ·exact ih _ _ _ hadv e
theorem PN {t:SetTable}(hd:t.dummies = #[]){h:Int}{j:Nat}{b:Bool}(e:t.freeSlot h=some (j,b)):b=false/\t.place[SetTable.below t.place j]?≠some j:=by
 unfold SetTable.freeSlot at e
 cases hp:t.probe (fun _=>h+1) h (t.probeStart h) with
 | none=>rw [hp] at e;cases e
 | some m =>
  rw [hp] at e
  cases m with
  | candidate _ _ _=>cases e
  | empty j' d =>
   obtain ⟨rfl,h2⟩:=probe_go hd _ _ _ _ _ _ rfl hp;simp only [Option.getD_none,Option.isSome_none,Option.some.injEq,Prod.mk.injEq] at e;obtain ⟨rfl,rfl⟩:=e;exact ⟨rfl,h2⟩
theorem F5 (t:SetTable)(n:Nat):RT (t.standIn n):=⟨Ig (by show (Array.range n).toList.Pairwise _;rw [Array.toList_range];exact List.pairwise_lt_range),rfl⟩
theorem NL {t:SetTable}(h:RT t)(n:Nat):RT (t.orStandIn n):=by
 unfold SetTable.orStandIn;split
 ·exact h
 ·exact F5 t n
theorem Lj (t:SetTable)(n:Nat):(t.orStandIn n).led=t.led:=by
 unfold SetTable.orStandIn;split<;>rfl
theorem T1 {t:SetTable}(ht:RT t)(es:Array (Int × Value))(h:Int)(x:Value):RT (layNew t es h x).2.1/\(layNew t es h x).2.1.led=t.led:=by
 unfold layNew;split
 ·rename_i slot wd e;obtain ⟨_,h2⟩:=PN ht.dum e;refine ⟨NL ⟨?_,?_⟩ _,Lj _ _⟩
  ·exact Q3 ht.ris h2
  ·show (if SetTable.has t.dummies slot then _ else t.dummies) = #[];rw [ht.dum,Ls]
   rfl
 ·exact ⟨F5 _ _,rfl⟩
theorem Hr {β:Type}(f:Nat->Option β):∀ l:List Nat,l.Pairwise (· < ·)->((l.filterMap fun j=>(f j).map (j,·)).map (·.1)).Pairwise (· < ·)
 | [],_=>.nil
 | a::l,h=>by
  have ih:=Hr f l h.tail
  cases hf:f a with
  | none=>rw [List.filterMap_cons_none (by rw [hf];rfl)];exact ih
  | some b =>
   rw [List.filterMap_cons_some (b:=(a,b)) (by rw [hf];rfl),qbB];refine List.pairwise_cons.mpr ⟨fun y hy=>?_,ih⟩;obtain ⟨⟨j,c⟩,hq,rfl⟩:=qoA.mp hy;obtain ⟨j',hj',e⟩:=List.mem_filterMap.mp hq
   cases hf':f j' with
   | none=>rw [hf'] at e;cases e
   | some c' =>
    rw [hf'] at e;cases e;exact List.rel_of_pairwise_cons h hj'
theorem NU {mask finger moves:Nat}{led plain:Bool}{hs:Array Int}{t:SetTable}{o:Array Nat}(e:SetTable.laid mask finger moves led plain hs=some (t,o)):RT t/\t.led=led/\t.plain=plain/\t.mask=mask:=by
 unfold SetTable.laid at e
 cases hl:SetTable.layClean mask hs with
 | none=>rw [hl] at e;cases e
 | some ow =>
  rw [hl] at e;simp only [Option.pure_def,Option.bind_eq_bind,Option.bind_some,Option.some.injEq,Prod.mk.injEq] at e;obtain ⟨rfl,rfl⟩:=e;refine ⟨⟨Ig ?_,rfl⟩,rfl,rfl,rfl⟩;exact Hr (fun j=>ow.getD j none) _ List.pairwise_lt_range
theorem PM (t:SetTable)(ht:RT t)(es:Array (Int × Value))(wanted:Nat):RT (relayAll t es wanted).2.1/\(relayAll t es wanted).2.1.led=t.led:=by
 unfold relayAll;split
 ·rename_i t' order e;dsimp only;split
  ·unfold SetTable.relaid at e;obtain ⟨a,b,_⟩:=NU e;exact ⟨a,b⟩
  ·exact ⟨F5 _ _,rfl⟩
 ·exact ⟨F5 _ _,rfl⟩
theorem Jx {α:Type}{l:List α}{i:Nat}(h:i<l.length):(l[i]::l.eraseIdx i).Perm l:=by
 rw [List.eraseIdx_eq_take_drop_succ];have e:l=l.take i++l[i]::l.drop (i+1):=by rw [List.getElem_cons_drop,List.take_append_drop]
 exact List.perm_middle.symm.trans (List.Perm.of_eq e.symm)
theorem pick_go {α:Type}(next:Nat->Nat):∀ fuel k (left:List α) (out:Array α),left.length=fuel->(pickOrder.go next fuel k left out).toList.Perm (out.toList++left):=by
 intro fuel
 induction fuel with
 | zero =>
  intro k left out h;have:left=[]:=List.eq_nil_of_length_eq_zero h;subst this;unfold pickOrder.go;rw [qeB]
 | succ fuel ih =>
  intro k left out h;unfold pickOrder.go;have hlt:next k % left.length<left.length:=Nat.mod_lt _ (by omega);rw [qwA hlt];dsimp only;refine (ih (k+1) _ _ (by rw [List.length_eraseIdx_of_lt hlt];omega)).trans ?_;rw [Array.toList_push,qdB];refine List.Perm.append_left _ ?_;exact Jx hlt
theorem IS {α:Type}(next:Nat->Nat)(xs:Array α):(pickOrder next xs).toList.Perm xs.toList:=by
 unfold pickOrder;exact (pick_go next xs.size 0 xs.toList #[] (by simp)).trans (by simp)
def byT (w:World):Bool:=w.params.followText "set-order"
def Ent (w:World)(e:Int × Value)(k:Key):Prop:=Cp k e.2=true/\e.1=Mu w k
theorem Om {k:Key}{v:Value}(h:Cp k v=true):v.scannable=true:=by
 rcases B9 h with ⟨i,t,rfl,rfl⟩ | ⟨x,t,rfl,rfl⟩<;>rfl
structure SObj (w:World)(o:Obj)(es:Array (Int × Value))(ep:Nat)(t:SetTable)(ks:List Key):Prop where
 exact':o.ExactSet
 data:o.data = .set es ep t
 ent:Paired (Ent w) es.toList ks
 few:ks.length<scanBound
 fit:t.fits es.size=true
 rt:RT t
 led:t.led = !byT w
def SetIs (w:World)(h:Heap)(a:Addr)(ks:List Key):Prop:=∃ o es ep t,h.get? a=some o/\SObj w o es ep t ks
theorem CK {α β:Type}{F:α->β->Prop}:∀ {l₁:List α}{l₂:List β},Paired F l₁ l₂->l₁.length=l₂.length
 | _,_,.nil=>rfl
 | _,_,.cons _ t=>congrArg (· + 1) (CK t)
theorem SObj.size {w:World}{o es ep t ks}(S:SObj w o es ep t ks):es.size=ks.length:=by
 have:=CK S.ent
 rwa [qcC] at this
theorem SObj.elems {prog:Program}{w:World}{o es ep t ks}(S:SObj w o es ep t ks):ElemsOf (Av prog w) es.toList:=by
 have:∀ {l:List (Int × Value)}{ks:List Key},Paired (Ent w) l ks->ElemsOf (Av prog w) l:=by
  intro l ks p
  induction p with
  | nil=>intro e he;cases he
  | cons hd _ ih =>
   intro e he;rcases qnA.mp he with rfl|he
   ·exact ⟨⟨_,hd.1,hd.2⟩,Om hd.1⟩
   ·exact ih e he
 exact this S.ent
theorem Cr {α β:Type}{F:α->β->Prop}{l l':List α}(hp:l'.Perm l):∀ {m:List β},Paired F l m->∃ m',m'.Perm m/\Paired F l' m':=by
 have:=hp.symm;clear hp
 induction this with
 | nil=>intro m p;exact ⟨m,.rfl,p⟩
 | cons x _ ih =>
  intro m p
  cases p with
  | cons h t =>
   obtain ⟨m',e,q⟩:=ih t;exact ⟨_,e.cons _,.cons h q⟩
 | swap x y l =>
  intro m p
  cases p with
  | cons h t=>cases t with
   | cons h2 t2=>exact ⟨_,List.Perm.swap _ _ _,.cons h2 (.cons h t2)⟩
 | trans _ _ ih1 ih2 =>
  intro m p;obtain ⟨m1,e1,q1⟩:=ih1 p;obtain ⟨m2,e2,q2⟩:=ih2 q1;exact ⟨m2,e2.trans e1,q2⟩
theorem Nx {w:World}{k:Key}:∀ {l:List (Int × Value)}{ks:List Key},Paired (Ent w) l ks->((∃ e∈l,Cp k e.2=true) ↔ k∈ks)
 | _,_,.nil=>by simp
 | _,_,.cons (a:=e) (b:=k') h t=>by
  have ih:=Nx (k:=k) t;have hk:Cp k e.2=true ↔ k=k':=⟨fun q=>(Av default w).inj _ _ _ q h.1,fun q=>q ▸ h.1⟩;constructor
  ·rintro ⟨x,hx,q⟩;rcases qnA.mp hx with rfl|hx
   ·exact qnA.mpr (.inl (hk.mp q))
   ·exact qnA.mpr (.inr (ih.mp ⟨x,hx,q⟩))
  ·intro hm;rcases qnA.mp hm with rfl|hm
   ·exact ⟨e,qrA,h.1⟩
   ·obtain ⟨x,hx,q⟩:=ih.mpr hm;exact ⟨x,qsA _ hx,q⟩
def Ez (ks:List Key)(k:Key):List Key:=if ks.any (fun y=>decide (y=k)) then ks else ks++[k]
theorem any_mem {ks:List Key}{k:Key}:ks.any (fun y=>decide (y=k))=true ↔ k∈ks:=by
 rw [List.any_eq_true];exact ⟨fun ⟨y,hy,e⟩=>(of_decide_eq_true e) ▸ hy,fun h=>⟨k,h,decide_eq_true rfl⟩⟩
theorem Ho {ks:List Key}{k:Key}(h:k∈ks):Ez ks k=ks:=by unfold Ez;rw [if_pos (any_mem.mpr h)]
theorem FY {ks:List Key}{k:Key}(h:k ∉ ks):Ez ks k=ks++[k]:=by unfold Ez;rw [if_neg (fun q=>h (any_mem.mp q))]
theorem NH {t:SetTable}(h:RT t):RT { t with plain:=false }:=⟨h.ris,h.dum⟩
section
variable {prog:Program}{w:World}{A:Around}{E:Value->Shared->Prop}{s:Shared}
theorem DQ {Q:Bool->Shared->Prop}(h:Q (byT w) s):wpAny (model prog w) A setsByText Q E s:=by
 unfold setsByText;exact qbA (wpAny_askSetting (qcA h))
theorem Sm {src:Source}{n:Nat}{Q:Nat->Shared->Prop}(hn:n≠0)(h:∀ i d,i<n->Q i { s with drawn:=d }):wpAny (model prog w) A (choose src n) Q E s :=
 fun Γ p hΓ=>⟨hn,h _ _ (Nat.mod_lt _ (Nat.pos_of_ne_zero hn))⟩
theorem F2 {a:Addr}{o:Obj}{es:Array (Int × Value)}{ep:Nat}{t:SetTable}{es':Array (Int × Value)}{t':SetTable}(ho:s.heap.get? a=some o)(hd:o.data = .set es ep t) :
  (s.heap.update a (Obj.putSet es' t')).get? a=some { o with data:=.set es' (ep+1) t' }:=by
 have:=Heap.get?_update_self (Obj.putSet es' t') ho (by rw [putSet_of es' t' hd];rfl)
 rwa [putSet_of es' t' hd] at this
theorem E7 {n:Nat}(h:n<scanBound):n<=sizeLine:=fits_of_scanBound h
theorem Pe {g:Bool->Sem Unit}(hg:∀ (b:Bool) (s₁:Shared) (Q':Unit->Shared->Prop),Q' () s₁->wpAny (model prog w) A (g b) Q' E s₁)
  {a:Addr}{o:Obj}{es:Array (Int × Value)}{ep:Nat}{t:SetTable}(gA:s.heap.get? a=some o) (xA:o.ExactSet) (dA:o.data = .set es ep t)
  {es1:Array (Int × Value)}{t2:SetTable}{ks:List Key}(p1:Paired (Ent w) es1.toList ks) (f1:ks.length<scanBound) (ft:t2.fits es1.size=true) (r2:RT t2) (l2:t2.led = !byT w) {wd:Bool}{R:Option Bool->Shared->Prop}
  (h:∀ h' ks',Heap.SameBut a s.heap h'->SetIs w h' a ks'->ks'.Perm ks->R (some true) { s with heap:=h' }) :
  wpAny (model prog w) A (do
    storeSet a es1 t2
    if (!wd && t2.tooFull)=true then do
      g (relayAll t2 es1 (SetTable.grown es1.size)).2.2;storeSet a (relayAll t2 es1 (SetTable.grown es1.size)).1 (relayAll t2 es1 (SetTable.grown es1.size)).2.1
      pure (some true)
     else pure (some true)) R E s:=by
 have z1:es1.size=ks.length:=by have:=CK p1;rwa [qcC] at this
 refine qbA (wpAny_storeSet_of gA dA ?_ (E7 (by rw [z1];exact f1)));have g1:=F2 (es':=es1) (t':=t2) gA dA;have b1:=Heap.SameBut.update s.heap a (Obj.putSet es1 t2);split
 ·have hp:=relayAll_perm t2 es1 (SetTable.grown es1.size);have hfr:=relayAll_fits t2 es1 (SetTable.grown es1.size);obtain ⟨hrt,hld⟩:=PM t2 r2 es1 (SetTable.grown es1.size);generalize relayAll t2 es1 (SetTable.grown es1.size)=Rl at hp hfr hrt hld ⊢;obtain ⟨es2,t3,gave2⟩:=Rl;dsimp only at hp hfr hrt hld ⊢;obtain ⟨ks',e',p2⟩:=Cr hp p1;have f2:ks'.length<scanBound:=by rw [e'.length_eq];exact f1
  have z2:es2.size=ks'.length:=by have:=CK p2;rwa [qcC] at this
  refine qbA (hg _ _ _ (qbA (wpAny_storeSet_of (o:={ o with data:=.set es1 (ep+1) t2 }) g1 rfl ?_ (E7 (by rw [z2];exact f2)))));have g2:=F2 (s:={ s with heap:=s.heap.update a (Obj.putSet es1 t2) }) (es':=es2) (t':=t3) g1 rfl;exact qcA (h _ ks' (b1.trans (Heap.SameBut.update _ a _)) ⟨_,es2,_,t3,g2,⟨xA,rfl,p2,f2,hfr,hrt,hld.trans l2⟩⟩ e')
 ·exact qcA (h _ ks b1 ⟨_,es1,_,t2,g1,⟨xA,rfl,p1,f1,ft,r2,l2⟩⟩ .rfl)
theorem add_ok {a:Addr}{ks:List Key}{k:Key}{x:Value}{Q:Bool->Shared->Prop}(hk:Cp k x=true)(hS:SetIs w s.heap a ks)(hroom:ks.length+1<scanBound)
  (h:∀ h' ks',Heap.SameBut a s.heap h'->SetIs w h' a ks'->ks'.Perm (Ez ks k)->∀ b,Q b { s with heap:=h' }) :
  wpAny (model prog w) A (setAddHashed a x (Mu w k)) Q E s:=by
 obtain ⟨o,es,ep,t,gA,S⟩:=hS;have hel:=S.elems (prog:=prog);have hsz:=S.size;have hsc:=Om hk;unfold setAddHashed setAddHashedIn;refine qeA (qbA (qiC gA S.data S.fit ?_));dsimp only;rw [byScan_of hsc (by rw [hsz];exact S.few) hel];simp only [↓reduceIte];unfold setAddByScan;refine qbA (qbA (qdA (qbA (wpAny_setScan_of (knd:=Av prog w) (k:=k) hk gA S.data S.fit hel ?_))));have hf:=Nx (k:=k) S.ent
 cases hr:List.findIdx? (fun e=>(Av prog w).is k e.2) es.toList with
 | some j =>
  dsimp only;obtain ⟨hj,hpj,_⟩:=List.findIdx?_eq_some_iff_getElem.mp hr;have hm:k∈ks:=hf.mp ⟨es.toList[j],List.getElem_mem hj,hpj⟩;refine qcA (qcA ?_);have e:s = { s with heap:=s.heap }:=by cases s;rfl
  have q:=h s.heap ks (Heap.SameBut.refl a s.heap) ⟨o,es,ep,t,gA,S⟩ (by rw [Ho hm]) false;rw [<- e] at q;exact q
 | none =>
  dsimp only
  have hm:k ∉ ks:=fun hm=>by
   obtain ⟨e,he,q⟩:=hf.mpr hm;have:=List.findIdx?_eq_none_iff.mp hr e he;have q':(Av prog w).is k e.2=true:=q;rw [q'] at this;exact Bool.noConfusion this
  have hgw:∀ (b:Bool) {s₁:Shared}{Q':Unit->Shared->Prop},Q' () s₁->wpAny (model prog w) A (match b with|true=>rule "set.scan.the-table-gave-way" | false=>pure ()) Q' E s₁:=by
   intro b s₁ Q' hq;cases b
   ·exact qcA hq
   ·exact qdA hq
  have hperm:=layNew_perm t es (Mu w k) x;have hfits:=layNew_fits t es (Mu w k) x;obtain ⟨hrt,hld⟩:=T1 S.rt es (Mu w k) x;generalize hL:layNew t es (Mu w k) x=L at hperm hfits hrt hld;obtain ⟨es1,t1,wd,gave⟩:=L;dsimp only at hperm hfits hrt hld ⊢;rw [Array.toList_push] at hperm;obtain ⟨ks1,e1,p1⟩:=Cr hperm (S.ent.snoc (b:=k) (show Ent w (Mu w k,x) k from ⟨hk,rfl⟩));have f1:ks1.length<scanBound:=by rw [e1.length_eq,qgA];exact hroom
  have fin:∀ (h':Heap) (ks':List Key),Heap.SameBut a s.heap h'->SetIs w h' a ks'->ks'.Perm ks1->Q true { s with heap:=h' }:=fun h' ks' b1 b2 b3=>h h' ks' b1 b2 (by rw [FY hm];exact b3.trans e1) true;refine qbA (hgw _ ?_);split
  ·refine qbA ?_;rw [hashByValue_scannable 8 hsc];refine qcA (Pe (fun b s₁ Q' hq=>by cases b<;>first|exact qcA hq|exact qdA hq) gA S.exact' S.data p1 f1 ?_ ?_ ?_ fun h' ks' b1 b2 b3=>?_)
   ·split
    ·exact hfits
    ·exact SetTable.fits_plain_off hfits
   ·split
    ·exact hrt
    ·exact NH hrt
   ·split
    ·exact hld.trans S.led
    ·exact hld.trans S.led
   ·exact qcA (fin h' ks' b1 b2 b3)
  ·refine qbA (qcA ?_);simp only [↓reduceIte];refine Pe (fun b s₁ Q' hq=>by cases b<;>first|exact qcA hq|exact qdA hq) gA S.exact' S.data p1 f1 hfits hrt (hld.trans S.led) fun h' ks' b1 b2 b3=>?_;exact qcA (fin h' ks' b1 b2 b3)
end
def EB (ks:List Key):List Key:=ks.foldl Ez []
theorem Su {a b:List Key}(h:a.Perm b)(k:Key):(Ez a k).Perm (Ez b k):=by
 by_cases hk:k∈b
 ·rw [Ho hk,Ho (h.mem_iff.mpr hk)];exact h
 ·rw [FY hk,FY (fun q=>hk (h.mem_iff.mp q))];exact h.append_right _
theorem PU (a:List Key)(k:Key):(Ez a k).length<=a.length+1:=by
 unfold Ez;split
 ·exact Nat.le_succ _
 ·rw [qgA];exact qgB _
theorem T6 (ks:List Key):∀ a:List Key,(ks.foldl Ez a).length<=a.length+ks.length:=by
 induction ks with
 | nil=>intro a;exact qgB _
 | cons k ks ih =>
  intro a;have h1:=ih (Ez a k);have h2:=PU a k;rw [qjC,qhA];omega
theorem dedK_len (ks:List Key):(EB ks).length<=ks.length:=by
 have:=T6 ks [];rw [List.length_nil] at this;unfold EB;omega
theorem Sd (ks:List Key)(k:Key):EB (ks++[k])=Ez (EB ks) k:=by
 unfold EB;rw [List.foldl_append]
 rfl
def SetP (w:World)(h:Heap)(a:Addr)(ks:List Key):Prop:=∃ ks',SetIs w h a ks'/\ks'.Perm ks
theorem SetIs.at {w:World}{h h':Heap}{a:Addr}{ks:List Key}(x:SetIs w h a ks)(k:∀ o,h.get? a=some o->h'.get? a=some o):SetIs w h' a ks:=by
 obtain ⟨o,es,ep,t,g,S⟩:=x;exact ⟨o,es,ep,t,k _ g,S⟩
theorem SetP.at {w:World}{h h':Heap}{a:Addr}{ks:List Key}(x:SetP w h a ks)(k:∀ o,h.get? a=some o->h'.get? a=some o):SetP w h' a ks:=by
 obtain ⟨ks',g,e⟩:=x;exact ⟨ks',g.at k,e⟩
def BV (w:World):Obj:={ cls:=.type "set",dict:=none,data:=.set #[] 0 (.fresh 0 0 (!byT w)) }
theorem PJ {w:World}{h:Heap}{a:Addr}(g:h.get? a=some (BV w)):SetIs w h a [] :=
 ⟨_,#[],0,_,g,⟨⟨rfl,rfl,rfl⟩,rfl,.nil,by decide,rfl,⟨fun i j _ hj=>absurd hj (Nat.not_lt_zero _),rfl⟩,rfl⟩⟩
section
variable {prog:Program}{w:World}{A:Around}{R:Result->Shared->Prop}{I:Addr}{fp wr:List Addr}{G:Array GenState->Array GenState->Prop}{n:Nat}{P:Nat->Value->Prop}{St:Nat->Shared->Prop}
theorem upd_loop (W:WalksS prog w A.in1 I fp wr G n P St)(S:Addr)(nS:S ∉ fp)(val:List Key)(hn:val.length=n)(hv:∀ i v,P i v->∃ k,val[i]? = some k/\Cp k v=true)(hb:n+1<scanBound) :
  ∀ (k i:Nat) (s:Shared),n - i=k->i<=n->St i s->SetP w s.heap S (EB (val.take i)) ->
   (∀ s',Moved (S::wr) G s s'->SetP w s'.heap S (EB val)->R (.ok (.ret .none)) s') ->
   codeAny (model prog w) A (.builtin "set.update.loop" ⟨[.ref S,.ref I],[]⟩) R s:=by
 have nW:S ∉ wr:=fun h=>nS (W.sub _ h);have up:∀ b∈wr,b∈S::wr:=fun b hb=>qsA _ hb;intro k
 induction k with
 | zero =>
  intro i s e1 e2 st hS hR;have ei:i=n:=by omega
  subst ei;refine codeAny_builtin PyProof.Rows.F.entry_set_update_loop ?_;rw [Around.under_plainId PyProof.Rows.F.plain_set_update_loop _];show wpAny _ A.in1 (pyNext (.ref I) >>= _) _ _ s;refine qbA (W.done s _ _ st fun s' hm=>?_);show wpAny _ A.in1 (ret Value.none) _ _ s';refine qcA (hR s' (hm.mono up) ?_);rw [List.take_of_length_le (Nat.le_of_eq hn)] at hS;exact hS.at fun o e=>hm.heap S _ nW e
 | succ k ih =>
  intro i s e1 e2 st hS hR;have hlt:i<n:=by omega
  refine codeAny_builtin PyProof.Rows.F.entry_set_update_loop ?_;rw [Around.under_plainId PyProof.Rows.F.plain_set_update_loop _];show wpAny _ A.in1 (pyNext (.ref I) >>= _) _ _ s;refine qbA (W.item i s _ _ hlt st fun v s' hP st' hm=>?_);obtain ⟨kk,hkk,hi⟩:=hv i v hP;obtain ⟨ks',hS',ep⟩:SetP w s'.heap S (EB (val.take i)):=hS.at fun o e=>hm.heap S _ nW e;show wpAny _ A.in1 (holding [v] (setAdd S v) >>= _) _ _ s';refine qbA (qeA ?_);unfold setAdd;refine qeA (qbA ((Av prog w).pyHash (k:=kk) hi ?_))
  have hl:ks'.length<=i:=by
   rw [ep.length_eq];exact qhB (dedK_len _) (by rw [qkA];exact Nat.min_le_left _ _)
  refine add_ok (s:={ s' with toks:=s'.toks+1 }) hi hS' (by omega) fun h' ks2 hsb hS2 e2' b=>?_
  have hnext:SetP w h' S (EB (val.take (i+1))):=by
   refine ⟨ks2,hS2,?_⟩;rw [List.take_add_one,hkk];show ks2.Perm (EB (val.take i++[kk]));rw [Sd];exact e2'.trans (Su ep kk)
  refine qcA ⟨plainId_quiet PyProof.Rows.F.plain_set_update_loop _,ih (i+1) _ (by omega) hlt (W.frame _ s' _ _ st' (Nat.le_succ _) fun b hb o e=>?_) hnext fun s'' hm'' hS''=>?_⟩
  ·exact (hsb.2 b (fun h:b=S=>nS (by rw [<- h];exact hb))).trans e
  ·refine hR s'' (Moved.trans W.gtrans ((hm.mono up).then_heap (Nat.le_succ _) fun b o hb e=>?_) hm'') hS'';exact (hsb.2 b (fun h:b=S=>hb (by rw [h];exact qrA))).trans e
end
def Src (prog:Program)(w:World)(x:Value)(h0:Heap)(n:Nat)(P:Nat->Value->Prop):Prop :=
 ∀ s₁:Shared,(∀ b o,h0.get? b=some o->s₁.heap.get? b=some o)->∃ (oI:Obj) (fp:List Addr) (St:Nat->Heap->Prop),oI.isFreed=false/\(∀ b∈fp,b=s₁.heap.objs.size\/b<h0.objs.size)/\St 0 (s₁.heap.push oI) /\
  (∀ (A':Around) (Q:Value->Shared->Prop) (E:Value->Shared->Prop),A'.handled=none->Q (.ref s₁.heap.objs.size) { s₁ with heap:=s₁.heap.push oI }->wpAny (model prog w) A' (pyIter x) Q E s₁) /\
  ∀ A':Around,A'.handled=none->Walks prog w A' s₁.heap.objs.size fp [s₁.heap.objs.size] n P St
section
variable {prog:Program}{w:World}{A:Around}{E:Value->Shared->Prop}{s:Shared}
theorem src_list {l:Addr}{items:Array Value}(hl:s.heap.IsList l items):Src prog w (.ref l) s.heap items.size (fun i v=>items[i]? = some v):=fun s₁ hk=>by
 have hl1:s₁.heap.IsList l items:=hl.at fun o e=>hk _ _ e;obtain ⟨o0,ho0,_⟩:=hl;have ne:l≠s₁.heap.objs.size:=qdC (qmB (hk _ _ ho0));refine ⟨{ cls:=.type "list_iterator",data:=.fields #[.ref l,.int 0 0] },[s₁.heap.objs.size,l],_,rfl,fun b hb=>?_,?_,fun A' Q E' hh q=>wpAny_pyIter_list hl1 q,fun A' hh=>Walks.list hh _ l ne items⟩
 ·rcases qnA.mp hb with e|e
  ·exact .inl e
  ·rw [qqA.mp e];exact .inr (qmB ho0)
 ·exact ⟨⟨_,qoB _ rfl,rfl,rfl⟩,hl1.push _⟩
theorem NX (a:Value){Q₁:Value->Shared->Prop}(h:Q₁ (.ref s.heap.objs.size) { s with heap:=s.heap.push (BV w) }) :
  codeAny (model prog w) A (.call (.builtin "set.__new__") ⟨[.type "set",a],[]⟩) (wants Q₁ E) s:=by
 refine codeAny_of_tree ?_;show wpAny _ A.in1 (checkBuiltinCall "set.__new__" ⟨[.type "set",a],[]⟩ >>= fun _=>again (.builtin "set.__new__" ⟨[.type "set",a],[]⟩)) _ _ s;refine qbA (wpAny_of_eq (PySem.F.newCall_set_1 a) (qcA ⟨plainId_quiet F.plain_set_new _,codeAny_builtin F.entry_set_new ?_⟩));rw [Around.under_plainId F.plain_set_new _];unfold Builtin.«set.__new__» Builtin.Frozenset.newClass;have hsub:=sub_set_self;obtain ⟨hp,g,d,tk,os⟩:=s;dsimp only
 wp_walk
 refine wpAny_askSetting (qcA ?_);dsimp only;simp only [newObj];exact qbA (wpAny_alloc (qcA (qcA h)))
end
section
variable {prog:Program}{w:World}{A:Around}{E:Value->Shared->Prop}{s:Shared}
theorem NB {x:Value}{T:String}{n:Nat}{P:Nat->Value->Prop}{val:List Key}{Q:Value->Shared->Prop}(hh:A.handled=none)(hx:Src prog w x s.heap n P)
  (tx:∀ s₁:Shared,(∀ b o,s.heap.get? b=some o->s₁.heap.get? b=some o)->s₁.TypeIs x T) (n1:isSubtype (.type T) (.type "set")=pure false) (n2:isSubtype (.type T) (.type "frozenset")=pure false) (n3:(Value.type T == Value.type "dict")=false)
  (hn:val.length=n) (hv:∀ i v,P i v->∃ k,val[i]? = some k/\Cp k v=true) (hb:n+1<scanBound)
  (h:∀ (h':Heap) (tk:Nat),SetP w h' s.heap.objs.size (EB val)->(∀ b o,s.heap.get? b=some o->h'.get? b=some o)->Q (.ref s.heap.objs.size) { s with heap:=h',toks:=tk }) :
  wpAny (model prog w) A (call (.type "set") [x]) Q E s:=by
 obtain ⟨c,tl,hmro⟩:=F.called_set.mro;have hmade:=F.called_set.made;have hsub:=F.called_set.sub;refine wpAny_call (codeAny_of_tree ?_);show wpAny _ _ (callAny (.type "set") _) _ _ _;refine qcA ⟨Code.quiet_builtin _ (by decide +kernel),codeAny_builtin F.entry_type_call ?_⟩;rw [Around.under_plain (weight_type_call_type "set" [x] []) rfl];have h1:=F.called_set.notType;have h2:=F.called_set.canCreate;have hct:=PySem.F.typeCall_set_1 x
 repeat (any_goals (first|assumption|wp_step))
 refine codeAny_mono (NX x (E:=E) (Q₁:=fun obj s₁=>obj = .ref s.heap.objs.size/\s₁ = { s with heap:=s.heap.push (BV w) }) ⟨rfl,rfl⟩) fun r s₁ hr=>?_
 cases r with
 | error e=>exact hr
 | ok fl=>cases fl with
  | ret obj =>
   obtain ⟨rfl,rfl⟩:=hr;have gS:(s.heap.push (BV w)).get? s.heap.objs.size=some (BV w):=qoB _ rfl;have hT:Shared.TypeIs { s with heap:=s.heap.push (BV w) } (.ref s.heap.objs.size) "set" := ⟨_,gS,rfl⟩;have hli:=F.called_set.init.lookup;have hbi:=F.called_set.init.bind (.ref s.heap.objs.size)
   repeat (any_goals (first|assumption|wp_step))
   refine codeAny_mono (codeAny_call_builtin (R:=wants (fun r s₂=>r = .none/\∃ h' tk,s₂ = { s with heap:=h',toks:=tk }/\SetP w h' s.heap.objs.size (EB val)/\(∀ b o,s.heap.get? b=some o->h'.get? b=some o)) E) F.called_set.init.plain F.entry_set_init (check_set_init_1 hT ?_)) fun r₂ s₂ hr₂=>?_
   ·obtain ⟨hp,g,d,tk0,os⟩:=s;dsimp only at *;have kp:∀ b o,hp.get? b=some o->(hp.push (BV w)).get? b=some o:=fun b o e=>qnB _ e;have hTx:Shared.TypeIs { heap:=hp.push (BV w),gens:=g,drawn:=d,toks:=tk0,os:=os } x T:=tx _ kp;unfold Builtin.«set.__init__» noKeywords Builtin.Frozenset.updateFrom;generalize hPI:pyIter=PI;unfold BV at *
    wp_walk
    subst hPI;obtain ⟨oI,fp,St,hf,hfp,st0,hit,hW⟩:=hx { heap:=hp.push (BV w),gens:=g,drawn:=d,toks:=tk0,os:=os } kp;refine hit _ _ _ (by simp [hh]) (qbA (wpAny_runValue ?_));have eS:(hp.push (BV w)).objs.size=hp.objs.size+1:=size_push' _ _
    have nS:hp.objs.size ∉ fp:=fun hm=>by
     rcases hfp _ hm with e|e
     ·rw [eS] at e;exact absurd e (qdC (Nat.lt_succ_self _))
     ·exact qiB _ e
    refine upd_loop (hW _ (by simp [hh])).toS hp.objs.size nS val hn hv hb n 0 _ rfl (qkC _) st0 ?_ fun s' hm hS'=>?_
    ·exact ⟨[],PJ (qnB _ gS),.rfl⟩
    ·obtain ⟨h',g',d',tk',os'⟩:=s';obtain rfl:g'=g:=hm.gens;obtain rfl:d'=d:=hm.drawn;obtain rfl:os'=os:=hm.os;refine qcA ?_;show wpAny _ _ (ret Value.none) _ _ _;refine qcA ⟨rfl,h',tk',rfl,hS',fun b o e=>?_⟩;have lb:b<hp.objs.size:=qmB e;refine hm.heap b o (fun hmem=>?_) (qnB _ (kp b o e));rcases qnA.mp hmem with q|q
     ·exact absurd q (qdC lb)
     ·have q:=qqA.mp q;rw [eS] at q;exact absurd q (qdC (Nat.lt_succ_of_lt lb))
   ·cases r₂ with
    | error e=>exact hr₂
    | ok fl₂=>cases fl₂ with
     | ret r =>
      obtain ⟨rfl,h',tk,rfl,hS',hk'⟩:=hr₂
      repeat (any_goals (first|assumption|wp_step))
      exact h _ _ hS' hk'
     | _=>exact hr₂.elim
  | _=>exact hr.elim
end
theorem slot_si_next:Slot "set_iterator" "__next__" "set_iterator.__next__" :=
 .of (owner := "set_iterator") (n := "__next__") (by rw [typeLookup_type,qwB];kernel_rfl) (by decide +kernel) (by decide +kernel) (by decide +kernel) (by first|exact .inl (by decide +kernel)|exact .inr (by decide +kernel)) (by rw [isSubtype_type];kernel_rfl)
theorem Do:entryFor table "set_iterator.__next__" = some Builtin.«set_iterator.__next__»:=entryFor_of_tree (by kernel_rfl)
theorem Du (a:Value):argsOk "set_iterator.__next__" ⟨[a],[]⟩:=by unfold argsOk;kernel_rfl
theorem NO:entryFor table "set.__iter__" = some Builtin.«frozenset.__iter__»:=entryFor_alias (id' := "frozenset.__iter__") (by kernel_rfl) rfl (by decide +kernel) (by kernel_rfl)
def SIter (h:Heap)(I:Addr)(f:Value)(i:Nat)(a:Addr)(n ep:Nat):Prop:=∃ o,h.get? I=some o/\o.cls = .type "set_iterator" /\ o.data = .fields #[f,rawInt i,.ref a,rawInt n,rawInt ep]
theorem SIter.type {s:Shared}{I f i a n ep}(x:SIter s.heap I f i a n ep):s.TypeIs (.ref I) "set_iterator" := by
 obtain ⟨o,g,c,_⟩:=x;exact ⟨o,g,c⟩
def SAt (w:World)(h:Heap)(a:Addr)(es:Array (Int × Value))(ep:Nat)(t:SetTable)(ks:List Key):Prop:=∃ o,h.get? a=some o/\SObj w o es ep t ks
section
variable {prog:Program}{w:World}{A:Around}{E:Value->Shared->Prop}{s:Shared}
theorem Je {h:Heap}{I:Addr}{o:Obj}{fs:Array Value}(k:Nat)(v:Value)(g:h.get? I=some o)(d:o.data = .fields fs) :
  ∃ o',(h.update I (Obj.mapFields (·.setIfInBounds k v))).get? I=some o'/\o'.cls=o.cls/\o'.data = .fields (fs.setIfInBounds k v) :=
 ⟨_,Heap.get?_update_self _ g (Obj.isFreed_of_fields (Obj.data_mapFields d _)),Obj.cls_mapFields ..,Obj.data_mapFields d _⟩
theorem Sj {I a:Addr}{sl i n ep:Nat}{es:Array (Int × Value)}{t:SetTable}{ks:List Key}{x:Value}{nx:Nat}{Q:Option Value->Shared->Prop}(it:SIter s.heap I (rawInt sl) i a n ep)(sa:SAt w s.heap a es ep t ks)(hn:es.size=n)
  (nxt:∀ (A':Around) (E':Value->Shared->Prop) (Q':Option (Value × Nat)->Shared->Prop),Q' (some (x,nx)) s->wpAny (model prog w) A' (setNext a sl i ep) Q' E' s)
  (h:∀ h',SIter h' I (rawInt nx) (i+1) a n ep->Heap.SameBut I s.heap h'->Q (some x) { s with heap:=h' }):wpAny (model prog w) A (pyNext (.ref I)) Q E s:=by
 obtain ⟨o,g,c,dt⟩:=id it;obtain ⟨os,gs,S⟩:=sa;unfold pyNext;refine qbA (wpAny_attempt (wpAny_callSpecial?_slot (name:=Str.ofString "__next__") it.type slot_si_next (qhC slot_si_next it.type Do ?_ (Du _))));unfold Builtin.«set_iterator.__next__»;refine qbA (qcA ?_);dsimp only;refine qbA (wpAny_fieldsOf g dt ?_);simp only [rawInt];refine qbA (wpAny_setEntries_of gs S.data S.fit ?_);rw [if_neg (by rw [hn];simp)];simp only [qrB];refine qbA (nxt _ _ _ ?_);dsimp only;refine qbA (wpAny_setField g dt (by simp) ?_);obtain ⟨o1,g1,c1,d1⟩:=Je 0 (Value.int (nx:Int) 0) g dt;refine qbA (wpAny_setField (s:={ s with heap:=s.heap.update I (Obj.mapFields (·.setIfInBounds 0 (Value.int (nx:Int) 0))) }) g1 d1 (by simp) ?_);obtain ⟨o2,g2,c2,d2⟩:=Je 1 (Value.int ((i:Int)+1) 0) g1 d1;refine qcA ⟨_,rfl,qcA (h _ ⟨o2,g2,c2.trans (c1.trans c),?_⟩ ((Heap.SameBut.update _ I _).trans (Heap.SameBut.update _ I _)))⟩;rw [d2];simp [rawInt]
theorem M0 {I:Addr}{o:Obj}{fs:Array Value}{Q:Option Value->Shared->Prop}{Q1:PySem.Fin->Shared->Prop}(hh:A.handled=none)(g:s.heap.get? I=some o)(dt:o.data = .fields fs)(hz:2<fs.size)
  (h:∀ h',Heap.ExtBut I s.heap h'->Q none { s with heap:=h' }) :
  wpAny (model prog w) A.in1 (setField (.ref I) 2 .none >>= fun _=>newExc (.type "StopIteration") [] >>= fun e=>raiseNew e) Q1
   (fun e s'=>wpAny (model prog w) A (isInstance e (.type "StopIteration") >>= fun b=>if b=true then pure none else throw e) Q E s') s:=by
 refine qbA (wpAny_setField g dt hz ?_);refine qbA ?_;simp only [newExc,newTuple];refine qbA (wpAny_newObj_type ?_ (by size_fits));refine qbA (m:=firstArgMember _ _) (wpAny_of_eq (a:=Value.none) (by first|rfl | (simp only [firstArgMember];rfl)) ?_);refine wpAny_newObj_type ?_ (by size_fits);simp only [raiseNew];refine qbA (wpAny_handled ?_);rw [show A.in1.handled=none from hh];refine qbA (qcA (wpAny_throw ?_));refine qbA (wpAny_isInstance (T := "StopIteration") (b:=true) ⟨_,qoB _ rfl,rfl⟩ isSubtype_stop ?_);exact qcA (h _ (((Heap.SameBut.update ..).extBut.push _).push _))
theorem next_end {I a:Addr}{sl i n ep:Nat}{es:Array (Int × Value)}{t:SetTable}{ks:List Key}{Q:Option Value->Shared->Prop}(hh:A.handled=none)(it:SIter s.heap I (rawInt sl) i a n ep)(sa:SAt w s.heap a es ep t ks)(hn:es.size=n)
  (nxt:∀ (A':Around) (E':Value->Shared->Prop) (Q':Option (Value × Nat)->Shared->Prop),Q' none s->wpAny (model prog w) A' (setNext a sl i ep) Q' E' s)
  (h:∀ h',Heap.ExtBut I s.heap h'->Q none { s with heap:=h' }):wpAny (model prog w) A (pyNext (.ref I)) Q E s:=by
 obtain ⟨o,g,c,dt⟩:=id it;obtain ⟨os,gs,S⟩:=sa;unfold pyNext;refine qbA (wpAny_attempt (wpAny_callSpecial?_slot (name:=Str.ofString "__next__") it.type slot_si_next (qhC slot_si_next it.type Do ?_ (Du _))));unfold Builtin.«set_iterator.__next__»;refine qbA (qcA ?_);dsimp only;refine qbA (wpAny_fieldsOf g dt ?_);simp only [rawInt];refine qbA (wpAny_setEntries_of gs S.data S.fit ?_);rw [if_neg (by rw [hn];simp)];simp only [qrB];refine qbA (nxt _ _ _ ?_);dsimp only;exact M0 hh g dt (by simp) h
def TupAt (h:Heap)(T:Addr)(ps:List Nat):Prop:=∃ o n,h.get? T=some o/\o.data = .seq (ps.map fun (p:Nat)=>rawInt p).toArray n
theorem QB {I a T:Addr}{i n ep p:Nat}{ps:List Nat}{es:Array (Int × Value)}{t:SetTable}{ks:List Key}{e:Int × Value}{Q:Option Value->Shared->Prop}(it:SIter s.heap I (.ref T) i a n ep)(tp:TupAt s.heap T ps)(sa:SAt w s.heap a es ep t ks)(hn:es.size=n)
  (hp:ps[i]? = some p) (he:es[p]? = some e) (h:∀ h',SIter h' I (.ref T) (i+1) a n ep->Heap.SameBut I s.heap h'->Q (some e.2) { s with heap:=h' }):wpAny (model prog w) A (pyNext (.ref I)) Q E s:=by
 obtain ⟨o,g,c,dt⟩:=id it;obtain ⟨os,gs,S⟩:=sa;obtain ⟨ot,nt,gt,dtt⟩:=tp;unfold pyNext;refine qbA (wpAny_attempt (wpAny_callSpecial?_slot (name:=Str.ofString "__next__") it.type slot_si_next (qhC slot_si_next it.type Do ?_ (Du _))));unfold Builtin.«set_iterator.__next__»;refine qbA (qcA ?_);dsimp only;refine qbA (wpAny_fieldsOf g dt ?_);simp only [rawInt];refine qbA (wpAny_setEntries_of gs S.data S.fit ?_);rw [if_neg (by rw [hn];simp)];refine qbA (wpAny_seqItems gt dtt ?_);dsimp only;have e1:(ps.map fun (p:Nat)=>rawInt p).toArray[((i:Int)).toNat]? = some (Value.int (p:Int) 0):=by simp [hp,rawInt]
 rw [e1];dsimp only;unfold setNextDrawn;simp only [qrB];refine qbA (qbA (qiC gs S.data S.fit ?_));dsimp only;rw [if_neg (by simp)];rw [he];refine qcA ?_;refine qbA (wpAny_setField g dt (by simp) ?_);obtain ⟨o2,g2,c2,d2⟩:=Je 1 (Value.int ((i:Int)+1) 0) g dt;refine qcA ⟨_,rfl,qcA (h _ ⟨o2,g2,c2.trans c,?_⟩ (Heap.SameBut.update _ I _))⟩;rw [d2];simp [rawInt]
theorem SU {I a T:Addr}{i n ep:Nat}{ps:List Nat}{es:Array (Int × Value)}{t:SetTable}{ks:List Key}{Q:Option Value->Shared->Prop}(hh:A.handled=none)(it:SIter s.heap I (.ref T) i a n ep)(tp:TupAt s.heap T ps)(sa:SAt w s.heap a es ep t ks)(hn:es.size=n)
  (hp:ps[i]? = none) (h:∀ h',Heap.ExtBut I s.heap h'->Q none { s with heap:=h' }):wpAny (model prog w) A (pyNext (.ref I)) Q E s:=by
 obtain ⟨o,g,c,dt⟩:=id it;obtain ⟨os,gs,S⟩:=sa;obtain ⟨ot,nt,gt,dtt⟩:=tp;unfold pyNext;refine qbA (wpAny_attempt (wpAny_callSpecial?_slot (name:=Str.ofString "__next__") it.type slot_si_next (qhC slot_si_next it.type Do ?_ (Du _))));unfold Builtin.«set_iterator.__next__»;refine qbA (qcA ?_);dsimp only;refine qbA (wpAny_fieldsOf g dt ?_);simp only [rawInt];refine qbA (wpAny_setEntries_of gs S.data S.fit ?_);rw [if_neg (by rw [hn];simp)];refine qbA (wpAny_seqItems gt dtt ?_);dsimp only
 have e1:(ps.map fun (p:Nat)=>rawInt p).toArray[((i:Int)).toNat]? = none:=by
  have:=List.getElem?_eq_none_iff.mp hp;simp [this]
 rw [e1];dsimp only;refine qbA (wpAny_setField g dt (by simp) ?_);obtain ⟨o1,g1,c1,d1⟩:=Je 0 (Value.int 0 0) g dt;refine M0 (s:={ s with heap:=s.heap.update I (Obj.mapFields (·.setIfInBounds 0 (Value.int 0 0))) }) hh g1 d1 (by simp) fun h' q=>h h' ?_;exact fun b o hb e=>q b o hb (((Heap.SameBut.update s.heap I _).2 b hb).trans e)
end
theorem Hg:Slot "set_iterator" "__iter__" "set_iterator.__iter__" :=
 .of (owner := "set_iterator") (n := "__iter__") (by rw [typeLookup_type,qwB];kernel_rfl) (by decide +kernel) (by decide +kernel) (by decide +kernel) (by first|exact .inl (by decide +kernel)|exact .inr (by decide +kernel)) (by rw [isSubtype_type];kernel_rfl)
theorem Li:entryFor table "set_iterator.__iter__" = some Builtin.«dict_keyiterator.__iter__»:=entryFor_alias (id' := "dict_keyiterator.__iter__") (by kernel_rfl) rfl (by decide +kernel) (by kernel_rfl)
theorem NZ (a:Value):argsOk "set_iterator.__iter__" ⟨[a],[]⟩:=by unfold argsOk;kernel_rfl
theorem SAt.at {w:World}{h h':Heap}{a:Addr}{es ep t ks}(x:SAt w h a es ep t ks)(k:∀ o,h.get? a=some o->h'.get? a=some o):SAt w h' a es ep t ks:=by
 obtain ⟨o,g,S⟩:=x;exact ⟨o,k _ g,S⟩
theorem SIter.at {h h':Heap}{I f i a n ep}(x:SIter h I f i a n ep)(k:∀ o,h.get? I=some o->h'.get? I=some o):SIter h' I f i a n ep:=by
 obtain ⟨o,g,r⟩:=x;exact ⟨o,k _ g,r⟩
theorem TupAt.at {h h':Heap}{T ps}(x:TupAt h T ps)(k:∀ o,h.get? T=some o->h'.get? T=some o):TupAt h' T ps:=by
 obtain ⟨o,n,g,r⟩:=x;exact ⟨o,n,k _ g,r⟩
section
variable {prog:Program}{w:World}{A:Around}{E:Value->Shared->Prop}{s:Shared}{I a T:Addr}{es xs:Array (Int × Value)}{ep:Nat}{t:SetTable}{ks:List Key}
theorem MA {f:Value}{i n:Nat}{Q:Value->Shared->Prop}(it:SIter s.heap I f i a n ep)(h:Q (.ref I) s):wpAny (model prog w) A (pyIter (.ref I)) Q E s:=by
 refine wpAny_pyIter_slot it.type Hg (qhC Hg it.type Li ?_ (NZ _));show wpAny _ _ (ret (.ref I)) _ _ s;exact qcA ⟨_,rfl,"set_iterator",_,it.type,slot_si_next.lookup,h⟩
theorem walk_int (hne:a≠I)(sl:Nat->Nat)(hx:xs.size=es.size)
  (nx:∀ (i:Nat) (s:Shared) (A':Around) (E':Value->Shared->Prop) (Q':Option (Value × Nat)->Shared->Prop),SAt w s.heap a es ep t ks->i<=es.size->Q' ((xs[i]?).map fun e=>(e.2,sl (i+1))) s->wpAny (model prog w) A' (setNext a (sl i) i ep) Q' E' s) (hh:A.handled=none) :
  Walks prog w A I [I,a] [I] es.size (fun i v=>∃ e,xs[i]? = some e/\e.2=v) (fun i h=>SIter h I (rawInt (sl i)) i a es.size ep/\SAt w h a es ep t ks) where
 sub:=fun b hb=>by simp at hb;simp [hb]
 frame:=fun _ _ _ st hk=>⟨st.1.at fun o e=>hk I (by simp) o e,st.2.at fun o e=>hk a (by simp) o e⟩
 item:=fun i s Q E hi st hQ=>by
  have hi':i<xs.size:=by rw [hx];exact hi
  refine Sj (x:=xs[i].2) (nx:=sl (i+1)) st.1 st.2 rfl (fun A' E' Q' q=>nx i s A' E' Q' st.2 (Nat.le_of_lt hi) ?_) fun h' it' hs=>?_
  ·rw [Array.getElem?_eq_getElem hi'];exact q
  ·exact hQ _ h' s.toks ⟨xs[i],Array.getElem?_eq_getElem hi',rfl⟩ ⟨it',st.2.at fun o e=>(hs.2 a hne).trans e⟩ fun b o hb e=>(hs.2 b (fun q=>hb (by simp [q]))).trans e
 done:=fun s Q E st hQ=>by
  refine next_end hh st.1 st.2 rfl (fun A' E' Q' q=>nx es.size s A' E' Q' st.2 (qgB _) ?_) fun h' hs=>hQ h' s.toks fun b o hb e=>hs b o (fun q=>hb (by simp [q])) e;rw [Array.getElem?_eq_none (by rw [hx];exact qgB _)];exact q
 self:=fun i s Q E st q=>MA st.1 q
theorem QK (hne:a≠I)(hT:T≠I)(ps:List Nat)(hp:ps.length=es.size)(hb:∀ p∈ps,p<es.size)(hh:A.handled=none) :
  Walks prog w A I [I,a,T] [I] es.size (fun i v=>∃ p e,ps[i]? = some p/\es[p]? = some e/\e.2=v) (fun i h=>SIter h I (.ref T) i a es.size ep/\SAt w h a es ep t ks/\TupAt h T ps) where
 sub:=fun b hb=>by simp at hb;simp [hb]
 frame:=fun _ _ _ st hk=>⟨st.1.at fun o e=>hk I (by simp) o e,st.2.1.at fun o e=>hk a (by simp) o e,st.2.2.at fun o e=>hk T (by simp) o e⟩
 item:=fun i s Q E hi st hQ=>by
  have hi':i<ps.length:=by rw [hp];exact hi
  have h1:ps[i]? = some ps[i]:=qwA hi';have h2:ps[i]<es.size:=hb _ (List.getElem_mem hi');have h3:es[ps[i]]? = some es[ps[i]]:=Array.getElem?_eq_getElem h2;refine QB st.1 st.2.2 st.2.1 rfl h1 h3 fun h' it' hs=>?_;exact hQ _ h' s.toks ⟨_,_,h1,h3,rfl⟩ ⟨it',st.2.1.at fun o e=>(hs.2 a hne).trans e,st.2.2.at fun o e=>(hs.2 T hT).trans e⟩ fun b o hb e=>(hs.2 b (fun q=>hb (by simp [q]))).trans e
 done:=fun s Q E st hQ=>SU hh st.1 st.2.2 st.2.1 rfl (qyA (by rw [hp];exact qgB _)) fun h' hs=>hQ h' s.toks fun b o hb e=>hs b o (fun q=>hb (by simp [q])) e
 self:=fun i s Q E st q=>MA st.1 q
theorem nxt_text (hb:byT w=true){sl i:Nat}{Q:Option (Value × Nat)->Shared->Prop}(sa:SAt w s.heap a es ep t ks)(h:Q (((pickOrder (w.params.setOrder a ep) es)[i]?).map fun e=>(e.2,sl)) s):wpAny (model prog w) A (setNext a sl i ep) Q E s:=by
 obtain ⟨o,g,S⟩:=sa;unfold setNext;refine qbA (qiC g S.data S.fit (qbA (DQ ?_)));dsimp only;rw [hb,if_pos rfl,if_neg (by simp)];refine qbA ?_;unfold setWalk;refine qbA (qiC g S.data S.fit (qbA (DQ ?_)));rw [hb,if_pos rfl];refine qbA (wpAny_askSetting (qcA (qcA ?_)));exact h
def slP (t:SetTable):Nat->Nat
 | 0=>0
 | i+1=>t.place.getD i 0+1
theorem SQ {t:SetTable}(hr:RT t):∀ {i:Nat},i<=t.place.size->SetTable.below t.place (slP t i)=i
 | 0,_=>QR hr.ris
 | i+1,h=>QE hr.ris h
theorem SS (hb:byT w=false)(hd:t.plain=true\/es.size<=1){i:Nat}{Q:Option (Value × Nat)->Shared->Prop}(sa:SAt w s.heap a es ep t ks)(hi:i<=es.size)(h:Q ((es[i]?).map fun e=>(e.2,slP t (i+1))) s):wpAny (model prog w) A (setNext a (slP t i) i ep) Q E s:=by
 obtain ⟨o,g,S⟩:=sa
 have hps:t.place.size=es.size:=by
  have:=S.fit;simp only [SetTable.fits,qnC,beq_iff_eq] at this;exact this.1
 unfold setNext;refine qbA (qiC g S.data S.fit (qbA (DQ ?_)));dsimp only;rw [hb,if_neg quB];refine wpAny_ite_split (fun hab=>?_) fun _=>?_
 ·have q:(!t.plain && decide (es.size > 1))=true:=hab;rw [qnC,decide_eq_true_eq] at q;rcases hd with e|e
  ·rw [e] at q;exact absurd q.1 (by simp)
  ·omega
 ·refine qbA ?_;show wpAny _ _ (if (!t.led && !es.isEmpty)=true then unsupported "set:maker-not-led" else pure ()) _ _ _;rw [S.led,hb];simp only [Bool.not_false,Bool.not_true,Bool.false_and,Bool.false_eq_true,if_false];refine qcA (qcA ?_);rw [SQ S.rt (by rw [hps];exact hi)];rcases Nat.lt_or_eq_of_le hi with hl|hl
  ·have e1:es[i]? = some es[i]:=Array.getElem?_eq_getElem hl
   have e2:t.place[i]? = some (t.place.getD i 0):=by
    have:i<t.place.size:=by rw [hps];exact hl
    simp [Array.getD,this]
   rw [e1] at h ⊢;rw [e2];exact h
  ·have e1:es[i]? = none:=Array.getElem?_eq_none (by omega);rw [e1] at h ⊢;exact h
theorem Pr {α:Type}{Q:List α->Shared->Prop}:∀ (xs:List α) (s:Shared),(∀ ys d,ys.Perm xs->Q ys { s with drawn:=d })->wpAny (model prog w) A (drawOrder xs.length xs) Q E s:=by
 intro xs;generalize hn:xs.length=n
 induction n generalizing xs Q with
 | zero =>
  intro s h;have:xs=[]:=List.eq_nil_of_length_eq_zero hn;subst this;unfold drawOrder;exact qcA (h [] s.drawn .rfl)
 | succ n ih =>
  intro s h
  match xs,hn with
  | x::r,hn =>
   unfold drawOrder;refine qbA (Sm (by simp) fun i d hi=>?_);rw [qwA hi];dsimp only;refine qbA (ih _ (by rw [List.length_eraseIdx_of_lt hi];omega) _ fun ys d' hp=>qcA (h _ d' ?_));exact (hp.cons _).trans (Jx hi)
theorem Sw {Q:Value->Shared->Prop}(sa:SAt w s.heap a es ep t ks)
  (h:∀ (s':Shared) (I:Addr) (xs:Array (Int × Value)) (fp:List Addr) (St:Nat->Heap->Prop),xs.toList.Perm es.toList->(∀ b o,s.heap.get? b=some o->s'.heap.get? b=some o)->s'.gens=s.gens->s'.os=s.os->s'.toks=s.toks ->
   s.heap.objs.size<=I->(∀ b∈fp,b<s'.heap.objs.size/\(b=a\/s.heap.objs.size<=b))->(∀ A':Around,A'.handled=none->Walks prog w A' I fp [I] es.size (fun i v=>∃ e,xs[i]? = some e/\e.2=v) St)->St 0 s'.heap->Q (.ref I) s') :
  wpAny (model prog w) A (pyIter (.ref a)) Q E s:=by
 obtain ⟨o,g,S⟩:=id sa;have la:a<s.heap.objs.size:=qmB g;have hT:s.TypeIs (.ref a) "set" := ⟨o,g,S.exact'.1⟩;refine wpAny_pyIter_slot hT F.slot_set_iter (qhC F.slot_set_iter hT NO ?_ (F.args_set_iter_1 _));unfold Builtin.«frozenset.__iter__» Builtin.Frozenset.slot0 Builtin.Frozenset.sizeOf;refine qbA (qbA (qcA (qcA ?_)));refine qbA (qbA (wpAny_setEntries_of g S.data S.fit (qcA ?_)));refine qbA ?_;unfold setDrawn;refine qbA (qiC g S.data S.fit (qbA (DQ (qcA ?_))))
 have fin:∀ (d:Drawn) (sl:Nat->Nat) (xs:Array (Int × Value)),sl 0=0->xs.size=es.size->xs.toList.Perm es.toList ->
   (∀ (i:Nat) (s:Shared) (A':Around) (E':Value->Shared->Prop) (Q':Option (Value × Nat)->Shared->Prop),SAt w s.heap a es ep t ks->i<=es.size->Q' ((xs[i]?).map fun e=>(e.2,sl (i+1))) s->wpAny (model prog w) A' (setNext a (sl i) i ep) Q' E' s) ->
   wpAny (model prog w) A.in1 (setEpoch a >>= fun e=>newFields "set_iterator" [rawInt 0,rawInt 0,.ref a,rawInt es.size,rawInt e] >>= fun v=>ret v) (fun fin s'=>∃ v,fin = .done (.ret v)/\∃ T' r,s'.TypeIs v T'/\typeLookup (.type T') "__next__" = pure (some r)/\Q v s') E { s with drawn:=d }:=by
  intro d sl xs e0 ex hp nx;refine qbA (wpAny_setEpoch_of g S.data S.fit (qbA (wpAny_newObj_type (qcA ⟨_,rfl,"set_iterator",_,⟨_,qoB _ rfl,rfl⟩,slot_si_next.lookup,?_⟩))));refine h { s with drawn:=d,heap:=s.heap.push { cls:=.type "set_iterator",data:=.fields #[rawInt 0,rawInt 0,.ref a,rawInt es.size,rawInt ep] } } s.heap.objs.size xs [s.heap.objs.size,a] _ hp (fun b o e=>qnB _ e) rfl rfl rfl (qgB _) (fun b hb=>?_) (fun A' hh=>walk_int (qdC la) sl ex nx hh) ?_
  ·show b<(s.heap.push _).objs.size/\_;rw [size_push'];rcases qnA.mp hb with e|e
   ·rw [e];exact ⟨Nat.lt_succ_self _,.inr (qgB _)⟩
   ·rw [qqA.mp e];exact ⟨Nat.lt_succ_of_lt la,.inl rfl⟩
  ·refine ⟨⟨_,qoB _ rfl,rfl,?_⟩,sa.at fun o e=>qnB _ e⟩;rw [e0];rfl
 dsimp only
 have hps:t.place.size=es.size:=by
  have:=S.fit;simp only [SetTable.fits,qnC,beq_iff_eq] at this;exact this.1
 have fewE:es.size<=sizeLine:=E7 (by rw [S.size];exact S.few);refine wpAny_ite_split (fun hab=>?_) (fun hab=>?_)
 ·have key:=Pr (prog:=prog) (w:=w) (A:=A.in1) (E:=E) (List.range es.size) s (Q:=fun ys s'=>wpAny (model prog w) A.in1 (newTuple (ys.map fun (i:Nat)=>rawInt i) >>= fun first=>setEpoch a >>= fun e=>newFields "set_iterator" [first,rawInt 0,.ref a,rawInt es.size,rawInt e] >>= fun v=>ret v) (fun fin s'=>∃ v,fin = .done (.ret v)/\∃ T' r,s'.TypeIs v T'/\typeLookup (.type T') "__next__" = pure (some r)/\Q v s') E s') fun ys d hp=>?_
  ·rw [qjA] at key;exact qbA key
  ·have hl:ys.length=es.size:=by rw [hp.length_eq,qjA]
   have hlt:∀ p∈ys,p<es.size:=fun p h=>qtA.mp (hp.mem_iff.mp h);refine qbA (wpAny_newTuple ?_ (by rw [qfA,hl];exact fewE));have gt:(s.heap.push (seqObj "tuple" (ys.map fun (i:Nat)=>rawInt i).toArray 0)).get? s.heap.objs.size=some (seqObj "tuple" (ys.map fun (i:Nat)=>rawInt i).toArray 0):=qoB _ rfl;refine qbA (wpAny_setEpoch_of (s:={ s with drawn:=d,heap:=s.heap.push (seqObj "tuple" (ys.map fun (i:Nat)=>rawInt i).toArray 0) }) (qnB _ g) S.data S.fit (qbA (wpAny_newObj_type (qcA ⟨_,rfl,"set_iterator",_,⟨_,qoB _ rfl,rfl⟩,slot_si_next.lookup,?_⟩))));have z1:(s.heap.push (seqObj "tuple" (ys.map fun (i:Nat)=>rawInt i).toArray 0)).objs.size=s.heap.objs.size+1:=size_push' _ _
   have W:∀ A':Around,A'.handled=none->Walks prog w A' (s.heap.objs.size+1) [s.heap.objs.size+1,a,s.heap.objs.size] [s.heap.objs.size+1] es.size (fun i v=>∃ e,(ys.filterMap (es[·]?)).toArray[i]? = some e/\e.2=v) (fun i h=>SIter h (s.heap.objs.size+1) (.ref s.heap.objs.size) i a es.size ep/\SAt w h a es ep t ks/\TupAt h s.heap.objs.size ys):=fun A' hh=>by
    have W0:=QK (prog:=prog) (w:=w) (A:=A') (I:=s.heap.objs.size+1) (a:=a) (T:=s.heap.objs.size) (es:=es) (ep:=ep) (t:=t) (ks:=ks) (qdC (Nat.lt_succ_of_lt la)) (qdC (Nat.lt_succ_self _)) ys hl hlt hh;refine ⟨W0.sub,W0.frame,fun i s Q E hi st hQ=>W0.item i s Q E hi st fun v h' tk hP=>hQ v h' tk ?_,W0.done,W0.self⟩;obtain ⟨p,e,h1,h2,h3⟩:=hP;refine ⟨e,?_,h3⟩
    have:∀ (l:List Nat) (i:Nat),(∀ p∈l,p<es.size)->(l.filterMap (es[·]?))[i]? = (l[i]?).bind (es[·]?):=by
     intro l
     induction l with
     | nil=>intro i _;simp
     | cons q l ih =>
      intro i hq;have lq:q<es.size:=hq q qrA;have e0:es[q]? = some es[q]:=Array.getElem?_eq_getElem lq;rw [List.filterMap_cons_some e0]
      cases i with
      | zero=>simp [e0]
      | succ i=>simpa using ih i fun p hp=>hq p (qsA _ hp)
    rw [List.getElem?_toArray,this ys i hlt,h1];show es[p]? = some e;exact h2
   show Q (.ref (s.heap.push (seqObj "tuple" (ys.map fun (i:Nat)=>rawInt i).toArray 0)).objs.size) _;rw [z1];refine h { s with drawn:=d,heap:=(s.heap.push (seqObj "tuple" (ys.map fun (i:Nat)=>rawInt i).toArray 0)).push { cls:=.type "set_iterator",data:=.fields #[.ref s.heap.objs.size,rawInt 0,.ref a,rawInt es.size,rawInt ep] } } (s.heap.objs.size+1) _ _ _ ?_ (fun b o e=>qnB _ (qnB _ e)) rfl rfl rfl (Nat.le_succ _) (fun b hb=>?_) W ?_
   ·show (ys.filterMap (es[·]?)).Perm es.toList;exact (hp.filterMap _).trans (by rw [filterMap_getElem?_range])
   ·show b<((s.heap.push _).push _).objs.size/\_;rw [size_push',size_push'];rcases qnA.mp hb with e|e
    ·rw [e];exact ⟨Nat.lt_succ_self _,.inr (Nat.le_succ _)⟩
    ·rcases qnA.mp e with e|e
     ·rw [e];exact ⟨Nat.lt_succ_of_lt (Nat.lt_succ_of_lt la),.inl rfl⟩
     ·rw [qqA.mp e];exact ⟨Nat.lt_succ_of_lt (Nat.lt_succ_self _),.inr (qgB _)⟩
   ·refine ⟨⟨{ cls:=.type "set_iterator",data:=.fields #[.ref s.heap.objs.size,rawInt 0,.ref a,rawInt es.size,rawInt ep] },?_,rfl,rfl⟩,sa.at fun o e=>qnB _ (qnB _ e),⟨_,_,qnB _ gt,rfl⟩⟩;rw [<- z1];exact qoB _ rfl
 ·refine qbA (qcA ?_)
  cases hb:byT w with
  | true=>exact fin s.drawn (fun _=>0) (pickOrder (w.params.setOrder a ep) es) rfl (by rw [<- qcC,(IS _ es).length_eq,qcC]) (IS _ es) fun i s' A' E' Q' sa' hi q=>nxt_text hb sa' q
  | false =>
   have hd:t.plain=true\/es.size<=1:=by
    have q:¬ (!byT w && (!t.plain && decide (es.size > 1)))=true:=hab;rw [hb] at q
    cases hp:t.plain with
    | true=>exact .inl rfl
    | false =>
     rw [hp] at q;simp at q;exact .inr q
   exact fin s.drawn (slP t) es rfl rfl .rfl fun i s' A' E' Q' sa' hi q=>SS hb hd sa' hi q
end
section
variable {prog:Program}{w:World}{A:Around}{E:Value->Shared->Prop}{s:Shared}{a:Addr}{es:Array (Int × Value)}{ep:Nat}{t:SetTable}{ks:List Key}
theorem hint_set (hT:s.TypeIs (.ref a) "set"){Q:Bool->Shared->Prop}(h:Q false s):wpAny (model prog w) A (Builtin.List.listLengthHint (.ref a)) Q E s:=by
 unfold Builtin.List.listLengthHint;refine qbA (wpAny_specialOf hT PySem.F.slot_set_len.lookup ?_);generalize hid:("set.__len__" : String)=id0
 wp_delta
 rw [show splitId id0=some ("set","__len__") from by subst hid;decide +kernel];subst hid;refine qbA (wpAny_isInstance (T := "set") (b:=true) hT (by rw [isSubtype_type];kernel_rfl) ?_);refine wpAny_ite_split (fun hab=>absurd hab (by decide)) (fun _=>?_);refine wpAny_ite_split (fun _=>?_) (fun hab=>absurd (by decide +kernel) hab);exact qbA (wpAny_typeOf hT (qcA h))
def HU (vs:List Value)(ks:List Key):Prop:=Paired (fun v k=>Cp k v=true) vs ks
theorem Q5 {w:World}{ps:Array (Int × Value)}{es:Array (Int × Value)}{ks:List Key}{acc:Array Value}(hp:ps.toList.Perm es.toList)(he:Paired (Ent w) es.toList ks)(hi:ItemsOf (fun i v=>∃ e,ps[i]? = some e/\e.2=v) acc es.size) :
  ∃ ks',ks'.Perm ks/\HU acc.toList ks':=by
 obtain ⟨ks',e1,p1⟩:=Cr hp he;refine ⟨ks',e1,?_⟩
 have e2:acc.toList=ps.toList.map (·.2):=by
  apply List.ext_getElem?;intro i;rw [Array.getElem?_toList,qzA,Array.getElem?_toList];have hz:acc.size=es.size:=hi.1;have hz2:ps.size=es.size:=by rw [<- qcC,hp.length_eq,qcC]
  by_cases hl:i<es.size
  ·have h1:acc[i]? = some (acc[i]'(by omega)):=Array.getElem?_eq_getElem (by omega);obtain ⟨e,h2,h3⟩:=hi.2 i _ h1;rw [h1,h2,<- h3]
   rfl
  ·rw [Array.getElem?_eq_none (by omega),Array.getElem?_eq_none (by omega)]
   rfl
 rw [e2]
 have:∀ {l:List (Int × Value)}{ks:List Key},Paired (Ent w) l ks->HU (l.map (·.2)) ks:=by
  intro l ks p
  induction p with
  | nil=>exact .nil
  | cons h _ ih=>exact .cons h.1 ih
 exact this p1
theorem JO {R:List Value->Shared->Prop}(hh:A.handled=none)(sa:SetP w s.heap a ks)
  (h:∀ (s':Shared) (vs:List Value) (ks':List Key),(∀ b o,s.heap.get? b=some o->s'.heap.get? b=some o)->s'.gens=s.gens->s'.os=s.os->s.heap.objs.size<=s'.heap.objs.size->ks'.Perm ks->HU vs ks'->R vs s') :
  wpAny (model prog w) A (collect (.ref a)) R E s:=by
 obtain ⟨ks0,⟨o,es,ep,t,g,S⟩,ek⟩:=sa;have la:a<s.heap.objs.size:=qmB g;have hn:es.size<=sizeLine:=E7 (by rw [S.size];exact S.few);unfold collect;refine qbA (wpAny_runValue (codeAny_builtin entry_proto_collect' ?_));rw [Around.under_plainId PySem.F.plain_proto_collect _];show wpAny _ A.in1 (newList [] >>= fun l=>again (.builtin "list.__iadd__" ⟨[l,.ref a],[]⟩)) _ _ s;refine qbA (wpAny_newObj_type ?_);refine qcA ⟨plainId_quiet PySem.F.plain_list_iadd _,codeAny_builtin entry_list_iadd' ?_⟩;rw [Around.under_plainId PySem.F.plain_list_iadd _];have gL:(s.heap.push { cls:=.type "list",data:=.seq ([]:List Value).toArray }).get? s.heap.objs.size=some { cls:=.type "list",data:=.seq #[] }:=qoB _ rfl;have zL:(s.heap.push { cls:=.type "list",data:=.seq ([]:List Value).toArray }).objs.size=s.heap.objs.size+1:=size_push' _ _;show wpAny _ A.in1 (Builtin.List.listExtendWith (.ref s.heap.objs.size) (.ref a) (.ref s.heap.objs.size)) _ _ _;have gA:(s.heap.push { cls:=.type "list",data:=.seq ([]:List Value).toArray }).get? a=some o:=qnB _ g;have hTa:Shared.TypeIs { s with heap:=s.heap.push { cls:=.type "list",data:=.seq ([]:List Value).toArray } } (.ref a) "set" := ⟨o,gA,S.exact'.1⟩;unfold Builtin.List.listExtendWith;refine qbA (wpAny_typeOf (T := "set") hTa ?_);have ne:s.heap.objs.size≠a:=qmC la;have h1:Builtin.List.listSameRef (.ref s.heap.objs.size) (.ref a)=false:=by simp [Builtin.List.listSameRef,ne]
 have h2:(Value.type "set" == Value.type "list")=false:=by decide
 have h3:(Value.type "set" == Value.type "tuple")=false:=by decide
 simp only [h1,h2,h3,Bool.or_false,Bool.false_eq_true,if_false];refine qbA (Sw (s:={ s with heap:=s.heap.push { cls:=.type "list",data:=.seq ([]:List Value).toArray } }) ⟨o,gA,S⟩ fun s1 I ps fp St hp hk eg eo et lI hfp W st=>?_);have gL1:s1.heap.get? s.heap.objs.size=some { cls:=.type "list",data:=.seq #[] }:=hk _ _ gL
 have nL:s.heap.objs.size ∉ fp:=fun hm=>by
  rcases (hfp _ hm).2 with q|q
  ·exact ne q
  ·exact absurd q (by show ¬ (s.heap.push _).objs.size<=_;rw [zL];exact Nat.not_succ_le_self _)
 have hTa1:s1.TypeIs (.ref a) "set" := ⟨o,hk _ _ gA,S.exact'.1⟩;refine qbA (qeA (hint_set hTa1 ?_))
 have key:∀ (hp':Heap) (c₁:Nat),St 0 hp'->(∀ b o,b≠s.heap.objs.size->s1.heap.get? b=some o->hp'.get? b=some o)->hp'.get? s.heap.objs.size=some { cls:=.type "list",data:=.seq #[] c₁ } ->
   codeAny (model prog w) A (.builtin "list.extend.loop" ⟨[.ref s.heap.objs.size,.ref I,.ref s.heap.objs.size],[]⟩) (fun x s'=>∃ acc c',x = .ok (.ret (.ref s.heap.objs.size))/\(∀ b o,s.heap.get? b=some o->s'.heap.get? b=some o)/\s'.gens=s.gens/\s'.os=s.os /\
    s'.heap.get? s.heap.objs.size=some { cls:=.type "list",dict:=none,data:=.seq acc c',slots:=#[] }/\ItemsOf (fun i v=>∃ e,ps[i]? = some e/\e.2=v) acc es.size) { s1 with heap:=hp' }:=by
  intro hp' c₁ st' hk' gL';refine codeAny_extend_loopS (W A.in1 hh).toS hn s.heap.objs.size nL _ es.size 0 _ #[] c₁ rfl (qkC _) st' gL' (ItemsOf.nil _) fun s' acc c' hm gL'' hi=>?_;refine ⟨acc,c',rfl,fun b o e=>?_,hm.gens.trans eg,hm.os.trans eo,gL'',hi⟩;have lb:b<s.heap.objs.size:=qmB e;refine hm.heap b o (fun hmem=>?_) (hk' b o (qdC lb) (hk b o (qnB _ e)));rcases qnA.mp hmem with q|q
  ·exact absurd q (qdC lb)
  ·have q:=qqA.mp q;have lI':s.heap.objs.size+1<=I:=by rw [<- zL];exact lI
   rw [q] at lb;exact absurd lb (Nat.not_lt.mpr (Nat.le_of_succ_le lI'))
 have last:∀ (x:Result) (s':Shared),(∃ acc c',x = .ok (.ret (.ref s.heap.objs.size))/\(∀ b o,s.heap.get? b=some o->s'.heap.get? b=some o)/\s'.gens=s.gens/\s'.os=s.os /\
   s'.heap.get? s.heap.objs.size=some { cls:=.type "list",dict:=none,data:=.seq acc c',slots:=#[] }/\ItemsOf (fun i v=>∃ e,ps[i]? = some e/\e.2=v) acc es.size)->∃ v,x = .ok (.ret v)/\wpAny (model prog w) A (match v with
   | Value.ref a=>do
    match (<- load a).data with
     | Data.seq xs _=>pure xs.toList
     | _=>unsupported "internal:collect"
   | _=>unsupported "internal:collect") R E s':=by
  intro x s' q;obtain ⟨acc,c',rfl,k1,k2,k3,k4,k5⟩:=q;refine ⟨_,rfl,?_⟩;show wpAny _ A (load s.heap.objs.size >>= _) _ _ _;refine qbA (wpAny_load k4 (qcA ?_));obtain ⟨ks',e1,e2⟩:=Q5 hp S.ent k5;exact h s' acc.toList ks' k1 k2 k3 (Nat.le_of_lt (qmB k4)) (e1.trans ek) e2
 refine wpAny_ite_split (fun _=>?_) (fun _=>?_)
 ·refine qbA (qdA (qbA ?_));show wpAny _ _ (updateSeq s.heap.objs.size (·.push .none) >>= fun _=>updateSeq s.heap.objs.size (·.pop)) _ _ _;refine qbA (wpAny_updateSeq gL1 rfl ?_);have gL2:=Heap.get?_update_self (Obj.mapSeq (·.push Value.none)) gL1 rfl;refine wpAny_updateSeq (hz:=by seq_fits) gL2 rfl ?_;have gL3:=Heap.get?_update_self (Obj.mapSeq (·.pop)) gL2 rfl;refine qcA ⟨plainId_quiet PySem.F.plain_extend_loop _,codeAny_mono (key _ _ ?_ (fun b o hb e=>?_) gL3) fun x s' q=>?_⟩
  ·refine (W A.in1 hh).frame 0 _ _ st fun b hb o e=>?_;have hbS:b≠s.heap.objs.size:=fun q=>nL (q ▸ hb);exact (Heap.get?_update_other _ _ (Ne.symm hbS)).trans ((Heap.get?_update_other _ _ (Ne.symm hbS)).trans e)
  ·exact (Heap.get?_update_other _ _ (Ne.symm hb)).trans ((Heap.get?_update_other _ _ (Ne.symm hb)).trans e)
  ·obtain ⟨v,rfl,q'⟩:=last x s' q;exact q'
 ·refine qcA ⟨plainId_quiet PySem.F.plain_extend_loop _,codeAny_mono (key s1.heap 0 st (fun b o _ e=>e) gL1) fun x s' q=>?_⟩;obtain ⟨v,rfl,q'⟩:=last x s' q;exact q'
theorem intsK {ns:List Int}:∀ {vs:List Value},HU vs (ns.map Sum.inl)->IntsAre vs ns:=by
 induction ns with
 | nil=>intro vs p;cases p;exact .nil
 | cons n ns ih =>
  intro vs p
  cases p with
  | cons h r =>
   rcases B9 h with ⟨i,t,e,rfl⟩ | ⟨x,t,e,rfl⟩
   ·cases e;exact .cons _ _ (ih r)
   ·cases e
theorem strsK {ss:List Str}:∀ {vs:List Value},HU vs (ss.map Sum.inr)->StrsAre vs ss:=by
 induction ss with
 | nil=>intro vs p;cases p;exact .nil
 | cons n ns ih =>
  intro vs p
  cases p with
  | cons h r =>
   rcases B9 h with ⟨i,t,e,rfl⟩ | ⟨x,t,e,rfl⟩
   ·cases e
   ·cases e;exact .cons _ _ (ih r)
theorem II {α:Type}{f:α->Key}:∀ {l:List α}{ks:List Key},ks.Perm (l.map f)->∃ l':List α,l'.Perm l/\ks=l'.map f:=by
 have:∀ {ks ks':List Key},ks'.Perm ks->∀ {l:List α},ks'=l.map f->∃ l':List α,l'.Perm l/\ks=l'.map f:=by
  intro ks ks' hp
  induction hp with
  | nil=>intro l e;exact ⟨l,.rfl,e⟩
  | cons x _ ih =>
   intro l e
   match l,e with
   | y::l,e =>
    rw [qbB] at e;injection e with e1 e2
    obtain ⟨l',h1,h2⟩:=ih e2;exact ⟨y::l',h1.cons _,by rw [qbB,<- h2,e1]⟩
  | swap x y _ =>
   intro l e
   match l,e with
   | a::b::l,e =>
    simp only [qbB,List.cons.injEq] at e;obtain ⟨e1,e2,e3⟩:=e;exact ⟨b::a::l,List.Perm.swap _ _ _,by simp [e1,e2,e3]⟩
  | trans _ _ ih1 ih2 =>
   intro l e;obtain ⟨l1,h1,h2⟩:=ih1 e;obtain ⟨l2,h3,h4⟩:=ih2 h2;exact ⟨l2,h3.trans h1,h4⟩
 intro l ks hp;exact this hp.symm rfl
theorem P4 {ns:List Int}{Q:Value->Shared->Prop}(hh:A.handled=none)(sa:SetP w s.heap a (ns.map Sum.inl))(h64:ns.length<64)
  (h:∀ (s':Shared) (D n:Nat) (out:Array Value) (ns':List Int),(∀ b o,s.heap.get? b=some o->s'.heap.get? b=some o)->s'.gens=s.gens->s'.os=s.os->s.heap.objs.size<=D->s'.heap.get? D=some (seqObj "list" out n)->IntsAre out.toList ns'->ns'.Perm ns->ns'.Pairwise (· <= ·)->Q (.ref D) s') :
  wpAny (model prog w) A (call (.builtin "sorted") [.ref a]) Q E s:=by
 refine Calls.call_function_entry kind_sorted plain_sorted entry_sorted (args_sorted1 _) ?_;unfold Builtin.«sorted»;refine qbA (m:=checkCount "sorted" 1 1 _) (qcA (qbA (JO (A:=A.in1) hh sa fun s1 vs ks' hk eg eo ez ep kv=>?_)));obtain ⟨ns1,p1,rfl⟩:=II ep;have hi:=intsK kv;have hl:vs.length<64:=by rw [hi.length,p1.length_eq];exact h64
 refine qbA (wpAny_newList ?_ (by rw [qpB];omega));have gD:(s1.heap.push (seqObj "list" vs.toArray 0)).get? s1.heap.objs.size=some (seqObj "list" vs.toArray 0):=qoB _ rfl;refine qbA (qeA (qhC slot_list_sort ⟨_,gD,rfl⟩ entry_list_sort (list_sort_tree (s:={ s1 with heap:=s1.heap.push (seqObj "list" vs.toArray 0) }) gD hi hl fun out ns' a1 a2 a3=>⟨_,rfl,?_⟩) (args_list_sort _)));have lD:∀ b o,s.heap.get? b=some o->b<s1.heap.objs.size:=fun b o e=>qmB (hk b o e);obtain ⟨n,gO⟩:∃ n,(sortedHeap (s1.heap.push (seqObj "list" vs.toArray 0)) s1.heap.objs.size vs out).get? s1.heap.objs.size=some (seqObj "list" out n):=sortedHeap_at gD;refine qcA ⟨_,rfl,h _ s1.heap.objs.size n out ns' (fun b o e=>?_) eg eo ?_ gO a1 (a2.trans p1) a3⟩
 ·have lb:=lD b o e;refine (sortedHeap_old (qdC lb) (by rw [size_push'];exact Nat.lt_succ_of_lt lb)).trans (qnB _ (hk b o e))
 ·exact ez
theorem O0 {ns:List Str}{Q:Value->Shared->Prop}(hh:A.handled=none)(sa:SetP w s.heap a (ns.map Sum.inr))(h64:ns.length<64)
  (h:∀ (s':Shared) (D n:Nat) (out:Array Value) (ns':List Str),(∀ b o,s.heap.get? b=some o->s'.heap.get? b=some o)->s'.gens=s.gens->s'.os=s.os->s.heap.objs.size<=D->s'.heap.get? D=some (seqObj "list" out n)->StrsAre out.toList ns'->ns'.Perm ns->sortedS ns'=true->Q (.ref D) s') :
  wpAny (model prog w) A (call (.builtin "sorted") [.ref a]) Q E s:=by
 refine Calls.call_function_entry kind_sorted plain_sorted entry_sorted (args_sorted1 _) ?_;unfold Builtin.«sorted»;refine qbA (m:=checkCount "sorted" 1 1 _) (qcA (qbA (JO (A:=A.in1) hh sa fun s1 vs ks' hk eg eo ez ep kv=>?_)));obtain ⟨ns1,p1,rfl⟩:=II ep;have hi:=strsK kv
 have hl:vs.length<64:=by
  have:vs.length=ns1.length:=by
   have:=CK kv
   rwa [qfA] at this
  rw [this,p1.length_eq];exact h64
 refine qbA (wpAny_newList ?_ (by rw [qpB];omega));have gD:(s1.heap.push (seqObj "list" vs.toArray 0)).get? s1.heap.objs.size=some (seqObj "list" vs.toArray 0):=qoB _ rfl;refine qbA (qeA (qhC slot_list_sort ⟨_,gD,rfl⟩ entry_list_sort (list_sort_treeK (s:={ s1 with heap:=s1.heap.push (seqObj "list" vs.toArray 0) }) strKind_oneLt gD hi.keysOf (fun v₁ v₂ rest e=>keyKind_strs (by rw [<- e];exact hi)) hl fun st' b1 b2=>⟨_,rfl,?_⟩) (args_list_sort _)));obtain ⟨ns',a1,a2,a3⟩:=sorted_out_str hi b1 b2;have lD:∀ b o,s.heap.get? b=some o->b<s1.heap.objs.size:=fun b o e=>qmB (hk b o e);obtain ⟨n,gO⟩:∃ n,(sortedHeap (s1.heap.push (seqObj "list" vs.toArray 0)) s1.heap.objs.size vs ((arrOf st').map (·.2))).get? s1.heap.objs.size=some (seqObj "list" ((arrOf st').map (·.2)) n):=sortedHeap_at gD;refine qcA ⟨_,rfl,h _ s1.heap.objs.size n _ ns' (fun b o e=>?_) eg eo ez gO a1 (a2.trans p1) a3⟩;have lb:=lD b o e;exact (sortedHeap_old (qdC lb) (by rw [size_push'];exact Nat.lt_succ_of_lt lb)).trans (qnB _ (hk b o e))
end
def FW (w:World)(p:Addr)(ks:List Key):HO:=.ext fun h=>SetP w h p ks
theorem Rn {P:Program}{w:World}{H:Hp}{h:Heap}{p:Addr}{ks:List Key}(x:SetP w h p ks):ObjOk P w H h p (FW w p ks):=by
 refine ⟨x,?_,fun h1 h2 a b=>a.at b⟩;obtain ⟨_,⟨o,_,_,_,g,_⟩,_⟩:=x;exact ⟨o,g⟩
theorem Hm {P:Program}{w:World}{H:Hp}{h:Heap}{p:Addr}{ks:List Key}(x:HOk P w H h)(e:H p=some (FW w p ks)):SetP w h p ks:=(x p _ e).1
section
variable {X:Cx}{pins:List (Addr × Obj)}{σ:List (Option V)}{H:Hp}{s s':Shared}
theorem Inv.same (I:Inv X pins σ H s)(e1:s'.heap=s.heap)(e2:s'.gens=s.gens)(e3:s'.os=s.os):Inv X pins σ H s':=by
 obtain ⟨h,g,d,t,o⟩:=s;obtain ⟨h',g',d',t',o'⟩:=s';dsimp only at e1 e2 e3;subst e1;subst e2;subst e3;exact ⟨I.ok,I.os,I.bare,I.base,I.loc,I.cell,I.free,I.freeC,I.pin,I.hok,I.len⟩
theorem Inv.laid' {a:Addr}{o:HO}(I:Inv X pins σ H s)(k:∀ b u,s.heap.get? b=some u->s'.heap.get? b=some u)(hp:s.heap.objs.size<=a)(new:ObjOk X.prog X.w (upd H a o) s'.heap a o)(e2:s'.gens=s.gens)(e3:s'.os=s.os) :
  Inv X pins σ (upd H a o) s':=(I.laid (t':=s.toks) k hp new).same rfl e2 e3
end
theorem rel_key:∀ {k:Key}{u:Value},RelV (kV k) u->Cp k u=true
 | .inl i,u,h=>by obtain ⟨t,rfl⟩:=h;exact M6 i t
 | .inr x,u,h=>by obtain ⟨t,rfl⟩:=h;exact MK x t
theorem vals_key {ks:List Key}:∀ {us:List Value},Vals (ks.map kV) us->∀ (i:Nat) (v:Value),us[i]? = some v->∃ k,ks[i]? = some k/\Cp k v=true:=by
 induction ks with
 | nil=>intro us r i v e;cases r;cases e
 | cons k ks ih =>
  intro us r i v e;rw [qbB] at r
  cases r with
  | cons h t=>cases i with
   | zero =>
    cases e;exact ⟨k,rfl,rel_key h⟩
   | succ i=>exact ih t i v e
def RC (w:World)(K:FZ9):List V->Hp->VK->Prop:=fun vs H Q=>∃ (l:Addr) (ks:List Key),vs=[.ref l]/\SqL K H l (ks.map kV)/\ks.length<4000/\∀ p,H p=none->Q (.ref p) (upd H p (FW w p (EB ks)))
theorem Iv {X:Cx}{w:World}{K:FZ9}(hc:X.calm=true)(hw:X.w=w)(hK:X.K=K):CW X (.type "set") (RC w K):=by
 subst hK;subst hw;intro pins s σ H vs us Q I r h;obtain ⟨l,ks,rfl,hl,hz,q⟩:=h;obtain ⟨u,rfl,ru⟩:=Ev r;cases ru;obtain ⟨its,rv,pl,_⟩:=I.list hl;have hlen:=rv.length;rw [qfA] at hlen;have il:=pl.isList;refine NB (val:=ks) (T := "list") (I.ok.hd hc) (src_list il) (fun s1 k=>(il.at fun o e=>k _ _ e).typeIs) PySem.F.sub_list_set PySem.F.sub_list_frozenset (by decide) ?_ (fun i v e=>vals_key rv i v (by rw [List.getElem?_toArray] at e;exact e)) ?_ fun h' tk hS hk=>?_
 ·rw [qvB];exact hlen
 ·rw [qvB,<- hlen];unfold scanBound;omega
 ·exact ⟨.ref s.heap.objs.size,_,I.laid' (s':={ s with heap:=h',toks:=tk }) (fun b o e=>hk b o e) (qgB _) (Rn hS) rfl rfl,rfl,q _ (I.hok.fresh (qgB _))⟩
def leZ (a b:Int):Bool:=decide (a<=b)
def JD (ys:List Int):List Int:=ys.mergeSort leZ
theorem Ot {ss ss':List Int}(hp:ss'.Perm ss)(hs:ss'.Pairwise (· <= ·)):ss'=JD ss:=by
 refine List.Perm.eq_of_pairwise (le:=fun a b=>leZ a b=true) (fun a b _ _ h1 h2=>Int.le_antisymm (of_decide_eq_true h1) (of_decide_eq_true h2)) (hs.imp fun h=>decide_eq_true h) (List.pairwise_mergeSort (le:=leZ) (fun a b c h1 h2=>decide_eq_true (Int.le_trans (of_decide_eq_true h1) (of_decide_eq_true h2))) (fun a b=>?_) ss) (hp.trans (List.mergeSort_perm ss leZ).symm);unfold leZ;rcases Int.le_total a b with h|h<;>simp [h]
theorem Km:∀ {vs:List Value}{ss:List Int},IntsAre vs ss->Vals (ss.map V.int) vs
 | _,_,.nil=>.nil
 | _,_,.cons x t r=>.cons ⟨t,rfl⟩ (Km r)
def S7 (w:World):List V->Hp->VK->Prop:=fun vs H Q=>∃ (l:Addr) (ys:List Str),vs=[.ref l]/\H l=some (FW w l (ys.map Sum.inr))/\ys.length<64/\∀ p,H p=none->Q (.ref p) (upd H p (.lst ((FU ys).map V.str)))
theorem OB {X:Cx}{w:World}(hc:X.calm=true)(hw:X.w=w):CW X (.builtin "sorted") (S7 w):=by
 subst hw;intro pins s σ H vs us Q I r h;obtain ⟨l,ys,rfl,hl,h64,q⟩:=h;obtain ⟨u,rfl,ru⟩:=Ev r;cases ru;refine O0 (I.ok.hd hc) (Hm I.hok hl) h64 fun s' D n out ns' hk eg eo lD gD a1 a2 a3=>?_;have e:=Ph a2 a3;subst e;refine ⟨.ref D,_,I.laid' (o:=.lst ((FU ys).map V.str)) hk lD ⟨?_,out.toList,n,Ii a1,gD⟩ eg eo,rfl,q _ (I.hok.fresh lD)⟩;rw [qfA,(Bf ys).length_eq,qpB];omega
def Rx (w:World):List V->Hp->VK->Prop:=fun vs H Q=>∃ (l:Addr) (ys:List Int),vs=[.ref l]/\H l=some (FW w l (ys.map Sum.inl))/\ys.length<64/\∀ p,H p=none->Q (.ref p) (upd H p (.lst ((JD ys).map V.int)))
theorem PB {X:Cx}{w:World}(hc:X.calm=true)(hw:X.w=w):CW X (.builtin "sorted") (Rx w):=by
 subst hw;intro pins s σ H vs us Q I r h;obtain ⟨l,ys,rfl,hl,h64,q⟩:=h;obtain ⟨u,rfl,ru⟩:=Ev r;cases ru;refine P4 (I.ok.hd hc) (Hm I.hok hl) h64 fun s' D n out ns' hk eg eo lD gD a1 a2 a3=>?_;have e:=Ot a2 a3;subst e;refine ⟨.ref D,_,I.laid' (o:=.lst ((JD ys).map V.int)) hk lD ⟨?_,out.toList,n,Km a1,gD⟩ eg eo,rfl,q _ (I.hok.fresh lD)⟩;rw [qfA,show (JD ys).length=ys.length from (List.mergeSort_perm ys leZ).length_eq,qpB];omega
def Ik {α:Type}[DecidableEq α](ks:List α)(k:α):List α:=if ks.any (fun y=>decide (y=k)) then ks else ks++[k]
def DT {α:Type}[DecidableEq α](ks:List α):List α:=ks.foldl Ik []
theorem addA_map {α:Type}[DecidableEq α]{f:α->Key}(hf:∀ a b,f a=f b->a=b)(ks:List α)(k:α):Ez (ks.map f) (f k)=(Ik ks k).map f:=by
 have e:(ks.map f).any (fun y=>decide (y=f k))=ks.any (fun y=>decide (y=k)):=by
  rw [List.any_map]
  congr 1
  funext y
  show decide (f y=f k)=decide (y=k);by_cases h:y=k
  ·rw [h,decide_eq_true rfl,decide_eq_true rfl]
  ·rw [decide_eq_false h,decide_eq_false (fun q=>h (hf _ _ q))]
 unfold Ez Ik;rw [e];split
 ·rfl
 ·rw [qcB];rfl
theorem Dp {α:Type}[DecidableEq α]{f:α->Key}(hf:∀ a b,f a=f b->a=b)(ks:List α):EB (ks.map f)=(DT ks).map f:=by
 have:∀ (ks acc:List α),(ks.map f).foldl Ez (acc.map f)=(ks.foldl Ik acc).map f:=by
  intro ks
  induction ks with
  | nil=>intro acc;rfl
  | cons k ks ih=>intro acc;rw [qbB,qjC,qjC,addA_map hf,ih]
 exact this ks []
theorem inr_inj (a b:Str)(h:(Sum.inr a:Key)=Sum.inr b):a=b:=Sum.inr.inj h
theorem IK (a b:Int)(h:(Sum.inl a:Key)=Sum.inl b):a=b:=Sum.inl.inj h
def Ht (ys:List Str):Option (List Str):=if ys.length<4000/\(DT ys).length<64 then some (FU (DT ys)) else none
theorem mem_addA {α:Type}[DecidableEq α]{ks:List α}{k x:α}:x∈Ik ks k ↔ x∈ks\/x=k:=by
 unfold Ik;split
 ·rename_i h;obtain ⟨y,hy,e⟩:=List.any_eq_true.mp h;have e:=of_decide_eq_true e;constructor
  ·exact .inl
  ·rintro (h|rfl)
   ·exact h
   ·exact e ▸ hy
 ·rw [qmA,qqA]
theorem mem_dedA {α:Type}[DecidableEq α]{ks:List α}{x:α}:x∈DT ks ↔ x∈ks:=by
 have:∀ (ks acc:List α),x∈ks.foldl Ik acc ↔ x∈acc\/x∈ks:=by
  intro ks
  induction ks with
  | nil=>intro acc;simp
  | cons k ks ih=>intro acc;rw [qjC,ih,mem_addA,qnA,or_assoc]
 rw [DT,this];simp
theorem KP {α:Type}[DecidableEq α](ks:List α):(DT ks).Nodup:=by
 have:∀ (ks acc:List α),acc.Nodup->(ks.foldl Ik acc).Nodup:=by
  intro ks
  induction ks with
  | nil=>intro acc h;exact h
  | cons k ks ih =>
   intro acc h;rw [qjC];refine ih _ ?_;unfold Ik;split
   ·exact h
   ·rename_i hn;refine qfB.mpr ⟨h,by simp,fun a ha b hb e=>hn ?_⟩;rw [qqA] at hb;exact List.any_eq_true.mpr ⟨a,ha,decide_eq_true (e.trans hb)⟩
 exact this ks [] List.nodup_nil
section
variable {K:FZ9}{σ:St}{G:Hp}{ta tb:TE}{w:World}
theorem SO (a:List Str):a.map V.str=(a.map (Sum.inr:Str->Key)).map kV:=by rw [List.map_map];rfl
theorem strs_rel {G2:Hp}(zs:List Str)(h:∀ y∈zs,y.length<=sizeLine):Paired (Rp.rel K G2) (zs.map V.str) zs:=by
 induction zs with
 | nil=>exact .nil
 | cons y zs ih=>exact .cons ⟨rfl,h y qrA⟩ (ih fun w hw=>h w (qsA _ hw))
theorem Oo {la:Option (List Str)}(ea:EV K ta σ G la):FV K (tCB (S7 w) (AK (tCB (RC w K) (AK ta B7)) B7)) σ G (la.bind fun ys=>Ht ys):=by
 clear 7;obtain ⟨a,ha,hc⟩:=qaA.mp hc;obtain ⟨⟨h4,h64⟩,rfl⟩:=B4 hc;clear 8 ea a ha;obtain ⟨l,xs,rfl,h,z,p⟩:=r2;have e:=FI p;subst e;refine ⟨l,a.map Sum.inr,rfl,?_,by rw [qfA];exact h4,fun q hq=>?_⟩
 ·rw [<- SO];exact .inl (x2.gh.rd h)
 ·rw [Dp inr_inj];refine ⟨q,DT a,rfl,AH,h64,?_⟩;have x3:Ext G2 H2 G2 (upd H2 q (FW w q ((DT a).map Sum.inr))):=.own x2.gh hq;refine Oh x3.gh ?_ (strs_rel _ fun y hy=>Gf p y (mem_dedA.mp ((Bf _).mem_iff.mp hy))) (FV.mono (x2.trans x3) k);rw [qfA,(Bf _).length_eq,qpB];omega
end
def lcg:Nat->Nat->Nat
 | 0,x=>x
 | n+1,x=>lcg n (5 * x+1)
def Ke:Nat->Nat
 | 0=>0
 | n+1=>Ke n+5 ^ n
theorem NF:∀ n x,lcg n x=5 ^ n * x+Ke n
 | 0,x=>by simp [lcg,Ke]
 | n+1,x=>by
  rw [lcg,NF n,Ke,Nat.pow_succ]
  grind
theorem Rf:∀ m n x,lcg (m+n) x=lcg n (lcg m x)
 | 0,n,x=>by rw [Nat.zero_add];rfl
 | m+1,n,x=>by
  have e:m+1+n=(m+n)+1:=by omega
  rw [e,lcg,lcg,Rf m n]
theorem Od (m:Nat):∀ n,Ke (m+n)=Ke m+5 ^ m * Ke n
 | 0=>by simp [Ke]
 | n+1=>by
  rw [<- Nat.add_assoc,Ke,Ke,Od m n,Nat.pow_add]
  grind
theorem pow5:∀ k:Nat,(∃ d,5 ^ (2 ^ k)=1+4 * 2 ^ k * d)/\∃ e,Ke (2 ^ k)=2 ^ k+2 * 2 ^ k * e
 | 0=>⟨⟨1,rfl⟩,⟨0,rfl⟩⟩
 | k+1=>by
  obtain ⟨⟨d,hd⟩,⟨e,he⟩⟩:=pow5 k;have e2:2 ^ (k+1)=2 ^ k+2 ^ k:=by rw [Nat.pow_succ];omega
  refine ⟨⟨d+2 * 2 ^ k * d * d,?_⟩,⟨e+2 ^ k * d+2 * e * 2 ^ k * d,?_⟩⟩
  ·rw [e2,Nat.pow_add,hd];generalize 2 ^ k=q
   grind
  ·rw [e2,Od,hd,he];generalize 2 ^ k=q
   grind
theorem lcg_turn (k x:Nat):∃ c,lcg (2 ^ k) x=x+2 ^ k+2 * 2 ^ k * c:=by
 obtain ⟨⟨d,hd⟩,⟨e,he⟩⟩:=pow5 k;refine ⟨2 * d * x+e,?_⟩;rw [NF,hd,he];generalize 2 ^ k=q
 grind
theorem MC:∀ k x j:Nat,∃ n,n<2 ^ k/\lcg n x % 2 ^ k=j % 2 ^ k
 | 0,x,j=>⟨0,by simp,by simp [Nat.mod_one]⟩
 | k+1,x,j=>by
  obtain ⟨n,hn,e⟩:=MC k x j;have e2:2 ^ (k+1)=2 ^ k * 2:=Nat.pow_succ 2 k;have hq:0<2 ^ k:=Nat.two_pow_pos k;obtain ⟨c,hc⟩:=lcg_turn k (lcg n x);generalize hy:lcg n x=y at e hc;generalize 2 ^ k=q at e2 hq hn e hc;have hM:∀ z,z % (q * 2)=z % q+q * (z / q % 2):=fun z=>Nat.mod_mul
  have h2:(y+q+2 * q * c) % (q * 2)=(y+q) % (q * 2):=by
   rw [show y+q+2 * q * c=y+q+q * 2 * c by rw [Nat.mul_comm 2 q],Nat.add_mul_mod_self_left]
  have hdiv:(y+q) / q=y / q+1:=Nat.add_div_right y hq;have hmod:(y+q) % q=y % q:=Nat.add_mod_right y q;rw [e2];by_cases hc2:y / q % 2=j / q % 2
  ·exact ⟨n,by omega,by rw [hy,hM,hM,e,hc2]⟩
  ·refine ⟨n+q,by omega,?_⟩;have:∀ u:Nat,lcg (n+q) x=u->u % (q * 2)=j % (q * 2)->lcg (n+q) x % (q * 2)=j % (q * 2):=fun u h1 h3=>by rw [h1];exact h3
   rw [Rf,hy,hc,h2,hM,hM,hmod,hdiv,e];have:(y / q+1) % 2=j / q % 2:=by omega
   rw [this]
def DC (mask:Nat):Nat->Nat × Nat->Nat × Nat
 | 0,p=>p
 | n+1,p=>DC mask n (SetTable.leap mask p.1 p.2)
theorem M7 (mask:Nat):∀ m n p,DC mask (m+n) p=DC mask n (DC mask m p)
 | 0,n,p=>by rw [Nat.zero_add];rfl
 | m+1,n,p=>by
  have e:m+1+n=(m+n)+1:=by omega
  rw [e,DC,DC,M7 mask m n]
theorem ML (mask:Nat):∀ n p,(DC mask n p).2=p.2 / 32 ^ n
 | 0,p=>by simp [DC]
 | n+1,p=>by
  rw [DC,ML mask n];show p.2 / 32 / 32 ^ n=_;rw [Nat.div_div_eq_div_mul,Nat.pow_succ,Nat.mul_comm]
theorem He {mask:Nat}:∀ n p,p.1<mask+1->(DC mask n p).1<mask+1
 | 0,p,h=>h
 | n+1,p,h=>by
  rw [DC];exact He n _ (Nat.mod_lt _ (Nat.succ_pos _))
theorem MM {mask:Nat}:∀ n i,i<mask+1->(DC mask n (i,0)).1=lcg n i % (mask+1)
 | 0,i,h=>(Nat.mod_eq_of_lt h).symm
 | n+1,i,h=>by
  rw [DC,lcg];have e:SetTable.leap mask i 0=((i * 5+1) % (mask+1),0):=by unfold SetTable.leap;simp
  show (DC mask n (SetTable.leap mask i 0)).1=_;rw [e,MM n _ (Nat.mod_lt _ (Nat.succ_pos _))];rw [NF,NF,Nat.add_mod,Nat.mul_mod,Nat.mod_mod,<- Nat.mul_mod,<- Nat.add_mod,Nat.mul_comm i 5]
theorem Oq {mask k:Nat}(hm:mask+1=2 ^ k){i p j:Nat}(hi:i<mask+1)(hp:p<2 ^ 64)(hj:j<mask+1):∃ n,n<mask+15/\(DC mask n (i,p)).1=j:=by
 have h0:(DC mask 13 (i,p)).2=0:=by
  rw [ML];exact Nat.div_eq_of_lt (qfC hp (by decide))
 have h1:=He (mask:=mask) 13 (i,p) hi;generalize hx:DC mask 13 (i,p)=x at h0 h1;obtain ⟨a,b⟩:=x;dsimp only at h0 h1;subst h0;obtain ⟨n,hn,e⟩:=MC k a j;refine ⟨13+n,by omega,?_⟩;rw [M7,hx,MM n a h1,hm,e,<- hm];exact Nat.mod_eq_of_lt hj
theorem Qn (mask:Nat)(owner:Array (Option Nat)):∀ n fuel i p,n<fuel->(owner.getD (DC mask n (i,p)).1 (some 0)).isNone=true->∃ j,SetTable.layClean.free mask owner fuel i p=some j/\(owner.getD j (some 0)).isNone=true:=by
 intro n
 induction n with
 | zero =>
  intro fuel i p h e;obtain ⟨fuel,rfl⟩:∃ f,fuel=f+1:=⟨fuel - 1,by omega⟩;unfold SetTable.layClean.free
  cases hf:(List.range (SetTable.runEnd mask i+1 - i)).find? fun k=>(owner.getD (i+k) (some 0)).isNone with
  | some k=>exact ⟨i+k,rfl,by have:=List.find?_some hf;exact this⟩
  | none =>
   have h0:0∈List.range (SetTable.runEnd mask i+1 - i):=by
    rw [qtA];unfold SetTable.runEnd;split<;>omega
   have:=List.find?_eq_none.mp hf 0 h0;rw [Nat.add_zero] at this;exact absurd e this
 | succ n ih =>
  intro fuel i p h e;obtain ⟨fuel,rfl⟩:∃ f,fuel=f+1:=⟨fuel - 1,by omega⟩;unfold SetTable.layClean.free
  cases hf:(List.range (SetTable.runEnd mask i+1 - i)).find? fun k=>(owner.getD (i+k) (some 0)).isNone with
  | some k=>exact ⟨i+k,rfl,by have:=List.find?_some hf;exact this⟩
  | none =>
   dsimp only;rw [DC] at e;exact ih fuel _ _ (by omega) e
theorem bits_lt (h:Int):SetTable.bits h<2 ^ 64:=by
 unfold SetTable.bits;have h1:=qsB h (show (2 ^ 64:Int)≠0 by decide);have h2:=qtB h (show (0:Int)<2 ^ 64 by decide);omega
structure LaidTo (mask n:Nat)(ow:Array (Option Nat)):Prop where
 size:ow.size=mask+1
 perm:(ow.toList.filterMap id).Perm (List.range n)
theorem fm_set:∀ (l:List (Option Nat)) (j k:Nat) (h:j<l.length),l[j]=none->((l.set j (some k)).filterMap id).Perm (k::l.filterMap id):=by
 intro l
 induction l with
 | nil=>intro j k h;exact absurd h (Nat.not_lt_zero _)
 | cons x l ih =>
  intro j k h e
  cases j with
  | zero =>
   have e:x=none:=e;subst e;exact .rfl
  | succ j =>
   have q:=ih j k (by simpa using h) (by simpa using e);rw [List.set_cons_succ]
   cases x with
   | none=>exact q
   | some y =>
    show (y::(l.set j (some k)).filterMap id).Perm (k::y::l.filterMap id);exact (q.cons y).trans (List.Perm.swap _ _ _)
theorem fm_len:∀ l:List (Option Nat),(l.filterMap id).length<l.length->∃ j,∃ h:j<l.length,l[j]=none:=by
 intro l
 induction l with
 | nil=>intro h;exact absurd h (Nat.not_lt_zero _)
 | cons x l ih =>
  intro h
  cases x with
  | none=>exact ⟨0,Nat.succ_pos _,rfl⟩
  | some y =>
   obtain ⟨j,hj,e⟩:=ih (by
    have h:(y::l.filterMap id).length<(some y::l).length:=h;simp only [qhA] at h
    omega)
   exact ⟨j+1,by simpa using hj,e⟩
theorem lay_go {mask k:Nat}(hm:mask+1=2 ^ k):∀ (hs:List Int) (ow:Array (Option Nat)) (n:Nat),LaidTo mask n ow->n+hs.length<=mask ->
  ∃ ow',(hs.foldl (init:=some (ow,n)) fun acc h=>do
   let (owner,k) <- acc
   let j <- SetTable.layClean.free mask owner (SetTable.turns mask) (SetTable.bits h % (mask+1)) (SetTable.bits h)
   pure (owner.setIfInBounds j (some k),k+1))=some (ow',n+hs.length)/\LaidTo mask (n+hs.length) ow':=by
 intro hs
 induction hs with
 | nil=>intro ow n L _;exact ⟨ow,rfl,L⟩
 | cons h hs ih =>
  intro ow n L hn;rw [qhA] at hn;have hlen:(ow.toList.filterMap id).length=n:=by rw [L.perm.length_eq,qjA]
  obtain ⟨j0,hj0,e0⟩:=fm_len ow.toList (by rw [hlen,qcC,L.size];omega);rw [qcC] at hj0;have e0':ow.getD j0 (some 0)=none:=by simp only [Array.getD,hj0,dite_true];simpa using e0
  obtain ⟨m,hm1,hm2⟩:=Oq hm (i:=SetTable.bits h % (mask+1)) (p:=SetTable.bits h) (j:=j0) (Nat.mod_lt _ (Nat.succ_pos _)) (bits_lt h) (by rw [<- L.size];exact hj0);obtain ⟨j,hf,hj⟩:=Qn mask ow m (SetTable.turns mask) (SetTable.bits h % (mask+1)) (SetTable.bits h) hm1 (by rw [hm2,e0'];rfl)
  have hjl:j<ow.size:=by
   rcases Nat.lt_or_ge j ow.size with q|q
   ·exact q
   ·have:ow.getD j (some 0)=some 0:=by simp [Array.getD,Nat.not_lt.mpr q]
    rw [this] at hj;cases hj
  have hjn:ow.toList[j]'(by simpa using hjl)=none:=by
   have:ow.getD j (some 0)=ow[j]:=by simp [Array.getD,hjl]
   rw [this,Option.isNone_iff_eq_none] at hj
   simpa using hj
  have L':LaidTo mask (n+1) (ow.setIfInBounds j (some n)):=by
   refine ⟨by rw [Array.size_setIfInBounds];exact L.size,?_⟩;rw [Array.toList_setIfInBounds];refine (fm_set _ j n (by simpa using hjl) hjn).trans ((L.perm.cons n).trans ?_);rw [List.range_succ];exact (List.perm_append_singleton n _).symm
  obtain ⟨ow',e1,e2⟩:=ih _ (n+1) L' (by omega);refine ⟨ow',?_,?_⟩
  ·rw [qjC];simp only [Option.bind_eq_bind,Option.bind_some,hf,Option.pure_def] at e1 ⊢;rw [e1,qhA]
   congr 2
   omega
  ·rw [qhA,show n+(hs.length+1)=n+1+hs.length by omega];exact e2
theorem lay_ok {mask k:Nat}(hm:mask+1=2 ^ k)(hs:Array Int)(hn:hs.size<=mask):∃ ow,SetTable.layClean mask hs=some ow/\LaidTo mask hs.size ow:=by
 have L0:LaidTo mask 0 (Array.replicate (mask+1) none):=by
  refine ⟨Array.size_replicate,?_⟩;rw [Array.toList_replicate]
  have:∀ n,(List.replicate n (none:Option Nat)).filterMap id=[]:=fun n=>by
   induction n with
   | zero=>rfl
   | succ n ih=>rw [List.replicate_succ,List.filterMap_cons_none rfl,ih]
  rw [this];exact .rfl
 obtain ⟨ow,e1,e2⟩:=lay_go hm hs.toList _ 0 L0 (by rw [qcC];omega);rw [Nat.zero_add,qcC] at e1 e2;refine ⟨ow,?_,e2⟩;unfold SetTable.layClean;rw [<- Array.foldl_toList];rw [e1]
 rfl
theorem RK {mask k finger moves:Nat}{led plain:Bool}(hm:mask+1=2 ^ k)(hs:Array Int)(hn:hs.size<=mask) :
  ∃ t order,SetTable.laid mask finger moves led plain hs=some (t,order)/\order.toList.Perm (List.range hs.size)/\t.place.size=hs.size:=by
 obtain ⟨ow,e,L⟩:=lay_ok hm hs hn
 have hl:∀ (l:List (Option Nat)) (d:Nat) (f:Nat->Option Nat),(∀ i,i<l.length->f (d+i)=l.getD i none)->(((List.range' d l.length).filterMap fun j=>(f j).map (j,·)).map (·.2))=l.filterMap id:=by
  intro l
  induction l with
  | nil=>intro d f _;rfl
  | cons x l ih =>
   intro d f hf;rw [qhA,List.range'_succ];have h0:=hf 0 (Nat.succ_pos _);rw [Nat.add_zero] at h0;have h0:f d=x:=h0
   have ih':=ih (d+1) f fun i hi=>by
    have:=hf (i+1) (by rw [qhA];omega);rw [show d+1+i=d+(i+1) by omega,this]
    rfl
   cases x with
   | none=>rw [List.filterMap_cons_none (by rw [h0];rfl),ih'];rfl
   | some y=>rw [List.filterMap_cons_some (b:=(d,y)) (by rw [h0];rfl),qbB,ih'];rfl
 have e2:(((List.range (mask+1)).filterMap fun j=>(ow.getD j none).map (j,·)).map (·.2))=ow.toList.filterMap id:=by
  have:=hl ow.toList 0 (fun j=>ow.getD j none) fun i hi=>by
   rw [Nat.zero_add];simp [Array.getD,List.getD];split<;>simp_all
  rw [qcC,L.size] at this;rw [<- this,List.range_eq_range']
 refine ⟨_,_,by unfold SetTable.laid;rw [e];rfl,?_,?_⟩
 ·show (((List.range (mask+1)).filterMap fun j=>(ow.getD j none).map (j,·)).map (·.2)).Perm _;rw [e2];exact L.perm
 ·show ((((List.range (mask+1)).filterMap fun j=>(ow.getD j none).map (j,·)).map (·.1)).toArray).size=_;rw [qvB,qfA];have:=congrArg List.length e2;rw [qfA,L.perm.length_eq,qjA] at this;exact this
theorem Lm:∀ fuel (size n:Nat),(∃ k,size=2 ^ k)->0<size->n<size * 2 ^ fuel->(∃ k,SetTable.sizeAbove.go n fuel size=2 ^ k)/\n<SetTable.sizeAbove.go n fuel size:=by
 intro fuel
 induction fuel with
 | zero=>intro size n h _ hn;exact ⟨h,by show n<size;simpa using hn⟩
 | succ fuel ih =>
  intro size n h hp hn;unfold SetTable.sizeAbove.go;split
  ·obtain ⟨k,rfl⟩:=h;exact ih _ _ ⟨k+1,by rw [Nat.pow_succ]⟩ (by omega) (by rw [Nat.pow_succ] at hn;rw [Nat.mul_assoc,Nat.mul_comm 2];exact hn)
  ·rename_i q;exact ⟨h,by omega⟩
theorem Qg {n:Nat}(h:n<2 ^ 60):(∃ k,SetTable.sizeAbove n=2 ^ k)/\n<SetTable.sizeAbove n :=
 Lm 64 8 n ⟨3,rfl⟩ (by decide) (qfC h (by decide))
def Pw (t:SetTable):Prop:=∃ k,t.mask+1=2 ^ k
def SetM (w:World)(h:Heap)(a:Addr)(ks:List Key):Prop:=∃ o es ep t,h.get? a=some o/\SObj w o es ep t ks/\(ks=[]->Pw t)
theorem SetM.is {w:World}{h:Heap}{a:Addr}{ks:List Key}(x:SetM w h a ks):SetIs w h a ks:=by
 obtain ⟨o,es,ep,t,g,S,_⟩:=x;exact ⟨o,es,ep,t,g,S⟩
theorem SetM.of {w:World}{h:Heap}{a:Addr}{ks:List Key}(x:SetIs w h a ks)(hn:ks ≠ []):SetM w h a ks:=by
 obtain ⟨o,es,ep,t,g,S⟩:=x;exact ⟨o,es,ep,t,g,S,fun e=>absurd e hn⟩
theorem fresh_m {w:World}{h:Heap}{a:Addr}(g:h.get? a=some (BV w)):SetM w h a []:=by
 obtain ⟨o,es,ep,t,g',S⟩:=PJ g;rw [g] at g';cases g';refine ⟨_,es,ep,t,g,S,fun _=>⟨3,?_⟩⟩;have:=S.data;cases this
 rfl
section
variable {prog:Program}{w:World}{A:Around}{E:Value->Shared->Prop}{s:Shared}
theorem fills {t:SetTable}{n:Nat}(h:t.fits n=true)(r:RT t):t.fill=n/\t.place.size=n:=by
 simp only [SetTable.fits,qnC,beq_iff_eq] at h;refine ⟨?_,h.1⟩;unfold SetTable.fill;rw [h.1,r.dum]
 rfl
theorem reord {es:Array (Int × Value)}{order:Array Nat}(hp:order.toList.Perm (List.range es.size)):(order.filterMap (es[·]?)).toList.Perm es.toList/\(order.filterMap (es[·]?)).size=es.size:=by
 have h1:(order.filterMap (es[·]?)).toList.Perm es.toList:=by
  rw [Array.toList_filterMap];exact (hp.filterMap _).trans (by rw [filterMap_getElem?_range])
 exact ⟨h1,by rw [<- qcC,h1.length_eq,qcC]⟩
theorem relay_ok {a:Addr}{ks:List Key}{wanted:Nat}{Q:Unit->Shared->Prop}(x:SetIs w s.heap a ks)(hw:ks.length<=wanted)(hb:wanted<100000)
  (h:∀ h' ks',Heap.SameBut a s.heap h'->ks'.Perm ks->(∃ o es ep t,h'.get? a=some o/\SObj w o es ep t ks'/\Pw t/\wanted<=t.mask)->Q () { s with heap:=h' }):wpAny (model prog w) A (setRelay a wanted) Q E s:=by
 obtain ⟨o,es,ep,t,g,S⟩:=x;obtain ⟨⟨k,hk⟩,hlt⟩:=Qg (n:=wanted) (qfC hb (by decide));have hk1:SetTable.sizeAbove wanted - 1+1=2 ^ k:=by omega
 have hsz:es.size=ks.length:=S.size;unfold setRelay;refine qbA (qiC g S.data S.fit ?_);dsimp only
 have hup:SetTable.sizeAbove wanted<=sizeLine:=by
  have:∀ fuel size,size<=2 * wanted+8->SetTable.sizeAbove.go wanted fuel size<=2 * wanted+8:=by
   intro fuel
   induction fuel with
   | zero=>intro size h;exact h
   | succ fuel ih =>
    intro size h;unfold SetTable.sizeAbove.go;split
    ·exact ih _ (by omega)
    ·exact h
  have:=this 64 8 (by omega);rw [qpB];unfold SetTable.sizeAbove;omega
 rw [if_neg (Nat.not_lt.mpr hup)];obtain ⟨t',order,e1,e2,e3⟩:=RK (mask:=SetTable.sizeAbove wanted - 1) (finger:=t.finger) (moves:=t.movedTo (SetTable.sizeAbove wanted - 1)) (led:=t.led) (plain:=t.plain) hk1 (es.map (·.1)) (by rw [Array.size_map,hsz];omega);rw [Array.size_map] at e2 e3;obtain ⟨r1,r2⟩:=reord e2;obtain ⟨q1,q2,q3,q4⟩:=NU e1;have e1':t.relaid (es.map (·.1)) wanted=some (t',order):=e1;rw [e1'];refine qbA ?_;show wpAny _ _ (if ((order.filterMap (es[·]?)).size != es.size)=true then unsupported "internal:set-table-lost-an-element" >>= fun _=>pure (order.filterMap (es[·]?),t') else pure (order.filterMap (es[·]?),t')) _ _ _;rw [if_neg (by rw [r2];simp)];refine qcA ?_;dsimp only;obtain ⟨ks',p1,p2⟩:=Cr r1 S.ent;have few':ks'.length<scanBound:=by rw [p1.length_eq];exact S.few
 refine wpAny_storeSet_of g S.data ?_ (E7 (by rw [r2,hsz];exact S.few));have g1:=F2 (es':=order.filterMap (es[·]?)) (t':=t') g S.data;refine h _ ks' (Heap.SameBut.update s.heap a _) p1 ⟨_,_,_,_,g1,⟨S.exact',rfl,p2,few',?_,q1,q2.trans S.led⟩,⟨k,by rw [q4];exact hk1⟩,by rw [q4];omega⟩;simp only [SetTable.fits,SetTable.fill,q1.dum,e3,r2,q4,qnC,beq_iff_eq,decide_eq_true_eq];refine ⟨trivial,?_⟩;show es.size+(#[]:Array Nat).size<=_;simp only [qvB,List.length_nil];omega
theorem room_ok {a:Addr}{ks:List Key}{more:Nat}{Q:Unit->Shared->Prop}(x:SetM w s.heap a ks)(hb:ks.length+more<4096)
  (h:∀ h' ks',Heap.SameBut a s.heap h'->ks'.Perm ks->(∃ o es ep t,h'.get? a=some o/\SObj w o es ep t ks'/\(ks'=[]->Pw t/\more<=t.mask))->Q () { s with heap:=h' }):wpAny (model prog w) A (setRoomFor a more) Q E s:=by
 obtain ⟨o,es,ep,t,g,S,pw⟩:=x;unfold setRoomFor;refine qbA (qiC g S.data S.fit ?_);dsimp only;obtain ⟨f1,f2⟩:=fills S.fit S.rt;have hsz:es.size=ks.length:=S.size;unfold SetTable.roomFor;by_cases hc:(t.fill+more) * 5>=t.mask * 3
 ·rw [if_pos hc];dsimp only;refine relay_ok ⟨o,es,ep,t,g,S⟩ (by rw [f2,hsz];omega) (by rw [f2,hsz];omega) fun h' ks' hs hp ⟨o',es',ep',t',g',S',pw',hm⟩=>h h' ks' hs hp ⟨o',es',ep',t',g',S',fun _=>⟨pw',by rw [f2] at hm;omega⟩⟩
 ·rw [if_neg hc];dsimp only;refine qcA ?_;have e:s = { s with heap:=s.heap }:=by cases s;rfl
  have q:=h s.heap ks (Heap.SameBut.refl a s.heap) .rfl ⟨o,es,ep,t,g,S,fun e=>⟨pw e,by omega⟩⟩;rw [<- e] at q;exact q
end
theorem SF {w:World}{l:List (Int × Value)}{ks:List Key}(p:Paired (Ent w) l ks):∀ e∈l,∀ a,e.2 ≠ .ref a:=by
 induction p with
 | nil=>intro e he;cases he
 | cons h _ ih =>
  intro e he a;rcases qnA.mp he with rfl|he
  ·rcases B9 h.1 with ⟨i,t,_,q⟩ | ⟨x,t,_,q⟩<;>rw [q]<;>intro c<;>cases c
  ·exact ih e he a
section
variable {prog:Program}{w:World}{A:Around}{E:Value->Shared->Prop}{s:Shared}
theorem M1 {a:Addr}{ks:List Key}(x:SetIs w s.heap a ks){β γ:Type}{b0:β}{f:(Int × Value)->β->Sem (ForInStep β)}{k:β->Sem γ}(hf:∀ e b,(∀ a,e.2 ≠ .ref a)->f e b=pure (.yield b0)){Q:γ->Shared->Prop}(h:wpAny (model prog w) A (k b0) Q E s) :
  wpAny (model prog w) A (setEntries a >>= fun es=>forIn es b0 f >>= k) Q E s:=by
 obtain ⟨o,es,ep,t,g,S⟩:=x;refine qbA (wpAny_setEntries_of g S.data S.fit (qbA ?_));have hn:=SF S.ent;refine wpAny_forIn_array' f (fun l b s'=>(∀ e∈l,∀ a,e.2 ≠ .ref a)/\b=b0/\s'=s) _ (fun x rest b s' hI=>?_) (fun b s' hI=>by obtain ⟨_,rfl,rfl⟩:=hI;exact h) es b0 ⟨hn,rfl,rfl⟩;obtain ⟨h1,rfl,rfl⟩:=hI;rw [hf x b (h1 x qrA)];exact qcA ⟨fun e he=>h1 e (qsA _ he),rfl,rfl⟩
theorem quiet_ok {a b:Addr}{ka kb:List Key}(x:SetIs w s.heap a ka)(y:SetIs w s.heap b kb){Q:Bool->Shared->Prop}(h:Q true s):wpAny (model prog w) A (setsQuiet [a,b]) Q E s:=by
 unfold setsQuiet;simp only [List.forIn_cons,List.forIn_nil];refine qbA (qbA (M1 x (fun e b hn=>?_) ?_))
 ·obtain ⟨i,v⟩:=e;cases v<;>first|rfl|exact absurd rfl (hn _)
 ·refine qcA ?_;dsimp only;refine qbA (M1 y (fun e b hn=>?_) ?_)
  ·obtain ⟨i,v⟩:=e;cases v<;>first|rfl|exact absurd rfl (hn _)
  ·exact qcA (qcA (qcA h))
theorem T7 {o f:Addr}{eo:Array (Int × Value)}{po:Nat}{to:SetTable}{ko kf:List Key}(x:SAt w s.heap o eo po to ko)(y:SetIs w s.heap f kf)(ne:f≠o){Q:Array (Int × Value)->Shared->Prop}
  (h:∀ h' ps,ps.toList.Perm eo.toList->Heap.SameBut f s.heap h'->SetIs w h' f kf->Q ps { s with heap:=h' }):wpAny (model prog w) A (setWalkUnseen o [f] (some f)) Q E s:=by
 obtain ⟨ob,g,S⟩:=id x;have hs:s = { s with heap:=s.heap }:=by cases s;rfl
 have base:∀ ps:Array (Int × Value),ps.toList.Perm eo.toList->Q ps s:=fun ps hp=>by
  have q:=h s.heap ps hp (Heap.SameBut.refl f s.heap) y
  rwa [<- hs] at q
 unfold setWalkUnseen;refine qbA (qiC g S.data S.fit (qbA (DQ ?_)));dsimp only;refine wpAny_ite_split (fun hc=>?_) (fun hc=>?_)
 ·unfold setWalk;refine qbA (qiC g S.data S.fit (qbA (DQ ?_)))
  cases hb:byT w with
  | true =>
   rw [if_pos rfl];exact qbA (wpAny_askSetting (qcA (base _ (IS _ eo))))
  | false =>
   rw [if_neg quB];rw [hb] at hc;have hc':((to.led && to.plain) || decide (eo.size<=1))=true:=by simpa using hc
   refine wpAny_ite_split (fun hab=>?_) fun _=>?_
   ·have q:(!to.plain && decide (eo.size > 1))=true:=hab;rw [qnC,decide_eq_true_eq,Bool.not_eq_true'] at q;rw [Bool.or_eq_true,qnC,decide_eq_true_eq,q.1] at hc';rcases hc' with h1|h1
    ·exact absurd h1.2 quB
    ·omega
   ·refine qbA ?_;show wpAny _ _ (if (!to.led && decide (eo.size > 1))=true then unsupported "set:maker-not-led" else pure ()) _ _ _;rw [S.led,hb];simp only [Bool.not_false,Bool.not_true,Bool.false_and,Bool.false_eq_true,if_false];exact qcA (qcA (base eo .rfl))
 ·refine qbA (quiet_ok ⟨ob,eo,po,to,g,S⟩ y ?_);rw [if_neg (by simp)];refine qbA (qdA ?_);obtain ⟨of,ef,pf,tf,gf,F⟩:=y;refine qbA (qiC gf F.data F.fit ?_);dsimp only;refine wpAny_ite_split (fun _=>?_) (fun _=>qcA (base eo .rfl));refine qbA (wpAny_storeSet_of gf F.data ?_ (E7 (by rw [F.size];exact F.few)));have g1:=F2 (es':=ef) (t':={ tf with led:=tf.led && to.led,plain:=tf.plain && to.plain }) gf F.data;refine qcA (h _ eo .rfl (Heap.SameBut.update s.heap f _) ⟨_,ef,_,_,g1,⟨F.exact',rfl,F.ent,F.few,F.fit,⟨F.rt.ris,F.rt.dum⟩,?_⟩⟩);show (tf.led && to.led)=_;rw [F.led,S.led];simp
end
theorem OF {ks:List Key}{k x:Key}:x∈Ez ks k ↔ x∈ks\/x=k:=by
 by_cases h:k∈ks
 ·rw [Ho h];exact ⟨.inl,fun q=>q.elim id fun e=>e ▸ h⟩
 ·rw [FY h,qmA,qqA]
theorem Kg {ks:List Key}{k:Key}(hn:ks.Nodup):(Ez ks k).Nodup:=by
 by_cases h:k∈ks
 ·rw [Ho h];exact hn
 ·rw [FY h];refine qfB.mpr ⟨hn,by simp,fun a ha b hb e=>h ?_⟩;rw [qqA] at hb;exact hb ▸ e ▸ ha
theorem E6 (ks:List Key):(EB ks).Nodup:=by
 have:∀ (ks acc:List Key),acc.Nodup->(ks.foldl Ez acc).Nodup:=by
  intro ks
  induction ks with
  | nil=>intro acc h;exact h
  | cons k ks ih=>intro acc h;exact ih _ (Kg h)
 exact this ks [] List.nodup_nil
section
variable {prog:Program}{w:World}{A:Around}{E:Value->Shared->Prop}{s:Shared}
theorem Ou {a o:Addr}{ks ko:List Key}{each:Sem Unit}{Q:Unit->Shared->Prop}(x:SetM w s.heap a ks)(y:SetIs w s.heap o ko)(ne:a≠o)(n1:ks.Nodup)(n2:ko.Nodup)(hb:ks.length+ko.length+1<4096)
  (he:∀ (s':Shared) (Q':Unit->Shared->Prop),(∀ ob,s.heap.get? o=some ob->s'.heap.get? o=some ob)->Q' () s'->wpAny (model prog w) A each Q' E s')
  (h:∀ h' ks',Heap.SameBut a s.heap h'->SetM w h' a ks'->ks'.Nodup->(∀ k,k∈ks' ↔ k∈ks\/k∈ko)->Q () { s with heap:=h' }):wpAny (model prog w) A (setMerge a o each) Q E s:=by
 obtain ⟨oo,eo,po,to,go,O⟩:=y;have hs:s = { s with heap:=s.heap }:=by cases s;rfl
 have zo:eo.size=ko.length:=O.size;unfold setMerge;rw [if_neg (by simpa using ne)];refine qbA (qiC go O.data O.fit ?_);dsimp only;refine wpAny_ite_split (fun hem=>?_) (fun hem=>?_)
 ·have e0:ko=[]:=by
   rw [Array.isEmpty_iff] at hem;apply List.eq_nil_of_length_eq_zero;rw [<- zo,hem]
   rfl
  subst e0;refine qcA ?_;have q:=h s.heap ks (Heap.SameBut.refl a s.heap) x n1 (fun k=>by simp)
  rwa [<- hs] at q
 ·have hne:ko ≠ []:=fun e=>hem (by
   subst e;rw [Array.isEmpty_iff]
   exact Array.eq_empty_of_size_eq_zero zo)
  refine qbA (room_ok x (by rw [zo];omega) fun h1 ks1 s1 p1 ⟨oa,ea,pa,ta,ga,Sa,pw⟩=>?_);have go1:h1.get? o=some oo:=(s1.2 o (Ne.symm ne)).trans go;have O1:SAt w h1 o eo po to ko:=⟨oo,go1,O⟩;refine qbA (qiC (s:={ s with heap:=h1 }) ga Sa.data Sa.fit ?_);dsimp only;obtain ⟨f1,f2⟩:=fills Sa.fit Sa.rt;have za:ea.size=ks1.length:=Sa.size
  have fin0:∀ (es:Array (Int × Value)) (t:SetTable) (k2:List Key),ks1=[]->k2.Perm ko->Paired (Ent w) es.toList k2->t.fits es.size=true->RT t->t.led=(!byT w)->wpAny (model prog w) A (storeSet a es t) Q E { s with heap:=h1 }:=by
   intro es t k2 e1 p2 pr ft rt ld;have few2:k2.length<scanBound:=by rw [p2.length_eq];unfold scanBound;omega
   have z2:es.size=k2.length:=by have:=CK pr;rwa [qcC] at this
   refine wpAny_storeSet_of ga Sa.data ?_ (E7 (by rw [z2];exact few2));have g1:=F2 (s:={ s with heap:=h1 }) (es':=es) (t':=t) ga Sa.data
   have ek:ks=[]:=by
    rw [e1] at p1;exact List.Perm.eq_nil p1.symm
   refine h _ k2 (s1.trans (Heap.SameBut.update h1 a _)) (SetM.of ⟨_,es,_,t,g1,⟨Sa.exact',rfl,pr,few2,ft,rt,ld⟩⟩ ?_) (p2.nodup_iff.mpr n2) (fun k=>?_)
   ·intro e;rw [e] at p2;exact hne (List.Perm.eq_nil p2.symm)
   ·rw [p2.mem_iff,ek];simp
  cases hr:ta.road to with
  | slotForSlot =>
   dsimp only
   have hfz:ta.fill=0:=by
    unfold SetTable.road at hr;split at hr
    ·cases hr
    ·rename_i q
     simpa using q
   have e1:ks1=[]:=List.eq_nil_of_length_eq_zero (by omega);refine fin0 eo _ ko e1 .rfl O.ent O.fit ⟨O.rt.ris,O.rt.dum⟩ ?_;show (ta.led && to.led)=_;rw [Sa.led,O.led];simp
  | clean =>
   dsimp only
   have hfz:ta.fill=0:=by
    unfold SetTable.road at hr;split at hr
    ·cases hr
    ·rename_i q
     simpa using q
   have e1:ks1=[]:=List.eq_nil_of_length_eq_zero (by omega);obtain ⟨⟨k,hk⟩,hm⟩:=pw e1;obtain ⟨t',order,l1,l2,l3⟩:=RK (mask:=ta.mask) (finger:=ta.finger) (moves:=ta.moves) (led:=ta.led && to.led) (plain:=ta.plain && to.plain) hk (eo.map (·.1)) (by rw [Array.size_map];exact hm);rw [Array.size_map] at l2 l3;obtain ⟨r1,r2⟩:=reord l2;obtain ⟨q1,q2,q3,q4⟩:=NU l1;rw [l1];refine qbA ?_;show wpAny _ _ (if ((order.filterMap (eo[·]?)).size != eo.size)=true then unsupported "internal:set-table-lost-an-element" >>= fun _=>pure (order.filterMap (eo[·]?),t') else pure (order.filterMap (eo[·]?),t')) _ _ _;rw [if_neg (by rw [r2];simp)];refine qcA ?_;dsimp only;obtain ⟨k2,p2,pr⟩:=Cr r1 O.ent;refine fin0 _ t' k2 e1 p2 pr ?_ q1 ?_
   ·simp only [SetTable.fits,SetTable.fill,q1.dum,l3,r2,q4,qnC,beq_iff_eq,decide_eq_true_eq];refine ⟨trivial,?_⟩;show eo.size+(#[]:Array Nat).size<=_;simp only [qvB,List.length_nil];omega
   ·rw [q2,Sa.led,O.led];simp
  | oneByOne =>
   dsimp only;refine qbA (T7 (s:={ s with heap:=h1 }) O1 ⟨oa,ea,pa,ta,ga,Sa⟩ ne fun h2 ps pp s2 S2=>?_);obtain ⟨kp,pk,pr⟩:=Cr pp O.ent;have n1':ks1.Nodup:=p1.nodup_iff.mpr n1;refine qbA (wpAny_forIn_array' _ (fun (l:List (Int × Value)) (b:PUnit) s'=>∃ h' kc kr,s' = { s with heap:=h' }/\Heap.SameBut a s.heap h'/\SetIs w h' a kc/\kc.Nodup/\Paired (Ent w) l kr/\(∀ k,(k∈kc\/k∈kr) ↔ k∈ks\/k∈ko)/\kc.length+kr.length<=ks.length+ko.length) _ (fun e rest b s' hI=>?_) (fun b s' hI=>?_) ps _ ?_)
   ·obtain ⟨h',kc,kr,rfl,sb,SC,nc,pl,mm,ll⟩:=hI
    cases pl with
    | cons he1 pl =>
     rename_i kk kr;obtain ⟨hx,vx⟩:=e;rw [qhA] at ll;refine qbA (qeA ?_);have e1:hx=Mu w kk:=he1.2;subst e1;refine add_ok (s:={ s with heap:=h' }) he1.1 SC (by unfold scanBound;omega) fun h3 k3 s3 S3 p3 bb=>?_;have sb3:Heap.SameBut a s.heap h3:=sb.trans s3;have go3:h3.get? o=some oo:=(sb3.2 o (Ne.symm ne)).trans go;refine qbA (he _ _ (fun ob e=>(sb3.2 o (Ne.symm ne)).trans e) ?_);refine qbA (qiC (s:={ s with heap:=h3 }) go3 O.data O.fit ?_);dsimp only;rw [if_neg (by simp)];refine qcA ⟨h3,k3,kr,rfl,sb3,S3,p3.nodup_iff.mpr (Kg nc),pl,fun k=>?_,?_⟩
     ·rw [<- mm k,p3.mem_iff,OF,qnA,or_assoc]
     ·have:=PU kc kk;rw [p3.length_eq];omega
   ·obtain ⟨h',kc,kr,rfl,sb,SC,nc,pl,mm,ll⟩:=hI;cases pl;refine qcA (h h' kc sb (SetM.of SC fun e=>?_) nc fun k=>by rw [<- mm k];simp);obtain ⟨k0,hk0⟩:=List.exists_mem_of_ne_nil ko hne;have:=(mm k0).mpr (.inr hk0);rw [e] at this;simp at this
   ·refine ⟨h2,ks1,kp,rfl,s1.trans s2,S2,n1',pr,fun k=>by rw [p1.mem_iff,pk.mem_iff],?_⟩;rw [p1.length_eq,pk.length_eq];exact qgB _
end
theorem Q7:entryFor table "set.__or__" = some Builtin.«frozenset.__or__»:=entryFor_alias (id' := "frozenset.__or__") (by kernel_rfl) rfl (by decide +kernel) (by kernel_rfl)
section
variable {prog:Program}{w:World}{A:Around}{E:Value->Shared->Prop}{s:Shared}
theorem LD {a:Addr}{ks:List Key}{Q:Bool->Shared->Prop}(x:SetIs w s.heap a ks)(h:Q true s):wpAny (model prog w) A (Builtin.Frozenset.isAnySet (.ref a)) Q E s:=by
 obtain ⟨o,es,ep,t,g,S⟩:=x;have hT:s.TypeIs (.ref a) "set" := ⟨o,g,S.exact'.1⟩;unfold Builtin.Frozenset.isAnySet;refine qbA (wpAny_isInstance hT sub_set_self ?_);exact qcA h
theorem copy_ok {a:Addr}{ks:List Key}{Q:Value->Shared->Prop}(x:SetIs w s.heap a ks)(n:ks.Nodup)(hb:ks.length+1<4096)
  (h:∀ h' ks',(∀ b o,s.heap.get? b=some o->h'.get? b=some o)->SetM w h' s.heap.objs.size ks'->ks'.Nodup->(∀ k,k∈ks' ↔ k∈ks)->Q (.ref s.heap.objs.size) { s with heap:=h' }):wpAny (model prog w) A (Builtin.Frozenset.copyOf a) Q E s:=by
 obtain ⟨o,es,ep,t,g,S⟩:=id x;have hT:s.TypeIs (.ref a) "set" := ⟨o,g,S.exact'.1⟩;unfold Builtin.Frozenset.copyOf Builtin.Frozenset.baseOf;refine qbA (qbA (wpAny_isInstance hT sub_set_self (qcA ?_)));rw [if_pos rfl];unfold newSet;refine qbA (qbA (DQ ?_));dsimp only;simp only [newObj];refine qbA (wpAny_alloc (qcA ?_));have g1:(s.heap.push (BV w)).get? s.heap.objs.size=some (BV w):=qoB _ rfl;have la:a<s.heap.objs.size:=qmB g;show wpAny _ _ (Builtin.Frozenset.addrOf (.ref s.heap.objs.size) >>= _) _ _ { s with heap:=s.heap.push (BV w) };refine qbA (qcA (qbA (Ou (s:={ s with heap:=s.heap.push (BV w) }) (ks:=[]) (ko:=ks) (fresh_m g1) (x.at fun o e=>qnB _ e) (qmC la) List.nodup_nil n (by rw [List.length_nil];omega) (fun s' Q' _ q=>qcA q) fun h' ks' sb SM nd mm=>?_)));refine qcA (h h' ks' (fun b o e=>(sb.2 b (qdC (qmB e))).trans (qnB _ e)) SM nd fun k=>?_);rw [mm k];simp
theorem or_ok {a b:Addr}{ka kb:List Key}{Q:Value->Shared->Prop}(x:SetIs w s.heap a ka)(y:SetIs w s.heap b kb)(ne:a≠b)(n1:ka.Nodup)(n2:kb.Nodup)(hb:ka.length+kb.length+1<4096)
  (h:∀ h' ks',(∀ b o,s.heap.get? b=some o->h'.get? b=some o)->SetIs w h' s.heap.objs.size ks'->ks'.Nodup->(∀ k,k∈ks' ↔ k∈ka\/k∈kb)->Q (.ref s.heap.objs.size) { s with heap:=h' }):wpAny (model prog w) A (binaryOp .BitOr (.ref a) (.ref b)) Q E s:=by
 obtain ⟨oa,ea,pa,ta,ga,Sa⟩:=id x;obtain ⟨ob,eb,pb,tb,gb,Sb⟩:=id y;have hTa:s.TypeIs (.ref a) "set" := ⟨oa,ga,Sa.exact'.1⟩;have hTb:s.TypeIs (.ref b) "set" := ⟨ob,gb,Sb.exact'.1⟩;refine wpAny_binaryOp_same (op:=.BitOr) (T := "set") hTa hTb F.fills_set_or F.slot_set_or (qhC F.slot_set_or hTa Q7 ?_ (F.args_set_or_2 _ _));unfold Builtin.«frozenset.__or__»
 wp_delta
 refine qbA (qcA ?_);dsimp only;rw [if_neg quB];dsimp only;refine qbA (qbA (LD x ?_));refine LD y ?_;rw [if_neg (by simp)];refine qbA (qcA (qbA ?_))
 wp_delta
 refine qbA (copy_ok x n1 (by omega) fun h1 k1 kp SM nd mm=>?_);have hl:k1.length=ka.length:=((List.perm_ext_iff_of_nodup nd n1).mpr mm).length_eq;have la:b<s.heap.objs.size:=qmB gb;rw [if_pos (by simpa using Ne.symm ne)];refine qbA (qcA (qbA (qeA ?_)));unfold Builtin.Frozenset.updateFrom Builtin.Frozenset.merge;have y1:SetIs w h1 b kb:=y.at fun o e=>kp _ _ e;refine qbA (LD (s:={ s with heap:=h1 }) y1 ?_);rw [if_pos rfl];refine qbA (qcA (qbA (wpAny_setEpoch_of (s:={ s with heap:=h1 }) (kp _ _ gb) Sb.data Sb.fit ?_)));refine Ou (s:={ s with heap:=h1 }) SM y1 (qmC la) nd n2 (by omega) (fun s' Q' k q=>?_) fun h2 k2 sb SM2 nd2 mm2=>?_
 ·unfold Builtin.Frozenset.unchanged;refine qbA (wpAny_setEpoch_of (k _ (kp _ _ gb)) Sb.data Sb.fit ?_);rw [if_neg (by simp)];exact qcA q
 ·refine qcA ?_;show wpAny _ _ (ret (Value.ref s.heap.objs.size)) _ _ _;refine qcA ⟨_,rfl,fun c=>?_,h h2 k2 (fun c o e=>(sb.2 c (qdC (qmB e))).trans (kp _ _ e)) SM2.is nd2 fun k=>?_⟩
  ·cases c
  ·rw [mm2 k,mm k]
end
theorem Fa {ks:List Key}{x:Key}:x∈EB ks ↔ x∈ks:=by
 have:∀ (ks acc:List Key),x∈ks.foldl Ez acc ↔ x∈acc\/x∈ks:=by
  intro ks
  induction ks with
  | nil=>intro acc;simp
  | cons k ks ih=>intro acc;rw [qjC,ih,OF,qnA,or_assoc]
 rw [EB,this];simp
def rOrK (w:World):R2:=fun x y H Q=>∃ (p q:Addr) (ka kb:List Key),x = .ref p/\y = .ref q/\p≠q/\H p=some (FW w p ka)/\H q=some (FW w q kb)/\ka.Nodup/\kb.Nodup/\ka.length+kb.length<4000/\∀ r,H r=none->Q (.ref r) (upd H r (FW w r (EB (ka++kb))))
theorem op_orK {X:Cx}{w:World}(hw:X.w=w):OpR X (binaryOp .BitOr) (rOrK w):=by
 subst hw;intro pins s σ H x y v u Q I rx ry h;obtain ⟨p,q,ka,kb,rfl,rfl,ne,hp,hq,n1,n2,hz,k⟩:=h;cases rx;cases ry;obtain ⟨ka',Sa,pa⟩:=Hm I.hok hp;obtain ⟨kb',Sb,pb⟩:=Hm I.hok hq;refine or_ok Sa Sb ne (pa.nodup_iff.mpr n1) (pb.nodup_iff.mpr n2) (by rw [pa.length_eq,pb.length_eq];omega) fun h' ks' hk S nd mm=>?_;have hP:ks'.Perm (EB (ka++kb)):=(List.perm_ext_iff_of_nodup nd (E6 _)).mpr fun k=>by rw [mm k,Fa,qmA,pa.mem_iff,pb.mem_iff]
 exact ⟨.ref s.heap.objs.size,_,I.laid' (s':={ s with heap:=h' }) hk (qgB _) (Rn ⟨ks',S,hP⟩) rfl rfl,rfl,k _ (I.hok.fresh (qgB _))⟩
def Rs (xs ys:List Int):Option (List Int):=if xs.length<1900/\ys.length<1900/\(DT (xs++ys)).length<64 then some (JD (DT (xs++ys))) else none
theorem OS {α:Type}[DecidableEq α](ks:List α):(DT ks).length<=ks.length:=by
 have:∀ (ks acc:List α),(ks.foldl Ik acc).length<=acc.length+ks.length:=by
  intro ks
  induction ks with
  | nil=>intro acc;exact qgB _
  | cons k ks ih =>
   intro acc;have h1:=ih (Ik acc k)
   have h2:(Ik acc k).length<=acc.length+1:=by
    unfold Ik;split
    ·exact Nat.le_succ _
    ·rw [qgA];exact qgB _
   rw [qjC,qhA];omega
 have:=this ks [];rw [List.length_nil] at this;unfold DT;omega
theorem QU {α:Type}[DecidableEq α]{f:α->Key}(hf:∀ a b,f a=f b->a=b)(xs ys:List α):(EB ((DT xs).map f++(DT ys).map f)).Perm ((DT (xs++ys)).map f):=by
 rw [<- Dp hf (xs++ys)];refine (List.perm_ext_iff_of_nodup (E6 _) (E6 _)).mpr fun k=>?_;rw [Fa,Fa,qcB,qmA,qmA,<- Dp hf xs,<- Dp hf ys,Fa,Fa]
theorem Sz {w:World}{p:Addr}{a b:List Key}(h:a.Perm b):FW w p a=FW w p b:=by
 unfold FW
 congr 1
 funext hh
 refine propext ⟨fun ⟨ks,S,e⟩=>⟨ks,S,e.trans h⟩,fun ⟨ks,S,e⟩=>⟨ks,S,e.trans h.symm⟩⟩
section
variable {K:FZ9}{σ:St}{G:Hp}{ta tb:TE}{w:World}
theorem Lq (a:List Int):a.map V.int=(a.map (Sum.inl:Int->Key)).map kV:=by rw [List.map_map];rfl
theorem Nv {G2:Hp}:∀ zs:List Int,Paired (Rp.rel K G2) (zs.map V.int) zs
 | []=>.nil
 | z::zs=>.cons rfl (Nv zs)
theorem SR (ys:List Int):(JD ys).length=ys.length:=(List.mergeSort_perm ys leZ).length_eq
theorem Ps {la lb:Option (List Int)}(ea:EV K ta σ G la)(eb:EV K tb σ G lb) :
  FV K (tCB (Rx w) (AK (tOp (rOrK w) (tCB (RC w K) (AK ta B7)) (tCB (RC w K) (AK tb B7))) B7)) σ G (la.bind fun xs=>lb.bind fun ys=>Rs xs ys):=by
 clear 7;obtain ⟨a,ha,hc⟩:=qaA.mp hc;obtain ⟨b,hb,hc⟩:=qaA.mp hc;obtain ⟨⟨h4,h5,h64⟩,rfl⟩:=B4 hc;clear 8 ea a ha;obtain ⟨l,xs,rfl,h,z,p⟩:=r2;have e:=Cz p;subst e;refine ⟨l,a.map Sum.inl,rfl,?_,by rw [qfA];omega,fun q hq=>?_⟩
 ·rw [<- Lq];exact .inl (x2.gh.rd h)
 ·have x3:Ext G2 H2 G2 (upd H2 q (FW w q (EB (a.map Sum.inl)))):=.own x2.gh hq;have g2q:G2 q=none:=x2.gh.free hq;refine eb G2 (s1.trans x2.gg) b hb _ x3.gh _ fun u G4 H4 x4 r4=>?_;obtain ⟨l2,ys,rfl,h2,z2,p2⟩:=r4;have e:=Cz p2;subst e;refine ⟨l2,b.map Sum.inl,rfl,?_,by rw [qfA];omega,fun q2 hq2=>?_⟩
  ·rw [<- Lq];exact .inl (x4.gh.rd h2)
  ·have x5:Ext G4 H4 G4 (upd H4 q2 (FW w q2 (EB (b.map Sum.inl)))):=.own x4.gh hq2;have h4q:H4 q=some (FW w q (EB (a.map Sum.inl))):=x4.hh _ _ AH;have ne:q≠q2:=fun e=>by rw [<- e,h4q] at hq2;cases hq2
   have l1:=OS a;have l2:=OS b;rw [Dp IK a] at h4q;rw [Dp IK b] at x5 ⊢;refine ⟨q,q2,(DT a).map Sum.inl,(DT b).map Sum.inl,rfl,rfl,ne,?_,AH,?_,?_,?_,fun q3 hq3=>?_⟩
   ·rw [Ag ne];exact h4q
   ·rw [<- Dp IK];exact E6 _
   ·rw [<- Dp IK];exact E6 _
   ·rw [qfA,qfA];omega
   ·have x6:Ext G4 (upd H4 q2 (FW w q2 ((DT b).map Sum.inl))) G4 (upd (upd H4 q2 (FW w q2 ((DT b).map Sum.inl))) q3 (FW w q3 ((DT (a++b)).map Sum.inl))):=.own x5.gh hq3;rw [Sz (QU IK a b)];refine ⟨q3,DT (a++b),rfl,AH,h64,?_⟩;refine Oh x6.gh ?_ (Nv _) (FV.mono (x2.trans (x3.trans (x4.trans (x5.trans x6)))) k);rw [qfA,SR,qpB];omega
end
def Oy (K:FZ9):V->List V->Hp->VK->Prop:=fun x vs H Q=>∃ l b xs zs,x = .ref l/\vs=[.ref b]/\H l=some (.lst xs)/\SqT K H b zs/\xs.length+zs.length<=sizeLine/\Q .non (upd H l (.lst (xs++zs)))
theorem Qt {X:Cx}{K:FZ9}(hK:X.K=K):MtM X "list.extend" (Oy K):=by
 subst hK;intro pins s σ H x vs v us Q I rx rv h;obtain ⟨l,b,xs,zs,rfl,rfl,hH,hB,hz,q⟩:=h;cases rx;obtain ⟨u,rfl,ru⟩:=rv.one;cases ru;obtain ⟨z,its,n,r,hl,e⟩:=I.lstM hH;obtain ⟨its2,r2,⟨o2,g2,c2,n2,d2⟩,_⟩:=I.tuple hB;have h1:=r.length;have h2:=r2.length;have hsz:its.toArray.size+its2.toArray.size<=sizeLine:=by rw [qvB,qvB];omega
 refine qhC F.slot_list_extend ⟨_,e,rfl⟩ F.entry_list_extend ?_ (F.args_list_extend_2 _ _);unfold Builtin.«list.extend»;refine qbA (qcA ?_);dsimp only;unfold Builtin.List.listExtendWith;refine qbA (wpAny_typeOf (T := "tuple") ⟨o2,g2,c2⟩ ?_);have ht:(Value.type "tuple" == Value.type "tuple")=true:=by rfl
 rw [if_pos (by rw [ht];simp)];refine qbA (listItems_at g2 d2 (qbA (listItems_at e rfl ?_)));rw [if_neg (by rw [Ki hsz,Bool.and_false];exact quB)];refine qbA (listUpdate_at e rfl ?_ (by omega) (by rw [Array.size_append];omega));refine qcA ⟨_,rfl,.non,_,I.lset (its':=its++its2) (t':=s.toks) hH e (by simp) (r.append r2) ?_,rfl,q⟩;rw [qgA];omega
structure MpS (α:Type) where
 l:List (Str × α)
def Gc {α:Type}(l:List (Str × α))(k:Str)(a:α):List (Str × α):=if (l.any fun q=>decide (q.1=k))=true then l.map (fun q=>if q.1=k then (q.1,a) else q) else l++[(k,a)]
def putSO {α:Type}(m:MpS α)(k:Str)(a:α):Option (MpS α):=if m.l.length<sizeLine then some ⟨Gc m.l k a⟩ else none
def Qd (K:FZ9){α:Type}[Rp α](H:Hp)(kv:Key × V)(q:Str × α):Prop:=kv.1 = .inr q.1/\Rp.rel K H kv.2 q.2
instance rpMpS {α:Type}[Rp α]:Rp (MpS α):=⟨fun K H v a=>∃ p kvs,v = .ref p/\H p=some (.dK kvs)/\Paired (Qd K H) kvs a.l,
 fun s ⟨p,kvs,e,h,pr⟩=>⟨p,kvs,e,s _ _ h,Paired.imp' (fun _ _ r=>⟨r.1,Rp.mono s r.2⟩) pr⟩⟩
structure OwnS (K:FZ9){α:Type}[Rp α](G H:Hp)(v:V)(p:Addr)(kvs:List (Key × V))(a:MpS α):Prop where
 v:v = .ref p
 g:G p=none
 h:H p=some (.dK kvs)
 p:Paired (Qd K G) kvs a.l
section
variable {K:FZ9}{σ:St}{G H G1 H1 G0 H0:Hp}{α β:Type}[Rp α][Rp β]{td te ti:TE}{rest:TS}{D:Ends}{i:Nat}{a:MpS α}{v:V}{p q:Addr}{kvs:List (Key × V)}
theorem OwnS.ext (o:OwnS K G H v p kvs a)(x:Ext G H G1 H1):OwnS K G1 H1 v p kvs a :=
 ⟨o.v,x.no p o.g (by rw [o.h];exact fun z=>nomatch z),x.hh _ _ o.h,Paired.imp' (fun _ _ r=>⟨r.1,Rp.mono x.gg r.2⟩) o.p⟩
theorem OwnS.tell (o:OwnS K G H v p kvs a):Rp.rel K (upd G p (.dK kvs)) v a:=⟨p,kvs,o.v,AH,Paired.imp' (fun _ _ r=>⟨r.1,Rp.mono (Same.new o.g) r.2⟩) o.p⟩
theorem JA {G:Hp}{k:Str}:∀ {kvs:List (Key × V)}{l:List (Str × α)},Paired (Qd K G) kvs l->(kvs.any fun kv=>decide (kv.1 = .inr k))=l.any fun q=>decide (q.1=k)
 | _,_,.nil=>rfl
 | kv::kvs,q::l,.cons h t=>by
  rw [List.any_cons,List.any_cons,JA t,h.1]
  congr 1
  exact decide_eq_decide.mpr ⟨fun e=>Sum.inr.inj e,fun e=>by rw [e]⟩
theorem HM {G:Hp}{k:Str}{w:V}{b:α}(r:Rp.rel K G w b):∀ {kvs:List (Key × V)}{l:List (Str × α)},Paired (Qd K G) kvs l->Paired (Qd K G) (kvs.map fun kv=>if kv.1 = .inr k then (kv.1,w) else kv) (l.map fun q=>if q.1=k then (q.1,b) else q)
 | _,_,.nil=>.nil
 | kv::kvs,q::l,.cons h t=>by
  rw [qbB,qbB];refine .cons ?_ (HM r t);by_cases e:q.1=k
  ·rw [if_pos e,if_pos (by rw [h.1,e])];exact ⟨h.1,r⟩
  ·rw [if_neg e,if_neg (fun z=>e (by rw [h.1] at z;exact Sum.inr.inj z))];exact h
theorem OC {G:Hp}{k:Str}{w:V}{b:α}{l:List (Str × α)}(r:Rp.rel K G w b)(h:Paired (Qd K G) kvs l):Paired (Qd K G) (CG kvs (.inr k) w) (Gc l k b):=by
 unfold CG Gc;rw [JA h];by_cases e:(l.any fun q=>decide (q.1=k))=true
 ·rw [if_pos e,if_pos e];exact HM r h
 ·rw [if_neg e,if_neg e];exact Paired.app h (.cons ⟨rfl,r⟩ .nil)
theorem sv_dputS {b:α}{m:Option α}{mi:Option Str}{k':Str}{a':MpS α}(hσ:σ[i]? = some (some v))(o:OwnS K G H v p kvs a)(e:EV K te σ G m)(hm:m=some b)(ei:EV K ti σ G mi)(hi:mi=some k')(hs:putSO a k' b=some a')(s:Same G H)
  (k:∀ G2 H2 w,Ext G H G2 H2->OwnS K G2 (upd H2 p (.dK (CG kvs (.inr k') w))) v p (CG kvs (.inr k') w) a'->rest D σ (upd H2 p (.dK (CG kvs (.inr k') w)))):Bz (sDPut (BQ i) ti te) rest D σ H:=by
 obtain ⟨hl,rfl⟩:=B4 hs;have hlen:=Paired.length o.p;refine e.run hm s fun w G2 H2 x r=>?_;have o2:=o.ext x;refine ⟨v,hσ,?_⟩;refine ei G2 x.gg k' hi H2 x.gh _ fun u G3 H3 x3 r3=>?_;obtain ⟨rfl,_⟩:=r3;have o3:=o2.ext x3;refine ⟨p,_,o3.v,.inl ⟨kvs,.inr k',o3.h,rfl,by omega,rfl⟩,?_⟩;exact k G3 H3 w (x.trans x3) ⟨o3.v,o3.g,AH,OC (Rp.mono x3.gg r) o3.p⟩
end
section
variable {prog:Program}{w:World}{A:Around}{E:Value->Shared->Prop}{s:Shared}
theorem KD {it t:Addr}{i:Nat}{items:Array Value}{x:Value}{Q:Value->Shared->Prop}(hit:s.heap.IsTupleIter it t i)(ht:s.heap.IsTuple t items)(hx:items[i]? = some x)
  (hQ:∀ h',h'.IsTupleIter it t (i+1)->Heap.SameBut it s.heap h'->Q x { s with heap:=h' }):wpAny (model prog w) A (Builtin.SmallTypes.nextOf (.ref it)) Q E s:=by
 obtain ⟨o,go,co,dO⟩:=id hit;obtain ⟨ot,gt,_,nt,dt⟩:=ht;unfold Builtin.SmallTypes.nextOf;refine qbA (wpAny_callSpecial?_slot (name:=Str.ofString "__next__") hit.typeIs F.slot_tuple_iterator_next (qhC F.slot_tuple_iterator_next hit.typeIs F.entry_tuple_iterator_next ?_ (F.args_tuple_iterator_next_1 _)));show wpAny _ _ (field (.ref it) 0 >>= _) _ _ s;refine qbA (wpAny_field go dO (x:=.ref t) rfl ?_);show wpAny _ _ (if (Value.ref t == Value.none)=true then _ else _) _ _ s;rw [if_neg (show ¬ ((Value.ref t == Value.none)=true) from quB)];show wpAny _ _ (field (.ref it) 1 >>= _) _ _ s;refine qbA (wpAny_field go dO (x:=.int i 0) rfl ?_);show wpAny _ _ (seqItems? (.ref t) >>= _) _ _ s;refine qbA (wpAny_seqItems gt dt ?_);simp only [qrB,hx];refine qbA (wpAny_setField go dO (by simp) (qcA ⟨x,rfl,qcA (hQ _ ⟨_,Heap.get?_update_self _ go (Obj.isFreed_of_fields (Obj.data_mapFields dO _)),(Obj.cls_mapFields ..).trans co,?_⟩ (Heap.SameBut.update ..))⟩));rw [Obj.data_mapFields dO];simp [rawInt]
def IH (f0 f1:Value)(TI TO:Addr):Obj:={ cls:=.type "zip",dict:=none,data:=.fields #[f0,f1,.bool false,.ref TI,.ref TO],slots:=#[] }
structure ZAp (z TI TO i1 i2 l t:Addr):Prop where
 a:TI≠z/\TO≠z/\i1≠z/\i2≠z
 b:TI≠TO/\TI≠i1/\TI≠i2/\TO≠i1/\TO≠i2/\i1≠i2
 c:l≠z/\l≠TO/\l≠i1/\l≠i2
 d:t≠z/\t≠TO/\t≠i1/\t≠i2
structure ZS (h:Heap)(z TI TO i1 i2 l t:Addr)(xs ys:Array Value)(k:Nat):Prop where
 z:∃ f0 f1,h.get? z=some (IH f0 f1 TI TO)/\(f0 = .none\/∃ (T:Addr) (o:Obj),f0=rawInt T/\h.get? T=some o)
 ti:IsPair h TI (.ref i1) (.ref i2)
 to:∃ a b,IsPair h TO a b
 i1:h.IsListIter i1 l k
 i2:h.IsTupleIter i2 t k
 l:h.IsList l xs
 t:h.IsTuple t ys
theorem ZS.keep {h h':Heap}{z TI TO i1 i2 l t:Addr}{xs ys:Array Value}{k:Nat}(Z:ZS h z TI TO i1 i2 l t xs ys k)(e:∀ c o,h.get? c=some o->h'.get? c=some o):ZS h' z TI TO i1 i2 l t xs ys k:=by
 obtain ⟨⟨f0,f1,gz,hf⟩,ti,⟨a,b,to⟩,j1,j2,hl,ht⟩:=Z;refine ⟨⟨f0,f1,e _ _ gz,hf.imp id fun ⟨T,o,q1,q2⟩=>⟨T,o,q1,e _ _ q2⟩⟩,e _ _ ti,⟨a,b,e _ _ to⟩,j1.at fun o q=>e _ _ q,?_,hl.at fun o q=>e _ _ q,?_⟩
 ·obtain ⟨o,g,r⟩:=j2;exact ⟨o,e _ _ g,r⟩
 ·obtain ⟨o,g,r⟩:=ht;exact ⟨o,e _ _ g,r⟩
theorem wp_alive {a:Addr}{Q:Option Obj->Shared->Prop}(h:Q (s.heap.get? a) s):wpAny (model prog w) A (loadIfAlive a) Q E s:=fun Γ p hΓ=>by
 show Sem.wp _ _ (.loadIfAlive a .pure) _ _ _ _;rw [Sem.wp_loadIfAlive];exact h
theorem KC {z TI TO T:Addr}{f1:Value}{oT:Obj}{Q:Bool->Shared->Prop}(gz:s.heap.get? z=some (IH (rawInt T) f1 TI TO))(gT:s.heap.get? T=some oT)
  (h:∀ f1' h₁,h₁.get? z=some (IH (rawInt T) f1' TI TO)->Heap.SameBut z s.heap h₁->Q false { s with heap:=h₁ }):wpAny (model prog w) A (Builtin.SmallTypes.ownedTupleIsFree (.ref z)) Q E s:=by
 unfold Builtin.SmallTypes.ownedTupleIsFree;refine qbA (wpAny_field gz rfl (x:=rawInt T) rfl ?_);show wpAny _ _ (loadIfAlive ((T:Nat):Int).toNat >>= _) _ _ _;refine qbA (wp_alive ?_);rw [qrB,gT];rw [if_neg (by simp)];refine qbA (wpAny_field gz rfl (x:=f1) rfl ?_);dsimp only;refine wpAny_ite_split (fun _=>?_) fun _=>?_
 ·exact qbA (wpAny_setField_rec gz (by simp) fun h₁ z₁ s₁=>qcA (h _ h₁ z₁ s₁))
 ·have e:s = { s with heap:=s.heap }:=by cases s;rfl
  have q:=h f1 s.heap gz (Heap.SameBut.refl z s.heap);rw [<- e] at q;exact qcA q
theorem zip_item {z TI TO i1 i2 l t:Addr}{xs ys:Array Value}{k:Nat}{x y:Value}{Q:Option Value->Shared->Prop}(D:ZAp z TI TO i1 i2 l t)(Z:ZS s.heap z TI TO i1 i2 l t xs ys k)(hx:xs[k]? = some x)(hy:ys[k]? = some y)
  (hQ:∀ h',ZS h' z TI TO i1 i2 l t xs ys (k+1)->IsPair h' s.heap.objs.size x y->(∀ c o,c ∉ [z,TO,i1,i2]->s.heap.get? c=some o->h'.get? c=some o)->Q (some (.ref s.heap.objs.size)) { s with heap:=h' }) :
  wpAny (model prog w) A (pyNext (.ref z)) Q E s:=by
 obtain ⟨⟨f0,f1,gz,hf⟩,ti,⟨a,b,to⟩,j1,j2,hl,ht⟩:=Z;obtain ⟨⟨d1,d2,d3,d4⟩,⟨d5,d6,d7,d8,d9,d10⟩,⟨d11,d12,d13,d14⟩,⟨d15,d16,d17,d18⟩⟩:=D;have hT:s.TypeIs (.ref z) "zip" := ⟨_,gz,rfl⟩;have tk:∀ {h h':Heap}{c:Addr}{j:Nat},h.IsTupleIter i2 t j->Heap.SameBut c h h'->i2≠c->h'.IsTupleIter i2 t j:=fun ⟨o,g,r⟩ e n=>⟨o,(e.2 _ n).trans g,r⟩;have tt:∀ {h h':Heap}{c:Addr},h.IsTuple t ys->Heap.SameBut c h h'->t≠c->h'.IsTuple t ys:=fun ⟨o,g,r⟩ e n=>⟨o,(e.2 _ n).trans g,r⟩;unfold pyNext;refine qbA (wpAny_attempt (wpAny_callSpecial?_slot (name:=Str.ofString "__next__") hT F.slot_zip_next (qhC F.slot_zip_next hT F.entry_zip_next ?_ (F.args_zip_next_1 _))));show wpAny _ _ (field (.ref z) 2 >>= _) _ _ _;refine qbA (wpAny_field gz rfl (x:=.bool false) rfl ?_);show wpAny _ _ (field (.ref z) 3 >>= _) _ _ _;refine qbA (wpAny_field gz rfl (x:=.ref TI) rfl ?_);refine qbA (wpAny_seqItems ti rfl ?_);show wpAny _ _ (Builtin.SmallTypes.ownedTupleIsFree (.ref z) >>= _) _ _ _;rcases hf with rfl | ⟨T,oT,rfl,gT⟩
 ·refine qbA ?_;unfold Builtin.SmallTypes.ownedTupleIsFree;refine qbA (wpAny_field gz rfl (x:=.none) rfl (qcA ?_));simp only [if_true];refine qbA (qdA (qbA (wpAny_field gz rfl (x:=.ref TO) rfl ?_)));refine qbA (wpAny_setField_rec gz (by simp) fun h₁ z₁ s₁=>?_);replace z₁:h₁.get? z=some (IH .ellipsis f1 TI TO):=z₁;refine qbA ?_;simp only [List.zipIdx_cons,List.zipIdx_nil,List.forIn_cons,List.forIn_nil];refine qbA (qbA (wpAny_onRaise ?_));show wpAny _ _ (Builtin.SmallTypes.nextOf (.ref i1) >>= _) _ _ _;refine qbA (wpAny_nextOf_list_item (s:={ s with heap:=h₁ }) (j1.extBut s₁.extBut d3) (hl.extBut s₁.extBut d11) hx fun h₂ j₂ s₂=>qcA ?_);replace s₂:Heap.SameBut i1 h₁ h₂:=s₂;have to₂:IsPair h₂ TO a b:=s₂.extBut _ _ d8 (s₁.extBut _ _ d2 to);refine qbA (wpAny_seqItems (s:={ s with heap:=h₂ }) to₂ rfl (qbA (wpAny_updateSeq_pair (s:={ s with heap:=h₂ }) to₂ fun h₃ to₃ s₃=>?_)));replace to₃:IsPair h₃ TO x b:=to₃;replace s₃:Heap.SameBut TO h₂ h₃:=s₃;refine qbA (wpAny_letGo (qcA ?_));refine qbA (qbA (wpAny_onRaise ?_));show wpAny _ _ (Builtin.SmallTypes.nextOf (.ref i2) >>= _) _ _ _;refine qbA (KD (s:={ s with heap:=h₃ }) (tk (tk (tk j2 s₁ d4) s₂ (Ne.symm d10)) s₃ (Ne.symm d9)) (tt (tt (tt ht s₁ d15) s₂ d17) s₃ d16) hy fun h₄ j₄ s₄=>qcA ?_);replace s₄:Heap.SameBut i2 h₃ h₄:=s₄;have to₄:IsPair h₄ TO x b:=s₄.extBut _ _ d9 to₃;refine qbA (wpAny_seqItems (s:={ s with heap:=h₄ }) to₄ rfl (qbA (wpAny_updateSeq_pair (s:={ s with heap:=h₄ }) to₄ fun h₅ to₅ s₅=>?_)));replace to₅:IsPair h₅ TO x y:=to₅;replace s₅:Heap.SameBut TO h₄ h₅:=s₅;refine qbA (wpAny_letGo (qcA (qcA ?_)));refine qbA (wpAny_seqItems (s:={ s with heap:=h₅ }) to₅ rfl (qbA (wpAny_newTuple ?_)));have hsz:h₅.objs.size=s.heap.objs.size:=by rw [s₅.1,s₄.1,s₃.1,s₂.1,s₁.1]
  have z₅:h₅.get? z=some (IH .ellipsis f1 TI TO):=s₅.extBut _ _ (Ne.symm d2) (s₄.extBut _ _ (Ne.symm d4) (s₃.extBut _ _ (Ne.symm d2) (s₂.extBut _ _ (Ne.symm d3) z₁)));have zl:z<h₅.objs.size:=qmB z₅;show wpAny _ _ (Builtin.SmallTypes.ownedTupleHandOut (.ref z) (.ref h₅.objs.size) >>= _) _ _ _;refine qbA ?_;unfold Builtin.SmallTypes.ownedTupleHandOut;have z₆:(h₅.push { cls:=.type "tuple",data:=.seq #[x,y] }).get? z=some (IH .ellipsis f1 TI TO):=qnB _ z₅;refine qbA (wpAny_setField_rec (s:={ s with heap:=h₅.push { cls:=.type "tuple",data:=.seq #[x,y] } }) z₆ (by simp) fun h₇ z₇ s₇=>?_);replace s₇:Heap.SameBut z (h₅.push { cls:=.type "tuple",data:=.seq #[x,y] }) h₇:=s₇;refine wpAny_setField_rec (s:={ s with heap:=h₇ }) z₇ (by simp) fun h₈ z₈ s₈=>?_;replace z₈:h₈.get? z=some (IH (rawInt h₅.objs.size) (.bool false) TI TO):=z₈;replace s₈:Heap.SameBut z h₇ h₈:=s₈;have up:∀ c o,c≠z->h₅.get? c=some o->h₈.get? c=some o:=fun c o c1 e=>s₈.extBut _ _ c1 (s₇.extBut _ _ c1 (qnB _ e));have T₈:IsPair h₈ h₅.objs.size x y:=s₈.extBut _ _ (qmC zl) (s₇.extBut _ _ (qmC zl) (qoB _ rfl));refine qcA ⟨_,rfl,qcA ?_⟩;show Q (some (.ref h₅.objs.size)) _;rw [hsz] at z₈ T₈ ⊢
  have kp:∀ c o,c ∉ [z,TO,i1,i2]->s.heap.get? c=some o->h₈.get? c=some o:=fun c o hc e=>by
   simp only [qnA,qeC,or_false,not_or] at hc;exact up c o hc.1 (s₅.extBut _ _ hc.2.1 (s₄.extBut _ _ hc.2.2.2 (s₃.extBut _ _ hc.2.1 (s₂.extBut _ _ hc.2.2.1 (s₁.extBut _ _ hc.1 e)))))
  refine hQ h₈ ⟨⟨_,_,z₈,.inr ⟨_,_,rfl,T₈⟩⟩,kp _ _ (by simp [d1,d5,d6,d7]) ti,⟨x,y,up _ _ d2 to₅⟩,?_,?_,?_,?_⟩ T₈ kp
  ·exact (((j₂.extBut s₃.extBut (Ne.symm d8)).extBut s₄.extBut d10).extBut s₅.extBut (Ne.symm d8)).at fun o e=>up _ o d3 e
  ·obtain ⟨o,g,r⟩:=tk j₄ s₅ (Ne.symm d9);exact ⟨o,up _ _ d4 g,r⟩
  ·exact hl.at fun o e=>kp _ _ (by simp [d11,d12,d13,d14]) e
  ·obtain ⟨o,g,r⟩:=ht;exact ⟨o,kp _ _ (by simp [d15,d16,d17,d18]) g,r⟩
 ·refine qbA (KC gz gT fun f1' h₁ z₁ s₁=>?_);simp only [Bool.false_eq_true,if_false];rw [<- Array.forIn_toList];simp only [List.forIn_cons,List.forIn_nil];refine qbA (qbA (qbA (qeA ?_)));show wpAny _ _ (Builtin.SmallTypes.nextOf (.ref i1) >>= _) _ _ _;refine qbA (wpAny_nextOf_list_item (s:={ s with heap:=h₁ }) (j1.extBut s₁.extBut d3) (hl.extBut s₁.extBut d11) hx fun h₂ j₂ s₂=>qcA (qcA ?_));replace s₂:Heap.SameBut i1 h₁ h₂:=s₂;dsimp only;refine qbA (qbA (qeA ?_));show wpAny _ _ (Builtin.SmallTypes.nextOf (.ref i2) >>= _) _ _ _;refine qbA (KD (s:={ s with heap:=h₂ }) (tk (tk j2 s₁ d4) s₂ (Ne.symm d10)) (tt (tt ht s₁ d15) s₂ d17) hy fun h₃ j₃ s₃=>qcA (qcA ?_));replace s₃:Heap.SameBut i2 h₂ h₃:=s₃;dsimp only;refine qcA (qbA (wpAny_newTuple ?_ (by show 2<=sizeLine;rw [qpB];omega)));have hsz:h₃.objs.size=s.heap.objs.size:=by rw [s₃.1,s₂.1,s₁.1]
  refine qcA ⟨_,rfl,qcA ?_⟩;show Q (some (.ref h₃.objs.size)) _;have T₄:IsPair (h₃.push { cls:=.type "tuple",data:=.seq #[x,y] }) h₃.objs.size x y:=qoB _ rfl;have up:∀ c o,h₃.get? c=some o->(h₃.push { cls:=.type "tuple",data:=.seq #[x,y] }).get? c=some o:=fun c o e=>qnB _ e;have z₃:h₃.get? z=some (IH (rawInt T) f1' TI TO):=s₃.extBut _ _ (Ne.symm d4) (s₂.extBut _ _ (Ne.symm d3) z₁)
  have kp:∀ c o,c ∉ [z,TO,i1,i2]->s.heap.get? c=some o->(h₃.push { cls:=.type "tuple",data:=.seq #[x,y] }).get? c=some o:=fun c o hc e=>by
   simp only [qnA,qeC,or_false,not_or] at hc;exact up c o (s₃.extBut _ _ hc.2.2.2 (s₂.extBut _ _ hc.2.2.1 (s₁.extBut _ _ hc.1 e)))
  have any:∀ c o,s.heap.get? c=some o->∃ o',h₃.get? c=some o':=fun c o e=>by
   have e1:∃ o',h₁.get? c=some o':=by
    by_cases q:c=z
    ·rw [q];exact ⟨_,z₁⟩
    ·exact ⟨o,s₁.extBut _ _ q e⟩
   obtain ⟨o1,e1⟩:=e1
   have e2:∃ o',h₂.get? c=some o':=by
    by_cases q:c=i1
    ·rw [q];obtain ⟨o',g,_⟩:=j₂;exact ⟨o',g⟩
    ·exact ⟨o1,s₂.extBut _ _ q e1⟩
   obtain ⟨o2,e2⟩:=e2;by_cases q:c=i2
   ·rw [q];obtain ⟨o',g,_⟩:=j₃;exact ⟨o',g⟩
   ·exact ⟨o2,s₃.extBut _ _ q e2⟩
  obtain ⟨oT',gT'⟩:=any T _ gT;rw [hsz] at T₄ ⊢;refine hQ _ ⟨⟨_,_,up _ _ z₃,.inr ⟨T,oT',rfl,up _ _ gT'⟩⟩,kp _ _ (by simp [d1,d5,d6,d7]) ti,⟨a,b,?_⟩,?_,?_,?_,?_⟩ T₄ kp
  ·exact up _ _ (s₃.extBut _ _ d9 (s₂.extBut _ _ d8 (s₁.extBut _ _ d2 to)))
  ·exact (j₂.extBut s₃.extBut d10).at fun o e=>up _ o e
  ·obtain ⟨o,g,r⟩:=j₃;exact ⟨o,up _ _ g,r⟩
  ·exact hl.at fun o e=>kp _ _ (by simp [d11,d12,d13,d14]) e
  ·obtain ⟨o,g,r⟩:=ht;exact ⟨o,kp _ _ (by simp [d15,d16,d17,d18]) g,r⟩
theorem zip_end {z TI TO i1 i2 l t:Addr}{xs ys:Array Value}{k:Nat}{Q:Option Value->Shared->Prop}(hh:A.handled=none)(D:ZAp z TI TO i1 i2 l t)(Z:ZS s.heap z TI TO i1 i2 l t xs ys k)(hx:xs[k]? = none)
  (hQ:∀ h',(∀ c o,c ∉ [z,TO,i1,i2]->s.heap.get? c=some o->h'.get? c=some o)->Q none { s with heap:=h' }):wpAny (model prog w) A (pyNext (.ref z)) Q E s:=by
 obtain ⟨⟨f0,f1,gz,hf⟩,ti,⟨a,b,to⟩,j1,j2,hl,ht⟩:=Z;obtain ⟨⟨d1,d2,d3,d4⟩,⟨d5,d6,d7,d8,d9,d10⟩,⟨d11,d12,d13,d14⟩,⟨d15,d16,d17,d18⟩⟩:=D;have hT:s.TypeIs (.ref z) "zip" := ⟨_,gz,rfl⟩;unfold pyNext;refine qbA (wpAny_attempt (wpAny_callSpecial?_slot (name:=Str.ofString "__next__") hT F.slot_zip_next (qhC F.slot_zip_next hT F.entry_zip_next ?_ (F.args_zip_next_1 _))));show wpAny _ _ (field (.ref z) 2 >>= _) _ _ _;refine qbA (wpAny_field gz rfl (x:=.bool false) rfl ?_);show wpAny _ _ (field (.ref z) 3 >>= _) _ _ _;refine qbA (wpAny_field gz rfl (x:=.ref TI) rfl ?_);refine qbA (wpAny_seqItems ti rfl ?_);show wpAny _ _ (Builtin.SmallTypes.ownedTupleIsFree (.ref z) >>= _) _ _ _;rcases hf with rfl | ⟨T,oT,rfl,gT⟩
 ·refine qbA ?_;unfold Builtin.SmallTypes.ownedTupleIsFree;refine qbA (wpAny_field gz rfl (x:=.none) rfl (qcA ?_));simp only [if_true];refine qbA (qdA (qbA (wpAny_field gz rfl (x:=.ref TO) rfl ?_)));refine qbA (wpAny_setField_rec gz (by simp) fun h₁ z₁ s₁=>?_);replace z₁:h₁.get? z=some (IH .ellipsis f1 TI TO):=z₁;refine qbA ?_;simp only [List.zipIdx_cons,List.zipIdx_nil,List.forIn_cons,List.forIn_nil];refine qbA (qbA (wpAny_onRaise ?_));show wpAny _ _ (Builtin.SmallTypes.nextOf (.ref i1) >>= _) _ _ _;refine qbA (wpAny_nextOf_list_end (s:={ s with heap:=h₁ }) hh (j1.extBut s₁.extBut d3) (hl.extBut s₁.extBut d11) hx fun h₂ e s₂ he=>?_);replace s₂:Heap.ExtBut i1 h₁ h₂:=s₂;obtain ⟨oe,ge,ce⟩:=he;have z₂:h₂.get? z=some (IH .ellipsis f1 TI TO):=s₂ _ _ (Ne.symm d3) z₁;have ez:e≠z:=fun q=>by subst q;rw [z₂] at ge;cases ge;have ce:Value.type "zip" = Value.type "StopIteration" := ce;simp at ce
  refine wpAny_setField_rec (s:={ s with heap:=h₂ }) z₂ (by simp) fun h₃ _ s₃=>?_;replace s₃:Heap.SameBut z h₂ h₃:=s₃;refine qbA (wpAny_isInstance (T := "StopIteration") (b:=true) ⟨oe,s₃.extBut _ _ ez ge,ce⟩ isSubtype_stop (qcA (hQ h₃ fun c o hc q=>?_)));simp only [qnA,qeC,or_false,not_or] at hc;exact s₃.extBut _ _ hc.1 (s₂ _ _ hc.2.2.1 (s₁.extBut _ _ hc.1 q))
 ·refine qbA (KC gz gT fun f1' h₁ z₁ s₁=>?_);simp only [Bool.false_eq_true,if_false];rw [<- Array.forIn_toList];simp only [List.forIn_cons,List.forIn_nil];refine qbA (qbA (qbA (qeA ?_)));show wpAny _ _ (Builtin.SmallTypes.nextOf (.ref i1) >>= _) _ _ _;refine qbA (wpAny_nextOf_list_end (s:={ s with heap:=h₁ }) hh (j1.extBut s₁.extBut d3) (hl.extBut s₁.extBut d11) hx fun h₂ e s₂ he=>?_);replace s₂:Heap.ExtBut i1 h₁ h₂:=s₂;obtain ⟨oe,ge,ce⟩:=he;refine qbA (wpAny_isInstance (s:={ s with heap:=h₂ }) (T := "StopIteration") (b:=true) ⟨oe,ge,ce⟩ isSubtype_stop (qcA (hQ h₂ fun c o hc q=>?_)));simp only [qnA,qeC,or_false,not_or] at hc;exact s₂ _ _ hc.2.2.1 (s₁.extBut _ _ hc.1 q)
end
theorem slot_zip_ga:Slot "zip" "__getattribute__" "zip.__getattribute__" :=
 .of (owner := "zip") (n := "__getattribute__") (by rw [typeLookup_type,qwB];kernel_rfl) (by decide +kernel) (by decide +kernel) (by decide +kernel) (by first|exact .inl (by decide +kernel)|exact .inr (by decide +kernel)) (by rw [isSubtype_type];kernel_rfl)
theorem Mi:entryFor table "zip.__getattribute__" = some Builtin.«object.__getattribute__»:=entryFor_alias (id' := "object.__getattribute__") (by kernel_rfl) rfl (by decide +kernel) (by kernel_rfl)
theorem Po (a b:Value):argsOk "zip.__getattribute__" ⟨[a,b],[]⟩:=by unfold argsOk;kernel_rfl
theorem Oc:typeLookup (.type "zip") "keys" = pure none:=by rw [typeLookup_type,qwB];kernel_rfl
theorem KJ:typeLookup (.type "zip") "__getattr__" = pure none:=by rw [typeLookup_type,qwB];kernel_rfl
section
variable {prog:Program}{w:World}{A:Around}{E:Value->Shared->Prop}{s:Shared}{z TI TO:Addr}{f0 f1:Value}
theorem R4 (u:Tok){P:PySem.Fin->Shared->Prop}{R:Value->Shared->Prop}(hh:A.handled=none)(hx:s.heap.get? z=some (IH f0 f1 TI TO))(hR:∀ h' tk e,Heap.NewAttrErr s.heap h' e (.ref z) "keys" -> R (.ref e) { s with heap:=h',toks:=tk }) :
  wpAny (model prog w) A (Builtin.«object.__getattribute__» ⟨[.ref z,.str "keys" u],[]⟩) P R s:=by
 obtain ⟨h,g,d,t,os⟩:=s;have hT:(⟨h,g,d,t,os⟩:Shared).TypeIs (.ref z) "zip" := ⟨_,hx,rfl⟩;have q1:=Oc;unfold IH at hx;unfold Builtin.«object.__getattribute__»
 repeat (any_goals (first|assumption|wp_step))
 exact wpAny_raiseAttrError hh hR (attrMsg_fits (by decide +kernel) (by decide))
theorem Lf {Q:Option Value->Shared->Prop}(hh:A.handled=none)(hx:s.heap.get? z=some (IH f0 f1 TI TO))(hQ:∀ h' tk,(∀ b o,s.heap.get? b=some o->h'.get? b=some o)->Q none { s with heap:=h',toks:=tk }) :
  wpAny (model prog w) A (getAttr? (.ref z) "keys") Q E s:=by
 obtain ⟨h,g,d,t,os⟩:=s;have hT:(⟨h,g,d,t+1,os⟩:Shared).TypeIs (.ref z) "zip" := ⟨_,hx,rfl⟩;have q1:=sub_AttributeError;have q3:=slot_zip_ga.lookup;have q4:=slot_zip_ga.bind (.ref z);have q5:=KJ;unfold getAttr? getAttrBy? getAttrBy
 repeat (any_goals (first|assumption|wp_step))
 refine codeAny_call_builtin slot_zip_ga.plain Mi (slot_zip_ga.check _ _ _ _ _ _ _ _ hT (Po _ _) (R4 (s:=⟨h,g,d,t+1,os⟩) t (by simpa using hh) hx fun h' tk e hx'=>?_));obtain ⟨t',u',he⟩:=hx'.there;show wpAny _ _ (getattributeRaised _ _ _ _ _ _ _) _ _ _;unfold getattributeRaised
 repeat (any_goals (first|assumption|wp_step))
 exact hQ h' tk hx'.keeps
end
theorem Dh:entryFor table "dict.update.loop" = some Builtin.«dict.update.loop»:=entryFor_of_tree (by kernel_rfl)
theorem Ba:plainId "dict.update.loop" = true:=by decide +kernel
section
variable {prog:Program}{w:World}{A:Around}{E:Value->Shared->Prop}{s:Shared}
def zipD (ks:List (Key × Value))(m:List (Key × Value)):List (Key × Value):=ks.foldl (fun m q=>stored m q.1 q.2) m
theorem Px {m:List (Key × Value)}{k:Key}{v:Value}:(stored m k v).length<=m.length+1:=by
 unfold stored;split
 ·rw [qfA];exact Nat.le_succ _
 ·rw [qgA];exact qgB _
theorem du_loop {R:Result->Shared->Prop}{z TI TO i1 i2 l t dd:Addr}{xs ys:Array Value}{ks:List Key}(hh:A.handled=none)(D:ZAp z TI TO i1 i2 l t)(hd:dd ∉ [z,TI,TO,i1,i2,l,t])(hl:xs.size=ks.length)(hly:ys.size=ks.length)(hk:∀ (i:Nat) (k:Key) (v:Value),ks[i]? = some k->xs[i]? = some v->Cp k v=true)(hb:ks.length<4000) :
  ∀ (n i:Nat) (s:Shared) (m:List (Key × Value)),ks.length - i=n->i<=ks.length->m.length<=i->ZS s.heap z TI TO i1 i2 l t xs ys i->s.heap.DictOf (Av prog w) dd m ->
   (∀ h' tk,(∀ c o,c ∉ [z,TO,i1,i2,dd]->s.heap.get? c=some o->h'.get? c=some o)->h'.DictOf (Av prog w) dd (zipD ((ks.zip ys.toList).drop i) m)->R (.ok (.ret .none)) { s with heap:=h',toks:=tk }) ->
   codeAny (model prog w) A (.builtin "dict.update.loop" ⟨[.ref dd,.ref z,rawInt i,.none],[]⟩) R s:=by
 intro n
 induction n with
 | zero =>
  intro i s m e1 e2 e3 Z Dd hR;have ei:i=ks.length:=by omega
  subst ei;refine codeAny_builtin Dh ?_;rw [Around.under_plainId Ba _];show wpAny _ A.in1 (pyNext (.ref z) >>= _) _ _ s;refine qbA (zip_end (by simpa using hh) D Z (Array.getElem?_eq_none (by omega)) fun h' kp=>?_);show wpAny _ A.in1 (Builtin.Dict.addKeywords dd [] >>= _) _ _ _;refine qbA (qcA (qcA (hR h' s.toks (fun c o hc e=>kp c o (fun q=>hc ?_) e) ?_)))
  ·simp only [qnA,qeC,or_false] at q ⊢;rcases q with q|q|q|q<;>simp [q]
  ·have ed:(ks.zip ys.toList).drop ks.length=[]:=List.drop_of_length_le (by rw [List.length_zip];exact Nat.min_le_left _ _);rw [ed];obtain ⟨o,es,ep,g,r⟩:=Dd;refine ⟨o,es,ep,kp _ _ (fun q=>hd ?_) g,r⟩;simp only [qnA,qeC,or_false] at q ⊢;rcases q with q|q|q|q<;>simp [q]
 | succ n ih =>
  intro i s m e1 e2 e3 Z Dd hR;have hi:i<ks.length:=by omega
  have hx:xs[i]? = some xs[i]:=Array.getElem?_eq_getElem (by omega);have hy:ys[i]? = some ys[i]:=Array.getElem?_eq_getElem (by omega);have hki:Cp ks[i] xs[i]=true:=hk i _ _ (qwA hi) hx;refine codeAny_builtin Dh ?_;rw [Around.under_plainId Ba _];show wpAny _ A.in1 (pyNext (.ref z) >>= _) _ _ s;refine qbA (zip_item D Z hx hy fun h₁ Z₁ P₁ kp=>?_)
  have Dd₁:h₁.DictOf (Av prog w) dd m:=by
   obtain ⟨o,es,ep,g,r⟩:=Dd;refine ⟨o,es,ep,kp _ _ (fun q=>hd ?_) g,r⟩;simp only [qnA,qeC,or_false] at q ⊢;rcases q with q|q|q|q<;>simp [q]
  show wpAny _ A.in1 (holding [Value.ref s.heap.objs.size] _ >>= _) _ _ _;refine qbA (qeA (qbA (wpAny_tryCatch ?_)));unfold Builtin.Dict.pairItems;refine qbA (wpAny_typeOf (T := "tuple") ⟨_,P₁,rfl⟩ ?_);have ht:(Value.type "tuple" == Value.type "tuple")=true:=by rfl
  rw [if_pos (by rw [ht];simp)];refine qbA (wpAny_seqItems (s:={ s with heap:=h₁ }) P₁ rfl (qcA ?_));dsimp only;show wpAny _ A.in1 (holding [xs[i],ys[i]] (dictSet dd xs[i] ys[i])) _ _ _;refine qeA (wpAny_dictSet_pairs (s:={ s with heap:=h₁ }) (knd:=Av prog w) (k:=ks[i]) hki Dd₁ (fun h₂ D₂ s₂=>?_) (by rw [qpB];omega));replace s₂:Heap.SameBut dd h₁ h₂:=s₂;have dne:∀ c,c∈[z,TI,TO,i1,i2,l,t]->c≠dd:=fun c hc e=>hd (e ▸ hc)
  have Z₂:ZS h₂ z TI TO i1 i2 l t xs ys (i+1):=by
   obtain ⟨⟨f0,f1,gz,hf⟩,ti,⟨a,b,to⟩,j1,j2,hl',ht'⟩:=Z₁;have kk:∀ c,c∈[z,TI,TO,i1,i2,l,t]->∀ o,h₁.get? c=some o->h₂.get? c=some o:=fun c hc o e=>(s₂.2 c (dne c hc)).trans e
   have hf':f0 = .none\/∃ (T:Addr) (o:Obj),f0=rawInt T/\h₂.get? T=some o:=by
    rcases hf with q | ⟨T,o,q1,q2⟩
    ·exact .inl q
    ·by_cases q:T=dd
     ·obtain ⟨o',_,_,g',_⟩:=D₂;exact .inr ⟨T,o',q1,by rw [q];exact g'⟩
     ·exact .inr ⟨T,o,q1,(s₂.2 T q).trans q2⟩
   refine ⟨⟨f0,f1,kk _ (by simp) _ gz,hf'⟩,kk _ (by simp) _ ti,⟨a,b,kk _ (by simp) _ to⟩,j1.at fun o q=>kk _ (by simp) _ q,?_,hl'.at fun o q=>kk _ (by simp) _ q,?_⟩
   ·obtain ⟨o,g,r⟩:=j2;exact ⟨o,kk _ (by simp) _ g,r⟩
   ·obtain ⟨o,g,r⟩:=ht';exact ⟨o,kk _ (by simp) _ g,r⟩
  refine qcA ⟨plainId_quiet Ba _,ih (i+1) _ _ (by omega) hi (qhB Px (by omega)) Z₂ D₂ fun h' tk kp' Df=>?_⟩;refine hR h' tk (fun c o hc e=>kp' c o hc ?_) ?_
  ·have hc':c ∉ [z,TO,i1,i2]:=fun q=>hc (by
    simp only [qnA,qeC,or_false] at q ⊢
    rcases q with q|q|q|q<;>simp [q])
   have hcd:c≠dd:=fun q=>hc (by simp [q]);exact (s₂.2 c hcd).trans (kp c o hc' e)
  ·have hq:ys.toList.length=ys.size:=rfl;have hz:i<(ks.zip ys.toList).length:=by rw [List.length_zip,hq];omega
   have ed:(ks.zip ys.toList).drop i=(ks[i],ys[i])::(ks.zip ys.toList).drop (i+1):=by
    rw [List.drop_eq_getElem_cons hz,List.getElem_zip];simp
   rw [ed];exact Df
end
abbrev zT1 (h:Heap)(l:Addr):Heap:=h.push { cls:=.type "list_iterator",data:=.fields #[.ref l,.int 0 0] }
abbrev zT2 (h:Heap)(l t:Addr):Heap:=(zT1 h l).push { cls:=.type "tuple_iterator",data:=.fields #[.ref t,.int 0 0] }
abbrev zT3 (h:Heap)(l t:Addr):Heap:=(zT2 h l t).push { cls:=.type "tuple",data:=.seq #[.ref h.objs.size,.ref (zT1 h l).objs.size] }
abbrev zT4 (h:Heap)(l t:Addr):Heap:=(zT3 h l t).push { cls:=.type "tuple",data:=.seq #[.none,.none] }
abbrev zT5 (h:Heap)(l t:Addr):Heap:=(zT4 h l t).push { cls:=.type "zip",data:=.fields #[.none,.bool false,.bool false,.ref (zT2 h l t).objs.size,.ref (zT3 h l t).objs.size] }
theorem QP (l t:Addr)(xs ys:Array Value):Meets (Builtin.«zip.__new__» ⟨[.type "zip",.ref l,.ref t],[]⟩) (fun _ R s=>s.heap.IsList l xs/\s.heap.IsTuple t ys/\R (.ok (.ret (.ref (zT4 s.heap l t).objs.size))) { s with heap:=zT5 s.heap l t }) :=
 .of_wp fun prog w A R s h=>by
  obtain ⟨hp,g,d,tk,os⟩:=s;obtain ⟨h1,h2,h⟩:=h;have hsub:=sub_zip;have q1:Heap.IsList (Shared.heap ⟨hp,g,d,tk,os⟩) l xs:=h1;have q2:Heap.IsTuple (Shared.heap ⟨hp.push { cls:=.type "list_iterator",data:=.fields #[.ref l,.int 0 0] },g,d,tk,os⟩) t ys:=Heap.IsTuple.push h2 _
  wp_walk using wpAny_pyIter_list q1,wpAny_pyIter_tuple q2
  exact ⟨_,rfl,h⟩
section
variable {prog:Program}{w:World}{A:Around}{E:Value->Shared->Prop}{s:Shared}
theorem SY {l t:Addr}{xs ys:Array Value}{Q:Value->Shared->Prop}(hl:s.heap.IsList l xs)(ht:s.heap.IsTuple t ys)
  (h:∀ h',ZS h' (s.heap.objs.size+4) (s.heap.objs.size+2) (s.heap.objs.size+3) s.heap.objs.size (s.heap.objs.size+1) l t xs ys 0->h'.objs.size=s.heap.objs.size+5->(∀ c o,s.heap.get? c=some o->h'.get? c=some o)->Q (.ref (s.heap.objs.size+4)) { s with heap:=h' }) :
  wpAny (model prog w) A (call (.type "zip") [.ref l,.ref t]) Q E s:=by
 refine callType_new F.called_zip (by decide) (F.typeCall_zip_2 _ _) (F.newCall_zip_2 _ _) (fun obj=>F.args_object_init_3 obj _ _) F.entry_zip_new (QP l t xs ys) ⟨hl,ht,?_⟩;have z1:(zT1 s.heap l).objs.size=s.heap.objs.size+1:=Heap.size_push ..;have z2:(zT2 s.heap l t).objs.size=s.heap.objs.size+2:=by rw [Heap.size_push,z1]
 have z3:(zT3 s.heap l t).objs.size=s.heap.objs.size+3:=by rw [Heap.size_push,z2]
 have z4:(zT4 s.heap l t).objs.size=s.heap.objs.size+4:=by rw [Heap.size_push,z3]
 have z5:(zT5 s.heap l t).objs.size=s.heap.objs.size+5:=by rw [Heap.size_push,z4]
 have g5:(zT5 s.heap l t).get? (zT4 s.heap l t).objs.size=some _:=qoB _ rfl;have g4:(zT5 s.heap l t).get? (zT3 s.heap l t).objs.size=some _:=qnB _ (qoB _ rfl);have g3:(zT5 s.heap l t).get? (zT2 s.heap l t).objs.size=some _:=qnB _ (qnB _ (qoB _ rfl));have g2:(zT5 s.heap l t).get? (zT1 s.heap l).objs.size=some _:=qnB _ (qnB _ (qnB _ (qoB _ rfl)));have g1:(zT5 s.heap l t).get? s.heap.objs.size=some _:=qnB _ (qnB _ (qnB _ (qnB _ (qoB _ rfl))));have kp:∀ c o,s.heap.get? c=some o->(zT5 s.heap l t).get? c=some o:=fun c o x=>qnB _ (qnB _ (qnB _ (qnB _ (qnB _ x))));show _/\_;rw [z2,z3,z4] at g5;rw [z1,z2] at g3;rw [z3] at g4;rw [z1] at g2;rw [z4];refine ⟨⟨_,g5,rfl⟩,h _ ⟨⟨.none,.bool false,g5,.inl rfl⟩,g3,⟨_,_,g4⟩,⟨_,g1,rfl,rfl⟩,⟨_,g2,rfl,rfl⟩,hl.at fun o q=>kp _ _ q,?_⟩ z5 kp⟩;obtain ⟨o,g,r⟩:=ht;exact ⟨o,kp _ _ g,r⟩
theorem iter_zip {z TI TO:Addr}{f0 f1:Value}{Q:Value->Shared->Prop}(hz:s.heap.get? z=some (IH f0 f1 TI TO))(h:Q (.ref z) s):wpAny (model prog w) A (pyIter (.ref z)) Q E s:=by
 have hT:s.TypeIs (.ref z) "zip" := ⟨_,hz,rfl⟩;refine wpAny_pyIter_slot hT F.slot_zip_iter (qhC F.slot_zip_iter hT F.entry_zip_iter ?_ (F.args_zip_iter_1 _));exact qcA ⟨_,rfl,"zip",_,hT,F.slot_zip_next.lookup,h⟩
theorem Ml {Q:Value->Shared->Prop}{z TI TO i1 i2 l t:Addr}{xs ys:Array Value}{ks:List Key}(hh:A.handled=none)(D:ZAp z TI TO i1 i2 l t)(Z:ZS s.heap z TI TO i1 i2 l t xs ys 0)(hl:xs.size=ks.length)(hly:ys.size=ks.length)(hk:∀ (i:Nat) (k:Key) (v:Value),ks[i]? = some k->xs[i]? = some v->Cp k v=true)(hb:ks.length<4000)
  (h:∀ h' tk,(∀ c o,c ∉ [z,TO,i1,i2]->s.heap.get? c=some o->h'.get? c=some o)->h'.DictOf (Av prog w) s.heap.objs.size (zipD (ks.zip ys.toList) [])->Q (.ref s.heap.objs.size) { s with heap:=h',toks:=tk }) :
  wpAny (model prog w) A (call (.type "dict") [.ref z]) Q E s:=by
 refine callType_codes (Q₁:=fun obj s₁=>obj = .ref s.heap.objs.size/\s₁ = { s with heap:=s.heap.push { cls:=.type "dict",data:=.dict #[] } }) F.kt_called_dict (F.kt_typeCall_dict_1 _) F.entry_dict_init (kt_code_dict_new _ ⟨rfl,rfl⟩) ?_;rintro obj s₁ ⟨rfl,rfl⟩;have new:(s.heap.push { cls:=.type "dict",data:=.dict #[] }).DictOf (Av prog w) s.heap.objs.size []:=Heap.DictOf.new s.heap;have Z1:=Z.keep (h':=s.heap.push { cls:=.type "dict",data:=.dict #[] }) fun c o q=>qnB _ q;obtain ⟨f0,f1,gz,_⟩:=Z1.z;refine ⟨new.typeIs,F.args_dict_init_2 _ _,?_⟩;unfold Builtin.«dict.__init__»;refine qbA ?_;unfold Builtin.Dict.selfAndRest;refine qbA (wpAny_notOrdered_dict new.typeIs ?_);show wpAny _ _ (pure (s.heap.objs.size,[Value.ref z])) _ _ _;refine qcA ?_;show wpAny _ _ (Builtin.Dict.updateFrom "dict.__init__" s.heap.objs.size (.ref z) [] .none) _ _ _;unfold Builtin.Dict.updateFrom;refine qbA (wpAny_typeOf (T := "zip") ⟨_,gz,rfl⟩ ?_);rw [if_pos (by decide)];refine qbA (Lf (by simpa using hh) gz fun h₁ t₁ kp=>?_);rw [if_pos (show (none:Option Value).isNone=true from rfl)];refine qbA (qdA ?_);obtain ⟨f0',f1',gz',_⟩:=(Z1.keep kp).z;refine qbA (iter_zip (s:=_) gz' ?_)
 have hd:s.heap.objs.size ∉ [z,TI,TO,i1,i2,l,t]:=by
  have a1:z<s.heap.objs.size:=by obtain ⟨_,_,g,_⟩:=Z.z;exact qmB g
  have a2:TI<s.heap.objs.size:=qmB Z.ti;have a3:TO<s.heap.objs.size:=by obtain ⟨_,_,g⟩:=Z.to;exact qmB g
  have a4:i1<s.heap.objs.size:=by obtain ⟨_,g,_⟩:=Z.i1;exact qmB g
  have a5:i2<s.heap.objs.size:=by obtain ⟨_,g,_⟩:=Z.i2;exact qmB g
  have a6:l<s.heap.objs.size:=by obtain ⟨_,g,_⟩:=Z.l;exact qmB g
  have a7:t<s.heap.objs.size:=by obtain ⟨_,g,_⟩:=Z.t;exact qmB g
  intro q;simp only [qnA,qeC,or_false] at q;rcases q with q|q|q|q|q|q|q
  ·exact qmC a1 q
  ·exact qmC a2 q
  ·exact qmC a3 q
  ·exact qmC a4 q
  ·exact qmC a5 q
  ·exact qmC a6 q
  ·exact qmC a7 q
 have Dn:h₁.DictOf (Av prog w) s.heap.objs.size []:=by
  obtain ⟨o,es,ep,g,r⟩:=new;exact ⟨o,es,ep,kp _ _ g,r⟩
 refine qcA ⟨?_,du_loop (ks:=ks) (by simpa using hh) D hd hl hly hk hb _ 0 _ [] rfl (qkC _) (qkC _) (Z1.keep kp) Dn fun h' tk kp' Df=>?_⟩
 ·exact plainId_quiet Ba _
 ·refine ⟨rfl,h h' tk (fun c o hc e=>kp' c o ?_ (kp _ _ (qnB _ e))) Df⟩;intro q;simp only [qnA,qeC,or_false] at q;rcases q with q|q|q|q|q
  ·exact hc (by simp [q])
  ·exact hc (by simp [q])
  ·exact hc (by simp [q])
  ·exact hc (by simp [q])
  ·rw [q] at e;exact absurd (qmB e) (qiB _)
end
theorem kv_zip:∀ {ks:List Key}{ys:List V}{vs:List Value}{kvs:List (Key × V)}{ms:List (Key × Value)},Vals ys vs->KV kvs ms->KV ((ks.zip ys).foldl (fun m q=>CG m q.1 q.2) kvs) (zipD (ks.zip vs) ms)
 | [],_,_,_,_,_,h=>by simpa [zipD] using h
 | k::ks,_,_,_,_,.nil,h=>by simpa [zipD] using h
 | k::ks,y::ys,v::vs,kvs,ms,.cons r rs,h=>by
  rw [List.zip_cons_cons,List.zip_cons_cons,qjC];exact kv_zip (ks:=ks) rs (h.put k r)
theorem putK_len (m:List (Key × V))(k:Key)(v:V):(CG m k v).length<=m.length+1:=by
 unfold CG;split
 ·rw [qfA];exact Nat.le_succ _
 ·rw [qgA];exact qgB _
theorem OT:∀ (l:List (Key × V)) (m:List (Key × V)),(l.foldl (fun m q=>CG m q.1 q.2) m).length<=m.length+l.length
 | [],m=>qgB _
 | q::l,m=>by
  rw [qjC,qhA];have:=OT l (CG m q.1 q.2);have:=putK_len m q.1 q.2;omega
def tDictZ (K:FZ9)(ta:TA):TE:=fun σ H Q=>ta σ H fun us H1=>∃ (l t:Addr) (ns:List Int) (ys:List V),us=[.ref l,.ref t]/\SqL K H1 l (ns.map V.int)/\SqT K H1 t ys/\ns.length=ys.length/\ns.length<4000 /\
 ∀ p,H1 p=none->Q (.ref p) (upd H1 p (.dK (((ns.map Sum.inl).zip ys).foldl (fun m q=>CG m q.1 q.2) [])))
theorem Pg:∀ {ns:List Int}{vs:List Value},Vals (ns.map V.int) vs->∀ (i:Nat) (k:Key) (v:Value),(ns.map (Sum.inl:Int->Key))[i]? = some k->vs[i]? = some v->Cp k v=true
 | [],_,_,i,k,v,h,_=>by simp at h
 | n::ns,_,.cons r rs,0,k,v,h1,h2=>by
  simp at h1 h2;subst h1 h2;obtain ⟨t,rfl⟩:=r;show Value.isInt n (Value.int n t)=true;simp [Value.isInt]
 | n::ns,_,.cons r rs,i+1,k,v,h1,h2=>Pg rs i k v (by simpa using h1) (by simpa using h2)
theorem zipZ_len (ns:List Int)(ys:List V)(h:ns.length<4000):List.length (((ns.map (Sum.inl:Int->Key)).zip ys).foldl (fun m q=>CG m q.1 q.2) ([]:List (Key × V)))<=sizeLine:=by
 have:=OT ((ns.map (Sum.inl:Int->Key)).zip ys) [];rw [List.length_zip,qfA] at this;have z:min ns.length ys.length<=ns.length:=Nat.min_le_left _ _;refine qhB this (qhB (Nat.add_le_add_left z _) (qhB (Nat.add_le_add_left (Nat.le_of_lt h) _) ?_))
 decide
theorem zap_new {n l t:Nat}(h1:l<n)(h2:t<n):ZAp (n+4) (n+2) (n+3) n (n+1) l t:=by
 refine ⟨⟨?_,?_,?_,?_⟩,⟨?_,?_,?_,?_,?_,?_⟩,⟨?_,?_,?_,?_⟩,⟨?_,?_,?_,?_⟩⟩<;>(intro e;replace e:@Eq Nat _ _:=e;omega)
theorem pe_dictZ {X:Cx}{K:FZ9}{a b:Expr}{ta:TA}{p p2 pos pos2:Pos}(hc:X.calm=true)(hK:X.K=K)(hg:Gl X "dict")(hm:X.mg "dict" = none)(hg2:Gl X "zip")(hm2:X.mg "zip" = none)(ha:PA X [a,b] ta)
  (hs:starEach [a,b] X.env=[(false,eval a X.env),(false,eval b X.env)]:=by rfl) (hs2:starEach [b] X.env=[(false,eval b X.env)]:=by rfl)
  (hs3:starEach [.Call (.Name "zip" p2) [a,b] [] pos2] X.env=[(false,eval (.Call (.Name "zip" p2) [a,b] [] pos2) X.env)]:=by rfl) :
  PE X (.Call (.Name "dict" p) [.Call (.Name "zip" p2) [a,b] [] pos2] [] pos) (tDictZ K ta):=by
 subst hK;intro pins s σ H R I h;refine Call_ (HG I hg hm RY (PyProof.Rows.callWith_type1 ?_ (by rw [hs3];rfl) rfl));rw [hs3];refine Calls.spliced_cons ?_;refine Call_ (HG I hg2 hm2 boot_zip (PyProof.Rows.callWith_type1 (thn (ha pos2 pins s σ H _ I h) fun us s1 ⟨vs,H1,I1,r1,q1⟩=>?_) (by rw [hs,hs2]) (by rw [hs2];rfl)));obtain ⟨l,t,ns,ys,e,hq1,hq2,hle,hlt,q⟩:=q1;subst e;obtain ⟨u1,u2,rfl,r1,r2⟩:=MG r1;cases r1;cases r2;obtain ⟨its1,rv1,pl1,_⟩:=I1.list hq1;obtain ⟨its2,rv2,pl2,_⟩:=I1.tuple hq2;have lt1:l<s1.heap.objs.size:=by obtain ⟨_,e,_⟩:=pl1.isList;exact qmB e
 have lt2:t<s1.heap.objs.size:=by obtain ⟨_,e,_⟩:=pl2;exact qmB e
 refine SY pl1.isList pl2 fun h' Z sz kp=>?_;refine Calls.spliced_nil ?_;have I2:Inv X pins σ H1 { s1 with heap:=h' }:=I1.kept (t':=s1.toks) kp;have e1:its1.length=ns.length:=by rw [<- rv1.length,qfA]
 have e2:its2.length=ns.length:=by rw [<- rv2.length];exact hle.symm
 refine Ml (s:={ s1 with heap:=h' }) (ks:=ns.map Sum.inl) (I1.ok.hd hc) (zap_new lt1 lt2) Z (by simpa using e1) (by simpa using e2) (fun i k v z1 z2=>Pg rv1 i k v z1 (by simpa using z2)) (by simpa using hlt) fun h2 tk kp2 Df=>?_;refine ⟨.ref h'.objs.size,_,?_,rfl,q h'.objs.size (I2.hok.fresh (qgB _))⟩;have kv:=kv_zip (ks:=ns.map Sum.inl) (kvs:=[]) (ms:=[]) rv2 .nil
 have ok:ObjOk X.prog X.w (upd H1 h'.objs.size (.dK (((ns.map Sum.inl).zip ys).foldl (fun m q=>CG m q.1 q.2) []))) h2 h'.objs.size (.dK (((ns.map Sum.inl).zip ys).foldl (fun m q=>CG m q.1 q.2) [])):=by
  refine ⟨?_,beq_eq_false_iff_ne.mpr (Ne.symm (qdC I2.big)),_,kv,Df⟩;exact zipZ_len ns ys hlt
 refine I1.laid (t':=tk) (fun b u q=>kp2 b u (fun z=>?_) (kp _ _ q)) (by rw [sz];omega) ok;have lt:=qmB q;simp only [qnA,qeC,or_false] at z;rcases z with z|z|z|z
 ·rw [z] at lt;exact absurd lt (Nat.not_lt.mpr (Nat.le_add_right _ 4))
 ·rw [z] at lt;exact absurd lt (Nat.not_lt.mpr (Nat.le_add_right _ 3))
 ·rw [z] at lt;exact absurd lt (Nat.not_lt.mpr (qgB _))
 ·rw [z] at lt;exact absurd lt (Nat.not_lt.mpr (Nat.le_add_right _ 1))
def Of {α:Type}(ns:List Int)(bs:List α):Option (Mp α):=if ns.length=bs.length/\ns.length<4000 then some ⟨(ns.zip bs).foldl (fun m q=>Qo m q.1 q.2) []⟩ else none
section
variable {K:FZ9}{σ:St}{G H G0 H0:Hp}{α β:Type}[Rp α][Rp β]{ta tb:TE}
theorem JN {G:Hp}:∀ {ns:List Int}{ys:List V}{bs:List α}{kvs:List (Key × V)}{l:List (Int × α)},Paired (Rp.rel K G) ys bs->Paired (NA K G) kvs l->Paired (NA K G) (((ns.map (Sum.inl:Int->Key)).zip ys).foldl (fun m q=>CG m q.1 q.2) kvs) ((ns.zip bs).foldl (fun m q=>Qo m q.1 q.2) l)
 | [],_,_,_,_,_,h=>h
 | n::ns,_,_,_,_,.nil,h=>h
 | n::ns,y::ys,b::bs,kvs,l,.cons r rs,h=>by
  rw [qbB,List.zip_cons_cons,List.zip_cons_cons,qjC,qjC];exact JN (ns:=ns) rs (Pp r h)
theorem ev_dictZ {la:Option (List Int)}{lb:Option (Tp α)}(ea:EV K ta σ G la)(eb:EV K tb σ G lb):EV K (tDictZ K (AK ta (AK tb B7))) σ G (la.bind fun a=>lb.bind fun b=>Of a b.l):=by
 clear 7;obtain ⟨a,ha,hc⟩:=qaA.mp hc;obtain ⟨b,hb,hc⟩:=qaA.mp hc;unfold Of at hc;split at hc
 ·rename_i hl;cases hc;clear 8 ea a ha;refine eb G2 (s1.trans x2.gg) b hb H2 x2.gh _ fun u G3 H3 x3 r3=>?_;obtain ⟨l,xs,rfl,h,z,p⟩:=Rp.mono x3.gg r2;obtain ⟨t,ys,rfl,h',z',p'⟩:=r3;have e:=Cz p;subst e;have hly:ys.length=b.l.length:=CK p';refine ⟨l,t,a,ys,rfl,.inl (x3.gh.rd h),x3.gh.tup h',by rw [hly];exact hl.1,hl.2,fun q hq=>?_⟩;have gq:G3 q=none:=Same.free x3.gh hq;exact k _ (upd G3 q _) _ ((x2.trans x3).trans (.new x3.gh hq)) ⟨q,_,rfl,AH,Paired.imp' (fun _ _ r=>⟨r.1,Rp.mono (Same.new gq) r.2⟩) (JN (ns:=a) p' .nil)⟩
 ·cases hc
end
def Eg:List (Str × Int)->Str->Option Int
 | [],_=>none
 | (y,i)::r,x=>cond (decide (y=x)) (some i) (Eg r x)
def EntC:List DictEntry->List (Str × Int)->Prop
 | [],[]=>True
 | e::es,q::l=>(∃ t u,e.key = .str q.1 t/\e.val = .int q.2 u)/\EntC es l
 | _,_=>False
structure CDict (w:World)(K:FZ9)(a:Addr)(l:List (Str × Int)):Prop where
 lo:(a == sysModules)=false
 ex:∃ es n,K.lookup a=some ⟨.type "dict",none,.dict es n,#[]⟩/\PySem.W.KeysLit w.params es.toList/\EntC es.toList l
theorem On:∀ {es:List DictEntry}{l:List (Str × Int)}(x:Str),EntC es l ->
  match Eg l x with
  | some i=>∃ u,(es.find? fun e=>Value.isStrOf x e.key).map (·.val)=some (.int i u)
  | none=>(es.find? fun e=>Value.isStrOf x e.key).map (·.val)=none
 | [],[],x,_=>rfl
 | e::es,(y,i)::l,x,⟨⟨t,u,h1,h2⟩,r⟩=>by
  have ih:=On x r
  have hk:Value.isStrOf x e.key=decide (y=x):=by
   rw [h1];show Value.isStrOf x (.str y t)=_;by_cases q:y=x
   ·subst q;simp [Value.isStrOf]
   ·rw [decide_eq_false q];simp [Value.isStrOf,q]
  unfold Eg;rw [List.find?_cons,hk];by_cases q:y=x
  ·rw [decide_eq_true q];exact ⟨u,by rw [<- h2];rfl⟩
  ·rw [decide_eq_false q];exact ih
section
variable {X:Cx}{i o:Expr}{ty:TE}{pos:Pos}{a:Addr}{w:World}{K:FZ9}{l:List (Str × Int)}
theorem CDict.map {prog:Program}{h:Heap}(C:CDict w K a l)(X:K.In h):∃ f,h.MapOf (strKind prog w) a f/\∀ x,match Eg l x with
  | some i=>∃ u,f x=some (.int i u)
  | none=>f x=none:=by
 obtain ⟨es,n,hl,hk,he⟩:=C.ex;refine ⟨_,PySem.W.mapOf_K X hl hk,fun x=>?_⟩;have:=On x he;obtain ⟨es⟩:=es
 show match Eg l x with
  | some i=>∃ u,findBy Value.isStrOf _ x=some (.int i u)
  | none=>findBy Value.isStrOf _ x=none
 unfold findBy;rw [List.find?_toArray];exact this
def tInC (l:List (Str × Int))(ty:TE):TE:=fun σ H Q=>ty σ H fun y H1=>∃ z,y = .str z/\Q (.bl (Eg l z).isSome) H1
def tGetC (l:List (Str × Int))(ty:TE):TE:=fun σ H Q=>ty σ H fun y H1=>∃ z v,y = .str z/\Eg l z=some v/\Q (.int v) H1
theorem pc_inC (hw:X.w=w)(hK:X.K=K)(C:CDict w K a l)(hi:PE X i ty)(ho:PE X o (tC (.ref a))):PC X .In i o (tInC l ty):=by
 subst hw hK;intro pins s σ H Q I h;refine thn (hi pins s σ H _ I h) fun iv s1 ⟨y,H1,I1,ry,z,ey,q1⟩=>thn (ho pins s1 σ H1 (fun v H'=>v = .ref a/\H'=H1) I1 ⟨rfl,rfl⟩) fun u s2 ⟨x,H2,I2,rx,e1,e2⟩=>?_;subst ey e1 e2;obtain ⟨t,rfl⟩:=ry;obtain rfl:u=Value.ref a:=rx;obtain ⟨f,hf,hx⟩:=C.map (prog:=X.prog) (fun b o e=>I2.kIn b o e);refine wpAny_in_of (strKind_is X.prog X.w z t) C.lo hf ⟨.bl (f z).isSome,H2,I2.tok _,rfl,?_⟩;have hz:=hx z
 cases e:Eg l z with
 | some i =>
  rw [e] at hz q1;obtain ⟨u,hz⟩:=hz;rw [hz];exact q1
 | none =>
  rw [e] at hz q1;rw [show f z=none from hz];exact q1
theorem pe_inC (hw:X.w=w)(hK:X.K=K)(C:CDict w K a l)(hi:PE X i ty)(ho:PE X o (tC (.ref a)))(hm:behindInMarks .In o=false):PE X (.Compare i [.In] [o] pos) (tInC l ty):=pe_cmp (pc_inC hw hK C hi ho) hm
theorem pe_getC (hw:X.w=w)(hK:X.K=K)(C:CDict w K a l)(ho:PE X o (tC (.ref a)))(hi:PE X i ty)(hs:NoSl i):PE X (.Subscript o i pos) (tGetC l ty):=by
 subst hw hK;intro pins s σ H Q I h;refine Mw PySem.F.slot_dict_getitem.lookup hs (thn (ho pins s σ H (fun v H'=>v = .ref a/\H'=H) I ⟨rfl,rfl⟩) fun u s1 ⟨x,H1,I1,rx,e1,e2⟩=>?_);subst e1 e2;refine thn (hi pins s1 σ H1 _ I1 h) fun iv s2 ⟨y,H2,I2,ry,z,v,ey,g,q2⟩=>?_;subst ey;obtain ⟨t,rfl⟩:=ry;obtain rfl:u=Value.ref a:=rx;obtain ⟨f,hf,hx⟩:=C.map (prog:=X.prog) (fun b o e=>I2.kIn b o e);have hz:=hx z;rw [g] at hz;obtain ⟨u,hz⟩:=hz;exact ⟨hf.typeIs,wpAny_getItem_of (strKind_is X.prog X.w z t) hf hz ⟨.int v,H2,I2.tok _,⟨u,rfl⟩,q2⟩⟩
end
section
variable {K:FZ9}{σ:St}{G:Hp}{ty:TE}{l:List (Str × Int)}
theorem ev_inC {mx:Option Str}(e:EV K ty σ G mx):EV K (tInC l ty) σ G (mx.bind fun x=>some (Eg l x).isSome):=by
 clear 7;obtain ⟨x,hx,hc⟩:=qaA.mp hc;cases hc;clear 8 e x hx;exact ⟨x,r2.1,k _ G2 H2 x2 rfl⟩
theorem ev_getC {mx:Option Str}(e:EV K ty σ G mx):EV K (tGetC l ty) σ G (mx.bind fun x=>Eg l x):=by
 clear 7;obtain ⟨x,hx,hc⟩:=qaA.mp hc;clear 8 e x hx;exact ⟨x,c,r2.1,hc,k _ G2 H2 x2 rfl⟩
end
end L2
namespace HT
open PySem PySem.Spec PyProof.Rows
end HT
namespace L2
open PySem PySem.Spec PyProof.Rows
def siK:SI->Key
 | .s x=>.inr x
 | .i n=>.inl n
theorem siK_inj:∀ {a b:SI},siK a=siK b->a=b
 | .s x,.s y,e=>by rw [Sum.inr.inj e]
 | .s _,.i _,e=>nomatch e
 | .i _,.s _,e=>nomatch e
 | .i m,.i n,e=>by rw [Sum.inl.inj e]
theorem P8:∀ {l m:List SI},l.map siK=m.map siK->l=m
 | [],[],_=>rfl
 | [],_::_,e=>nomatch e
 | _::_,[],e=>nomatch e
 | a::l,b::m,e=>by
  rw [qbB,qbB] at e;obtain ⟨h1,h2⟩:=qbC e;rw [siK_inj h1,P8 h2]
def PL (r:Tp SI):List Key:=r.l.map siK
theorem rowK_inj {a b:Tp SI}(e:PL a=PL b):a=b:=by
 cases a;cases b;exact congrArg Tp.mk (P8 e)
def Gu:Nat->List (Tp SI)->List (List Key × V)
 | _,[]=>[]
 | i,r::rs=>(PL r,.int (i:Int))::Gu (i+1) rs
def Kl:Nat->List (Tp SI)->Tp SI->Option Int
 | _,[],_=>none
 | i,a::rs,r=>if a=r then some (i:Int) else Kl (i+1) rs r
theorem S0 (r:Tp SI):∀ (rows:List (Tp SI)) (i:Nat),Fd (Gu i rows) (PL r)=(Kl i rows r).map V.int
 | [],_=>rfl
 | a::rs,i=>by
  unfold Gu Kl;by_cases h:a=r
  ·rw [if_pos h,Cu (by rw [h])]
   rfl
  ·rw [if_neg h,D1 (fun e=>h (rowK_inj e))];exact S0 r rs (i+1)
theorem Ol:∀ (rows:List (Tp SI)) (i:Nat),(Gu i rows).length=rows.length
 | [],_=>rfl
 | a::rs,i=>by
  unfold Gu;rw [qhA,qhA,Ol rs]
theorem K7 (r:Tp SI):∀ (rows:List (Tp SI)) (i:Nat),Gu i (rows++[r])=Gu i rows++[(PL r,.int ((i+rows.length:Nat):Int))]
 | [],_=>rfl
 | a::rs,i=>by
  rw [List.cons_append];unfold Gu;rw [K7 r rs (i+1),List.cons_append,qhA]
  congr 4
  congr 1
  omega
structure Rk where
 l:List SI
instance rpRk:Rp Rk:=⟨fun K H v r=>∃ t xs,v = .ref t/\H t=some (.tup xs)/\xs.length<=sizeLine/\Paired (Rp.rel K H) xs r.l,
 fun s ⟨t,xs,e,h,z,p⟩=>⟨t,xs,e,s _ _ h,z,Paired.imp' (fun _ _ r=>Rp.mono s r) p⟩⟩
def Rk.tp (r:Rk):Tp SI:=⟨r.l⟩
def Rk.of (r:Tp SI):Rk:=⟨r.l⟩
theorem Rk.rel {K:FZ9}{H:Hp}{v:V}{r:Rk}(h:Rp.rel K H v r):Rp.rel K H v r.tp :=
 let ⟨t,xs,e,h,z,p⟩:=h
 ⟨t,xs,e,SqT.of h,z,p⟩
theorem Pt {K:FZ9}{H:Hp}:∀ {xs:List V}{l:List SI},Paired (Rp.rel K H) xs l->xs=(l.map siK).map kV
 | _,_,.nil=>rfl
 | _,_,.cons (b:=.s x) h t=>by
  rw [qbB,qbB,<- Pt t];exact congrArg (·::_) h.1
 | _,_,.cons (b:=.i n) h t=>by
  rw [qbB,qbB,<- Pt t];exact congrArg (·::_) (show _=V.int n from h)
def DI (rows:List (Tp SI))(r:Rk):Option (List (Tp SI) × Int):=match Kl 0 rows r.tp with
 | some n=>some (rows,n)
 | none=>if rows.length<sizeLine then some (rows++[r.tp],(rows.length:Int)) else none
structure OwnB (K:FZ9)(G H:Hp)(p q:Addr)(vs:List V)(rows:List (Tp SI)):Prop where
 l:Own K G H (.ref p) p vs rows
 ne:p≠q
 g:G q=none
 h:H q=some (.dT (Gu 0 rows))
 t:Paired (Rp.rel K G) vs (rows.map Rk.of)
def spB (K:FZ9){α:Type}[Rp α](m:List (Tp SI)->α->Option (List (Tp SI) × Int)):Sp:=fun vs H Q _ =>
 ∃ G p q v xs rows a r,vs=[.ref p,.ref q,v]/\Same G H/\OwnB K G H p q xs rows/\Rp.rel K G v a/\m rows a=some r /\
  ∀ G2 H2 xs',Ext G (era H [p,q]) G2 H2->OwnB K G2 H2 p q xs' r.1->Q (.int r.2) H2
section
variable {K:FZ9}{σ:St}{G H G1 H1 G0 H0:Hp}{D:Ends}{p q l:Addr}{xs:List V}{rows:List (Tp SI)}
theorem Mq {α:Type}[Rp α]{m:List (Tp SI)->α->Option (List (Tp SI) × Int)}{vs:List V}{Q:VK}{E:XK}(h:spB K m vs H Q E):vs.length=3:=by
 obtain ⟨G,p,q,v,xs,rows,a,r,rfl,_⟩:=h
 rfl
theorem OwnB.ext (o:OwnB K G H p q xs rows)(x:Ext G H G1 H1):OwnB K G1 H1 p q xs rows :=
 ⟨o.l.ext x,o.ne,x.no q o.g (by rw [o.h];exact fun z=>nomatch z),x.hh _ _ o.h,Paired.imp' (fun _ _ r=>Rp.mono x.gg r) o.t⟩
theorem OwnB.put {ho:HO}(o:OwnB K G H p q xs rows)(h1:p≠l)(h2:q≠l):OwnB K G (upd H l ho) p q xs rows :=
 ⟨o.l.put h1,o.ne,o.g,by rw [Ag h2];exact o.h,o.t⟩
theorem SL {v:V}{row:Rk}{r:List (Tp SI) × Int}(s:Same G H)(o:OwnB K G H p q xs rows)(rv:Rp.rel K G v row)(hm:DI rows row=some r)
  (k:∀ G2 H2 xs',Ext G (era H [p,q]) G2 H2->OwnB K G2 H2 p q xs' r.1->D.rt (.int r.2) H2) :
  Bz (KS (tB (RM (BQ 2) (BQ 1)))
    (Bz (sDPut (BQ 1) (BQ 2) (tCB (MZ K) (AK (BQ 0) B7))) (Bz (KZ (tBM K "list" Hd (BQ 0) (AK (BQ 2) B7))) By)) By)
   (Bz (Ny (tDGet (BQ 1) (BQ 2))) By) D [some (.ref p),some (.ref q),some v] H:=by
 obtain ⟨t,ys,rfl,ht,hz,pr⟩:=id rv;have e1:=Pt pr
 have ht':H t=some (.tup ((PL row.tp).map kV)):=by
  rw [s _ _ ht,e1]
  rfl
 have hv:=S0 row.tp rows 0;have b0:=Ext.begin (C:=[p,q]) s;refine ⟨_,rfl,_,rfl,q,_,rfl,DGet.t o.h ht',_,rfl,?_⟩;unfold DI at hm
 cases hi:Kl 0 rows row.tp with
 | some n =>
  rw [hi] at hm hv;cases hm;rw [hv];refine BS ?_;exact ⟨_,rfl,_,rfl,q,.int n,rfl,.inr ⟨_,_,t,.inl o.h,rfl,ht',hv.symm⟩,k G H xs b0 o⟩
 | none =>
  rw [hi] at hm hv;obtain ⟨hl,e⟩:=B4 hm;cases e;rw [hv];refine BM ?_;have oh:=o.l.h;have hlen:=Paired.length o.l.p;have npq:p≠q:=o.ne;refine ⟨_,rfl,xs,.inl (SqL.of oh),?_⟩;refine ⟨_,rfl,_,rfl,q,_,rfl,DPut.t o.h ht' (by rw [Ol];exact hl),?_⟩
  have enc:CG (Gu 0 rows) (PL row.tp) (.int (xs.length:Int))=Gu 0 (rows++[row.tp]):=by
   rw [putK_new _ hv,K7,Nat.zero_add,hlen]
  rw [enc]
  have hp1:upd H q (.dT (Gu 0 (rows++[row.tp]))) p=some (.lst xs):=by
   rw [Ag npq];exact oh
  refine ⟨_,rfl,.inl ⟨rfl,_,SqL.of hp1⟩,_,rfl,p,xs,.ref t,rfl,rfl,hp1,by omega,?_⟩
  have tp:t≠p:=fun z=>by
   rw [z,oh] at ht';cases ht'
  have tq:t≠q:=fun z=>by
   rw [z,o.h] at ht';cases ht'
  have hq2:upd (upd H q (.dT (Gu 0 (rows++[row.tp])))) p (.lst (xs++[.ref t])) q=some (.dT (Gu 0 (rows++[row.tp]))):=by
   rw [Ag (Ne.symm npq)];exact AH
  have ht2:upd (upd H q (.dT (Gu 0 (rows++[row.tp])))) p (.lst (xs++[.ref t])) t=some (.tup ((PL row.tp).map kV)):=by
   rw [Ag tp,Ag tq];exact ht'
  refine ⟨_,rfl,_,rfl,q,.int (rows.length:Int),rfl,.inr ⟨_,_,t,.inl hq2,rfl,ht2,?_⟩,?_⟩
  ·rw [K7,M9 _ _ _ _ hv,if_pos rfl,Nat.zero_add]
  ·refine k G _ (xs++[.ref t]) ((b0.put (N9 (by simp)) o.g).put (N9 (by simp)) o.l.g) ⟨⟨rfl,o.l.g,AH,?_,Paired.app o.l.p (.cons (Rk.rel rv) .nil)⟩,npq,o.g,hq2,by rw [qcB];exact Paired.app o.t (.cons rv .nil)⟩;rw [qgA,qiA];omega
def sisO:List Nt->Option (List SI)
 | []=>some []
 | .txt x::r=>(sisO r).bind fun l=>some (.s x::l)
 | .tup _::_=>none
 | .int _::_=>none
theorem RX:∀ {xs:List V}{l:List Nt}{ks:List SI},RelNs K G xs l->sisO l=some ks->Paired (Rp.rel K G) xs ks
 | _,_,_,.nil,e=>by
  cases e;exact .nil
 | _,_,_,.cons (.txt x z) t,e=>by
  obtain ⟨l',h,e⟩:=qaA.mp e;cases e;exact .cons ⟨rfl,z⟩ (RX t h)
 | _,_,_,.cons (.tup _ _ _ _) t,e=>nomatch (show (none:Option (List SI))=some _ from e)
 | _,_,_,.cons (.int _) t,e=>nomatch (show (none:Option (List SI))=some _ from e)
def KM (lay:List (Tp SI)->Nt->Option (List (Tp SI) × Int))(a:Nt)(s:List (Tp SI) × List SI):Option (Fl (List (Tp SI) × List SI) Unit) :=
 (lay s.1 a).bind fun z=>if s.2.length+1<=sizeLine then some (.nx (z.1,s.2++[.i z.2])) else none
def TF:Fl (List (Tp SI) × List SI) Unit->Option (List (Tp SI) × Int)
 | .nx z=>DI z.1 ⟨z.2⟩
 | _=>none
def EH (pm:Nt->Option (Tp Nt)):Nat->List (Tp SI)->Nt->Option (List (Tp SI) × Int)
 | 0=>fun _ _=>none
 | n+1=>fun rows a=>(Bq a).bind fun t=>(atI t.l 0).bind fun b=>(D8 b).bind fun w =>
   cond (decide (w = "lamp")) ((sisO t.l).bind fun l=>DI rows ⟨l⟩)
   ((pm a).bind fun ps=>(CV (KM (EH pm n)) ps.l (rows,[.s w])).bind fun z=>TF z)
theorem lay_body {pm:Nt->Option (Tp Nt)}{mp:Nt × Unit->Option (Tp Nt)}(hpm:∀ a,mp (a,())=pm a){n:Nat}{v:V}{a:Nt}{r:List (Tp SI) × Int}(s:Same G H)(o:OwnB K G H p q xs rows)(rv:Rp.rel K G v a)(hm:EH pm (n+1) rows a=some r)
  (k:∀ G2 H2 xs',Ext G (era H [p,q]) G2 H2->OwnB K G2 H2 p q xs' r.1->D.rt (.int r.2) H2) :
  Bz (KS (tTest (tOp rEq (tOp (rAt K) (BQ 2) (tC (.int 0))) (tC (.str "lamp"))))
    (Bz (Ny (Dt (spB K DI) [] E0 (AK (BQ 0) (AK (BQ 1) (AK (BQ 2) B7))))) By) By)
   (Bz (GO (JY (AK (tOp (rAt K) (BQ 2) (tC (.int 0))) B7)) (Bm 3))
   (Bz (tFor (K4 K (Dt (spM K mp) [] E0 (AK (BQ 2) B7))) (Bm 4)
    (Bz (GO (tOp (QD K) (BQ 3) (JY (AK (Dt (spB K (EH pm n)) [] E0 (AK (BQ 0) (AK (BQ 1) (AK (BQ 4) B7)))) B7))) (Bm 3)) By))
   (Bz (Ny (Dt (spB K DI) [] E0 (AK (BQ 0) (AK (BQ 1) (AK (BQ 3) B7))))) By))) D [some (.ref p),some (.ref q),some v,none,none] H:=by
 obtain ⟨t,htu,hm⟩:=qaA.mp (show _=some r from hm);refine bE hm fun b hb hm=>?_;refine bE hm fun w hw hm=>?_;have b0:=Ext.begin (C:=[p,q]) s;have z0:∀ b∈[p,q],era H [p,q] b=none:=fun b hb=>N9 hb
 have hd:((((some a).bind fun d=>Bq d).bind fun a=>(some (0:Int)).bind fun i=>atI a.l i).bind fun d=>D8 d)=some w:=by
  rw [Option.bind_some,htu,Option.bind_some,Option.bind_some,hb,Option.bind_some,hw]
 refine Ay (AT (K:=K) (BR (Eo (BB (Bi (Kp rfl rv)) Af)) Am)) (b:=decide (w = "lamp")) (by rw [hd];rfl) s fun G2 H2 x2=>?_;have o2:=o.ext x2;have rv2:=Rp.mono x2.gg rv;have xt:=b0.trans x2;by_cases hl:w = "lamp"
 ·rw [decide_eq_true hl] at hm ⊢;have hmL:((sisO t.l).bind fun l=>DI rows ⟨l⟩)=some r:=hm;obtain ⟨ks,hks,hmK⟩:=qaA.mp hmL;refine BM ?_
  cases rv2 with
  | txt x z=>cases htu
  | int n=>cases htu
  | @tup ad us ds h z rs hlp =>
   cases htu
   have h0:ds[0]? = some (.txt "lamp"):=by
    have hb':atI ds 0=some b:=hb
    cases ds with
    | nil=>cases hb'
    | cons d ds' =>
     have e0:ixN (d::ds').length (0:Int)=some 0:=by
      unfold ixN;rw [if_pos (by omega),if_pos (by rw [qhA];omega)]
      rfl
     have this:atI (d::ds') (0:Int)=some d:=by
      unfold atI;rw [e0]
      rfl
     rw [this] at hb';have hdb:=qkB hb'
     cases d with
     | txt y =>
      rw [<- hdb] at hw;have hyw:y=w:=qkB hw;rw [hyw,hl]
      rfl
     | tup _ =>
      rw [<- hdb] at hw;cases hw
     | int _ =>
      rw [<- hdb] at hw;cases hw
   have rk:Rp.rel K G2 (.ref ad) (Rk.mk ks):=⟨ad,us,rfl,hlp h0,z,RX rs hks⟩;exact ⟨_,rfl,_,rfl,_,rfl,G2,p,q,_,xs,rows,⟨ks⟩,r,rfl,x2.gh,o2,rk,hmK,fun G3 H3 xs' y o'=>k G3 H3 xs' (xt.past z0 y) o'⟩
 ·rw [decide_eq_false hl] at hm ⊢;replace hm:((pm a).bind fun ps=>(CV (KM (EH pm n)) ps.l (rows,[.s w])).bind fun z=>TF z)=some r:=hm;refine bE hm fun ps hps hm=>?_;refine bE hm fun res hres hm=>?_;refine BS ?_;refine (Eo (BB (Bi (Kp rfl rv2)) Af)).run (K:=K) hd x2.gh fun u G3 H3 x3 r3=>?_;refine ⟨by show 1<=sizeLine;decide,fun t3 ht3=>?_⟩;have x4:Ext G3 H3 (upd G3 t3 (.tup [u])) (upd H3 t3 (.tup [u])):=.new x3.gh ht3;have o4:=(o2.ext x3).ext x4;have xt:=(xt.trans x3).trans x4;have rv4:=Rp.mono x4.gg (Rp.mono x3.gg rv2);have rk:Rp.rel K (upd G3 t3 (.tup [u])) (.ref t3) (Rk.mk [.s w]):=⟨t3,[u],rfl,AH,by show 1<=sizeLine;decide,.cons (show RelSI u (.s w) from r3) .nil⟩
  refine E9 (K:=K) (RR:=fun _ _ _ _=>False) (iw_tup (ev_def (m:=mp) (av_cons (Kp rfl rv4) av_nil))) (as:=ps.l) (by
   show ((some (a,())).bind fun a=>mp a).bind _=_;rw [Option.bind_some,hpm,hps]
   rfl) hres xt.gh fun G5 H5 x5=>⟨fun s σ' G' H'=>∃ u pt ys,σ'=[some (.ref p),some (.ref q),some v,some u,pt]/\Ext G (era H [p,q]) G' H'/\Same G5 G'/\OwnB K G' H' p q ys s.1/\Rp.rel K G' u (Rk.mk s.2)/\s.2 ≠ [],?_⟩
  refine ⟨⟨_,_,_,rfl,xt.trans x5,Same.refl _,o4.ext x5,Rp.mono x5.gg rk,by simp⟩,?_,?_,?_,fun _ _ _ _ _ h=>h.elim⟩
  ·rintro s σ' G' H' ⟨u,pt,ys,rfl,x,m,_⟩;exact ⟨m,x.gh⟩
  ·rintro x a' s1 _ G6 H6 fl - ⟨u',pt,ys,rfl,x6,m6,o6,ru,ne6⟩ ra hf D' kN - - -;obtain ⟨z,hz,hf⟩:=qaA.mp hf;obtain ⟨hle,hf⟩:=B4 hf;subst hf;refine ⟨_,rfl,_,rfl,_,rfl,_,rfl,G6,p,q,x,ys,s1.1,a',z,rfl,x6.gh,o6,ra,hz,fun G7 H7 ys' y7 o7=>?_⟩;refine ⟨by show 1<=sizeLine;decide,fun t8 ht8=>?_⟩;have x8:Ext G7 H7 (upd G7 t8 (.tup [.int z.2])) (upd H7 t8 (.tup [.int z.2])):=.new y7.gh ht8;have xt7:=x6.past z0 y7;obtain ⟨tu,us,rfl,hu,hzu,pu⟩:=Rp.mono x8.gg (Rp.mono y7.gg ru);have lu:=Paired.length pu;have lne:us ≠ []:=fun z=>ne6 (List.length_eq_zero_iff.mp (by rw [<- lu,z];rfl));refine ⟨tu,t8,us,[.int z.2],rfl,rfl,SqT.of (x8.gh _ _ hu),SqT.of AH,by rw [lu];exact hle,(fun z=>absurd z lne),(fun z=>nomatch z),fun t9 ht9=>?_⟩;have x9:Ext (upd G7 t8 (.tup [.int z.2])) (upd H7 t8 (.tup [.int z.2])) (upd (upd G7 t8 (.tup [.int z.2])) t9 (.tup (us++[.int z.2]))) (upd (upd H7 t8 (.tup [.int z.2])) t9 (.tup (us++[.int z.2]))):=.new x8.gh ht9;refine kN (z.1,s1.2++[.i z.2]) _ _ _ rfl ⟨_,_,ys',rfl,(xt7.trans x8).trans x9,m6.trans (y7.gg.trans (x8.gg.trans x9.gg)),(o7.ext x8).ext x9,⟨t9,us++[.int z.2],rfl,AH,?_,?_⟩,by simp⟩
   ·rw [qgA,qiA,lu];exact hle
   ·exact Paired.app (Paired.imp' (fun _ _ r=>Rp.mono x9.gg r) pu) (.cons rfl .nil)
  ·rintro s1 _ G6 H6 rfl ⟨u',pt,ys,rfl,x6,m6,o6,ru,ne6⟩;replace hm:DI s1.1 ⟨s1.2⟩=some r:=hm;exact ⟨_,rfl,_,rfl,_,rfl,G6,p,q,_,ys,s1.1,⟨s1.2⟩,r,rfl,x6.gh,o6,ru,hm,fun G7 H7 xs' y o'=>k G7 H7 xs' (x6.past z0 y) o'⟩
def Fj (lay:List (Tp SI)->Nt->Option (List (Tp SI) × Int)):List Nt->List (Tp SI)->Option (List (Tp SI) × List Int)
 | [],rows=>some (rows,[])
 | a::r,rows=>(lay rows a).bind fun z=>(Fj lay r z.1).bind fun y=>some (y.1,z.2::y.2)
theorem QJ {β:Type}[Rp β](f:Tp SI->β)(hf:∀ {G:Hp}{xs:List V}{rows:List (Tp SI)},Paired (Rp.rel K G) xs rows->Paired (Rp.rel K G) xs (rows.map Rk.of)->Paired (Rp.rel K G) xs (rows.map f)){lay:List (Tp SI)->Nt->Option (List (Tp SI) × Int)}{v:V}{as:List Nt}{r:List (Tp SI) × List Int}(s:Same G H)(rv:Rp.rel K G v as)(hm:Fj lay as []=some r)
  (k:∀ v p q vs ws G2 H2,Ext G H G2 H2->H p=none->H q=none->Own2 K G2 H2 v p q vs ws (r.1.map f,r.2)->D.rt v H2) :
  Bz (GO (tLst B7) (Bm 1)) (Bz (GO Qy (Bm 2))
   (Bz (GO (Ju [1,2] (K4 K (BQ 0)) LZ (Dt (spB K lay) [] E0 (AK (BQ 1) (AK (BQ 2) (AK (BQ 0) B7))))) (Bm 3))
   (Bz (Ny (JY (AK (BQ 1) (AK (BQ 3) B7)))) By))) D [some v,none,none,none] H:=by
 refine ⟨by show 0<=sizeLine;decide,fun p hp q hq=>?_⟩
 have npq:p≠q:=fun z=>by
  rw [z] at hq;rw [AH] at hq;cases hq
 have hq0:H q=none:=by rwa [Ag (Ne.symm npq)] at hq
 have x1:Ext G H G (upd (upd H p (.lst [])) q (.dT [])):=((Ext.refl s).put hp (s.free hp)).put hq0 (s.free hq0);have o1:OwnB K G (upd (upd H p (.lst [])) q (.dT [])) p q [] []:=⟨⟨rfl,s.free hp,by rw [Ag npq];exact AH,qkC _,.nil⟩,npq,s.free hq0,AH,.nil⟩;dsimp only [Bm,Bz,GO,List.set];show Ju [1,2] (K4 K (BQ 0)) LZ (Dt (spB K lay) [] E0 (AK (BQ 1) (AK (BQ 2) (AK (BQ 0) B7)))) [some v,some (.ref p),some (.ref q),none] (upd (upd H p (.lst [])) q (.dT [])) _;refine (show IW K (K4 K (BQ 0)) [some v,some (.ref p),some (.ref q),none] G (some as) from D4 (Kp rfl rv)) G (.refl G) as rfl _ x1.gh _ fun J vs Ga Ha xa Y hz pr=>?_;intro l hl;have oa:=o1.ext xa;have xt:=x1.trans xa
 have nlp:p≠l:=fun z=>by
  rw [<- z,oa.l.h] at hl;cases hl
 have nlq:q≠l:=fun z=>by
  rw [<- z,oa.h] at hl;cases hl
 have hl0:H l=none:=xt.hh.free hl;have hla:=Paired.length pr
 have zpq:∀ b∈[p,q],H b=none:=fun b hb=>by
  rcases qnA.mp hb with e|hb
  ·rw [e];exact hp
  ·rw [qqA.mp hb];exact hq0
 refine ⟨fun i m ys H2=>m=vs.length - i/\i<=vs.length/\∃ G2 xs rows ns cs,Ext G H G2 H2/\Same Ga G2/\OwnB K G2 H2 p q xs rows/\G2 l=none/\H2 l=some (.lst ys)/\ys=ns.map V.int/\ys.length<=i/\Fj lay (as.drop i) rows=some (r.1,cs)/\r.2=ns++cs,
  ⟨vs.length,by simp,qkC _,Ga,[],[],[],r.2,xt.trans (.own xa.gh hl),Same.refl _,oa.put nlp nlq,xa.gh.free hl,AH,rfl,qgB _,hm,rfl⟩,?_⟩
 rintro i m ys H2 ⟨rfl,hi,G2,xs,rows,ns,cs,x2,m2,o2,hg,hh,hys,hy,hcs,hr⟩;by_cases hlt:i<vs.length
 ·refine .inr ⟨Y.go i _ (m2.trans x2.gh) hlt,fun ys' H'=>∃ G2 xs rows ns cs,Ext G H G2 H'/\Same Ga G2/\OwnB K G2 H' p q xs rows/\G2 l=none/\H' l=some (.lst ys')/\ys'=ns.map V.int/\ys'.length<=i+1/\Fj lay (as.drop (i+1)) rows=some (r.1,cs)/\r.2=ns++cs,
   fun ys' H' h=>⟨vs.length - (i+1),by omega,rfl,hlt,h⟩,fun x H3 y=>?_⟩
  obtain ⟨rfl,hx⟩:=Y.yld i _ x H3 (m2.trans x2.gh) hlt y;obtain ⟨a,hai,ra⟩:=Paired.getR pr hx
  have hd:as.drop i=a::as.drop (i+1):=by
   obtain ⟨h1,h2⟩:=qvA.mp hai;rw [List.drop_eq_getElem_cons h1,h2]
  rw [hd] at hcs;obtain ⟨z,hz',hcs⟩:=qaA.mp (show ((lay rows a).bind fun z=>_)=some _ from hcs);obtain ⟨y',hy',hcs⟩:=qaA.mp hcs;obtain ⟨e1,e2⟩:=Prod.mk.inj (qkB hcs);subst e2;have hy2:Fj lay (as.drop (i+1)) z.1=some (r.1,y'.2):=by rw [hy',<- e1]
  dsimp only [LZ];rw [if_pos rfl];refine ⟨_,rfl,_,rfl,_,rfl,G2,p,q,x,xs,rows,a,z,rfl,x2.gh,o2,Rp.mono m2 ra,hz',fun G4 H4 xs' y4 o4=>?_⟩
  have nin:l ∉ [p,q]:=fun hb=>by
   rcases qnA.mp hb with e|hb
   ·exact nlp e.symm
   ·exact nlq (qqA.mp hb).symm
  have e2:era H3 [p,q] l=some (.lst ys):=by rw [Jf nin];exact hh
  have hh4:=y4.hh _ _ e2;have hg4:=y4.no l hg (by rw [e2];exact fun z=>nomatch z);have xt4:=x2.past zpq y4;refine ⟨hh4,by omega,G4,xs',z.1,ns++[z.2],y'.2,xt4.put hl0 hg4,m2.trans y4.gg,o4.put nlp nlq,hg4,AH,by rw [hys,qcB];rfl,?_,hy2,by rw [hr,qdB];rfl⟩;rw [qgA,qiA];omega
 ·have e:i=vs.length:=by omega
  subst e;have hd:as.drop vs.length=[]:=List.drop_eq_nil_of_le (by omega);rw [hd] at hcs;obtain ⟨e1,e2⟩:=Prod.mk.inj (qkB (show some (rows,([]:List Int))=some (r.1,cs) from hcs));rw [<- e2,qeB] at hr;refine .inl ⟨Y.stop _ (m2.trans x2.gh),?_⟩
  have ol:Own K G2 H2 (.ref l) l ys r.2:=⟨rfl,hg,hh,by omega,by
   rw [hys,hr];clear hys hr hy hh e2
   induction ns with
   | nil=>exact .nil
   | cons a t ih=>exact .cons rfl ih⟩
  refine sv_retO2 (K:=K) (rest:=By) rfl rfl (by rw [<- e1];exact ⟨o2.l.v,o2.l.g,o2.l.h,o2.l.z,hf o2.l.p o2.t⟩:Own K G2 H2 (.ref p) p xs (r.1.map f)) ol nlp x2.gh fun v G5 H5 x5 o5=>?_;exact k v p l xs ys G5 H5 (x2.trans x5) hp hl0 o5
theorem SG {lay:List (Tp SI)->Nt->Option (List (Tp SI) × Int)}{v:V}{as:List Nt}{r:List (Tp SI) × List Int}(s:Same G H)(rv:Rp.rel K G v as)(hm:Fj lay as []=some r)
  (k:∀ v p q vs ws G2 H2,Ext G H G2 H2->H p=none->H q=none->Own2 K G2 H2 v p q vs ws r->D.rt v H2) :
  Bz (GO (tLst B7) (Bm 1)) (Bz (GO Qy (Bm 2))
   (Bz (GO (Ju [1,2] (K4 K (BQ 0)) LZ (Dt (spB K lay) [] E0 (AK (BQ 1) (AK (BQ 2) (AK (BQ 0) B7))))) (Bm 3))
   (Bz (Ny (JY (AK (BQ 1) (AK (BQ 3) B7)))) By))) D [some v,none,none,none] H :=
 QJ id (fun h _=>by rw [List.map_id];exact h) s rv hm fun v p q vs ws G2 H2 x h1 h2 o=>k v p q vs ws G2 H2 x h1 h2 (by rw [List.map_id] at o;exact o)
end
def QG:D->Option (Tp D)
 | .tup l=>some ⟨l⟩
 | _=>none
def rSumG (K:FZ9):List V->Hp->VK->Prop:=fun vs H Q=>∃ (l:Addr) (ns:List Int),vs=[.ref l]/\SqL K H l (ns.map V.int)/\Q (.int ns.sum) H
theorem SX {X:Cx}{K:FZ9}(hc:X.calm=true)(h:X.K=K):CW X (.builtin "sum") (rSumG K):=by
 subst h;intro pins s σ H vs us Q I r h;obtain ⟨l,ns,rfl,hl,q⟩:=h;obtain ⟨u,rfl,ru⟩:=Ev r;cases ru;obtain ⟨its,rv,pl,_⟩:=I.list hl;have hL:=pl.isList;have hlt:l<s.heap.objs.size:=by obtain ⟨_,e,_⟩:=hL;exact qmB e
 have hlen:=rv.length;rw [qfA] at hlen;refine call_sum_walkG (wpAny_pyIter_list hL ?_);refine ⟨_,_,_,_,_,_,fun i=>ns.getD i 0,rfl,Walks.list (A:=X.A.in1) (I.ok.hd hc) _ l (qdC hlt) its.toArray,⟨⟨_,qoB _ rfl,rfl,rfl⟩,hL.push _⟩,?_,?_,fun h' tk' t' hk=>?_⟩
 ·intro b hb';have:b=s.heap.objs.size\/b=l:=by simpa using hb'
  rcases this with rfl|rfl
  ·exact qmB (qoB _ rfl)
  ·exact Nat.lt_trans hlt (qmB (qoB _ rfl))
 ·intro i v hP;exact ints_atF rv hP
 ·rw [JJ ns _ (by rw [qvB];omega),List.take_of_length_le (by rw [qvB];omega)];refine ⟨.int _,H,I.kept fun b o eb=>?_,⟨t',rfl⟩,q⟩;refine hk b o (fun hm=>?_) (qnB _ eb);have:b=s.heap.objs.size:=by simpa using hm
  exact absurd (this ▸ qmB eb) (qiB _)
section
variable {K:FZ9}{σ:St}{G:Hp}{te ta:TE}
theorem ev_sumG {lb:Option (List Int)}(ea:EV K ta σ G lb):EV K (tCB (rSumG K) (AK ta B7)) σ G (lb.bind fun ns=>some ns.sum):=by
 clear 7;obtain ⟨ns,hns,hc⟩:=qaA.mp hc;cases hc;clear 8 ea ns hns;obtain ⟨l,xs,rfl,h,z,p⟩:=r2;cases Cz p;exact ⟨l,ns,rfl,.inl (x2.gh.rd h),k _ _ _ x2 rfl⟩
theorem TN {md:Option D}(e:EV K te σ G md):EV K te σ G (md.bind fun d=>QG d):=by
 clear 7;obtain ⟨d,hd,hc⟩:=qaA.mp hc;refine e G1 s1 d hd H sH Q fun v G2 H2 x r=>?_
 cases d with
 | tup l =>
  cases hc
  cases r with
  | tup h z r=>exact k _ _ _ x ⟨_,_,rfl,h,z,EE r⟩
 | _=>cases hc
end
section
variable {K:FZ9}{σ:St}{G H:Hp}{α:Type}[Rp α]{tk:TE}{rest:TS}{D:Ends}{i:Nat}{b:Tp α}{as as':List α}{v:V}{p:Addr}{vs:List V}
theorem QL {m:α × Unit->Option (Tp α)}{mi:Option Int}(hσ:σ[i]? = some (some v))(o:Own K G H v p vs as)(ek:EV K tk σ G mi)(hm:((mi.bind fun y=>atI as y).bind fun z=>m (z,()))=some b)(hp:extO as b.l=some as')(s:Same G H)
  (k:∀ G2 H2 ws,Ext G H G2 H2->Own K G2 (upd H2 p (.lst (vs++ws))) v p (vs++ws) as'->rest D σ (upd H2 p (.lst (vs++ws)))) :
  Bz (KZ (tBM K "list" (Oy K) (BQ i) (AK (Dt (spM K m) [] E0 (AK (tOp (rAt K) (BQ i) tk) B7)) B7))) rest D σ H:=by
 obtain ⟨hl,rfl⟩:=B4 hp;have hlen:=Paired.length o.p;have ov:=o.v;subst ov;refine bE hm fun a ha hm=>?_;obtain ⟨j,hj,ha⟩:=qaA.mp ha;refine ⟨_,hσ,.inl ⟨rfl,_,SqL.of o.h⟩,?_⟩;refine ⟨_,hσ,?_⟩;refine ek.run hj s fun u G1 H1 x1 r1=>?_;cases r1;have o1:=o.ext x1;obtain ⟨w,hw,rw⟩:=DN o1.p ha;refine .inl ⟨vs,w,SqL.of o1.h,hw,?_⟩;refine ⟨G1,(a,()),b,x1.gh,⟨w,_,rfl,rw,rfl⟩,hm,fun u2 G2 H2 x2 r2=>?_⟩;have x:=x1.trans x2;have o2:=o.ext x;obtain ⟨q,ws,rfl,hq,hz,hpr⟩:=r2;have hlw:=Paired.length hpr;refine ⟨p,q,vs,ws,rfl,rfl,o2.h,x.gh.tup hq,by omega,?_⟩;refine k G2 H2 ws x ⟨rfl,o2.g,AH,?_,Paired.app o2.p hpr⟩;rw [qgA];omega
end
section
variable {κ:PyProof.Rows.KeyKind}
def ky (κ:PyProof.Rows.KeyKind)(p:Keyed):κ.α:=(κ.keyOf p.1).getD κ.dflt
variable {prog:Program}{w:World}{A:Around}{E:Value->Shared->Prop}{s:Shared}
end
section
variable {κ:PyProof.Rows.KeyKind}
def kl (κ:PyProof.Rows.KeyKind)(x y:Keyed):Prop:=κ.kle (ky κ x) (ky κ y)
end
def sg (st:SortSt)(g:Nat):SortSt:=SortSt.mk' (kindOf st) (arrOf st) (pendingOf st) g (failedOf st)
end L2
set_option maxHeartbeats 2000000
namespace L2
open PySem PySem.Spec PyProof.Rows
end L2
set_option maxHeartbeats 2000000
namespace L2
open PySem PySem.Spec PyProof.Rows
end L2
set_option maxHeartbeats 2000000
namespace L2
open PySem PySem.Spec PyProof.Rows
end L2
set_option maxHeartbeats 2000000
namespace L2
open PySem PySem.Spec PyProof.Rows
end L2
set_option maxHeartbeats 2000000
namespace L2
open PySem PySem.Spec PyProof.Rows
end L2
set_option maxHeartbeats 2000000
namespace L2
open PySem PySem.Spec PyProof.Rows
end L2
set_option maxHeartbeats 2000000
namespace L2
open PySem PySem.Spec PyProof.Rows
end L2
set_option maxHeartbeats 2000000
namespace L2
open PySem PySem.Spec PyProof.Rows
section
variable {κ:PyProof.Rows.KeyKind}{prog:Program}{w:World}{A:Around}{E:Value->Shared->Prop}{s:Shared}
abbrev mk (X:Array Keyed)(p:Array (Nat × Nat × Nat))(g:Nat):SortSt:=SortSt.mk' oneType' X p g none
end
end L2
set_option maxHeartbeats 2000000
namespace L2
open PySem PySem.Spec PyProof.Rows
end L2
set_option maxHeartbeats 2000000
namespace L2
open PySem PySem.Spec PyProof.Rows
structure MpR (α:Type) where
 l:List (Rk × α)
class RpC (γ:Type) [Rp γ] where
 P:FZ9->Hp->HO->γ->Prop
 mono:∀ {K:FZ9}{G G':Hp}{ho:HO}{a:γ},Same G G'->P K G ho a->P K G' ho a
 rel:∀ {K:FZ9}{G:Hp}{ho:HO}{a:γ}{q:Addr},P K G ho a->G q=some ho->Rp.rel K G (.ref q) a
def OU:V->List V->Hp->VK->Prop:=fun x vs H Q=>∃ l b xs zs,x = .ref l/\vs=[.ref b]/\H l=some (.lst xs)/\Rd H b (.lst zs)/\xs.length+zs.length<=sizeLine/\Q .non (upd H l (.lst (xs++zs)))
theorem Q4 {X:Cx}:MtM X "list.extend" OU:=by
 intro pins s σ H x vs v us Q I rx rv h;obtain ⟨l,b,xs,zs,rfl,rfl,hH,hB,hz,q⟩:=h;cases rx;obtain ⟨u,rfl,ru⟩:=rv.one;cases ru;obtain ⟨z,its,n,r,hl,e⟩:=I.lstM hH;obtain ⟨z2,its2,n2,r2,e2⟩:=hB.ok I.hok;have hl2:=r2.length;have hsz:its.toArray.size+its2.toArray.size<=sizeLine:=by rw [qvB,qvB];omega
 have hlong:¬ (!its.toArray.isEmpty && Builtin.List.listTooLong (its.toArray.size+its2.toArray.size))=true:=by
  rw [Ki hsz,Bool.and_false];exact quB
 refine call_meets F.slot_list_extend ⟨_,e,rfl⟩ F.entry_list_extend (F.args_list_extend_2 _ _)
  (AutoSeq1.list_extend_list_list_0 l its.toArray n b its2.toArray n2 hlong (by rw [qvB];omega) (by omega)) ⟨e,e2,?_⟩
 refine ⟨.non,_,I.lset (its':=its++its2) hH e (by simp) (r.append r2) ?_,rfl,q⟩;rw [qgA];omega
section
variable {K:FZ9}{σ:St}{G H:Hp}{α:Type}[Rp α]{te:TE}{rest:TS}{D:Ends}{i:Nat}
theorem R8 {ml:Option (List α)}{as bs as':List α}{v:V}{p:Addr}{vs:List V}(hσ:σ[i]? = some (some v))(o:Own K G H v p vs as)(e:EV K te σ G ml)(hm:ml=some bs)(hp:extO as bs=some as')(s:Same G H)
  (k:∀ G2 H2 ws,Ext G H G2 H2->Own K G2 (upd H2 p (.lst (vs++ws))) v p (vs++ws) as'->rest D σ (upd H2 p (.lst (vs++ws)))):Bz (KZ (tBM K "list" OU (BQ i) (AK te B7))) rest D σ H:=by
 obtain ⟨hl,rfl⟩:=B4 hp;have hlen:=Paired.length o.p;obtain ⟨rfl,og,oh,oz,op⟩:=o;refine ⟨_,hσ,.inl ⟨rfl,_,SqL.of oh⟩,?_⟩;refine e.run hm s fun w G2 H2 x r=>?_;obtain ⟨q,ws,rfl,hh,hz,hpr⟩:=r;have hlw:=Paired.length hpr;refine ⟨p,q,vs,ws,rfl,rfl,x.hh _ _ oh,x.gh.rd hh,by omega,?_⟩;refine k G2 H2 ws x ⟨rfl,x.no p og (by rw [oh];exact fun z=>nomatch z),AH,?_,Paired.app (Paired.imp' (fun _ _ r=>Rp.mono x.gg r) op) hpr⟩;rw [qgA];omega
end
section
variable {K:FZ9}{σ:St}{G H:Hp}{α:Type}[Rp α]{te ti ta:TE}{rest:TS}{D:Ends}{i:Nat}{v:V}{p:Addr}{vs:List V}{as:List α}{w:World}
def rLenM:List V->Hp->VK->Prop:=fun vs H Q=>∃ p kvs,vs=[.ref p]/\Rd H p (.dK kvs)/\Q (.int (kvs.length:Int)) H
theorem TB {X:Cx}:CW X (.builtin "len") rLenM:=by
 intro pins s σ H vs us Q I r h;obtain ⟨p,kvs,rfl,hH,q⟩:=h;obtain ⟨u,rfl,ru⟩:=Ev r;cases ru;exact d_len I hH fun t s' I'=>⟨.int (kvs.length:Int),H,I',⟨t,rfl⟩,q⟩
end
def blIs (b:Bool):Value->Bool
 | .bool c=>c == b
 | _=>false
theorem DX {b:Bool}{v:Value}(h:blIs b v=true):v = .bool b:=by
 cases v with
 | bool c=>rw [eq_of_beq (show (c == b)=true from h)]
 | _=>exact nomatch h
theorem TC (b:Bool):blIs b (.bool b)=true:=beq_self_eq_true b
def blH (b:Bool):Int:=reduceHash (if b then 1 else 0)
section
variable {prog:Program}{w:World}{A:Around}{E:Value->Shared->Prop}{s:Shared}
theorem hash_bl {b:Bool}{Q:Int->Shared->Prop}(h:Q (blH b) { s with toks:=s.toks+1 }):wpAny (model prog w) A (pyHash (.bool b)) Q E s:=by
 unfold pyHash;refine PySem.W.pyHash_slot (T := "bool") rfl F.slot_bool_hash entry_int_hash (args_int_hash _) (beq_builtin_none _) (.inl rfl) ?_;cases b
 ·exact (show wpAny _ _ (do ret (<- mkInt 0)) _ _ s from qbA (wpAny_mkInt (qcA ⟨_,_,rfl,h⟩)))
 ·exact (show wpAny _ _ (do ret (<- mkInt 1)) _ _ s from qbA (wpAny_mkInt (qcA ⟨_,_,rfl,h⟩)))
theorem decB_eq (a b:Bool):decide (a=b)=(a == b):=by cases a<;>cases b<;>rfl
end
def CD (prog:Program)(w:World):PySem.KeyKind prog w Bool where
 is:=blIs
 hash:=blH
 inj:=fun v a b ha hb=>by
  have h1:=DX ha;have h2:=DX hb;rw [h1] at h2;exact Value.bool.inj h2
 byValue:=fun k v h=>by rw [DX h];rfl
 pyHash:=fun hv h=>by rw [DX hv];exact hash_bl h
 eqBool:=fun hu hv h=>by
  rw [DX hu,DX hv];refine SeqAt.EqAt.bool_bool _ _ _ _ _ _ ?_;rw [<- decB_eq];exact h
 «strs»:=fun k x t v h=>nomatch h
def entB (x:List Bool × Addr × Value):DictEntry:=⟨reduceHash (Builtin.Tuple.tupleHashOf (x.1.map blH)),.ref x.2.1,x.2.2⟩
def DbP (h:Heap)(p:Addr)(xs:List (List Bool × Addr × Value)):Prop :=
 ∃ o es ep,h.get? p=some o/\o.ExactDict/\o.data = .dict es ep/\es.toList=xs.map entB/\(xs.map (·.1)).Nodup
def DbO (p:Addr)(xs:List (List Bool × Addr × Value)):HO:=.ext fun h=>DbP h p xs
theorem dbO_ok {P:Program}{w:World}{H:Hp}{h:Heap}{p:Addr}{xs:List (List Bool × Addr × Value)}(x:DbP h p xs):ObjOk P w H h p (DbO p xs):=by
 refine ⟨x,?_,fun h1 h2 a b=>?_⟩
 ·obtain ⟨o,_,_,g,_⟩:=x;exact ⟨o,g⟩
 ·obtain ⟨o,es,ep,g,r⟩:=a;exact ⟨o,es,ep,b _ g,r⟩
theorem dbO_get {P:Program}{w:World}{H:Hp}{h:Heap}{p:Addr}{xs:List (List Bool × Addr × Value)}(x:HOk P w H h)(e:H p=some (DbO p xs)):DbP h p xs:=(x p _ e).1
structure MpT where
 l:List (Tp Bool × Int)
def RelT (K:FZ9)(H:Hp)(x:List Bool × Addr × Value)(q:Tp Bool × Int):Prop:=x.1=q.1.l/\Rp.rel K H (.ref x.2.1) q.1/\RelV (.int q.2) x.2.2
theorem RelT.mono {K:FZ9}{H H2:Hp}(s:Same H H2){x:List Bool × Addr × Value}{q:Tp Bool × Int}(r:RelT K H x q):RelT K H2 x q:=⟨r.1,Rp.mono s r.2.1,r.2.2⟩
instance rpMpT:Rp MpT:=⟨fun K H v a=>∃ p xs,v = .ref p/\H p=some (DbO p xs)/\Paired (RelT K H) xs a.l,
 fun s ⟨p,xs,e,h,pr⟩=>⟨p,xs,e,s _ _ h,Paired.imp' (fun _ _ r=>r.mono s) pr⟩⟩
theorem bls_eq {K:FZ9}{H:Hp}:∀ {xs:List V}{l:List Bool},Paired (Rp.rel K H) xs l->xs=l.map V.bl
 | _,_,.nil=>rfl
 | _,_,.cons h t=>by
  rw [qbB,<- bls_eq t];exact congrArg (·::_) h
theorem MN {P:Program}{w:World}:∀ {l:List Bool}{us:List Value},Vals (l.map V.bl) us->ItemsAre (CD P w) l us
 | [],_,.nil=>.nil
 | b::l,_,.cons h t=>by
  cases (show _=Value.bool b from h);exact .cons (TC b) (MN t)
section
variable {X:Cx}{pins:List (Addr × Obj)}{σ:St}{H:Hp}{s:Shared}
theorem NG {t:Addr}{q:Tp Bool}(I:Inv X pins σ H s)(r:Rp.rel X.K H (.ref t) q):(tupleKind (CD X.prog X.w)).is s.heap q.l t:=by
 obtain ⟨t',xs,e,h,_,p⟩:=r;cases e;rw [bls_eq p] at h;obtain ⟨its,rv,⟨o,h1,h2,n,h3⟩,_⟩:=I.tuple h;exact ⟨o,its.toArray,n,h1,h2,h3,MN rv⟩
theorem dbH_of {p:Addr}{xs:List (List Bool × Addr × Value)}{l:List (Tp Bool × Int)}(I:Inv X pins σ H s)(e:H p=some (DbO p xs))(pr:Paired (RelT X.K H) xs l):s.heap.DictOfH (tupleKind (CD X.prog X.w)) p xs:=by
 obtain ⟨o,es,ep,g,h1,h2,h3,h4⟩:=dbO_get I.hok e;refine ⟨o,es,ep,g,h1,h2,h3,fun x hx=>?_,h4⟩
 have all:∀ {xs:List (List Bool × Addr × Value)}{l:List (Tp Bool × Int)},Paired (RelT X.K H) xs l->∀ x∈xs,(tupleKind (CD X.prog X.w)).is s.heap x.1 x.2.1:=by
  intro xs l q
  induction q with
  | nil=>intro x hx;exact nomatch hx
  | @cons p q ps qs hq t ih =>
   intro x hx;rcases qnA.mp hx with e|hx
   ·subst e;rw [hq.1];exact NG I hq.2.1
   ·exact ih x hx
 exact all pr x hx
end
theorem Ma:typeLookup (.type "list") "keys" = pure none:=by rw [typeLookup_type,qwB];kernel_rfl
section
variable {prog:Program}{w:World}{A:Around}{E:Value->Shared->Prop}{s:Shared}
theorem O5 {l:Addr}{its:Array Value}{n:Nat}{sl:Array (Option Value)}(u:Tok){P:PySem.Fin->Shared->Prop}{R:Value->Shared->Prop}(hh:A.handled=none)(hx:s.heap.get? l=some { cls:=.type "list",dict:=none,data:=.seq its n,slots:=sl })
  (hR:∀ h' tk e,Heap.NewAttrErr s.heap h' e (.ref l) "keys" -> R (.ref e) { s with heap:=h',toks:=tk }) :
  wpAny (model prog w) A (Builtin.«object.__getattribute__» ⟨[.ref l,.str "keys" u],[]⟩) P R s:=by
 obtain ⟨h,g,d,t,os⟩:=s;have hT:(⟨h,g,d,t,os⟩:Shared).TypeIs (.ref l) "list" := ⟨_,hx,rfl⟩;have q1:=Ma;unfold Builtin.«object.__getattribute__»
 repeat (any_goals (first|assumption|wp_step))
 exact wpAny_raiseAttrError hh hR (attrMsg_fits (by decide +kernel) (by decide))
theorem KA {l:Addr}{its:Array Value}{Q:Option Value->Shared->Prop}(hh:A.handled=none)(hx:PlainL s.heap l its)(hQ:∀ h' tk,(∀ b o,s.heap.get? b=some o->h'.get? b=some o)->Q none { s with heap:=h',toks:=tk }) :
  wpAny (model prog w) A (getAttr? (.ref l) "keys") Q E s:=by
 obtain ⟨⟨c,dct,dat,sl⟩,n,ho,hc,hd,hdd⟩:=hx;simp only at hc hd hdd;subst hc hd hdd;obtain ⟨h,g,d,t,os⟩:=s;have hT:∀ tk',(⟨h,g,d,tk',os⟩:Shared).TypeIs (.ref l) "list" := fun _=>⟨_,ho,rfl⟩;have f1:=sub_AttributeError;have f3:=F.slot_list_getattribute.lookup;have f4:=F.slot_list_getattribute.bind (.ref l);have f5:=am_list_getattr_none;unfold getAttr? getAttrBy? getAttrBy
 repeat (any_goals (first|assumption|exact hT _|wp_step))
 refine codeAny_call_builtin F.slot_list_getattribute.plain am_entry_list_getattribute (F.slot_list_getattribute.check _ _ _ _ _ _ _ _ (hT _) (F.args_list_getattribute_2 _ _) (O5 (s:=⟨h,g,d,t+1,os⟩) t (by simpa using hh) ho fun h' tk e hx'=>?_));obtain ⟨t',u',he⟩:=hx'.there;show wpAny _ _ (getattributeRaised _ _ _ _ _ _ _) _ _ _;unfold getattributeRaised
 repeat (any_goals (first|assumption|wp_step))
 exact hQ h' tk hx'.keeps
theorem tup_keep {h h':Heap}{a:Addr}{items:Array Value}(k:∀ c o,h.get? c=some o->h'.get? c=some o)(x:IsTup h a items):IsTup h' a items:=by
 obtain ⟨o,g,r⟩:=x;exact ⟨o,k _ _ g,r⟩
theorem RF {h h':Heap}{ks:List Bool}{a:Addr}(k:∀ c o,h.get? c=some o->h'.get? c=some o)(x:(tupleKind (CD prog w)).is h ks a):(tupleKind (CD prog w)).is h' ks a:=by
 obtain ⟨o,items,n,g,r⟩:=x;exact ⟨o,items,n,k _ _ g,r⟩
theorem LR {h h':Heap}{d:Addr}{xs:List (List Bool × Addr × Value)}(D:h.DictOfH (tupleKind (CD prog w)) d xs)(g:∀ o,h.get? d=some o->h'.get? d=some o)(his:∀ x∈xs,(tupleKind (CD prog w)).is h' x.1 x.2.1):h'.DictOfH (tupleKind (CD prog w)) d xs:=by
 obtain ⟨o,es,ep,g1,h1,h2,h3,_,h4⟩:=D;exact ⟨o,es,ep,g _ g1,h1,h2,h3,his,h4⟩
def ItemsB (prog:Program)(w:World)(h:Heap)(items:Array Value)(xs:List (List Bool × Addr × Value)):Prop :=
 items.size=xs.length/\(xs.map (·.1)).Nodup/\xs.length<=sizeLine/\∀ (j:Nat) (x:List Bool × Addr × Value),xs[j]? = some x->∃ t,items[j]? = some (.ref t)/\IsTup h t #[.ref x.2.1,x.2.2]/\(tupleKind (CD prog w)).is h x.1 x.2.1
theorem dt_loop {R:Result->Shared->Prop}{h0:Heap}{it l dd:Addr}{items:Array Value}{xs:List (List Bool × Addr × Value)}(hh:A.handled=none)(hu:A.units+1<cLine)(n1:h0.get? it=none)(n2:h0.get? dd=none)(ne:it≠dd)(hl:h0.IsList l items)(hi:ItemsB prog w h0 items xs) :
  ∀ (n i:Nat) (s:Shared),xs.length - i=n->i<=xs.length->(∀ c o,h0.get? c=some o->s.heap.get? c=some o)->s.heap.IsListIter it l i->s.heap.DictOfH (tupleKind (CD prog w)) dd (xs.take i) ->
   (∀ h' tk,(∀ c o,c≠it->c≠dd->s.heap.get? c=some o->h'.get? c=some o)->h'.DictOfH (tupleKind (CD prog w)) dd xs->R (.ok (.ret .none)) { s with heap:=h',toks:=tk }) ->
   codeAny (model prog w) A (.builtin "dict.update.loop" ⟨[.ref dd,.ref it,rawInt i,.none],[]⟩) R s:=by
 obtain ⟨hsz,hnd,hb,hit⟩:=hi
 have isk:∀ {h':Heap},(∀ c o,h0.get? c=some o->h'.get? c=some o)->∀ x∈xs,(tupleKind (CD prog w)).is h' x.1 x.2.1:=by
  intro h' kp x hx;obtain ⟨j,hj⟩:=List.getElem?_of_mem hx;obtain ⟨t,_,_,q⟩:=hit j x hj;exact RF kp q
 intro n
 induction n with
 | zero =>
  intro i s e1 e2 kp Z Dd hR;have ei:i=xs.length:=by omega
  subst ei;refine codeAny_builtin Dh ?_;rw [Around.under_plainId Ba _];show wpAny _ A.in1 (pyNext (.ref it) >>= _) _ _ s;refine qbA (wpAny_pyNext_list_end (by simpa using hh) Z (hl.at fun o q=>kp _ _ q) (Array.getElem?_eq_none (by omega)) fun h' eb=>?_);show wpAny _ A.in1 (Builtin.Dict.addKeywords dd [] >>= _) _ _ _;have k2:∀ c o,c≠it->s.heap.get? c=some o->h'.get? c=some o:=fun c o hc e=>eb c o hc e;rw [List.take_length] at Dd;refine qbA (qcA (qcA (hR h' s.toks (fun c o hc _ e=>k2 c o hc e) ?_)));exact LR Dd (fun o q=>k2 _ _ (Ne.symm ne) q) (isk fun c o q=>k2 c o (fun z=>by rw [z,n1] at q;exact nomatch q) (kp c o q))
 | succ n ih =>
  intro i s e1 e2 kp Z Dd hR;have hlt:i<xs.length:=by omega
  obtain ⟨t,ht,htt,hk⟩:=hit i xs[i] (qwA hlt);refine codeAny_builtin Dh ?_;rw [Around.under_plainId Ba _];show wpAny _ A.in1 (pyNext (.ref it) >>= _) _ _ s;refine qbA (wpAny_pyNext_list_item Z (hl.at fun o q=>kp _ _ q) ht fun h₁ Z₁ sb=>?_);have kp1:∀ c o,h0.get? c=some o->h₁.get? c=some o:=fun c o q=>(sb.2 c (fun z=>by rw [z,n1] at q;exact nomatch q)).trans (kp c o q);have Dd₁:h₁.DictOfH (tupleKind (CD prog w)) dd (xs.take i):=LR Dd (fun o q=>(sb.2 _ (Ne.symm ne)).trans q) fun x hx=>isk kp1 x (List.mem_of_mem_take hx);obtain ⟨o,g,hc,m,hd⟩:=tup_keep kp1 htt;show wpAny _ A.in1 (holding [Value.ref t] _ >>= _) _ _ _;refine qbA (qeA (qbA (wpAny_tryCatch ?_)));unfold Builtin.Dict.pairItems;refine qbA (wpAny_typeOf (T := "tuple") ⟨o,g,hc⟩ ?_);have hty:(Value.type "tuple" == Value.type "tuple")=true:=by rfl
  rw [if_pos (by rw [hty];simp)];refine qbA (wpAny_seqItems (s:={ s with heap:=h₁ }) g hd (qcA ?_));dsimp only;show wpAny _ A.in1 (holding [Value.ref xs[i].2.1,xs[i].2.2] (dictSet dd (Value.ref xs[i].2.1) xs[i].2.2)) _ _ _;refine qeA (wpAny_dictSet_heap (s:={ s with heap:=h₁ }) (tupleKind_room_in1 hu) (RF kp1 hk) Dd₁ (fun h₂ D₂ s₂=>?_) (by rw [qkA];omega));replace s₂:Heap.SameBut dd h₁ h₂:=s₂;have kp2:∀ c o,h0.get? c=some o->h₂.get? c=some o:=fun c o q=>(s₂.2 c (fun z=>by rw [z,n2] at q;exact nomatch q)).trans (kp1 c o q)
  have hno:atKey (xs.take i) xs[i].1=none:=by
   refine atKey_none_of_get fun j p hj=>?_
   have hji:j<i:=by
    obtain ⟨hj',_⟩:=qvA.mp hj;rw [qkA] at hj';omega
   rw [List.getElem?_take_of_lt hji] at hj;have a1:(xs.map (·.1))[j]? = some xs[i].1:=by rw [qzA,hj];rfl
   have a2:(xs.map (·.1))[i]? = some xs[i].1:=by rw [qzA,qwA hlt];rfl
   have:=(List.getElem?_inj (i:=j) (j:=i) (by rw [qfA];omega) hnd).mp (a1.trans a2.symm);omega
  have D3:h₂.DictOfH (tupleKind (CD prog w)) dd (xs.take (i+1)):=by
   rw [List.take_succ_eq_append_getElem hlt];rw [storedH_new hno] at D₂;exact D₂
  have Z₂:h₂.IsListIter it l (i+1):=by
   obtain ⟨o',g',r'⟩:=Z₁;exact ⟨o',(s₂.2 _ ne).trans g',r'⟩
  refine qcA ⟨plainId_quiet Ba _,ih (i+1) _ (by omega) hlt kp2 Z₂ D3 fun h' tk kp' Df=>?_⟩;exact hR h' tk (fun c o hc1 hc2 e=>kp' c o hc1 hc2 ((s₂.2 c hc2).trans ((sb.2 c hc1).trans e))) Df
theorem NP {Q:Value->Shared->Prop}{l:Addr}{items:Array Value}{xs:List (List Bool × Addr × Value)}(hh:A.handled=none)(hu:A.units+8<cLine)(hx:PlainL s.heap l items)(hi:ItemsB prog w s.heap items xs)
  (h:∀ h' tk,(∀ c o,s.heap.get? c=some o->h'.get? c=some o)->h'.DictOfH (tupleKind (CD prog w)) s.heap.objs.size xs->Q (.ref s.heap.objs.size) { s with heap:=h',toks:=tk }) :
  wpAny (model prog w) A (call (.type "dict") [.ref l]) Q E s:=by
 refine callType_codes (Q₁:=fun obj s₁=>obj = .ref s.heap.objs.size/\s₁ = { s with heap:=s.heap.push { cls:=.type "dict",data:=.dict #[] } }) F.kt_called_dict (F.kt_typeCall_dict_1 _) F.entry_dict_init (kt_code_dict_new _ ⟨rfl,rfl⟩) ?_;rintro obj s₁ ⟨rfl,rfl⟩;have new:(s.heap.push { cls:=.type "dict",data:=.dict #[] }).DictOfH (tupleKind (CD prog w)) s.heap.objs.size []:=Heap.DictOfH.new s.heap;have k0:∀ c o,s.heap.get? c=some o->(s.heap.push { cls:=.type "dict",data:=.dict #[] }).get? c=some o:=fun c o q=>qnB _ q;obtain ⟨ol,nl,gl,rl⟩:=id hx;refine ⟨new.typeIs,F.args_dict_init_2 _ _,?_⟩;unfold Builtin.«dict.__init__»;refine qbA ?_;unfold Builtin.Dict.selfAndRest;refine qbA (wpAny_notOrdered_dict new.typeIs ?_);show wpAny _ _ (pure (s.heap.objs.size,[Value.ref l])) _ _ _;refine qcA ?_;show wpAny _ _ (Builtin.Dict.updateFrom "dict.__init__" s.heap.objs.size (.ref l) [] .none) _ _ _;unfold Builtin.Dict.updateFrom;refine qbA (wpAny_typeOf (T := "list") ⟨_,k0 _ _ gl,rl.1⟩ ?_);rw [if_pos (by decide)];refine qbA (KA (its:=items) (by simpa using hh) ⟨ol,nl,k0 _ _ gl,rl⟩ fun h₁ t₁ kp=>?_);rw [if_pos (show (none:Option Value).isNone=true from rfl)];refine qbA (qdA ?_);have kp1:∀ c o,s.heap.get? c=some o->h₁.get? c=some o:=fun c o q=>kp _ _ (k0 _ _ q);have il:s.heap.IsList l items:=hx.isList;refine qbA (wpAny_pyIter_list (s:=_) (il.at fun o q=>kp1 _ _ q) ?_)
 have d1:s.heap.objs.size<h₁.objs.size:=by
  obtain ⟨o,_,_,g,_⟩:=new;exact qmB (kp _ _ g)
 have kp2:∀ c o,h₁.get? c=some o->(h₁.push { cls:=.type "list_iterator",data:=.fields #[.ref l,.int 0 0] }).get? c=some o:=fun c o q=>qnB _ q
 have n1:s.heap.get? h₁.objs.size=none:=by
  cases e:s.heap.get? h₁.objs.size with
  | none=>rfl
  | some o=>exact absurd (qmB (kp1 _ _ e)) (qiB _)
 have n2:s.heap.get? s.heap.objs.size=none:=by
  cases e:s.heap.get? s.heap.objs.size with
  | none=>rfl
  | some o=>exact absurd (qmB e) (qiB _)
 refine qcA ⟨?_,dt_loop (h0:=s.heap) (items:=items) (xs:=xs) (it:=h₁.objs.size) (l:=l) (dd:=s.heap.objs.size) (by simpa using hh) ?_ n1 n2 (fun z=>by replace z:@Eq Nat _ _:=z;omega) il hi _ 0 _ rfl (qkC _) (fun c o q=>kp2 _ _ (kp1 _ _ q)) ⟨_,qoB _ rfl,rfl,rfl⟩ (LR new (fun o q=>kp2 _ _ (kp _ _ q)) fun x hx=>nomatch hx) fun h' tk kp' Df=>?_⟩
 ·exact plainId_quiet Ba _
 ·simp only [Around.in1];omega
 ·refine ⟨rfl,h h' tk (fun c o e=>kp' c o ?_ ?_ (kp2 _ _ (kp1 _ _ e))) Df⟩
  ·intro z;rw [z,n1] at e;exact nomatch e
  ·intro z;rw [z,n2] at e;exact nomatch e
end
structure T5 (α β γ δ ε:Type) where
 a:α
 b:β
 c:γ
 d:δ
 e:ε
instance rpT5 {α β γ δ ε:Type}[Rp α][Rp β][Rp γ][Rp δ][Rp ε]:Rp (T5 α β γ δ ε) :=
 ⟨fun K H v p=>∃ t a b c d e,v = .ref t/\SqT K H t [a,b,c,d,e]/\Rp.rel K H a p.a/\Rp.rel K H b p.b/\Rp.rel K H c p.c/\Rp.rel K H d p.d/\Rp.rel K H e p.e,
  fun s ⟨t,a,b,c,d,f,e,h,r1,r2,r3,r4,r5⟩=>⟨t,a,b,c,d,f,e,s.tup h,Rp.mono s r1,Rp.mono s r2,Rp.mono s r3,Rp.mono s r4,Rp.mono s r5⟩⟩
section
variable {K:FZ9}{σ:St}{G H G1 H1 G0 H0:Hp}{α β γ δ ε:Type}[Rp α][Rp β][Rp γ][Rp δ][Rp ε]{ta tb tc td te:TE}{rest:TS}{D:Ends}{ma:Option α}{mb:Option β}{mc:Option γ}{md:Option δ}{me:Option ε}
theorem ev_tup5 (ea:EV K ta σ G ma)(eb:EV K tb σ G mb)(ec:EV K tc σ G mc)(ed:EV K td σ G md)(ee:EV K te σ G me):EV K (JY (AK ta (AK tb (AK tc (AK td (AK te B7)))))) σ G (ma.bind fun a=>mb.bind fun b=>mc.bind fun c=>md.bind fun d=>me.bind fun e=>some (T5.mk a b c d e)):=by
 clear 7;obtain ⟨a,ha,hc⟩:=qaA.mp hc;obtain ⟨b,hb,hc⟩:=qaA.mp hc;obtain ⟨c',hc',hc⟩:=qaA.mp hc;obtain ⟨d,hd,hc⟩:=qaA.mp hc;obtain ⟨e,he,hc⟩:=qaA.mp hc;cases hc;clear 8 ea a ha;refine eb G2 (s1.trans x2.gg) b hb H2 x2.gh _ fun u G3 H3 x3 r3=>?_;refine ec G3 (s1.trans (x2.trans x3).gg) c' hc' H3 x3.gh _ fun w G4 H4 x4 r4=>?_;refine ed G4 (s1.trans ((x2.trans x3).trans x4).gg) d hd H4 x4.gh _ fun y G5 H5 x5 r5=>?_;refine ee G5 (s1.trans (((x2.trans x3).trans x4).trans x5).gg) e he H5 x5.gh _ fun z G6 H6 x6 r6=>⟨by show 5<=sizeLine;decide,fun p h=>?_⟩;have s:=Same.new (o:=.tup [v,u,w,y,z]) (x6.gh.free h);exact k _ _ _ (((((x2.trans x3).trans x4).trans x5).trans x6).trans (.new x6.gh h)) ⟨p,v,u,w,y,z,rfl,SqT.of AH,Rp.mono ((((x3.trans x4).trans x5).trans x6).gg.trans s) r2,Rp.mono (((x4.trans x5).trans x6).gg.trans s) r3,Rp.mono ((x5.trans x6).gg.trans s) r4,Rp.mono (x6.gg.trans s) r5,Rp.mono s r6⟩
theorem sv_turn5 {i j k l m:Nat}{a:T5 α β γ δ ε}{x:V}{tb:TS}(r:Rp.rel K G x a)(s:Same G H)(q:∀ v1 v2 v3 v4 v5,Rp.rel K G v1 a.a->Rp.rel K G v2 a.b->Rp.rel K G v3 a.c->Rp.rel K G v4 a.d->Rp.rel K G v5 a.e->tb D (((((σ.set i (some v1)).set j (some v2)).set k (some v3)).set l (some v4)).set m (some v5)) H) :
  gTup K 5 (GS (Bm i) (GS (Bm j) (GS (Bm k) (GS (Bm l) (GS (Bm m) gNil))))) x σ H fun σ2 H2=>tb D σ2 H2:=by
 obtain ⟨t,x1,x2,x3,x4,x5,rfl,ht,r1,r2,r3,r4,r5⟩:=r;exact ⟨t,_,rfl,s.tup ht,rfl,x1,_,rfl,x2,_,rfl,x3,_,rfl,x4,_,rfl,x5,_,rfl,rfl,q _ _ _ _ _ r1 r2 r3 r4 r5⟩
end
def RN (l:List (Tp Bool × Int)):Option MpT:=if (l.map (·.1.l)).Nodup/\l.length<4000 then some ⟨l⟩ else none
def getT (d:MpT)(k:Tp Bool):Option Int:=(d.l.find? fun q=>decide (q.1=k)).map (·.2)
def rDictT (K:FZ9):List V->Hp->VK->Prop:=fun vs H Q=>∃ (G:Hp) (l:Addr) (ps:List V) (as:List (Tp Bool × Int)),Same G H/\vs=[.ref l]/\SqL K H l ps/\Paired (Rp.rel K G) ps as/\(as.map (·.1.l)).Nodup/\as.length<4000 /\
 ∀ p xs,H p=none->Paired (RelT K G) xs as->Q (.ref p) (upd H p (DbO p xs))
section
variable {X:Cx}{pins:List (Addr × Obj)}{σ:St}{H G:Hp}{s:Shared}
theorem J6 (I:Inv X pins σ H s)(sg:Same G H):∀ {ps:List V}{as:List (Tp Bool × Int)}{its:List Value},Paired (Rp.rel X.K G) ps as->Vals ps its->∃ xs,Paired (RelT X.K G) xs as/\its.length=xs.length /\
  ∀ (j:Nat) (x:List Bool × Addr × Value),xs[j]? = some x->∃ t,its[j]? = some (.ref t)/\IsTup s.heap t #[.ref x.2.1,x.2.2]/\(tupleKind (CD X.prog X.w)).is s.heap x.1 x.2.1
 | _,_,_,.nil,.nil=>⟨[],.nil,rfl,fun j x h=>by simp at h⟩
 | _,a::as,_,.cons r rs,.cons v vs=>by
  obtain ⟨xs,h1,h2,h3⟩:=J6 I sg rs vs;obtain ⟨t,x,y,rfl,ht,r1,r2⟩:=r;cases (show _=Value.ref t from v);obtain ⟨its,rv,pl,_⟩:=I.tuple (sg.tup ht);obtain ⟨u1,u2,rfl,q1,q2⟩:=MG rv;have r1':=r1;obtain ⟨t2,ys,rfl,h5,h6,h7⟩:=r1';cases (show u1=Value.ref t2 from q1);cases (show y=V.int a.2 from r2);refine ⟨(a.1.l,t2,u2)::xs,.cons ⟨rfl,r1,q2⟩ h1,by rw [qhA,qhA,h2],fun j z hz=>?_⟩
  match j,hz with
  | 0,hz =>
   cases hz;exact ⟨t,rfl,pl,NG I (Rp.mono sg r1)⟩
  | j+1,hz=>exact h3 j z hz
theorem Q0 {K:FZ9}{j:Nat}(hc:X.calm=true)(hK:X.K=K)(hr:Room j X.A):CW X (.type "dict") (rDictT K):=by
 subst hK;intro pins s σ H vs us Q I r h;obtain ⟨G,l,ps,as,sg,rfl,hl,pr,hn,hz,q⟩:=h;obtain ⟨u,rfl,ru⟩:=Ev r;cases ru;obtain ⟨its,rv,pl,_⟩:=I.list hl;obtain ⟨xs,h1,h2,h3⟩:=J6 I sg pr rv
 have hxs:xs.map (·.1)=as.map (·.1.l):=by
  have all:∀ {xs:List (List Bool × Addr × Value)}{as:List (Tp Bool × Int)},Paired (RelT X.K G) xs as->xs.map (·.1)=as.map (·.1.l):=by
   intro xs as q
   induction q with
   | nil=>rfl
   | @cons p q ps qs hq t ih=>rw [qbB,qbB,ih,hq.1]
  exact all h1
 have hlen:=Paired.length h1;refine NP (xs:=xs) (I.ok.hd hc) (by have:=hr.un;omega) pl ⟨by rw [qvB];exact h2,by rw [hxs];exact hn,by rw [qpB];omega,fun j x hx=>?_⟩ fun h' tk kp D=>?_
 ·obtain ⟨t,e1,e2⟩:=h3 j x hx;exact ⟨t,by rw [List.getElem?_toArray];exact e1,e2⟩
 ·obtain ⟨o,es,ep,g,d1,d2,d3,_,d5⟩:=D;exact ⟨.ref s.heap.objs.size,_,I.laid' (s':={ s with heap:=h',toks:=tk }) (fun b o e=>kp b o e) (qgB _) (dbO_ok ⟨o,es,ep,g,d1,d2,d3,d5⟩) rfl rfl,rfl,q _ xs (I.hok.fresh (qgB _)) h1⟩
end
def tDGetT (K:FZ9)(td ty:TE):TE:=fun σ H Q=>td σ H fun x H1=>ty σ H1 fun y H2=>∃ (G:Hp) (d:MpT) (k:Tp Bool) (n:Int),Same G H2/\Rp.rel K G x d/\Rp.rel K G y k/\getT d k=some n/\Q (.int n) H2
theorem Rq {K:FZ9}{G:Hp}{k:Tp Bool}:∀ {xs:List (List Bool × Addr × Value)}{l:List (Tp Bool × Int)}{n:Int},Paired (RelT K G) xs l->(l.find? fun q=>decide (q.1=k)).map (·.2)=some n->∃ p,atKey xs k.l=some p/\RelV (.int n) p.2
 | _,_,n,.nil,h=>nomatch h
 | x::xs,q::l,n,.cons r rs,h=>by
  unfold atKey;by_cases e:q.1=k
  ·rw [List.find?_cons_of_pos (by rw [decide_eq_true e])] at h;cases h;rw [List.find?_cons_of_pos (by rw [decide_eq_true (show x.1=k.l by rw [r.1,e])])];exact ⟨x.2,rfl,r.2.2⟩
  ·rw [List.find?_cons_of_neg (by rw [decide_eq_false e];exact quB)] at h
   have e2:¬ x.1=k.l:=fun z=>e (by
    rw [r.1] at z;cases hq:q.1;cases k;rw [hq] at z
    exact congrArg Tp.mk z)
   rw [List.find?_cons_of_neg (by rw [decide_eq_false e2];exact quB)];exact Rq rs h
section
variable {X:Cx}{K:FZ9}{i o:Expr}{ty td ta te:TE}{pos:Pos}{σ:St}{G:Hp}
theorem pe_dgetT (hK:X.K=K)(hu:X.A.units+1<cLine)(ho:PE X o td)(hi:PE X i ty)(hs:NoSl i):PE X (.Subscript o i pos) (tDGetT K td ty):=by
 subst hK;intro pins s σ H Q I h;refine Mw PySem.F.slot_dict_getitem.lookup hs (thn (ho pins s σ H _ I h) fun u s1 ⟨x,H1,I1,rx,q1⟩=>thn (hi pins s1 σ H1 _ I1 q1) fun iv s2 ⟨y,H2,I2,ry,G,d,k,n,sg,rd,rk,hg,q2⟩=>?_);obtain ⟨p,xs,rfl,hp,pr⟩:=Rp.mono sg rd;have rk':=Rp.mono sg rk;obtain ⟨t,zs,rfl,_⟩:=rk';obtain rfl:u=Value.ref p:=rx;obtain rfl:iv=Value.ref t:=ry;have D:=dbH_of I2 hp pr;obtain ⟨w',hw,rw'⟩:=Rq pr hg;refine ⟨D.typeIs,wpAny_getItem_heap (tupleKind_room_in1 hu) (NG I2 (Rp.mono sg rk)) D hw ⟨.int n,H2,I2.tok _,rw',q2⟩⟩
theorem ev_dgetT {md:Option MpT}{mk:Option (Tp Bool)}(ed:EV K td σ G md)(ek:EV K ty σ G mk):EV K (tDGetT K td ty) σ G (md.bind fun d=>mk.bind fun k=>getT d k):=by
 clear 7;obtain ⟨d,hd,hc⟩:=qaA.mp hc;obtain ⟨j,hj,hc⟩:=qaA.mp hc;refine ed G1 s1 d hd H sH _ fun x G2 H2 x2 r2=>?_;refine ek G2 (s1.trans x2.gg) j hj H2 x2.gh _ fun y G3 H3 x3 r3=>?_;exact ⟨G3,d,j,c,x3.gh,Rp.mono x3.gg r2,r3,hc,k _ G3 H3 (x2.trans x3) rfl⟩
theorem ev_dictT {m:Option (List (Tp Bool × Int))}(e:FV K te σ G m):EV K (tCB (rDictT K) (AK te B7)) σ G (m.bind fun l=>RN l):=by
 clear 7;obtain ⟨a,ha,hc⟩:=qaA.mp hc;obtain ⟨⟨h1,h2⟩,rfl⟩:=B4 hc;refine e G1 s1 a ha H sH _ fun p vs G2 H2 x2 hp gp hh z pr=>?_;refine ⟨G2,p,vs,a,x2.gh,rfl,.inl (.inl hh),pr,h1,h2,fun q xs hq px=>?_⟩;have gq:=Same.free x2.gh hq;exact k (.ref q) (upd G2 q (DbO q xs)) _ (x2.trans (.new x2.gh hq)) ⟨q,xs,rfl,AH,Paired.imp' (fun _ _ r=>r.mono (Same.new gq)) px⟩
end
structure MpRF (α:Type) where
 l:List (Rk × α)
def isNonD:D->Bool
 | .non=>true
 | _=>false
section
variable {K:FZ9}{σ:St}{G H:Hp}{ta:TE}
theorem nonD {v:V}{d:D}(r:RelD K G v d):decide (v = .non)=isNonD d:=by cases r<;>rfl
theorem ev_notND {md:Option D}(ea:EV K ta σ G md):EV K (tOp (fun x y H Q=>y = .non/\Q (.bl (!decide (x = .non))) H) ta (tC .non)) σ G (md.bind fun d=>some (!isNonD d)):=by
 clear 7;obtain ⟨a,ha,hc⟩:=qaA.mp hc;cases hc;refine ea G1 s1 a ha H sH _ fun v G2 H2 x2 r2=>⟨rfl,k _ _ _ x2 ?_⟩;rw [nonD r2];exact rfl
end
structure DIn (K:FZ9)(mg:Str->Option Value)(x:Str)(st:Stmt):Prop where
 ex:∃ f fd,mg x=some (.ref f)/\Fun K x x st f fd
def BnO (x:Str)(st:Stmt)(ps:List Str):Prop:=∀ (kV doc pm:Value) (an:Option Addr) (cdv ct:Value) (us:List Value),us.length=ps.length->bindArgs (qaC x x (Dk st) (Bu st) (AF st) .none kV doc pm an cdv ct) ⟨us,[]⟩=pure (ps.zip us)
abbrev Nn (K:FZ9)(x:Str):Prop:=qxB K mainGlobals x=some none
theorem scm {N ps:List Str}{sc:Scope}(a:sc.kind = .function:=by rfl)(b:sc.isCoroutine=false:=by rfl)(c:sc.isGenerator=false:=by rfl)(d:N.Nodup:=by decide +kernel)(e:N.take ps.length=ps:=by rfl)(f:∀ x∈ps,sc.names.lookup x=some .local \/ sc.names.lookup x=some .cell:=by decide +kernel)(g:∀ y∈sc.names,y.2 ≠ .free:=by decide +kernel):FnScope N ps sc:=⟨a,b,c,d,e,f,g⟩
theorem din {K:FZ9}{h:Heap}{mg:Str->Option Value}{x:Str}{st:Stmt}{f:Addr}{oc:Value}{od an:Option Addr}{osl:Array (Option Value)}{kV doc pm cdv ct:Value}(X:K.In h)(G:h.Ns mainGlobals mg)(a:qxB K mainGlobals x=some (some (.ref f)))
  (l:K.lookup f=some ⟨oc,od,.func (qaC x x (Dk st) (Bu st) (AF st) .none kV doc pm an cdv ct),osl⟩) (c:PySem.W.codeIn K cdv x=true) (k:qzB K (.ref f)=true):DIn K mg x st:=⟨f,_,qyB X G a,fun_mk l c k⟩
section
variable {P:Program}{w:World}{K:FZ9}{mg:Str->Option Value}{base:Heap}{x:Str}{st:Stmt}{N ps:List Str}{k:Nat}{sp:Sp}{ρ:Type}[Rp ρ]
theorem DIn.ok (Z:DIn K mg x st)(S:FnScope N ps (AF st))(b:BnO x st ps)(len:∀ vs H Q E,sp vs H Q E->vs.length=ps.length)
  (hbody:∀ (f:Addr) (cdv:Value) (A:Around) (outer:List Env) (s:Shared) (H:Hp) (vs:List V) (Q:VK) (E:XK),Room k (A.deeper (envOfC x (AF st) s.heap.objs.size f cdv))->sp vs H Q E ->
   ∃ t,PSs (IY CX0 P w K mg base N x (AF st) f cdv A outer s H E).nox (Bu st) t/\t { nx:=fun _ H'=>Q .non H',rt:=Q } (start N vs) H):DefOk P w K mg base x (k+1) ps sp:=by
 obtain ⟨f,fd,a,F⟩:=Z.ex;exact Gi F a (F.binds b) (F.ok S len fun cdv A outer s H vs Q E hr h=>hbody f cdv A outer s H vs Q E hr h)
theorem bn1 {p0:Str}(h:∀ (kV doc pm:Value) (an:Option Addr) (cdv ct:Value) (a0:Value),bindArgs (qaC x x (Dk st) (Bu st) (AF st) .none kV doc pm an cdv ct) ⟨[a0],[]⟩=pure (List.zip [p0] [a0]):=by intros;rfl):BnO x st [p0]:=fun kV doc pm an cdv ct us hl=>match us,hl with | [a0],_=>h kV doc pm an cdv ct a0
theorem DIn.okM1 {α0:Type}[Rp α0]{p0:Str}{m:α0->Option ρ}(Z:DIn K mg x st)(S:FnScope N [p0] (AF st))
  (hbody:∀ (f:Addr) (cdv:Value) (A:Around) (outer:List Env) (s:Shared) (H:Hp) (Q:VK) (E:XK),Room k (A.deeper (envOfC x (AF st) s.heap.objs.size f cdv))->∀ G a0 res v0,Ext G H G H->Rp.rel K G v0 a0->m a0=some res->(∀ v G2 H2,Ext G H G2 H2->Rp.rel K G2 v res->Q v H2) ->
   ∃ t,PSs (IY CX0 P w K mg base N x (AF st) f cdv A outer s H E).nox (Bu st) t/\t { nx:=fun _ H'=>Q .non H',rt:=Q } (start N [v0]) H)
  (b:BnO x st [p0]:=by exact bn1):DefOk P w K mg base x (k+1) [p0] (spM K fun x:α0 × Unit=>m x.1) :=
 Z.ok S b (fun vs H Q E h=>(Dy h).trans rfl) fun f cdv A outer s H vs Q E hr h=>by
  obtain ⟨G,⟨a0,⟨⟩⟩,res,sg,⟨v0,_,rfl,r0,rfl⟩,hm,q⟩:=h;exact hbody f cdv A outer s H Q E hr G a0 res v0 (Ext.refl sg) r0 hm q
theorem bn2 {p0 p1:Str}(h:∀ (kV doc pm:Value) (an:Option Addr) (cdv ct:Value) (a0 a1:Value),bindArgs (qaC x x (Dk st) (Bu st) (AF st) .none kV doc pm an cdv ct) ⟨[a0,a1],[]⟩=pure (List.zip [p0,p1] [a0,a1]):=by intros;rfl):BnO x st [p0,p1]:=fun kV doc pm an cdv ct us hl=>match us,hl with | [a0,a1],_=>h kV doc pm an cdv ct a0 a1
theorem DIn.okM2 {α0 α1:Type}[Rp α0][Rp α1]{p0 p1:Str}{m:α0->α1->Option ρ}(Z:DIn K mg x st)(S:FnScope N [p0,p1] (AF st))
  (hbody:∀ (f:Addr) (cdv:Value) (A:Around) (outer:List Env) (s:Shared) (H:Hp) (Q:VK) (E:XK),Room k (A.deeper (envOfC x (AF st) s.heap.objs.size f cdv))->∀ G a0 a1 res v0 v1,Ext G H G H->Rp.rel K G v0 a0->Rp.rel K G v1 a1->m a0 a1=some res->(∀ v G2 H2,Ext G H G2 H2->Rp.rel K G2 v res->Q v H2) ->
   ∃ t,PSs (IY CX0 P w K mg base N x (AF st) f cdv A outer s H E).nox (Bu st) t/\t { nx:=fun _ H'=>Q .non H',rt:=Q } (start N [v0,v1]) H)
  (b:BnO x st [p0,p1]:=by exact bn2):DefOk P w K mg base x (k+1) [p0,p1] (spM K fun x:α0 × α1 × Unit=>m x.1 x.2.1) :=
 Z.ok S b (fun vs H Q E h=>(Dy h).trans rfl) fun f cdv A outer s H vs Q E hr h=>by
  obtain ⟨G,⟨a0,a1,⟨⟩⟩,res,sg,⟨v0,_,rfl,r0,⟨v1,_,rfl,r1,rfl⟩⟩,hm,q⟩:=h;exact hbody f cdv A outer s H Q E hr G a0 a1 res v0 v1 (Ext.refl sg) r0 r1 hm q
theorem bn3 {p0 p1 p2:Str}(h:∀ (kV doc pm:Value) (an:Option Addr) (cdv ct:Value) (a0 a1 a2:Value),bindArgs (qaC x x (Dk st) (Bu st) (AF st) .none kV doc pm an cdv ct) ⟨[a0,a1,a2],[]⟩=pure (List.zip [p0,p1,p2] [a0,a1,a2]):=by intros;rfl):BnO x st [p0,p1,p2]:=fun kV doc pm an cdv ct us hl=>match us,hl with | [a0,a1,a2],_=>h kV doc pm an cdv ct a0 a1 a2
theorem DIn.okM3 {α0 α1 α2:Type}[Rp α0][Rp α1][Rp α2]{p0 p1 p2:Str}{m:α0->α1->α2->Option ρ}(Z:DIn K mg x st)(S:FnScope N [p0,p1,p2] (AF st))
  (hbody:∀ (f:Addr) (cdv:Value) (A:Around) (outer:List Env) (s:Shared) (H:Hp) (Q:VK) (E:XK),Room k (A.deeper (envOfC x (AF st) s.heap.objs.size f cdv))->∀ G a0 a1 a2 res v0 v1 v2,Ext G H G H->Rp.rel K G v0 a0->Rp.rel K G v1 a1->Rp.rel K G v2 a2->m a0 a1 a2=some res->(∀ v G2 H2,Ext G H G2 H2->Rp.rel K G2 v res->Q v H2) ->
   ∃ t,PSs (IY CX0 P w K mg base N x (AF st) f cdv A outer s H E).nox (Bu st) t/\t { nx:=fun _ H'=>Q .non H',rt:=Q } (start N [v0,v1,v2]) H)
  (b:BnO x st [p0,p1,p2]:=by exact bn3):DefOk P w K mg base x (k+1) [p0,p1,p2] (spM K fun x:α0 × α1 × α2 × Unit=>m x.1 x.2.1 x.2.2.1) :=
 Z.ok S b (fun vs H Q E h=>(Dy h).trans rfl) fun f cdv A outer s H vs Q E hr h=>by
  obtain ⟨G,⟨a0,a1,a2,⟨⟩⟩,res,sg,⟨v0,_,rfl,r0,⟨v1,_,rfl,r1,⟨v2,_,rfl,r2,rfl⟩⟩⟩,hm,q⟩:=h;exact hbody f cdv A outer s H Q E hr G a0 a1 a2 res v0 v1 v2 (Ext.refl sg) r0 r1 r2 hm q
theorem bn5 {p0 p1 p2 p3 p4:Str}(h:∀ (kV doc pm:Value) (an:Option Addr) (cdv ct:Value) (a0 a1 a2 a3 a4:Value),bindArgs (qaC x x (Dk st) (Bu st) (AF st) .none kV doc pm an cdv ct) ⟨[a0,a1,a2,a3,a4],[]⟩=pure (List.zip [p0,p1,p2,p3,p4] [a0,a1,a2,a3,a4]):=by intros;rfl):BnO x st [p0,p1,p2,p3,p4]:=fun kV doc pm an cdv ct us hl=>match us,hl with | [a0,a1,a2,a3,a4],_=>h kV doc pm an cdv ct a0 a1 a2 a3 a4
theorem DIn.okM5 {α0 α1 α2 α3 α4:Type}[Rp α0][Rp α1][Rp α2][Rp α3][Rp α4]{p0 p1 p2 p3 p4:Str}{m:α0->α1->α2->α3->α4->Option ρ}(Z:DIn K mg x st)(S:FnScope N [p0,p1,p2,p3,p4] (AF st))
  (hbody:∀ (f:Addr) (cdv:Value) (A:Around) (outer:List Env) (s:Shared) (H:Hp) (Q:VK) (E:XK),Room k (A.deeper (envOfC x (AF st) s.heap.objs.size f cdv))->∀ G a0 a1 a2 a3 a4 res v0 v1 v2 v3 v4,Ext G H G H->Rp.rel K G v0 a0->Rp.rel K G v1 a1->Rp.rel K G v2 a2->Rp.rel K G v3 a3->Rp.rel K G v4 a4->m a0 a1 a2 a3 a4=some res->(∀ v G2 H2,Ext G H G2 H2->Rp.rel K G2 v res->Q v H2) ->
   ∃ t,PSs (IY CX0 P w K mg base N x (AF st) f cdv A outer s H E).nox (Bu st) t/\t { nx:=fun _ H'=>Q .non H',rt:=Q } (start N [v0,v1,v2,v3,v4]) H)
  (b:BnO x st [p0,p1,p2,p3,p4]:=by exact bn5):DefOk P w K mg base x (k+1) [p0,p1,p2,p3,p4] (spM K fun x:α0 × α1 × α2 × α3 × α4 × Unit=>m x.1 x.2.1 x.2.2.1 x.2.2.2.1 x.2.2.2.2.1) :=
 Z.ok S b (fun vs H Q E h=>(Dy h).trans rfl) fun f cdv A outer s H vs Q E hr h=>by
  obtain ⟨G,⟨a0,a1,a2,a3,a4,⟨⟩⟩,res,sg,⟨v0,_,rfl,r0,⟨v1,_,rfl,r1,⟨v2,_,rfl,r2,⟨v3,_,rfl,r3,⟨v4,_,rfl,r4,rfl⟩⟩⟩⟩⟩,hm,q⟩:=h;exact hbody f cdv A outer s H Q E hr G a0 a1 a2 a3 a4 res v0 v1 v2 v3 v4 (Ext.refl sg) r0 r1 r2 r3 r4 hm q
end
section
variable {X:Cx}{K:FZ9}{N ps:List Str}{sc:Scope}{i:Nat}{x:Str}{e a b:Expr}{te ta tb:TE}{pos pos':Pos}{σ:St}{G:Hp}{α:Type}[Rp α]{v:V}{c:α}
theorem AM (S:FnScope N ps sc)(he:PE X e te)(hN:X.N=N:=by rfl)(hi:X.N[i]? = some x:=by rfl)(hx:Loc X.env.scope x:=by first|exact Or.inl rfl|exact Or.inr rfl)(hs:swapsWith e (some (.Name x pos')) pos.line X.env=pure false:=by rfl)(hf:X.fn x=true\/X.env.scope.names.lookup x=some .local := by first|exact .inl rfl|exact .inr rfl|assumption) :
  PS X (.Assign [.Name x pos'] e pos) (GO te (Bm i)):=NM (hN ▸ S.nd) hi hx he hs hf
theorem BG (S:FnScope N ps sc)(hN:X.N=N:=by rfl)(hi:X.N[i]? = some x:=by rfl)(hx:Loc X.env.scope x:=by first|exact Or.inl rfl|exact Or.inr rfl)(hf:X.fn x=true\/X.env.scope.names.lookup x=some .local := by first|exact .inl rfl|exact .inr rfl|assumption):PG X (.Name x pos) (Bm i):=N5 (hN ▸ S.nd) hi hx hf
theorem AR (K:FZ9)(ha:PE X a ta)(hb:PE X b tb)(hs:RB b:=by exact fun _ _=>rfl)(h:X.K=K:=by rfl):PE X (.Subscript a b pos) (tOp (rAt K) ta tb):=pe_ix (ix_anyK h) ha hb hs
theorem B3 (K:FZ9)(ha:PE X a ta)(hb:PE X b tb)(h:X.K=K:=by rfl):PE X (.BinOp a .Add b pos) (tOp (ME K) ta tb):=BF (op_plusK h) ha hb
theorem Bp (K:FZ9)(hm:X.mg "len" = none)(ha:PE X e te)(hg:Gl X "len" := by rfl)(h:X.K=K:=by rfl)(he:starEach [e] X.env=(false,eval e X.env)::starEach [] X.env:=by rfl):PE X (.Call (.Name "len" pos') [e] [] pos) (tCB (MZ K) (AK te B7)):=Bh (T9 h) hg hm bt_len (A5 ha A8 he) (by decide) (by decide) he rfl
theorem DY (K:FZ9)(ha:PE X a ta)(he:∀ whole,isTrue a X.env whole=(do let v <- whole;standAt a.pos;holding [v] (truthy v)):=by exact fun _=>rfl)(h:X.K=K:=by rfl):PT X a (fun σ H Q=>ta σ H fun x H'=>∃ k,TruV K x H' k/\Q k H'):=Sg h ha he
theorem EG (K:FZ9)(ha:PE X a ta)(hb:PE X e te)(h:X.K=K:=by rfl)(hbase:attributeBase a "append" X.env (eval a X.env)=eval a X.env:=by rfl)
  (hfew:((backTo pos (starEach [e] X.env)).all (fun x=>!x.1) && (backToKw pos (keywordEach [] X.env)).all (fun x=>x.1.isSome) && decide ([e].length+([]:List Keyword).length+(if ([]:List Keyword).isEmpty then 0 else 1)<30))=true:=by rfl)
  (hline:(pos'.endLine == pos.line)=true:=by rfl) (hs:starEach [e] X.env=(false,eval e X.env)::starEach [] X.env:=by rfl) (hplain:(backTo pos (starEach [] X.env)).any (·.1)=false:=by rfl) :
  PE X (.Call (.Attribute a "append" pos') [e] [] pos) (tBM K "list" Hd ta (AK te B7)):=Mn h PySem.F.plainAttrs_list PySem.F.slot_list_append PySem.F.type_list_append Ib ha (A5 hb A8 hs) hbase hfew hline hs hplain
theorem MB (S:FnScope N ps sc):N.Nodup:=S.nd
theorem AA (r:Rp.rel K G v c)(h:σ[i]? = some (some v):=by rfl):EV K (BQ i) σ G (some c):=Kp h r
end
def n4 {α β γ δ:Type}(a:T4 (List α) (List β) (List γ) (List δ))(x y z u:V):List (V × Nat):=[(x,a.a.length),(y,a.b.length),(z,a.c.length),(u,a.d.length)]
open Builtin Builtin.Str
end L2
namespace PySem
open Sem (wp)
end PySem
namespace L2
open PySem PySem.Spec PyProof.Rows
def SD (h:Heap)(b:Addr):Prop:=∃ o vs,h.get? b=some o/\o.data = .fields vs
def Xo (h:Heap)(ea:Addr)(cls tb:Value):Prop:=∃ oe vs,h.get? ea=some oe/\oe.cls=cls/\oe.data = .fields vs/\vs[1]? = some tb/\oe.dict=none
def To (h:Heap)(T:Addr):Prop:=∃ oT ts,h.get? T=some oT/\oT.data = .fields ts/\3<ts.size
def ExB (Fre:Addr->Prop)(h:Heap)(ea:Addr)(cls:Value):Prop:=Fre ea/\∃ T,Fre T/\T≠ea/\Xo h ea cls (.ref T)/\To h T
def ExA (Fre:Addr->Prop)(h:Heap)(ea:Addr)(cls:Value):Prop:=(Fre ea/\Xo h ea cls .none)\/ExB Fre h ea cls
def Chg (fr c:List Addr)(h h':Heap):Prop:=(∀ b o,b ∉ c->b ∉ fr->h.get? b=some o->h'.get? b=some o)/\(∀ b o,b ∉ c->h.get? b=some o->∃ sl,h'.get? b=some { o with slots:=sl })
theorem dict_map (f:Array Value->Array Value)(o:Obj):(o.mapFields f).dict=o.dict:=by
 obtain ⟨c,d,dt,sl⟩:=o;cases dt<;>rfl
section
variable {M:Model}{A:Around}{E:Value->Shared->Prop}{s:Shared}{base:Heap}{env env':Env}{outer:List Env}{L e:Addr}{Q:Unit->Shared->Prop}{Fre:Addr->Prop}{cls:Value}
theorem M3 {oe:Obj}{vs:Array Value}{head:Value}{hadNext:Bool}(hfr:A.frames=some (env::outer))(hl:s.heap.FunFrames base (env::outer))(hf:env.frame=some L)
  (he:s.heap.get? e=some oe) (hd:oe.data = .fields vs) (hsz:1<vs.size) (hdi:oe.dict=none)
  (h:∀ h' T,s.heap.objs.size<=T->T≠e->Xo h' e oe.cls (.ref T)->To h' T->Chg (frs (env::outer)) [e] s.heap h'->Q () { s with heap:=h' }) :
  wpAny M A (do let a <- PySem.frameOf env;let pl <- entryPlaceOf L hadNext;let b <- EntryCells.newEntry head a .none (rawInt L) .none pl;setField (.ref e) 1 b) Q E s:=by
 have hene:e ∉ (env::outer).filterMap (·.frame):=fun hm=>by
  obtain ⟨_,o,ho,hnf⟩:=hl.mem hm;rw [he] at ho;injection ho with ho;subst ho;exact hnf vs hd
 refine qbA (wpAny_frameOf_fun hfr hl hf fun h₁ hs₁=>?_);refine qbA (wpAny_entryPlaceOf fun pl hpl=>?_);unfold EntryCells.newEntry newFields;refine qbA (wpAny_newObj_type ?_ (hpl.sizeOk5 _ _ _ _ _));have he₁:h₁.get? e=some oe:=(hs₁.2.1 e hene).trans he;have he₂:=qnB (h:=h₁) { cls:=.type "traceback",dict:=none,data:=.fields ([head,.ref L,.none,rawInt L,.none]++(if pl.isEmpty then List.replicate 6 Value.none else pl)).toArray } he₁;refine wpAny_setField he₂ hd hsz ?_;have hTe:h₁.objs.size≠e:=qmC (qmB he₁);have hd₃:=Obj.data_mapFields hd (·.setIfInBounds 1 (Value.ref h₁.objs.size));have he₃:=Heap.get?_update_self (Obj.mapFields (·.setIfInBounds 1 (Value.ref h₁.objs.size))) he₂ (Obj.isFreed_of_fields hd₃)
 have hT₃:=(Heap.get?_update_other (h₁.push { cls:=.type "traceback",dict:=none,data:=.fields ([head,.ref L,.none,rawInt L,.none]++(if pl.isEmpty then List.replicate 6 Value.none else pl)).toArray })
  (Obj.mapFields (·.setIfInBounds 1 (Value.ref h₁.objs.size))) (Ne.symm hTe)).trans (qoB h₁ rfl)
 refine h _ h₁.objs.size (by rw [hs₁.1];exact qgB _) hTe ⟨_,_,he₃,Obj.cls_mapFields _ _,hd₃,by simp [hsz],(dict_map _ _).trans hdi⟩ ⟨_,_,hT₃,rfl,by simp only [qvB,qgA,qhA,List.length_nil]<;>omega⟩ ⟨fun b o hb hf e=>?_,fun b o hb e=>?_⟩
 ·rw [Heap.get?_update_other _ _ (fun z=>hb (by simp [z]))];exact qnB _ ((hs₁.2.1 b hf).trans e)
 ·obtain ⟨sl,q⟩:=hs₁.2.2 b o e;refine ⟨sl,?_⟩;rw [Heap.get?_update_other _ _ (fun z=>hb (by simp [z]))];exact qnB _ q
theorem Ov (hfr:A.frames=some (env::outer))(hl:s.heap.FunFrames base (env::outer))(hf:env.frame=some L)(hf':env'.frame=some L)(hx:ExA Fre s.heap e cls)(hn:∀ b,s.heap.objs.size<=b->Fre b)
  (h:∀ h' c,(∀ b∈c,Fre b/\SD s.heap b)->Chg (frs (env::outer)) c s.heap h'->s.heap.objs.size<=h'.objs.size->ExB Fre h' e cls->Q () { s with heap:=h' }) :
  wpAny M A (noteFrame (.ref e) env') Q E s:=by
 have ef:PySem.frameOf env'=PySem.frameOf env:=by unfold PySem.frameOf;rw [hf,hf']
 unfold noteFrame;simp only [hf',ef];rcases hx with ⟨fe,oe,vs,he,rfl,hd,h1,hdi⟩ | ⟨fe,T,fT,hTe,⟨oe,vs,he,rfl,hd,h1,hdi⟩,oT,ts,hT,hdT,h3⟩
 ·refine qbA (wpAny_field he hd h1 ?_);rw [if_neg (by decide)];refine M3 hfr hl hf he hd (Array.getElem?_eq_some_iff.mp h1).1 hdi fun h' T hT hTe hX hTo hc=>?_;refine h h' [e] (fun b hb=>?_) hc ?_ ⟨fe,T,hn T hT,hTe,hX,hTo⟩
  ·rw [qqA.mp hb];exact ⟨fe,oe,vs,he,hd⟩
  ·obtain ⟨oT,_,q,_⟩:=hTo;exact Nat.le_of_lt (Nat.lt_of_le_of_lt hT (qmB q))
 ·refine qbA (wpAny_field he hd h1 ?_);rw [if_pos (show (Value.ref T != Value.none)=true from by simp)];obtain ⟨fl,hfl⟩:∃ fl,ts[3]? = some fl:=⟨_,Array.getElem?_eq_getElem h3⟩;refine qbA (wpAny_field hT hdT hfl ?_)
  cases hq:(fl == rawInt L) with
  | true =>
   rw [if_pos rfl];exact qcA (h s.heap [] (fun b hb=>nomatch hb) ⟨fun _ _ _ _ q=>q,fun _ o _ q=>⟨o.slots,q⟩⟩ (qgB _) ⟨fe,T,fT,hTe,⟨oe,vs,he,rfl,hd,h1,hdi⟩,oT,ts,hT,hdT,h3⟩)
  | false =>
   rw [if_neg quB];refine qbA (wpAny_setField hT hdT h3 ?_);have other:∀ b,b≠T->(s.heap.update T (Obj.mapFields (·.setIfInBounds 3 Value.none))).get? b=s.heap.get? b:=fun b hb=>Heap.get?_update_other _ _ (Ne.symm hb)
   have noRecord:∀ b o,s.heap.get? b=some o->(∀ vs,o.data ≠ .fields vs)->b≠T:=fun b o hb hnf q=>by
    rw [q,hT] at hb;injection hb with hb;subst hb;exact hnf ts hdT
   have hsz:(s.heap.update T (Obj.mapFields (·.setIfInBounds 3 Value.none))).objs.size=s.heap.objs.size:=by simp [Heap.update]
   refine M3 (s:={ s with heap:=s.heap.update T (Obj.mapFields (·.setIfInBounds 3 Value.none)) }) hfr (hl.of_keeps fun b o hb hnf=>⟨o,(other b (noRecord b o hb hnf)).trans hb,rfl⟩) hf ((other e (Ne.symm hTe)).trans he) hd (Array.getElem?_eq_some_iff.mp h1).1 hdi fun h' T' hT' hTe' hX hTo hc=>?_;have hT'':s.heap.objs.size<=T':=by rw [<- hsz];exact hT'
   refine h h' [T,e] (fun b hb=>?_) ⟨fun b o hb hf q=>hc.1 b o (fun z=>hb (by simp [qqA.mp z])) hf ((other b (fun z=>hb (by simp [z]))).trans q),fun b o hb q=>hc.2 b o (fun z=>hb (by simp [qqA.mp z])) ((other b (fun z=>hb (by simp [z]))).trans q)⟩ ?_ ⟨fe,T',hn T' hT'',hTe',hX,hTo⟩
   ·rcases qnA.mp hb with rfl|hb
    ·exact ⟨fT,oT,ts,hT,hdT⟩
    ·rw [qqA.mp hb];exact ⟨fe,oe,vs,he,hd⟩
   ·obtain ⟨oT,_,q,_⟩:=hTo;exact Nat.le_of_lt (Nat.lt_of_le_of_lt hT'' (qmB q))
theorem Gw {fr:List Addr}{f:Option Addr}(hx:ExB Fre s.heap e cls)
  (h:∀ h' c,(∀ b∈c,Fre b/\SD s.heap b)->Chg fr c s.heap h'->s.heap.objs.size<=h'.objs.size->ExB Fre h' e cls->Q () { s with heap:=h' }):wpAny M A (setFlight (.ref e) f) Q E s:=by
 obtain ⟨fe,T,fT,hTe,⟨oe,vs,he,rfl,hd,h1,hdi⟩,oT,ts,hT,hdT,h3⟩:=hx;have other:∀ g:Array Value->Array Value,∀ b,b≠T->(s.heap.update T (Obj.mapFields g)).get? b=s.heap.get? b:=fun g b hb=>Heap.get?_update_other _ _ (Ne.symm hb);unfold setFlight;refine qbA (wpAny_field he hd h1 ?_);rw [if_pos (show (Value.ref T != Value.none)=true from by simp)];refine wpAny_setField hT hdT h3 ?_;refine h _ [T] (fun b hb=>by rw [qqA.mp hb];exact ⟨fT,oT,ts,hT,hdT⟩) ⟨fun b o hb _ q=>(other _ b (fun z=>hb (by simp [z]))).trans q,fun b o hb q=>⟨o.slots,(other _ b (fun z=>hb (by simp [z]))).trans q⟩⟩ (by simp [Heap.update]) ⟨fe,T,fT,hTe,⟨oe,vs,(other _ e (Ne.symm hTe)).trans he,rfl,hd,h1,hdi⟩,?_⟩;exact ⟨_,_,Heap.get?_update_self _ hT (Obj.isFreed_of_fields (Obj.data_mapFields hdT _)),Obj.data_mapFields hdT _,by simp [h3]⟩
theorem SW (hfr:A.frames=some (env::outer))(hl:s.heap.FunFrames base (env::outer))(hf:env.frame=some L)(hx:ExA Fre s.heap e cls)(hn:∀ b,s.heap.objs.size<=b->Fre b)
  (h:∀ h1 h2 c d,(∀ b∈c,Fre b/\SD s.heap b)->Chg (frs (env::outer)) c s.heap h1->(∀ b∈d,Fre b/\SD h1 b)->Chg (frs (env::outer)) d h1 h2->ExB Fre h2 e cls->Q () { s with heap:=h2 }) :
  wpAny M A (leaving env (.ref e)) Q E s:=by
 unfold leaving;refine qbA (Ov hfr hl hf hf hx hn fun h1 c hc ch _ x1=>?_);exact Gw (s:={ s with heap:=h1 }) x1 fun h2 d hd ch2 _ x2=>h h1 h2 c d hc ch hd ch2 x2
end
theorem ObjOk.get {P:Program}{w:World}{H:Hp}{h:Heap}{a:Addr}{o:HO}(x:ObjOk P w H h a o):∃ ob,h.get? a=some ob:=by
 cases o with
 | lst xs=>obtain ⟨_,_,_,_,e⟩:=x;exact ⟨_,e⟩
 | tup xs=>obtain ⟨_,_,_,o,e,_⟩:=x;exact ⟨_,e⟩
 | dK kvs=>obtain ⟨_,_,_,_,o,_,_,e,_⟩:=x;exact ⟨_,e⟩
 | dT kvs=>obtain ⟨_,_,_,_,o,_,_,e,_⟩:=x;exact ⟨_,e⟩
 | set S n=>obtain ⟨o,_,_,_,e,_⟩:=x;exact ⟨_,e⟩
 | ins C dx fs=>obtain ⟨_,_,_,e,_⟩:=x;exact ⟨_,e⟩
 | own y=>exact x
 | xd fs=>obtain ⟨_,⟨_,_,_,e,_⟩,_⟩:=x;exact ⟨_,e⟩
 | rng lo hi=>obtain ⟨_,_,_,e⟩:=x;exact ⟨_,e⟩
 | frz ob u=>obtain ⟨e,_⟩:=x;exact ⟨_,e⟩
 | tbl ps=>exact ⟨_,(show h.get? a=some _ from x)⟩
 | met f y=>exact ⟨_,(show h.get? a=some _ from x)⟩
 | ext φ=>obtain ⟨_,e,_⟩:=x;exact e
theorem HOk.none {P:Program}{w:World}{H:Hp}{h:Heap}{a:Addr}(x:HOk P w H h)(e:h.get? a = .none):H a = .none:=by
 cases q:H a with
 | none=>rfl
 | some u =>
  obtain ⟨ob,z⟩:=(x a u q).get;rw [e] at z;cases z
def Fr0 (X:Cx)(H:Hp)(b:Addr):Prop:=H b=none/\(∀ o,X.s₀.heap.get? b=some o->b∈X.ex)/\∀ p∈X.pn,p.1≠b
section
variable {X:Cx}{pins:List (Addr × Obj)}{σ:St}{H H':Hp}{s s':Shared}{E:St->XK}
theorem Inv.new0 (I:Inv X pins σ H s){b:Addr}(h:s.heap.get? b=none):Fr0 X H b:=by
 refine ⟨I.hok.none h,fun o e=>?_,fun p hp z=>?_⟩
 ·by_cases hx:b∈X.ex
  ·exact hx
  ·obtain ⟨o',q⟩:=I.base.there b o e hx;rw [h] at q;cases q
 ·have:=(I.pin p (List.mem_append_left _ hp)).1;rw [z,h] at this;cases this
theorem Inv.newS (I:Inv X pins σ H s){b:Addr}(h:s.heap.objs.size<=b):Fr0 X H b:=I.new0 (Heap.get?_none_of_le h)
theorem Inv.chg {c:List Addr}{h':Heap}(I:Inv X [] σ H s)(hc:∀ b∈c,Fr0 X H b/\SD s.heap b)(ch:Chg (frs X.stack) c s.heap h'):Inv X [] σ H { s with heap:=h' }:=by
 have nS:∀ b o,X.s₀.heap.get? b=some o->b ∉ X.ex->b ∉ c:=fun b o e hx hb=>hx ((hc b hb).1.2.1 o e)
 have nF:∀ b o,X.s₀.heap.get? b=some o->b ∉ X.fs->b ∉ frs X.stack:=fun b o e hf hb=>by
  rcases qnA.mp (I.stkSub b hb) with z|z
  ·exact absurd z (qdC (qfC (qmB e) I.ok.above))
  ·exact hf z
 have nL:X.env.locals ∉ c:=fun hb=>by
  obtain ⟨_,o,vs,e,hd⟩:=hc _ hb;obtain ⟨m,⟨o',es,ep,e',hd',_⟩,_⟩:=I.loc;rw [e] at e';cases e';rw [hd] at hd';cases hd'
 have nC:∀ x k,X.env.cells.lookup x=some k->k ∉ c:=fun x k q hb=>by
  obtain ⟨_,o,vs,e,hd⟩:=hc _ hb;obtain ⟨v,o',e',hd'⟩:=I.cell x k q;rw [e] at e';cases e';rw [hd] at hd';cases hd'
 have cK:∀ x k v,X.env.cells.lookup x=some k->s.heap.IsCell k v->h'.IsCell k v:=fun x k v q ⟨o,e,hd⟩=>by
  obtain ⟨sl,z⟩:=ch.2 k o (nC x k q) e;exact ⟨_,z,hd⟩
 refine ⟨I.ok,I.os,I.bare,⟨fun b o e n hb hx=>ch.1 b o (nS b o e hx) (nF b o e hb) (I.base.keep b o e n hb hx),fun b o e n hb hx=>?_,I.base.free,fun b o e hx=>?_,I.base.tups,I.base.frzs,I.base.tbls⟩,?_,fun x k q=>?_,I.free,I.freeC,fun p hp=>?_,fun a o e=>?_,I.len⟩
 ·obtain ⟨sl,e1⟩:=I.base.slot b o e n hb hx;obtain ⟨sl',e2⟩:=ch.2 b _ (nS b o e hx) e1;exact ⟨sl',e2⟩
 ·obtain ⟨o',e1⟩:=I.base.there b o e hx;obtain ⟨sl,e2⟩:=ch.2 b o' (nS b o e hx) e1;exact ⟨_,e2⟩
 ·obtain ⟨m,⟨o,es,ep,ho,r⟩,hl⟩:=I.loc;obtain ⟨sl,hL⟩:=ch.2 _ o nL ho;refine ⟨m,⟨_,es,ep,hL,r⟩,fun i x v e1 e2 e3=>?_⟩;obtain ⟨u,ru,l⟩:=hl i x v e1 e2 e3;refine ⟨u,ru,?_⟩;rcases l with l | ⟨k,c',q,z⟩
  ·exact .inl l
  ·exact .inr ⟨k,c',q,cK x c' _ q z⟩
 ·obtain ⟨v,z⟩:=I.cell x k q;exact ⟨v,cK x k v q z⟩
 ·obtain ⟨e,n,ne,nf,d⟩:=I.pin p hp;rw [qeB] at hp;exact ⟨ch.1 p.1 p.2 (fun z=>(hc _ z).1.2.2 p hp rfl) (fun z=>(qnA.mp (I.stkSub _ z)).elim ne nf) e,n,ne,nf,d⟩
 ·refine (I.hok a o e).stay (fun b u hb q=>ch.1 b u (fun z=>?_) (fun z=>?_) q) (fun _ q=>q) fun _ _ q=>q
  ·have:=(hc b z).1.1;rcases hb with rfl|hb
   ·rw [e] at this;cases this
   ·rw [hb] at this;cases this
  ·have:=I.stkFree b z;rcases hb with rfl|hb
   ·rw [e] at this;cases this
   ·rw [hb] at this;cases this
def CXE (P:Program)(w:World):CXT:=fun outer H s E e s'=>∃ ea cls H',e = .ref ea/\s'.os=s.os/\AllBare s'.gens/\Un (frs outer) [] H H' s.heap s'.heap/\HOk P w H' s'.heap /\
 ExB (fun b=>H' b=none/\s.heap.get? b=none) s'.heap ea cls/\E cls none H'
def Lets (X:Cx)(E:St->XK):Prop:=∀ σ H s ea cls,Inv X [] σ H s->ExA (Fr0 X H) s.heap ea cls->E σ cls none H->X.xe (.ref ea) s
theorem ExB.mono {F G:Addr->Prop}{h:Heap}{ea:Addr}{cls:Value}(x:ExB F h ea cls)(k:∀ b,F b->G b):ExB G h ea cls :=
 let ⟨a,T,b,r⟩:=x
 ⟨k _ a,T,k _ b,r⟩
theorem Lets.passes (L:Lets X E):∀ (pins:List (Addr × Obj)) (σ:St) (H:Hp) (s:Shared) (e:Value) (s':Shared),Inv X pins σ H s->CXE X.prog X.w X.stack H s (E σ) e s'->X.xe e s':=by
 rintro pins σ H s e s' I ⟨ea,cls,H',rfl,os,bare,un,hok,xb,q⟩;have I':Inv X pins σ H' s':=I.call' (ch:=[]) os un hok bare fun b z=>nomatch z;refine L σ H' s' ea cls (I'.pins_of (pins':=[]) fun p hp=>nomatch hp) (.inr (xb.mono fun b hb=>?_)) q;obtain ⟨h1,h2,h3⟩:=I.new0 hb.2;exact ⟨hb.1,h2,h3⟩
theorem Et {P:Program}{w:World}{K:FZ9}{mg:Str->Option Value}{base:Heap}{N:List Str}{qual:Str}{scope:Scope}{f:Addr}{cd:Value}{A:Around}{outer:List Env}{s:Shared}{H:Hp}{E:XK} :
  Lets (IY (CXE P w) P w K mg base N qual scope f cd A outer s H E) fun _=>E:=by
 intro σ H' s' ea cls I x q;show wpAny _ _ (leaving _ _) _ _ _;refine SW I.ok.frames I.stack rfl x (fun b hb=>I.newS hb) fun h1 h2 c d hc ch1 hd ch2 xb=>?_;have I1:=I.chg hc ch1;have I2:=I1.chg hd ch2
 exact ⟨ea,cls,H',rfl,I2.os,I2.bare,I2.base,I2.hok,xb.mono fun b hb=>⟨hb.1,by
  cases z:s.heap.get? b with
  | none=>rfl
  | some o=>exact absurd (hb.2.1 o z) (fun y=>nomatch y)⟩,q⟩
end
abbrev bmV:List Value:=[.type "ValueError",.type "Exception",.type "BaseException",.type "object"]
def tRaise (E:St->XK)(C:Addr):TS:=fun _ σ H=>E σ (.ref C) none H
section
variable {X:Cx}{pins:List (Addr × Obj)}{σ:St}{H H':Hp}{s s':Shared}{E:St->XK}
theorem K3 {x:Str}{C:Addr}{e₀:Expr}{v:V}{np cpos pos:Pos}(O:OwnCls x C bmV "ValueError.__new__" X.mg X.base)(hc:X.calm=true)(hg:Gl X x)(L:Lets X E)(he:PE X e₀ (tC v))
  (hs:starEach [e₀] X.env=(false,eval e₀ X.env)::starEach [] X.env:=by rfl) (hd:(x == ("__debug__" : Str))=false:=by decide) :
  PS X (.Raise (some (.Call (.Name x np) [e₀] [] cpos)) none pos) (tRaise E C):=by
 intro pins s σ H D I h;obtain ⟨tl,N,nm,q,bs,hdct,sn,sub,ab,col,dd,k0,k1,k2,k3,k5,mN,hC,hN,hni,T⟩:=O.obj
 refine wpAny_Raise_call_subU (C:=C) (nm:=nm) (q:=q) (N:=N) (bs:=bs) (bm:=tl) (hdct:=hdct) (sn:=sn) (sub:=sub) (ab:=ab) (col:=col) (dd:=dd) (k0:=k0) (k1:=k1) (k2:=k2) (k3:=k3) (k5:=k5)
  (Bn := "ValueError") PySem.F.excBase_ValueError (by decide +kernel) PySem.F.excBase_ValueError (mN:=mN) (T.hasType (by decide +kernel)) (I.ok.hd hc) ?_ hni (Hb I hg O.bound ⟨rfl,?_⟩ hd)
 ·rw [hs];rfl
 ·have h2:=A5 he A8 hs cpos pins s σ H (fun vs H1=>vs.length=1/\E σ (.ref C) none H1) I ⟨rfl,h⟩;rw [hs] at h2 ⊢;refine Calls.evalArgs_plain (wpAny_mono h2 (fun us s2 ⟨vs,H1,I1,rv,hl,hq⟩=>?_) fun _ _ y=>y);refine ⟨rfl,?_,I1.bk _ _ hC,hN.keeps I1.bk,T.keeps I1.bk,fun h' e hm=>?_⟩
  ·show us.length<=_;rw [<- rv.length,hl]
   decide
  ·obtain ⟨t,ht,_,_⟩:=hm.there;obtain ⟨n1,n2,n3⟩:=I1.new0 hm.new;exact L σ H1 _ e (.ref C) ((I1.kept (t':=s2.toks) hm.keeps).pins_of (pins':=[]) fun p hp=>nomatch hp) (.inl ⟨⟨n1,n2,n3⟩,_,_,ht,rfl,rfl,rfl,rfl⟩) hq
end
abbrev Cx.tr (X:Cx)(pn:List (Addr × Obj))(xe:Value->Shared->Prop):Cx:={ X with pn:=pn,xe:=xe }
abbrev Cx.han (X:Cx)(pn:List (Addr × Obj))(ea:Addr):Cx:={ X with pn:=pn,xe:=fun _ _=>False,A:=X.A.mark (some (.ref ea)),calm:=false }
def Exo (ea:Addr)(cls:Value):HO:=.ext fun h=>∃ oe vs,h.get? ea=some oe/\oe.cls=cls/\oe.dict=none/\oe.data = .fields vs
def gone (i:Nat)(D:Ends):Ends:={ nx:=fun σ H=>D.nx (σ.set i none) H,rt:=D.rt,bk:=fun σ H=>D.bk (σ.set i none) H,ct:=fun σ H=>D.ct (σ.set i none) H }
def tTry (K:FZ9)(C0:Addr)(i:Nat)(tb:(St->XK)->TS)(th:TS):TS:=fun D σ H =>
 tb (fun σ' cls _ H'=>PySem.W.exmOne K cls (.ref C0)=some true/\∀ ea,H' ea=none->th (gone i D) (σ'.set i (some (.ref ea))) (upd H' ea (Exo ea cls))) D σ H
section
variable {X:Cx}{pins:List (Addr × Obj)}{σ:St}{H:Hp}{s:Shared}{xe:Value->Shared->Prop}{ea:Addr}
theorem Inv.toTr (I:Inv X pins σ H s):Inv (X.tr (X.pn++pins) xe) [] σ H s :=
 ⟨⟨I.ok.mod,I.ok.kind,I.ok.glob,I.ok.blt,I.ok.above,I.ok.inj,I.ok.has,I.ok.cab,I.ok.hd,I.ok.frames,I.ok.stk,I.ok.exf,I.ok.bs,I.ok.bsz,I.ok.noex,I.ok.exfs,I.ok.funs,I.ok.frf⟩,I.os,I.bare,I.base,I.loc,I.cell,I.free,I.freeC,fun p hp=>I.pin p (by rw [qeB] at hp;exact hp),I.hok,I.len⟩
theorem Inv.ofTr {p2:List (Addr × Obj)}(I:Inv (X.tr (X.pn++pins) xe) p2 σ H s):Inv X pins σ H s :=
 ⟨⟨I.ok.mod,I.ok.kind,I.ok.glob,I.ok.blt,I.ok.above,I.ok.inj,I.ok.has,I.ok.cab,I.ok.hd,I.ok.frames,I.ok.stk,I.ok.exf,I.ok.bs,I.ok.bsz,I.ok.noex,I.ok.exfs,I.ok.funs,I.ok.frf⟩,I.os,I.bare,I.base,I.loc,I.cell,I.free,I.freeC,fun p hp=>I.pin p (List.mem_append_left _ hp),I.hok,I.len⟩
theorem Inv.toHan (I:Inv X pins σ H s):Inv (X.han (X.pn++pins) ea) [] σ H s :=
 ⟨⟨I.ok.mod,I.ok.kind,I.ok.glob,I.ok.blt,I.ok.above,I.ok.inj,I.ok.has,I.ok.cab,fun z=>(nomatch z),I.ok.frames,I.ok.stk,I.ok.exf,I.ok.bs,I.ok.bsz,I.ok.noex,I.ok.exfs,I.ok.funs,I.ok.frf⟩,I.os,I.bare,I.base,I.loc,I.cell,I.free,I.freeC,fun p hp=>I.pin p (by rw [qeB] at hp;exact hp),I.hok,I.len⟩
theorem Inv.ofHan {p2:List (Addr × Obj)}(ok:X.Ok)(I:Inv (X.han (X.pn++pins) ea) p2 σ H s):Inv X pins σ H s :=
 ⟨ok,I.os,I.bare,I.base,I.loc,I.cell,I.free,I.freeC,fun p hp=>I.pin p (List.mem_append_left _ hp),I.hok,I.len⟩
theorem SP.ofTr {D:Ends}{f:Flow}{s':Shared}(h:SP (X.tr (X.pn++pins) xe) [] D f s'):SP X pins D f s':=by
 cases f with
 | next=>obtain ⟨σ',H',I,q⟩:=h;exact ⟨σ',H',I.ofTr,q⟩
 | brk=>obtain ⟨σ',H',I,q⟩:=h;exact ⟨σ',H',I.ofTr,q⟩
 | cont=>obtain ⟨σ',H',I,q⟩:=h;exact ⟨σ',H',I.ofTr,q⟩
 | ret u=>obtain ⟨v,σ',H',I,r,q⟩:=h;exact ⟨v,σ',H',I.ofTr,r,q⟩
theorem Inv.gone {M:Model}{A:Around}{E:Value->Shared->Prop}{i:Nat}{n:Str}{pos:Pos}{Q:Unit->Shared->Prop}(I:Inv X pins σ H s)(hN:X.N.Nodup)(hi:X.N[i]? = some n)(hl:X.env.scope.names.lookup n=some .local)
  (h:∀ s',Inv X pins (σ.set i none) H s'->Q () s'):wpAny M A (do bindName X.env n .none;unbindBehindTheSuite X.env n pos) Q E s:=by
 obtain ⟨m,hn,hlk⟩:=id I.loc;refine wpAny_nameGoes_keeps hl hn (by rw [I.ok.kind];rfl) fun h' v hn' sb=>h _ ?_
 have I1:=I.weak (σ':=σ.set i none) (by simp) fun j w e=>by
  by_cases hj:i=j
  ·subst hj;rw [List.getElem?_set] at e;simp at e
  ·rwa [List.getElem?_set_ne hj] at e
 obtain ⟨oL,_,_,hoL,_⟩:=id hn;have nL:∀ b o,X.s₀.heap.get? b=some o->b≠X.env.locals:=fun b o e=>qdC (qfC (qmB e) I.ok.above);refine ⟨I.ok,I.os,I.bare,⟨fun b o e n hb hx=>(sb.2 b (nL b o e)).trans (I.base.keep b o e n hb hx),fun b o e n hb hx=>?_,I.base.free,fun b o e hx=>?_,I.base.tups,I.base.frzs,I.base.tbls⟩,⟨_,hn',fun j y w e1 e2 e3=>?_⟩,fun y c e=>?_,I.free,I.freeC,fun p hp=>?_,fun a o e=>?_,I1.len⟩
 ·obtain ⟨sl,e1⟩:=I.base.slot b o e n hb hx;exact ⟨sl,(sb.2 b (nL b o e)).trans e1⟩
 ·obtain ⟨o',e1⟩:=I.base.there b o e hx;exact ⟨o',(sb.2 b (nL b o e)).trans e1⟩
 ·have hj:j≠i:=fun z=>by
   subst z;rw [List.getElem?_set] at e2;simp at e2
  rw [List.getElem?_set_ne (Ne.symm hj)] at e2;obtain ⟨u,r,l⟩:=hlk j y w e1 e2 e3;refine ⟨u,r,?_⟩;rcases l with ⟨k,q⟩ | ⟨k,c,q,z⟩
  ·refine .inl ⟨k,?_⟩;have:y≠n:=fun z=>hj (LA hN e1 (z ▸ hi));simp [this,q]
  ·exact .inr ⟨k,c,q,z.sameBut sb (I.cne y c q)⟩
 ·obtain ⟨w,z⟩:=I.cell y c e;exact ⟨w,z.sameBut sb (I.cne y c e)⟩
 ·obtain ⟨e,n,ne,nf,d⟩:=I.pin p hp;exact ⟨(sb.2 p.1 ne).trans e,n,ne,nf,d⟩
 ·refine (I.hok a o e).stay (fun b u hb q=>(sb.2 b ?_).trans q) (fun _ q=>q) fun _ _ q=>q;rintro rfl;have:=I.free;rcases hb with z|hb
  ·rw [z,e] at this;cases this
  ·rw [hb] at this;cases this
theorem Inv.track {a:Addr}{o:HO}(I:Inv X [] σ H s)(f:Fr0 X H a)(fl:SD s.heap a)(new:ObjOk X.prog X.w (upd H a o) s.heap a o):Inv X [] σ (upd H a o) s:=by
 have ne:∀ b u,H b=some u->b≠a:=fun b u e z=>by rw [z,f.1] at e;cases e
 have nL:X.env.locals≠a:=fun z=>by
  obtain ⟨ob,vs,e,hd⟩:=fl;obtain ⟨m,⟨o',es,ep,e',hd',_⟩,_⟩:=I.loc;rw [z,e] at e';cases e';rw [hd] at hd';cases hd'
 have nC:∀ x k,X.env.cells.lookup x=some k->k≠a:=fun x k q z=>by
  obtain ⟨ob,vs,e,hd⟩:=fl;obtain ⟨v,o',e',hd'⟩:=I.cell x k q;rw [z,e] at e';cases e';rw [hd] at hd';cases hd'
 refine ⟨I.ok,I.os,I.bare,⟨I.base.keep,I.base.slot,fun b ob e n hx=>?_,I.base.there,fun b xs e=>?_,fun b ob u e=>?_,fun b ps e=>?_⟩,I.loc,I.cell,?_,fun x k q=>?_,fun p hp=>?_,fun b u e=>?_,I.len⟩
 ·have hb:b≠a:=fun z=>by
   subst z;exact hx (f.2.1 ob e)
  rw [Ag hb];exact I.base.free b ob e n hx
 ·have:=I.base.tups b xs e;rw [Ag (ne b _ this)];exact this
 ·have:=I.base.frzs b ob u e;rw [Ag (ne b _ this)];exact this
 ·obtain ⟨m,z⟩:=I.base.tbls b ps e;exact ⟨m,by rw [Ag (ne b _ z)];exact z⟩
 ·rw [Ag nL];exact I.free
 ·rw [Ag (nC x k q)];exact I.freeC x k q
 ·obtain ⟨e,n,n2,nf,d⟩:=I.pin p hp;rw [qeB] at hp;exact ⟨e,by rw [Ag (f.2.2 p hp)];exact n,n2,nf,d⟩
 ·by_cases hb:b=a
  ·subst hb;rw [AH] at e;cases e;exact new
  ·rw [Ag hb] at e;exact (I.hok b u e).stay (fun c v _ q=>q) (fun c q=>by rw [Ag (ne c _ q)];exact q) fun c xs q=>by rw [Ag (ne c _ q)];exact q
theorem ps_try {x n:Str}{C0:Addr}{i:Nat}{body:List Stmt}{b₀:Stmt}{suite:List Stmt}{tb:(St->XK)->TS}{th:TS}{np hpos pos:Pos}
  (hst:X.stack=X.env::X.outer) (hfm:X.env.frame=some X.env.locals) (hx:Gl X x) (hm:X.mg x=some (.ref C0)) (hN:X.N.Nodup) (hi:X.N[i]? = some n) (hl:X.env.scope.names.lookup n=some .local)
  (hb:∀ pn' xe' E,Lets (X.tr pn' xe') E->PSs (X.tr pn' xe') body (tb E)) (hh:∀ pn' ea,PSs (X.han pn' ea) (b₀::suite) th) (hd:(x == ("__debug__" : Str))=false:=by decide) :
  PS X (.Try body [.ExceptHandler (some (.Name x np)) (some n) (b₀::suite) hpos] [] [] pos) (tTry X.K C0 i tb th):=by
 intro pins s σ H D I h;refine wpAny_Try_except ?_
 let Eh:St->XK:=fun σ' cls _ H'=>PySem.W.exmOne X.K cls (.ref C0)=some true/\∀ ea,H' ea=none->th (gone i D) (σ'.set i (some (.ref ea))) (upd H' ea (Exo ea cls))
 let xt:Value->Shared->Prop:=fun ev s'=>∃ σ' H' ea cls,ev = .ref ea/\Inv X pins σ' H' s'/\ExA (Fr0 (X.tr (X.pn++pins) fun _ _=>False) H') s'.heap ea cls/\Eh σ' cls none H'
 have hL:Lets (X.tr (X.pn++pins) xt) Eh:=fun σ' H' s' ea cls I' xa q=>⟨σ',H',ea,cls,rfl,I'.ofTr,xa,q⟩;refine wpAny_mono (hb (X.pn++pins) xt Eh hL [] s σ H D I.toTr h) (fun f s1 hs=>?_) fun ev s1 hx1=>?_
 ·have hs:=hs.ofTr
  cases f with
  | next =>
   obtain ⟨σ',H',I',q⟩:=hs;exact wpAny_execs_nil ⟨σ',H',I',q⟩
  | brk=>exact hs
  | cont=>exact hs
  | ret u=>exact hs
 ·obtain ⟨σ',H',ea,cls,rfl,I1,xa,hm1,hq⟩:=hx1;have J1:Inv (X.tr (X.pn++pins) fun _ _=>False) [] σ' H' s1:=I1.toTr;refine Ov (env:=X.env) (outer:=X.outer) (base:=X.base) (by rw [I1.ok.frames,hst]) (by have:=I1.stack;rwa [hst] at this) hfm hfm xa (fun b hb=>J1.newS hb) fun h2 c hc ch _ x2=>?_;rw [<- hst] at ch;have J2:=J1.chg hc ch;refine Gw (fr:=frs X.stack) (s:={ s1 with heap:=h2 }) x2 fun h3 d hd3 ch3 _ x3=>?_;have J3:=J2.chg hd3 ch3;have I3:Inv X pins σ' H' { s1 with heap:=h3 }:=J3.ofTr;have G3:Inv (X.han (X.pn++pins) ea) [] σ' H' { s1 with heap:=h3 }:=I3.toHan;refine wpAny_handleBy_cons (codeAny_handlers_test (Hb G3 hx hm ?_ hd)) (by intro q;cases q);obtain ⟨oe,vs,he,hcls,_⟩:=x3.2.choose_spec.2.2.1;have LT:PySem.W.Looks (model X.prog X.w) h3 (typeOf (.ref ea)) cls:=hcls ▸ (PySem.W.Looks.ld he).andThen .now;refine (PySem.W.exm_one (M:=model X.prog X.w) (h:=h3) I3.kIn LT hm1).here ?_;rw [if_pos rfl];refine codeAny_handlers_suite_as ?_;refine Gw (fr:=frs X.stack) (s:={ s1 with heap:=h3 }) x3 fun h4 d4 hd4 ch4 _ x4=>?_;have J4:=J3.chg hd4 ch4;have I4:Inv X pins σ' H' { s1 with heap:=h4 }:=J4.ofTr;have G4:Inv (X.han (X.pn++pins) ea) [] σ' H' { s1 with heap:=h4 }:=I4.toHan;obtain ⟨oe4,vs4,he4,hcls4,hd4',_,hdi4⟩:=x4.2.choose_spec.2.2.1;have G4:Inv (X.han (X.pn++pins) ea) [] σ' (upd H' ea (Exo ea cls)) { s1 with heap:=h4 }:=G4.track x4.1 ⟨_,_,he4,hd4'⟩ ⟨⟨_,_,he4,hcls4,hdi4,hd4'⟩,⟨_,he4⟩,fun h1 h2 ⟨ob,vs,e1,e2⟩ k=>⟨ob,vs,k ob e1,e2⟩⟩;refine Hj (X:=X.han (X.pn++pins) ea) (v:=V.ref ea) G4 (i:=i) hN hi (.inl hl) rfl (fun s5 G5=>?_) (.inr hl);refine wpAny_mono (hh (X.pn++pins) ea [] s5 _ _ (gone i D) G5 (hq ea x4.1.1)) (fun f s6 h6=>?_) fun _ _ z=>False.elim z;show wpAny _ X.A (do bindName X.env n .none;unbindBehindTheSuite X.env n hpos) (fun _ s₃=>SP X pins D f s₃) X.xe s6
  cases f with
  | next =>
   obtain ⟨σ6,H6,G6,q6⟩:=h6;exact (G6.ofHan I.ok).gone hN hi hl fun s7 I7=>⟨_,H6,I7,q6⟩
  | brk =>
   obtain ⟨σ6,H6,G6,q6⟩:=h6;exact (G6.ofHan I.ok).gone hN hi hl fun s7 I7=>⟨_,H6,I7,q6⟩
  | cont =>
   obtain ⟨σ6,H6,G6,q6⟩:=h6;exact (G6.ofHan I.ok).gone hN hi hl fun s7 I7=>⟨_,H6,I7,q6⟩
  | ret u =>
   obtain ⟨v,σ6,H6,G6,r6,q6⟩:=h6;exact (G6.ofHan I.ok).gone hN hi hl fun s7 I7=>⟨v,_,H6,I7,r6,q6⟩
end
end L2
namespace L2
open PySem PySem.Spec PyProof.Rows PySem.W
structure XKit (K:Frag)(D:Addr):Prop where
 cl:(clsIn K D).isSome=true
 ga:findIn K (.ref D) "__getattribute__" = some (some (.builtin "BaseException.__getattribute__"))
 gn:findIn K (.ref D) "__getattr__" = some none
 ca:findIn K (.ref D) "__class__" = some (some (.builtin "object.__class__"))
 hn:specialIn K (.builtin "object.__class__") "__get__" = some (some (.builtin "getset_descriptor.__get__"))
 tk:takesIn K (.builtin "object.__class__")=some true
 mo:mroIn K D (.type "object")=some true
 mb:mroIn K D (.type "BaseException")=some true
section
variable {prog:Program}{w:World}{K:Frag}{A:Around}{E:Value->Shared->Prop}{s:Shared}{x D:Addr}{ox:Obj}
theorem SN {nameV:Value}{Q:Unit->Shared->Prop}(Z:XKit K D)(X:K.In s.heap)(I:InstAt s.heap x ox D none)(hq:Q () s) :
  wpAny (model prog w) A (checkBuiltinCall "BaseException.__getattribute__" ⟨[.ref x,nameV],[]⟩) Q E s:=by
 have hk:builtinKind "BaseException.__getattribute__" = some .slot:=by decide +kernel
 have hsplit:splitId "BaseException.__getattribute__" = some ("BaseException","__getattribute__"):=by decide +kernel
 have ha:=F.args_bexc_ga (.ref x) nameV;obtain ⟨hh,g,d,t,os⟩:=s;have L0:=I.type (M:=model prog w);have L1:=looks_mroIn (M:=model prog w) X Z.mb;simp only [checkBuiltinCall,hk,hsplit];refine qbA ?_;unfold isInstance
 repeat (any_goals (first|assumption|lk|wp_step))
theorem exc_ca {Q:Option Value->Shared->Prop}(Z:XKit K D)(X:K.In s.heap)(I:InstAt s.heap x ox D none)(h:Q (some (.ref D)) { s with toks:=s.toks+1 }):wpAny (model prog w) A (getAttr? (.ref x) "__class__") Q E s:=by
 have hf:findObj K D none "__class__" = some (.bind (.builtin "getset_descriptor.__get__") (.builtin "object.__class__")):=by
  obtain ⟨cd,hc⟩:=Option.isSome_iff_exists.mp Z.cl;unfold findObj;rw [hc,Option.bind_some,Z.ca,Option.bind_some];simp [Z.hn,Z.tk]
 obtain ⟨hh,g,d,t,os⟩:=s;have L0:=I.type (M:=model prog w);have L1:=looks_findIn (M:=model prog w) X Z.ga;have L2:=looks_findIn (M:=model prog w) X Z.gn;unfold getAttr? getAttrBy? getAttrBy;refine qbA (wpAny_mkText (qbA (wpAny_attempt (qeA (qbA (L0.at (qbA (L1.at ?_))))))));show wpAny _ _ (getAttrByItsOwn _ _ _ _ _ _) _ _ _;unfold getAttrByItsOwn;refine qbA (L2.at ?_);refine qbA (wpAny_attempt (qeA ?_));show wpAny _ _ (boundAndCalled _ _ _) _ _ _;unfold boundAndCalled;refine qbA (wpAny_of_eq (F.excAttr_ValueError.ga.bind (.ref x)) ?_);show wpAny _ _ (call (.builtin "BaseException.__getattribute__") [.ref x,.str "__class__" t]) _ _ _;refine wpAny_call (codeAny_call_builtin F.excAttr_ValueError.ga.plain F.entry_bexc_ga (SN Z X I ?_));have X':K.In (⟨hh,g,d,t+1,os⟩:Shared).heap:=X;have I':InstAt (⟨hh,g,d,t+1,os⟩:Shared).heap x ox D none:=I;have L3:=looks_find (M:=model prog w) X I hf;unfold Builtin.«object.__getattribute__»
 repeat (any_goals (first|assumption|lk|wp_step))
 refine wpAny_run ?_;refine class_get (s:=⟨hh,g,d,t+1,os⟩) (od:=none) X' I' Z.mo ?_;exact qcA (qcA (handed_on rfl (qcA h)))
end
section
variable {K:FZ9}{x D:Addr}
def ExAt (x D:Addr)(h:Heap):Prop:=∃ ox vs,h.get? x=some ox/\ox.cls = .ref D/\ox.dict=none/\ox.data = .fields vs
theorem ExAt.inst {h:Heap}(e:ExAt x D h):∃ ox,PySem.W.InstAt h x ox D none:=by
 obtain ⟨⟨c,d,dt,sl⟩,vs,e1,e2,e3,e4⟩:=e;dsimp only at e2 e3 e4;subst e2 e3 e4;exact ⟨_,e1,rfl,rfl,trivial⟩
theorem Og (Z:XKit K D):PySem.W.KitX K (.ref x) (.ref D) (ExAt x D) where
 ty:=fun _ _ _ p=>by
  obtain ⟨ox,I⟩:=p.inst;exact I.type
 it:=fun _ _ X _=>by
  obtain ⟨cd,hc⟩:=Option.isSome_iff_exists.mp Z.cl;unfold PySem.W.clsIn at hc;split at hc
  ·rename_i c' d' cd' sl' ho;intro A' Q' E' s' k q;unfold isType loadHead;exact qbA (wpAny_loadPart (k _ _ (X _ _ ho)) (qcA q))
  ·cases hc
 ne:=fun h tp dd its n sl X htp=>by
  obtain ⟨cd,hc⟩:=Option.isSome_iff_exists.mp Z.cl;refine Bool.eq_false_iff.mpr fun q=>?_;have e:D=tp:=Value.ref.inj (beq_iff_eq.mp q);subst e;unfold PySem.W.clsIn at hc;split at hc
  ·rename_i c' d' cd' sl' ho;have z:=(X _ _ ho).symm.trans htp;cases z
  ·cases hc
 ca:=fun X p k=>by
  obtain ⟨ox,I⟩:=p.inst;exact exc_ca Z X I k
end
def rInstX (K:FZ9):List V->Hp->VK->Prop:=fun vs H Q=>∃ ea D b c u,vs=[.ref ea,c]/\H ea=some (Exo ea (.ref D))/\XKit K D/\(∀ z,RelV c z->z=u)/\PySem.W.kitOne K (.ref D) u=some b/\Q (.bl b) H
theorem HE {X:Cx}{K:FZ9}(h:X.K=K):CW X (.builtin "isinstance") (rInstX K):=by
 subst h;intro pins s σ H xs us Q I rv q;obtain ⟨ea,D,b,c,u,rfl,he,Z,hc,hk,q⟩:=q
 cases rv with
 | cons r1 rv=>cases rv with
  | cons r2 rv=>cases rv with
   | nil =>
    obtain rfl:=hc _ r2;rename_i w1 _;have e1:w1=Value.ref ea:=r1;subst e1;obtain ⟨p,_⟩:=I.hok ea _ he;exact PySem.W.kia_one (Og Z) I.kIn p hk (fun z=>nomatch z) fun tk=>⟨.bl b,H,I.tok tk,rfl,q⟩
structure DefE (P:Program)(w:World)(K:FZ9)(mg:Str->Option Value)(base:Heap)(x:Str)(k:Nat)(ps:List Str)(sp:Sp):Prop where
 ex:∃ f fd,FnOk P w K mg base (CXE P w) k f fd ps sp/\mg x=some (.ref f)/\qzB K (.ref f)=true/\Binds K fd ps []
def Qk (sp:Sp)(E:St->XK)(t:TA):TE:=fun σ H Q=>t σ H fun vs H1=>sp vs H1 Q (E σ)
section
variable {X:Cx}{x:Str}{k j:Nat}{ps:List Str}{sp:Sp}{e:Expr}{es:List Expr}{t:TA}{p pos:Pos}{E:St->XK}
theorem Jd (F:DefE X.prog X.w X.K X.mg X.base x k ps sp)(hr:Room j X.A)(hj:k<=j)(hg:Gl X x)(L:Lets X E)(ha:PA X (e::es) t)(hdb:(x == ("__debug__" : Str))=false:=by decide)
  (he:starEach (e::es) X.env=(false,eval e X.env)::starEach es X.env:=by rfl) (hpl:(backTo pos (starEach es X.env)).any (·.1)=false:=by rfl) :
  PE X (.Call (.Name x p) (e::es) [] pos) (Qk sp E t):=by
 obtain ⟨f,fd,G,m,kp,b⟩:=F.ex;intro pins s σ H Q I h;refine wpAny_Call_Name_kw (Hb I hg m ?_ hdb);refine PySem.W.callWith_K (h₀:=X.base) I.ok.mod.kin kp (thn (ha pos pins s σ H _ I h) fun us s1 ⟨vs,H1,I1,r,q⟩=>⟨I1.kIn,?_⟩) he hpl;have hl:us.length=ps.length:=by rw [<- r.length];exact G.len _ _ _ _ q
 have bb:=b s1 us I1.kIn (by rw [qeB];exact hl);rw [qeB] at bb;refine wpAny_call (codeAny_mono (G.run X.A X.stack s1 H1 ⟨us,[]⟩ us vs Q (E σ) (hr.mono hj) I1.env0 bb r q) fun r' s' hq=>?_)
 cases r' with
 | error e=>exact L.passes pins σ H1 s1 e s' I1 hq
 | ok fl =>
  cases fl with
  | ret u=>exact I1.after hq
  | next=>exact False.elim hq
  | brk=>exact False.elim hq
  | cont=>exact False.elim hq
end
theorem DIn.okE {P:Program}{w:World}{K:FZ9}{mg:Str->Option Value}{base:Heap}{x:Str}{st:Stmt}{N ps:List Str}{k:Nat}{sp:Sp}(Z:DIn K mg x st)(S:FnScope N ps (AF st))(b:BnO x st ps)(len:∀ vs H Q E,sp vs H Q E->vs.length=ps.length)
  (hbody:∀ (f:Addr) (cdv:Value) (A:Around) (outer:List Env) (s:Shared) (H:Hp) (vs:List V) (Q:VK) (E:XK),Room k (A.deeper (envOfC x (AF st) s.heap.objs.size f cdv))->sp vs H Q E ->
   ∃ t,PSs (IY (CXE P w) P w K mg base N x (AF st) f cdv A outer s H E) (Bu st) t/\t { nx:=fun _ H'=>Q .non H',rt:=Q } (start N vs) H):DefE P w K mg base x (k+1) ps sp:=by
 obtain ⟨f,fd,a,F⟩:=Z.ex;have bb:=F.binds b;obtain ⟨oc,od,kV,doc,pm,an,cdv,ct,osl,rfl,lk,hcd⟩:=F.ex;exact ⟨f,_,fn_of lk hcd S len fun A outer s H vs Q E hr hsp=>hbody f cdv A outer s H vs Q E hr hsp,a,F.kp,bb⟩
def S1 {ρ:Type}(r:Except Str ρ)(P:ρ->Prop)(R:Str->Prop):Prop:=match r with
 | .ok b=>P b
 | .error n=>R n
section
variable {K:FZ9}{mg:Str->Option Value}{σ:St}{G H:Hp}{α β:Type}[Rp α][Rp β]{te t0:TE}{E:St->XK}
def Raises (mg:Str->Option Value)(E:XK)(nm:Str)(G H:Hp):Prop:=∀ D G2 H2,mg nm=some (.ref D)->Ext G H G2 H2->E (.ref D) none H2
def spX (K:FZ9)(mg:Str->Option Value){A:Type}[RpA A]{ρ:Type}[Rp ρ](m:A->Option (Except Str ρ)):Sp:=fun vs H Q E =>
 ∃ G a r,Same G H/\RpA.rel K G vs a/\m a=some r/\S1 r (fun b=>∀ v G2 H2,Ext G H G2 H2->Rp.rel K G2 v b->Q v H2) fun nm=>Raises mg E nm G H
theorem Jc {A:Type}[RpA A]{ρ:Type}[Rp ρ]{m:A->Option (Except Str ρ)}{vs:List V}{H:Hp}{Q:VK}{E:XK}(h:spX K mg m vs H Q E):vs.length=RpA.n A:=by
 obtain ⟨G,a,r,_,h,_⟩:=h;exact RpA.len h
def EVX (K:FZ9)(mg:Str->Option Value)(E:St->XK){α:Type}[Rp α](te:TE)(σ:St)(G:Hp)(m:Option (Except Str α)):Prop :=
 ∀ G1,Same G G1->∀ r,m=some r->∀ H,Same G1 H->∀ Q:VK,S1 r (fun a=>∀ v G2 H2,Ext G1 H G2 H2->Rp.rel K G2 v a->Q v H2) (fun nm=>Raises mg (E σ) nm G1 H)->te σ H Q
theorem Raises.pre {E:XK}{nm:Str}{G1 H1:Hp}(r:Raises mg E nm G H)(x:Ext G H G1 H1):Raises mg E nm G1 H1:=fun D G2 H2 h y=>r D G2 H2 h (x.trans y)
theorem evx_def1 {A0:Type}[Rp A0]{m0:Option A0}{m:A0 × Unit->Option (Except Str α)}(e0:EV K t0 σ G m0):EVX K mg E (Qk (spX K mg m) E (AK t0 B7)) σ G (m0.bind fun a0=>m (a0,())):=by
 clear 7;obtain ⟨a0,ha0,hc⟩:=qaA.mp hc;refine e0 G1 s1 a0 ha0 H sH _ fun v0 G2 H2 x0 r0=>?_;refine ⟨G2,_,c,x0.gh,⟨v0,_,rfl,r0,rfl⟩,hc,?_⟩
 cases c with
 | ok b=>exact fun v G9 H9 x9 r=>k v G9 H9 (x0.trans x9) r
 | error nm=>exact Raises.pre k x0
theorem sx_drop {m:Option (Except Str α)}{r:Except Str α}{rest:TS}{D:Ends}(e:EVX K mg E te σ G m)(hm:m=some r)(s:Same G H)(k:S1 r (fun _=>∀ G2 H2,Ext G H G2 H2->rest D σ H2) fun nm=>Raises mg (E σ) nm G H):Bz (KZ te) rest D σ H:=by
 refine e G (.refl G) r hm H s _ ?_
 cases r with
 | ok b=>exact fun v G2 H2 x _=>k G2 H2 x
 | error nm=>exact k
end
structure Exn where
 D:Addr
instance rpExn:Rp Exn:=⟨fun _ H v e=>∃ ea,v = .ref ea/\H ea=some (Exo ea (.ref e.D)),fun s ⟨ea,e,h⟩=>⟨ea,e,s _ _ h⟩⟩
section
variable {K:FZ9}{σ:St}{G H:Hp}{ta:TE}
theorem F1 {D:Addr}{c:V}{u:Value}{b:Bool}(Z:XKit K D)(hk:PySem.W.kitOne K (.ref D) u=some b)(hc:∀ z,RelV c z->z=u)(ea:EV K ta σ G (some (Exn.mk D))):EV K (tCB (rInstX K) (AK ta (AK (tC c) B7))) σ G (some b):=by
 intro G1 s1 a ha H sH Q k;cases ha;refine ea G1 s1 _ rfl H sH _ fun v G2 H2 x r=>?_;obtain ⟨ex,rfl,he⟩:=r;exact ⟨ex,D,b,c,u,rfl,x.gh _ _ he,Z,hc,hk,k _ G2 H2 x rfl⟩
end
theorem Ja {a:Addr}:∀ z,RelV (.ref a) z->z = .ref a:=fun _ h=>h
theorem rel_ty {T:String}:∀ z,RelV (.ty T) z->z = .type T:=fun _ h=>h
theorem own_in {K:FZ9}{h:Heap}{mg:Str->Option Value}{x:Str}{C:Addr}{bm:List Value}{newId:String}(X:K.In h)(G:h.Ns mainGlobals mg)(e:qxB K mainGlobals x=some (some (.ref C)))(q:PySem.W.excIn K C bm newId=true):OwnCls x C bm newId mg h:=by
 refine ⟨qyB X G e,?_⟩;unfold PySem.W.excIn at q;split at q
 case h_2=>cases q
 rename_i dd cd sl ho;split at q
 case h_2=>cases q
 rename_i C' tl k0 k1 k2 k3 n k5 hm hs;simp only [qnC,beq_iff_eq,Bool.not_eq_true'] at q;obtain ⟨⟨⟨⟨⟨rfl,rfl⟩,hdel⟩,ht⟩,hok⟩,hni⟩:=q;obtain ⟨nm,bs,mro,ns,qn,hd,sn,sub,ab,col,del⟩:=cd;dsimp only at hm hdel hok hni;subst hm hdel;obtain ⟨l⟩:=sl;simp only at hs;subst hs;exact ⟨tl,ns,nm,qn,bs,hd,sn,sub,ab,col,dd,k0,k1,k2,k3,k5,_,X _ _ ho,.of_isNs (PySem.W.isNs_of_in X hok),PySem.W.nsMap_none_of_in X hok hni,PySem.W.tail_of_in X ht⟩
theorem Le:bootBuiltins "ValueError" = some (.type "ValueError"):=by decide +kernel
def XKits (K:FZ9)(D:Addr):Prop:=(∃ cd,PySem.W.clsIn K D=some cd)/\PySem.W.findIn K (.ref D) "__getattribute__" = some (some (.builtin "BaseException.__getattribute__"))/\PySem.W.findIn K (.ref D) "__getattr__" = some none /\
 PySem.W.findIn K (.ref D) "__class__" = some (some (.builtin "object.__class__"))/\PySem.W.specialIn K (.builtin "object.__class__") "__get__" = some (some (.builtin "getset_descriptor.__get__"))/\PySem.W.takesIn K (.builtin "object.__class__")=some true /\
 PySem.W.mroIn K D (.type "object")=some true/\PySem.W.mroIn K D (.type "BaseException")=some true
theorem XKits.to {K:FZ9}{D:Addr}(h:XKits K D):XKit K D :=
 let ⟨⟨cd,h1⟩,h2,h3,h4,h5,h6,h7,h8⟩:=h
 ⟨by rw [h1];rfl,h2,h3,h4,h5,h6,h7,h8⟩
section
variable {K:FZ9}{σ:St}{G H:Hp}{α:Type}[Rp α]{rest:TS}{D:Ends}
structure LoopObX (K:FZ9){α S ρ:Type}[Rp α](RR:ρ->V->Hp->Hp->Prop)(f:α->S->Option (Fl S ρ))(g:TG)(tb:TS)(D:Ends)(σ:St)(G2 H2:Hp)(as:List α)(s0:S)(res:Fl S ρ)(RS:S->St->Hp->Hp->Prop):Prop where
 start:RS s0 σ G2 H2
 keep:∀ s σ' G' H',RS s σ' G' H'->Same G2 G'/\Same G' H'
 step:∀ (x:V) (a:α) (s:S) (σ1:St) (G1 H1:Hp) (fl:Fl S ρ),a∈as->RS s σ1 G1 H1->Rp.rel K G1 x a->f a s=some fl->(∀ r,fl = .rt r->res = .rt r)->∀ D':Ends,(∀ s' σ' G' H',fl = .nx s'->RS s' σ' G' H'->D'.nx σ' H')->(∀ s' σ' G' H',fl = .nx s'->RS s' σ' G' H'->D'.ct σ' H') ->
  (∀ s' σ' G' H',fl = .bk s'->RS s' σ' G' H'->D'.bk σ' H')->(∀ r v G' H',fl = .rt r->RR r v G' H'->D'.rt v H')->g x σ1 H1 fun σ2 H2=>tb D' σ2 H2
 nxt:∀ s σ' G' H',res = .nx s->RS s σ' G' H'->D.nx σ' H'
 rtn:∀ r v G' H',res = .rt r->RR r v G' H'->D.rt v H'
theorem sv_forX {S ρ:Type}{RR:ρ->V->Hp->Hp->Prop}{f:α->S->Option (Fl S ρ)}{wi:TI}{g:TG}{tb:TS}{mi:Option (List α)}{as:List α}{s0:S}{res:Fl S ρ}(ei:IW K wi σ G mi)(hm:mi=some as)(hf:CV f as s0=some res)(sg:Same G H)
  (k:∀ G2 H2,Ext G H G2 H2->∃ RS,LoopObX K RR f g tb { D with nx:=rest D } σ G2 H2 as s0 res RS):Bz (tFor wi g tb) rest D σ H:=by
 refine ei G (.refl G) as hm H sg _ fun J vs G2 H2 x2 Y hz pr=>?_;obtain ⟨RS,L⟩:=k G2 H2 x2;have hla:=Paired.length pr;refine ⟨fun i m σ' H'=>m=vs.length - i/\i<=vs.length/\∃ s G',RS s σ' G' H'/\CV f (as.drop i) s=some res,⟨vs.length,by simp,qkC _,s0,G2,L.start,hf⟩,?_⟩;rintro i m σ' H' ⟨rfl,hi,s,G',rs,hfo⟩;obtain ⟨k1,k2⟩:=L.keep _ _ _ _ rs;by_cases hlt:i<vs.length
 ·refine .inr ⟨Y.go i _ (k1.trans k2) hlt,fun σ'' H''=>∃ s' G'',RS s' σ'' G'' H''/\CV f (as.drop (i+1)) s'=some res,fun σ'' H'' ⟨s',G'',h⟩=>⟨vs.length - (i+1),by omega,rfl,hlt,s',G'',h⟩,fun x H3 y=>?_⟩;obtain ⟨rfl,hx⟩:=Y.yld i _ x H3 (k1.trans k2) hlt y;obtain ⟨a,hai,ra⟩:=Paired.getR pr hx
  have hd:as.drop i=a::as.drop (i+1):=by
   obtain ⟨h1,h2⟩:=qvA.mp hai;rw [List.drop_eq_getElem_cons h1,h2]
  rw [hd] at hfo;obtain ⟨fl,hfl,hfo⟩:=qaA.mp hfo;refine L.step x a s σ' G' _ fl (quA hai) rs (Rp.mono k1 ra) hfl (fun r e=>by subst e;exact (qkB hfo).symm) _ ?_ ?_ ?_ ?_
  ·intro s' σ'' G'' H'' e r;subst e;exact ⟨s',G'',r,hfo⟩
  ·intro s' σ'' G'' H'' e r;subst e;exact ⟨s',G'',r,hfo⟩
  ·intro s' σ'' G'' H'' e r;subst e;exact L.nxt s' σ'' G'' H'' (qkB hfo).symm r
  ·intro r v G'' H'' e rl;subst e;exact L.rtn r v G'' H'' (qkB hfo).symm rl
 ·have e:i=vs.length:=by omega
  subst e;have hd:as.drop vs.length=[]:=List.drop_eq_nil_of_le (by omega);rw [hd] at hfo;exact .inl ⟨Y.stop _ (k1.trans k2),L.nxt s σ' G' H' (qkB hfo).symm rs⟩
end
inductive SB where
 | s (x:Str)
 | b (n:Bool)
 deriving DecidableEq
def RelSB (v:V):SB->Prop
 | .s x=>v = .str x/\x.length<=sizeLine
 | .b n=>v = .bl n
instance rpSB:Rp SB:=⟨fun _ _ v a=>RelSB v a,fun _ h=>h⟩
theorem eqSB {K:FZ9}:EqTy K 0 (Rp.rel (α:=SB) K) where
 fn:=fun {X pins σ H s x a b} hK I h1 h2=>by
  cases a with
  | s y=>cases b with
   | s z=>obtain ⟨rfl,_⟩:=h1;obtain ⟨e,_⟩:=h2;cases e;rfl
   | b n=>obtain ⟨rfl,_⟩:=h1;cases h2
  | b m=>cases b with
   | s z=>obtain ⟨rfl,_⟩:=h2;cases h1
   | b n =>
    have h1:x = .bl m:=h1;have h2:x = .bl n:=h2;subst h1;cases h2
    rfl
 eq:=fun {X pins σ H s x y u v a b} A hK I hu r1 r2 h1 h2=>by
  cases a with
  | s p=>cases b with
   | s q =>
    obtain ⟨rfl,_⟩:=h1;obtain ⟨rfl,_⟩:=h2;have:=eqStr.eq (K:=K) (a:=p) (b:=q) A hK I hu r1 r2 rfl rfl
    rwa [show decide (SB.s p=SB.s q)=decide (p=q) from decide_eq_decide.mpr ⟨fun e=>by cases e;rfl,fun e=>by rw [e]⟩]
   | b n =>
    obtain ⟨rfl,_⟩:=h1;have h2:y = .bl n:=h2;subst h2;obtain ⟨t,rfl⟩:=r1;cases r2;rw [decide_eq_false (fun e=>by cases e)];exact SeqAt.EqAt.str_bool _ _ _
  | b m=>cases b with
   | s q =>
    obtain ⟨rfl,_⟩:=h2;have h1:x = .bl m:=h1;subst h1;cases r1;obtain ⟨t',rfl⟩:=r2;rw [decide_eq_false (fun e=>by cases e)];exact SeqAt.EqAt.bool_str _ _ _
   | b n =>
    have:=eqBl.eq (K:=K) (a:=m) (b:=n) A hK I hu r1 r2 h1 h2
    rwa [show decide (SB.b m=SB.b n)=decide (m=n) from decide_eq_decide.mpr ⟨fun e=>by cases e;rfl,fun e=>by rw [e]⟩]
 rc:=fun {X pins σ H s x y u v a b} A hK I hu r1 r2 h1 h2=>by
  cases a with
  | s p=>cases b with
   | s q =>
    obtain ⟨rfl,_⟩:=h1;obtain ⟨rfl,_⟩:=h2;have:=eqStr.rc (K:=K) (a:=p) (b:=q) A hK I hu r1 r2 rfl rfl
    rwa [show decide (SB.s p=SB.s q)=decide (p=q) from decide_eq_decide.mpr ⟨fun e=>by cases e;rfl,fun e=>by rw [e]⟩]
   | b n =>
    obtain ⟨rfl,_⟩:=h1;have h2:y = .bl n:=h2;subst h2;obtain ⟨t,rfl⟩:=r1;cases r2;rw [decide_eq_false (fun e=>by cases e)];exact ⟨SeqAt.RcAt.str_bool _ _ _,SeqAt.RcNeAt.str_bool _ _ _⟩
  | b m=>cases b with
   | s q =>
    obtain ⟨rfl,_⟩:=h2;have h1:x = .bl m:=h1;subst h1;cases r1;obtain ⟨t',rfl⟩:=r2;rw [decide_eq_false (fun e=>by cases e)];exact ⟨SeqAt.RcAt.bool_str _ _ _,SeqAt.RcNeAt.bool_str _ _ _⟩
   | b n =>
    have:=eqBl.rc (K:=K) (a:=m) (b:=n) A hK I hu r1 r2 h1 h2
    rwa [show decide (SB.b m=SB.b n)=decide (m=n) from decide_eq_decide.mpr ⟨fun e=>by cases e;rfl,fun e=>by rw [e]⟩]
instance reSB:RpE SB:=⟨0,fun _=>eqSB⟩
inductive Th where
 | g (n:Nt)
 | b (d:D)
instance rpTh:Rp Th:=⟨fun K H v a=>match a with
 | .g n=>Rp.rel K H v n
 | .b d=>Rp.rel K H v d,fun {K H1 H2 v a} s h=>by
  cases a with
  | g n=>exact Rp.mono (α:=Nt) s h
  | b d=>exact Rp.mono (α:=D) s h⟩
def Th.toD:Th->D
 | .g n=>ToD.to n
 | .b d=>d
instance tdTh:ToD Th:=⟨Th.toD,fun {K H v a} h=>by
 cases a with
 | g n=>exact ToD.rel (α:=Nt) h
 | b d=>exact h⟩
def Qp:Th->Option Nt
 | .g n=>some n
 | .b _=>none
inductive DueT where
 | told (p:Str × Int)
 | ref (t:Tp SB)
instance rpDue:Rp DueT:=⟨fun K H v a=>match a with
 | .told p=>Rp.rel K H v p
 | .ref t=>Rp.rel K H v t,fun {K H1 H2 v a} s h=>by
  cases a with
  | told p=>exact Rp.mono (α:=Str × Int) s h
  | ref t=>exact Rp.mono (α:=Tp SB) s h⟩
def PF:DueT->DueT->Option Bool
 | .told p,.told q=>some (decide (p=q))
 | .ref p,.ref q=>some (decide (p=q))
 | _,_=>none
def rEq2 (K:FZ9)(α β:Type)[Rp α][DecidableEq α][Rp β][DecidableEq β]:R2:=fun x y H Q=>rEqD K α x y H Q\/rEqD K β x y H Q
theorem Pz {X:Cx}{K:FZ9}{j:Nat}(h:X.K=K)(hr:Room j X.A):OpR X (compareOp .Eq) (rEq2 K (Str × Int) (Tp SB)):=by
 intro pins s σ H x y v u Q I rx ry q;rcases q with q|q
 ·exact op_eqK h (Str × Int) hr (by decide) pins s σ H x y v u Q I rx ry q
 ·exact op_eqK h (Tp SB) hr (by decide) pins s σ H x y v u Q I rx ry q
section
variable {K:FZ9}{σ:St}{G H:Hp}{ta tb te tk:TE}{α:Type}[Rp α]{rest:TS}{D:Ends}{i:Nat}
theorem Mg {m:Option Str}(e:EV K te σ G m):EV K te σ G (m.bind fun x=>some (SB.s x)):=by
 clear 7;obtain ⟨x,hx,hc⟩:=qaA.mp hc;cases hc;exact e G1 s1 x hx H sH Q fun v G2 H2 x2 r=>k v G2 H2 x2 r
theorem CT {m:Option Bool}(e:EV K te σ G m):EV K te σ G (m.bind fun x=>some (SB.b x)):=by
 clear 7;obtain ⟨x,hx,hc⟩:=qaA.mp hc;cases hc;exact e G1 s1 x hx H sH Q fun v G2 H2 x2 r=>k v G2 H2 x2 r
theorem Qj {m:Option Nt}(e:EV K te σ G m):EV K te σ G (m.bind fun x=>some (Th.g x)):=by
 clear 7;obtain ⟨x,hx,hc⟩:=qaA.mp hc;cases hc;exact e G1 s1 x hx H sH Q fun v G2 H2 x2 r=>k v G2 H2 x2 r
theorem ev_thB {m:Option L2.D}(e:EV K te σ G m):EV K te σ G (m.bind fun x=>some (Th.b x)):=by
 clear 7;obtain ⟨x,hx,hc⟩:=qaA.mp hc;cases hc;exact e G1 s1 x hx H sH Q fun v G2 H2 x2 r=>k v G2 H2 x2 r
theorem Ng {m:Option Th}(e:EV K te σ G m):EV K te σ G (m.bind fun x=>Qp x):=by
 clear 7;obtain ⟨x,hx,hc⟩:=qaA.mp hc
 cases x with
 | b d=>cases hc
 | g n =>
  cases hc;exact e G1 s1 _ hx H sH Q fun v G2 H2 x2 r=>k v G2 H2 x2 r
theorem Mf {m:Option (Str × Int)}(e:EV K te σ G m):EV K te σ G (m.bind fun x=>some (DueT.told x)):=by
 clear 7;obtain ⟨x,hx,hc⟩:=qaA.mp hc;cases hc;exact e G1 s1 x hx H sH Q fun v G2 H2 x2 r=>k v G2 H2 x2 r
theorem Jn {m:Option (Tp SB)}(e:EV K te σ G m):EV K te σ G (m.bind fun x=>some (DueT.ref x)):=by
 clear 7;obtain ⟨x,hx,hc⟩:=qaA.mp hc;cases hc;exact e G1 s1 x hx H sH Q fun v G2 H2 x2 r=>k v G2 H2 x2 r
theorem Ko {m1 m2:Option DueT}(ea:EV K ta σ G m1)(eb:EV K tb σ G m2):EV K (tOp (rEq2 K (Str × Int) (Tp SB)) ta tb) σ G (m1.bind fun a=>m2.bind fun b=>PF a b) :=
 C7 (fun {G' H' x y a b c} s ra rb e Q k=>by
  cases a with
  | told p=>cases b with
   | told q =>
    cases e;exact .inl ⟨p,q,Rp.mono (α:=Str × Int) s ra,Rp.mono (α:=Str × Int) s rb,k _ _ _ (.refl s) rfl⟩
   | ref q=>cases e
  | ref p=>cases b with
   | told q=>cases e
   | ref q =>
    cases e
    exact .inr ⟨p,q,Rp.mono (α:=Tp SB) s ra,Rp.mono (α:=Tp SB) s rb,k _ _ _ (.refl s) rfl⟩) ea eb
theorem sv_ownS1 {m1:Option Str}{k1:Str}{m:Option α}{a:α}{b:MpS α}(e1:EV K tk σ G m1)(h1:m1=some k1)(e:EV K te σ G m)(hm:m=some a)(hb:(some (MpS.mk [(k1,a)]):Option (MpS α))=some b)(s:Same G H)(k:∀ p kvs G2 H2,Ext G H G2 H2->H p=none->OwnS K G2 H2 (.ref p) p kvs b->rest D (σ.set i (some (.ref p))) H2) :
  Bz (GO (tDisp [(tk,te)]) (Bm i)) rest D σ H:=by
 cases hb;intro p hp;have x0:Ext G H G (upd H p (.dK [])):=.own s hp;refine e1 G (.refl G) k1 h1 _ x0.gh _ fun u G1 H1 x1 r1=>?_;obtain ⟨rfl,_⟩:=r1;refine e G1 x1.gg a hm H1 x1.gh _ fun v G2 H2 x2 r2=>?_;have x3:=(x0.trans x1).trans x2;have hg:G2 p=none:=(x1.trans x2).no p (s.free hp) (by rw [AH];exact fun z=>nomatch z);refine ⟨(x1.trans x2).hh _ _ AH,[(Sum.inr k1,v)],rfl,by show 1<=15;decide,?_⟩;exact k p _ G2 _ (x3.put hp hg) hp ⟨rfl,hg,AH,.cons ⟨rfl,r2⟩ .nil⟩
theorem ev_lenMS {la:Option (MpS α)}(ea:EV K ta σ G la):EV K (tCB rLenM (AK ta B7)) σ G (la.bind fun a=>some ((a.l.length:Nat):Int)):=by
 clear 7;obtain ⟨b,hb,hc⟩:=qaA.mp hc;cases hc;clear 8 ea b hb;obtain ⟨p,kvs,rfl,h,pr⟩:=r2;refine ⟨p,kvs,rfl,.inl (x2.gh _ _ h),k _ _ _ x2 ?_⟩;rw [Paired.length pr]
 rfl
end
def rInstT (K:FZ9):List V->Hp->VK->Prop:=fun vs H Q=>∃ ea D b tp cs us,vs=[.ref ea,.ref tp]/\H ea=some (Exo ea (.ref D))/\XKit K D/\H tp=some (.tup cs)/\(∀ zs,Vals cs zs->zs=us)/\PySem.W.kitAny K (.ref D) us=some b/\Q (.bl b) H
theorem Qv {X:Cx}{K:FZ9}(h:X.K=K):CW X (.builtin "isinstance") (rInstT K):=by
 subst h;intro pins s σ H xs us Q I rv q;obtain ⟨ea,D,b,tp,cs,us,rfl,he,Z,ht,hc,hk,q⟩:=q
 cases rv with
 | cons r1 rv=>cases rv with
  | cons r2 rv=>cases rv with
   | nil =>
    rename_i w1 w2;have e1:w1=Value.ref ea:=r1;have e2:w2=Value.ref tp:=r2;subst e1 e2;obtain ⟨p,_⟩:=I.hok ea _ he;obtain ⟨_,its,rv,hi⟩:=I.hok tp _ ht;obtain rfl:=hc _ rv;obtain ⟨⟨cls,dd,data,sl⟩,ho,hcl,n,hd⟩:=hi;simp only at hcl hd;subst hcl hd;exact PySem.W.kia_tup (Og Z) I.kIn p ho hk (fun z=>nomatch z) fun tk=>⟨.bl b,H,I.tok tk,rfl,q⟩
theorem MF:∀ {as:List Addr}{zs:List Value},Vals (as.map V.ref) zs->zs=as.map Value.ref
 | [],_,.nil=>rfl
 | a::as,_,.cons h t=>by rw [qbB,<- MF t,show _=Value.ref a from h]
theorem OW {K:FZ9}{D:Addr}:∀ {as:List Addr},(∀ a∈as,PySem.W.kitOne K (.ref D) (.ref a)=some false)->PySem.W.kitAny K (.ref D) (as.map Value.ref)=some false
 | [],_=>rfl
 | a::as,h=>by
  rw [qbB];unfold PySem.W.kitAny;rw [h a qrA];exact OW fun b hb=>h b (qsA _ hb)
theorem Lw {K:FZ9}{σ:St}{G:Hp}{ta:TE}{D a1 a2 a3 a4 a5 a6:Addr}(Z:XKit K D)(hk:∀ a∈[a1,a2,a3,a4,a5,a6],PySem.W.kitOne K (.ref D) (.ref a)=some false)(ea:EV K ta σ G (some (Exn.mk D))) :
  EV K (tCB (rInstT K) (AK ta (AK (JY (AK (tC (.ref a1)) (AK (tC (.ref a2)) (AK (tC (.ref a3)) (AK (tC (.ref a4)) (AK (tC (.ref a5)) (AK (tC (.ref a6)) B7))))))) B7))) σ G (some false):=by
 intro G1 s1 a ha H sH Q k;cases ha;refine ea G1 s1 _ rfl H sH _ fun v G2 H2 x r=>?_;obtain ⟨ex,rfl,he⟩:=r;refine ⟨by show 6<=sizeLine;decide,fun p hp=>?_⟩;have x3:Ext G2 H2 (upd G2 p (.tup ([a1,a2,a3,a4,a5,a6].map V.ref))) (upd H2 p (.tup ([a1,a2,a3,a4,a5,a6].map V.ref))):=Ext.new x.gh hp;exact ⟨ex,D,false,p,_,_,rfl,x3.hh _ _ (x.gh _ _ he),Z,AH,fun zs h=>MF (as:=[a1,a2,a3,a4,a5,a6]) h,OW hk,k _ _ _ (x.trans x3) rfl⟩
section
variable {K:FZ9}{mg:Str->Option Value}{σ:St}{G H:Hp}{α:Type}[Rp α]{te t0 t1:TE}{E:St->XK}{i:Nat}
theorem sx_set {m:Option (Except Str α)}{r:Except Str α}{rest:TS}{D:Ends}(e:EVX K mg E te σ G m)(hm:m=some r)(s:Same G H)(k:S1 r (fun a=>∀ v G2 H2,Ext G H G2 H2->Rp.rel K G2 v a->rest D (σ.set i (some v)) H2) fun nm=>Raises mg (E σ) nm G H):Bz (GO te (Bm i)) rest D σ H:=by
 refine e G (.refl G) r hm H s _ ?_
 cases r with
 | ok b=>exact fun v G2 H2 x q=>k v G2 H2 x q
 | error nm=>exact k
theorem Oe {A0 A1:Type}[Rp A0][Rp A1]{m0:Option A0}{m1:Option A1}{m:A0 × A1 × Unit->Option (Except Str α)}(e0:EV K t0 σ G m0)(e1:EV K t1 σ G m1):EVX K mg E (Qk (spX K mg m) E (AK t0 (AK t1 B7))) σ G (m0.bind fun a0=>m1.bind fun a1=>m (a0,a1,())):=by
 clear 7;obtain ⟨a0,ha0,hc⟩:=qaA.mp hc;obtain ⟨a1,ha1,hc⟩:=qaA.mp hc;refine e0 G1 s1 a0 ha0 H sH _ fun v0 G2 H2 x0 r0=>?_;refine e1 G2 (s1.trans x0.gg) a1 ha1 H2 x0.gh _ fun v1 G3 H3 x1 r1=>?_;refine ⟨G3,_,c,x1.gh,⟨v0,_,rfl,Rp.mono x1.gg r0,v1,_,rfl,r1,rfl⟩,hc,?_⟩
 cases c with
 | ok b=>exact fun v G9 H9 x9 r=>k v G9 H9 ((x0.trans x1).trans x9) r
 | error nm=>exact Raises.pre k (x0.trans x1)
end
theorem nn_tp {K:FZ9}{G:Hp}{α:Type}[Rp α]{v:V}{a:Tp α}(h:Rp.rel K G v a):v ≠ .non:=by
 obtain ⟨l,xs,rfl,_⟩:=h;exact fun z=>nomatch z
end L2
namespace My
open PySem PySem.Spec PyProof.Rows L2
abbrev CQ:List (Str × Int):=[("yes",0),("no",0),("not",1),("next",1),("atlast",1),("always",1),("again",1),("settles",1),("and",2),("or",2),("then",2),("until",2),("frees",2)]
def Aq (script_:Scr)(k_:Int):Option Int :=
 (some (decide (k_<(script_.l.length:Int)))).bind fun b1=>cond b1
  (((some script_).bind fun t6=>(some k_).bind fun t7=>atI t6.l t7))
  ((some ((k_ * (7919:Int))+(5:Int))).bind fun BL =>
  (some (decide ((0:Int)<(script_.l.length:Int)))).bind fun b19=>(cond b19
   ((((((some script_).bind fun t32=>((some (k_ * (7:Int))).bind fun t30=>(some (script_.l.length:Int)).bind fun t31=>SV t30 t31).bind fun t33=>atI t32.l t33).bind fun t34=>(some (t34 * (48271:Int)))).bind fun t35=>(some (t35+(k_ * (7919:Int))))).bind fun t36=>(some (t36 % (2147483647:Int)))).bind fun BL =>
   some BL)
   (some BL)).bind fun s24 =>
  (((some s24).bind fun t46=>(some s24).bind fun t47=>Na t46 t47).bind fun t48=>(some (t48 % (2147483629:Int)))))
abbrev B1 (x:Scr × Int × Unit):Option Int:=Aq x.1 x.2.1
def Ct (script_:Scr):Option (Nt × Int) :=
 ((((((some ("abcdefghi" : Str)).bind fun t4=>(((some script_).bind fun t1=>(some (2:Int)).bind fun t2=>Aq t1 t2).bind fun t3=>(some (t3 % (9:Int)))).bind fun t5=>(atI t4.cps.toList t5).bind fun z=>some (⟨#[z]⟩:Str)).bind fun t6=>(some (Nt.txt t6))).bind fun t7=>(some [t7])).bind fun t8=>(some ((Nt.txt ("lamp" : Str))::t8))).bind fun t9=>(some (Nt.tup t9))).bind fun As =>
 (some (0:Int)).bind fun ET =>
 (some false).bind fun K8 =>
 ((((some script_).bind fun t28=>(some (3:Int)).bind fun t29=>Aq t28 t29).bind fun t30=>(some (t30 % (9:Int)))).bind fun t31=>Ob 0 t31).bind fun as32=>(CV (S:=(Nt × Int × Bool)) (ρ:=(Nt × Int)) (fun (k_:Int) s39 =>
   (((((some script_).bind fun t60=>(some ((14:Int)+k_)).bind fun t61=>Aq t60 t61).bind fun t62=>(some (t62 / (2:Int)))).bind fun t63=>(some (t63 % (6:Int)))).bind fun t68=>((((some script_).bind fun t64=>(some ((14:Int)+k_)).bind fun t65=>Aq t64 t65).bind fun t66=>(some (t66 % (2:Int)))).bind fun t67=>(some ((6:Int) * t67))).bind fun t69=>(some (t68+t69))).bind fun way_ =>
   ((some [("atlast" : Str),("always" : Str),("again" : Str),("settles" : Str),("until" : Str),("frees" : Str)]).bind fun t76=>(some (way_ % (6:Int))).bind fun t77=>atI t76 t77).bind fun Bo =>
   (some (decide ((5:Int)<way_))).bind fun b84=>(cond b84
    ((some (Nt.tup [(Nt.txt ("next" : Str)),s39.1])).bind fun As =>
    (some (s39.2.1+(if (!s39.2.2) then (1:Int) else 0))).bind fun ET =>
    some (As,ET))
    ((some (decide ((3:Int)<way_))).bind fun b109=>cond b109
     ((some (Nt.tup [(Nt.txt Bo),s39.1,(Nt.tup [(Nt.txt ("yes" : Str))])])).bind fun As =>
     (some (s39.2.1+(1:Int))).bind fun ET =>
     some (As,ET))
     ((some (Nt.tup [(Nt.txt Bo),s39.1])).bind fun As =>
     (((some [(1:Int),(1:Int),(2:Int),(2:Int)]).bind fun t132=>(some way_).bind fun t133=>atI t132 t133).bind fun t134=>(some (s39.2.1+t134))).bind fun ET =>
     some (As,ET)))).bind fun s89 =>
   (some (decide (way_∈(Tp.mk [(0:Int),(3:Int),(4:Int)]).l))).bind fun K8 =>
   some (Fl.nx (s89.1,s89.2,K8))) as32 (As,ET,K8)).bind fun fl34=>match fl34 with
  | .nx s39 =>
   (some (s39.1,s39.2.1))
  | .rt r=>some r
  | .bk _=>none
abbrev HV (x:Scr × Unit):Option (Nt × Int):=Ct x.1
def B0 (P9:Nt->Option Int)(As:Nt):Option Int :=
 (((((some As).bind fun t4=>Bq t4).bind fun t5=>(some (0:Int)).bind fun t6=>atI t5.l t6).bind fun t7=>D8 t7).bind fun t8=>(some (decide (t8=("lamp" : Str))))).bind fun b9=>cond b9
  ((some (1:Int)))
  ((((((((some As).bind fun t19=>Bq t19).bind fun t20=>(some (some (1:Int))).bind fun t21=>(some none).bind fun t22=>JC t20.l t21 t22).bind fun t23=>(some t23.l)).bind fun t29=>F0 (fun (Rz:Nt)=>((some Rz).bind fun t28=>P9 t28)) t29).bind fun t30=>(some t30.sum)).bind fun t31=>(some ((1:Int)+t31))))
def CL:Nat->Nt->Option Int
 | 0=>fun _=>none
 | n+1=>fun As=>B0 (CL n) As
abbrev Br (CB:Nat)(x:Nt × Unit):Option Int:=CL CB x.1
def Bd (script_:Scr)(As:Nt):Option (Nt × Int) :=
 ((some ("abcdefghi" : Str)).bind fun t4=>(((some script_).bind fun t1=>(some (2:Int)).bind fun t2=>Aq t1 t2).bind fun t3=>(some (t3 % (9:Int)))).bind fun t5=>(atI t4.cps.toList t5).bind fun z=>some (⟨#[z]⟩:Str)).bind fun k14=>(some true).bind fun a16=>(some (MpS.mk [(k14,a16)])).bind fun Jy =>
 (((((some script_).bind fun t18=>(some (8:Int)).bind fun t19=>Aq t18 t19).bind fun t20=>(some (t20 % (5:Int)))).bind fun t24=>((((some As).bind fun t21=>CL 60 t21).bind fun t22=>(some ((24:Int) - t22))).bind fun t23=>(some (t23 / (2:Int)))).bind fun t25=>(some (if t25<t24 then t25 else t24))).bind fun t26=>Ob 0 t26).bind fun as27=>(CV (S:=(Nt × (MpS Bool))) (ρ:=(Nt × Int)) (fun (k_:Int) s34 =>
   ((some ("abcdefghi" : Str)).bind fun t53=>(((some script_).bind fun t50=>(some ((9:Int)+k_)).bind fun t51=>Aq t50 t51).bind fun t52=>(some (t52 % (9:Int)))).bind fun t54=>(atI t53.cps.toList t54).bind fun z=>some (⟨#[z]⟩:Str)).bind fun EI =>
   (some true).bind fun a61=>(some EI).bind fun k63=>(putSO s34.2 k63 a61).bind fun z71 =>
   (some (Nt.tup [(Nt.txt ("and" : Str)),s34.1,(Nt.tup [(Nt.txt ("lamp" : Str)),(Nt.txt EI)])])).bind fun As =>
   (((((some script_).bind fun t78=>(some ((9:Int)+k_)).bind fun t79=>Aq t78 t79).bind fun t80=>(some (t80 / (9:Int)))).bind fun t81=>(some (t81 % (2:Int)))).bind fun t82=>(some (decide (t82=(1:Int))))).bind fun b83=>cond b83
    (((((((some As).bind fun t88=>Bq t88).bind fun t89=>(some (2:Int)).bind fun t90=>atI t89.l t90).bind fun t95=>((((some As).bind fun t91=>Bq t91).bind fun t92=>(some (1:Int)).bind fun t93=>atI t92.l t93).bind fun t94=>(some [t94])).bind fun t96=>(some (t95::t96))).bind fun t97=>(some ((Nt.txt ("and" : Str))::t97))).bind fun t98=>(some (Nt.tup t98))).bind fun As =>
    some (Fl.nx (As,z71)))
    (some (Fl.nx (As,z71)))) as27 (As,Jy)).bind fun fl29=>match fl29 with
  | .nx s34 =>
   (some (s34.1,((s34.2.l.length:Nat):Int)))
  | .rt r=>some r
  | .bk _=>none
abbrev EK (x:Scr × Nt × Unit):Option (Nt × Int):=Bd x.1 x.2.1
def At (Ae:D):Option (Tp D) :=
 ((((some Ae).bind fun t3=>(some (0:Int)).bind fun t4=>atD t3 t4).bind fun t5=>EJ t5).bind fun t6=>(some (decide (t6=("lamp" : Str))))).bind fun b7=>cond b7
  ((some (Tp.mk ([]:List D))))
  ((((some Ae).bind fun t17=>QG t17).bind fun t18=>(some (some (1:Int))).bind fun t19=>(some none).bind fun t20=>JC t18.l t19 t20))
abbrev Hv (x:D × Unit):Option (Tp D):=At x.1
def Ah (Ae:Nt):Option (Tp Nt) :=
 (((((some Ae).bind fun t4=>Bq t4).bind fun t5=>(some (0:Int)).bind fun t6=>atI t5.l t6).bind fun t7=>D8 t7).bind fun t8=>(some (decide (t8=("lamp" : Str))))).bind fun b9=>cond b9
  ((some (Tp.mk ([]:List Nt))))
  ((((some Ae).bind fun t19=>Bq t19).bind fun t20=>(some (some (1:Int))).bind fun t21=>(some none).bind fun t22=>JC t20.l t21 t22))
abbrev JI (x:Nt × Unit):Option (Tp Nt):=Ah x.1
def Iu (some_:List Nt):Option (List (Tp SI) × List Int):=Fj (EH Ah 160) some_ []
abbrev L5 (x:List Nt × Unit):Option (List (Tp SI) × List Int):=Iu x.1
def ES (Au:D):Option Bool :=
 (some (!(isK "str" Au))).bind fun b1=>cond b1
  ((some false))
  ((some ("" : Str)).bind fun PY =>
  ((some Au).bind fun t17=>iterD t17).bind fun as18=>(CV (S:=(Str)) (ρ:=Bool) (fun (EI:D) s25 =>
    ((((some EI).bind fun t40=>EJ t40).bind fun t41=>(some (decide (t41.cps.toList<("a" : Str).cps.toList)))).bind fun t47=>cond t47 (some true) ((((some EI).bind fun t42=>EJ t42).bind fun t43=>(some (decide (("z" : Str).cps.toList<t43.cps.toList)))).bind fun t46=>cond t46 (some true) (((some EI).bind fun t44=>EJ t44).bind fun t45=>(some (!decide (s25.cps.toList<t45.cps.toList)))))).bind fun b48=>cond b48
     ((some false).bind fun rr58=>some (Fl.rt rr58))
     (((some EI).bind fun t60=>EJ t60).bind fun PY =>
     some (Fl.nx PY))) as18 PY).bind fun fl20=>match fl20 with
   | .nx s25 =>
    (some true)
   | .rt r=>some r
   | .bk _=>none)
abbrev IG (x:D × Unit):Option Bool:=ES x.1
def DS (Au:D):Option Bool :=
 (((some Au).bind fun t1=>ES t1).bind fun t4=>cond t4 (((some Au).bind fun t2=>NY t2).bind fun t3=>(some (decide (t3=(1:Int))))) (some false))
abbrev LL (x:D × Unit):Option Bool:=DS x.1
def AY (Au:D):Option Bool :=
 ((some (!(isK "tuple" Au))).bind fun t8=>cond t8 (some true) ((((some Au).bind fun t1=>NY t1).bind fun t2=>(some (decide (t2=(0:Int))))).bind fun t7=>cond t7 (some true) ((((some Au).bind fun t3=>(some (0:Int)).bind fun t4=>atD t3 t4).bind fun t5=>(some (isK "str" t5))).bind fun t6=>(some (!t6))))).bind fun b9=>cond b9
  ((some false))
  (((((some Au).bind fun t21=>(some (0:Int)).bind fun t22=>atD t21 t22).bind fun t23=>EJ t23).bind fun t24=>(some (decide (t24=("lamp" : Str))))).bind fun b25=>cond b25
   (((((some Au).bind fun t30=>NY t30).bind fun t31=>(some (decide (t31=(2:Int))))).bind fun t35=>cond t35 (((some Au).bind fun t32=>(some (1:Int)).bind fun t33=>atD t32 t33).bind fun t34=>DS t34) (some false)))
   ((((((some Au).bind fun t41=>(some (0:Int)).bind fun t42=>atD t41 t42).bind fun t43=>EJ t43).bind fun t44=>(some ((Eg CQ t44).isSome))).bind fun t58=>cond t58 (((some Au).bind fun t45=>NY t45).bind fun t56=>(((((some Au).bind fun t51=>(some (0:Int)).bind fun t52=>atD t51 t52).bind fun t53=>EJ t53).bind fun t54=>Eg CQ t54).bind fun t55=>(some ((1:Int)+t55))).bind fun t57=>(some (decide (t56=t57)))) (some false))))
abbrev JU (x:D × Unit):Option Bool:=AY x.1
def Ar (Au:D):Option Bool :=
 (some [Au]).bind fun DA =>
 (some (0:Int)).bind fun K2 =>
 (Gq (S:=((List D) × Int)) (ρ:=Bool) (fun s17=>(some (decide (s17.2<(s17.1.length:Int))))) (fun s17 =>
   ((some (decide ((24:Int)<(s17.1.length:Int)))).bind fun t42=>cond t42 (some true) ((((some s17.1).bind fun t38=>(some s17.2).bind fun t39=>atI t38 t39).bind fun t40=>AY t40).bind fun t41=>(some (!t41)))).bind fun b43=>cond b43
    ((some false).bind fun rr53=>some (Fl.rt rr53))
    ((((some s17.1).bind fun t55=>(some s17.2).bind fun t56=>atI t55 t56).bind fun t57=>At t57).bind fun a58=>(extO s17.1 a58.l).bind fun z66 =>
    (some (s17.2+(1:Int))).bind fun K2 =>
    some (Fl.nx (z66,K2)))) RD (DA,K2)).bind fun fl15=>match fl15 with
  | .nx s17 =>
   (some true)
  | .rt r=>some r
  | .bk _=>none
abbrev Fe (x:D × Unit):Option Bool:=Ar x.1
def BW (Nu:Nt):Option Nt :=
 (((((some Nu).bind fun t4=>Bq t4).bind fun t5=>(some (0:Int)).bind fun t6=>atI t5.l t6).bind fun t7=>D8 t7).bind fun t8=>(some (decide (t8=("not" : Str))))).bind fun b9=>cond b9
  ((((some Nu).bind fun t14=>Bq t14).bind fun t15=>(some (1:Int)).bind fun t16=>atI t15.l t16))
  ((some (Nt.tup [(Nt.txt ("not" : Str)),Nu])))
abbrev CN (x:Nt × Unit):Option Nt:=BW x.1
def Bc (Bo:Str)(O7:Nt)(K5:Nt):Option Nt :=
 (some (decide (Bo=("or" : Str)))).bind fun b1=>cond b1
  (((((((((some O7).bind fun t6=>BW t6).bind fun t9=>(((some K5).bind fun t7=>BW t7).bind fun t8=>(some [t8])).bind fun t10=>(some (t9::t10))).bind fun t11=>(some ((Nt.txt ("and" : Str))::t11))).bind fun t12=>(some (Nt.tup t12))).bind fun t13=>(some [t13])).bind fun t14=>(some ((Nt.txt ("not" : Str))::t14))).bind fun t15=>(some (Nt.tup t15))))
  ((some (decide (Bo=("then" : Str)))).bind fun b21=>cond b21
   ((((((((((some K5).bind fun t26=>BW t26).bind fun t27=>(some [t27])).bind fun t28=>(some (O7::t28))).bind fun t29=>(some ((Nt.txt ("and" : Str))::t29))).bind fun t30=>(some (Nt.tup t30))).bind fun t31=>(some [t31])).bind fun t32=>(some ((Nt.txt ("not" : Str))::t32))).bind fun t33=>(some (Nt.tup t33))))
   ((some (decide (Bo=("frees" : Str)))).bind fun b39=>cond b39
    (((((((((some O7).bind fun t44=>BW t44).bind fun t47=>(((some K5).bind fun t45=>BW t45).bind fun t46=>(some [t46])).bind fun t48=>(some (t47::t48))).bind fun t49=>(some ((Nt.txt ("until" : Str))::t49))).bind fun t50=>(some (Nt.tup t50))).bind fun t51=>(some [t51])).bind fun t52=>(some ((Nt.txt ("not" : Str))::t52))).bind fun t53=>(some (Nt.tup t53))))
    ((some (Nt.tup [(Nt.txt Bo),O7,K5])))))
abbrev EU (x:Str × Nt × Nt × Unit):Option Nt:=Bc x.1 x.2.1 x.2.2.1
def Be (Bo:Str)(HK:Nt):Option Nt :=
 (some (decide (Bo=("not" : Str)))).bind fun b1=>cond b1
  (((some HK).bind fun t6=>BW t6))
  ((some (decide (Bo=("next" : Str)))).bind fun b12=>cond b12
   ((some (Nt.tup [(Nt.txt ("next" : Str)),HK])))
   ((some (decide (Bo=("atlast" : Str)))).bind fun b22=>cond b22
    ((some (Nt.tup [(Nt.txt ("until" : Str)),(Nt.tup [Nt.txt "yes"]),HK])))
    ((some (decide (Bo=("always" : Str)))).bind fun b32=>cond b32
     ((((((((((some HK).bind fun t37=>BW t37).bind fun t38=>(some [t38])).bind fun t39=>(some ((Nt.tup [Nt.txt "yes"])::t39))).bind fun t40=>(some ((Nt.txt ("until" : Str))::t40))).bind fun t41=>(some (Nt.tup t41))).bind fun t42=>(some [t42])).bind fun t43=>(some ((Nt.txt ("not" : Str))::t43))).bind fun t44=>(some (Nt.tup t44))))
     ((some (decide (Bo=("again" : Str)))).bind fun b50=>cond b50
      ((some (Nt.tup [(Nt.txt ("not" : Str)),(Nt.tup [(Nt.txt ("until" : Str)),(Nt.tup [Nt.txt "yes"]),(Nt.tup [(Nt.txt ("not" : Str)),(Nt.tup [(Nt.txt ("until" : Str)),(Nt.tup [Nt.txt "yes"]),HK])])])])))
      ((((((((((((((some HK).bind fun t60=>BW t60).bind fun t61=>(some [t61])).bind fun t62=>(some ((Nt.tup [Nt.txt "yes"])::t62))).bind fun t63=>(some ((Nt.txt ("until" : Str))::t63))).bind fun t64=>(some (Nt.tup t64))).bind fun t65=>(some [t65])).bind fun t66=>(some ((Nt.txt ("not" : Str))::t66))).bind fun t67=>(some (Nt.tup t67))).bind fun t68=>(some [t68])).bind fun t69=>(some ((Nt.tup [Nt.txt "yes"])::t69))).bind fun t70=>(some ((Nt.txt ("until" : Str))::t70))).bind fun t71=>(some (Nt.tup t71))))))))
abbrev EN (x:Str × Nt × Unit):Option Nt:=Be x.1 x.2.1
def DU (P9:Nt->Option Nt)(Ae:Nt):Option Nt :=
 ((((some Ae).bind fun t1=>Bq t1).bind fun t2=>(some (0:Int)).bind fun t3=>atI t2.l t3).bind fun t4=>D8 t4).bind fun Bo =>
 (some (decide (Bo=("no" : Str)))).bind fun b11=>cond b11
  ((some (Nt.tup [(Nt.txt ("not" : Str)),(Nt.tup [Nt.txt "yes"])])))
  ((some ((decide (Bo=("yes" : Str))) || (decide (Bo=("lamp" : Str))))).bind fun b21=>cond b21
   ((some Ae))
   (((((some Ae).bind fun t31=>Bq t31).bind fun t32=>(some (t32.l.length:Int))).bind fun t33=>(some (decide (t33=(2:Int))))).bind fun b34=>cond b34
    (((some Bo).bind fun t43=>((((some Ae).bind fun t39=>Bq t39).bind fun t40=>(some (1:Int)).bind fun t41=>atI t40.l t41).bind fun t42=>P9 t42).bind fun t44=>Be t43 t44))
    (((some Bo).bind fun t58=>((((some Ae).bind fun t50=>Bq t50).bind fun t51=>(some (1:Int)).bind fun t52=>atI t51.l t52).bind fun t53=>P9 t53).bind fun t59=>((((some Ae).bind fun t54=>Bq t54).bind fun t55=>(some (2:Int)).bind fun t56=>atI t55.l t56).bind fun t57=>P9 t57).bind fun t60=>Bc t58 t59 t60))))
def EX:Nat->Nt->Option Nt
 | 0=>fun _=>none
 | n+1=>fun Ae=>DU (EX n) Ae
abbrev D7 (CB:Nat)(x:Nt × Unit):Option Nt:=EX CB x.1
def Bt (Bw:List Th):Option (Except Str ((List (Tp SI)) × (List Int))) :=
 (CV (S:=Unit) (ρ:=Str) (fun (Ae:Th) s8 =>
   ((((some Ae).bind fun a=>some (ToD.to a)).bind fun t21=>Ar t21).bind fun t22=>(some (!t22))).bind fun b23=>cond b23
    (some (Fl.rt "NoSentence"))
    (some (Fl.nx ()))) Bw ()).bind fun fl3=>match fl3 with
  | .nx s8 =>
   (((some Bw).bind fun t37=>F0 (fun (Ae:Th)=>(((some Ae).bind fun a=>Qp a).bind fun t36=>EX 26 t36)) t37).bind fun t38=>Iu t38).bind fun z=>some (.ok z)
  | .rt n=>some (.error n)
  | .bk _=>none
abbrev GW (x:List Th × Unit):Option (Except Str ((List (Tp SI)) × (List Int))):=Bt x.1
def EW (rows_:(List (Tp SI))):Option (List Int) :=
 ((some rows_).bind fun t12=>Cm (fun (pc5:(Int × (Tp SI)))=>((((some pc5.2).bind fun t8=>(some (0:Int)).bind fun t9=>atI t8.l t9).bind fun t10=>asS t10).bind fun t11=>(some (decide (t11=("until" : Str)))))) (fun (pc5:(Int × (Tp SI)))=>(some pc5.1)) (BE 0 t12))
abbrev HQ (x:(List (Tp SI)) × Unit):Option (List Int):=EW x.1
def DG (rows_:(List (Tp SI))):Option (List Int) :=
 ((some rows_).bind fun t14=>Cm (fun (row_:(Tp SI))=>((((some row_).bind fun t10=>(some (0:Int)).bind fun t11=>atI t10.l t11).bind fun t12=>asS t12).bind fun t13=>(some (decide (t13=("next" : Str)))))) (fun (row_:(Tp SI))=>(((some row_).bind fun t5=>(some (1:Int)).bind fun t6=>atI t5.l t6).bind fun t7=>asI t7)) t14).bind fun under_next_ =>
 (((some rows_).bind fun t21=>EW t21).bind fun t22=>(some under_next_).bind fun t23=>Rs t22 t23)
abbrev GD (x:(List (Tp SI)) × Unit):Option (List Int):=DG x.1
def B8 (rows_:(List (Tp SI)))(S6:Int):Option (Except Str Unit) :=
 ((((some rows_).bind fun t1=>DG t1).bind fun t2=>(some (t2.length:Int))).bind fun t3=>(some (decide (S6<t3)))).bind fun b4=>cond b4
  (some (.error "TooMuch"))
  (some (.ok ()))
abbrev DJ (x:(List (Tp SI)) × Int × Unit):Option (Except Str Unit):=B8 x.1 x.2.1
def Bj (rows_:(List (Tp SI))):Option Str :=
 ((some ("" : Str)).bind fun t29=>(((some rows_).bind fun t27=>Cm (fun (row_:(Tp SI))=>((((some row_).bind fun t23=>(some (0:Int)).bind fun t24=>atI t23.l t24).bind fun t25=>asS t25).bind fun t26=>(some (decide (t26=("lamp" : Str)))))) (fun (row_:(Tp SI))=>(((some row_).bind fun t18=>(some (1:Int)).bind fun t19=>atI t18.l t19).bind fun t20=>asS t20)) t27).bind fun t28=>Ht t28).bind fun t30=>Rj t29 t30)
abbrev EO (x:(List (Tp SI)) × Unit):Option Str:=Bj x.1
def BU (Bw:(List Th))(most_waits_:Int):Option (Except Str ((List (Tp SI)) × (List Int))) :=
 ((some Bw).bind fun t1=>Bt t1).bind fun r0=>match r0 with
 | .error n=>some (.error n)
 | .ok Rh=>((some Rh.1).bind fun t8=>(some most_waits_).bind fun t9=>B8 t8 t9).bind fun r1=>match r1 with
  | .error n=>some (.error n)
  | .ok _=>((((some Rh.1).bind fun t15=>Bj t15).bind fun t16=>(some (t16.length:Int))).bind fun t17=>(some (decide ((3:Int)<t17)))).bind fun b18=>cond b18
   (some (.error "TooMuch"))
   (some (.ok Rh))
abbrev Ex (x:(List Th) × Int × Unit):Option (Except Str ((List (Tp SI)) × (List Int))):=BU x.1 x.2.1
def BZ (Jy:Str):Option (List Str) :=
 (some [("" : Str)]).bind fun DA =>
 (some (IT Jy)).bind fun as7=>(CV (S:=((List Str))) (ρ:=(List Str)) (fun (EI:Str) s14 =>
   ((some s14).bind fun t36=>((some s14).bind fun t35=>F0 (fun (BY:Str)=>((some BY).bind fun t33=>(some EI).bind fun t34=>catS t33 t34)) t35).bind fun t37=>catL t36 t37).bind fun DA =>
   some (Fl.nx DA)) as7 DA).bind fun fl9=>match fl9 with
  | .nx s14 =>
   ((some s14).bind fun t50=>sortO t50)
  | .rt r=>some r
  | .bk _=>none
abbrev Fk (x:Str × Unit):Option (List Str):=BZ x.1
def DH (ET:Int):Option (List (Tp Bool)) :=
 (some [(Tp.mk ([]:List Bool))]).bind fun DA =>
 ((some ET).bind fun t7=>Ob 0 t7).bind fun as8=>(CV (S:=((List (Tp Bool)))) (ρ:=(List (Tp Bool))) (fun (added_:Int) s15 =>
   (((some s15).bind fun t36=>F0 (fun (Cf:(Tp Bool))=>((some (Tp.mk [false])).bind fun t34=>(some Cf).bind fun t35=>PQ t34 t35)) t36).bind fun t44=>((some s15).bind fun t43=>F0 (fun (Cf:(Tp Bool))=>((some (Tp.mk [true])).bind fun t41=>(some Cf).bind fun t42=>PQ t41 t42)) t43).bind fun t45=>catL t44 t45).bind fun DA =>
   some (Fl.nx DA)) as8 DA).bind fun fl10=>match fl10 with
  | .nx s15 =>
   (some s15)
  | .rt r=>some r
  | .bk _=>none
abbrev Gb (x:Int × Unit):Option (List (Tp Bool)):=DH x.1
def C8 (rows_:(List (Tp SI))):Option (List (Tp Bool)) :=
 ((((some rows_).bind fun t1=>DG t1).bind fun t2=>(some (t2.length:Int))).bind fun t3=>DH t3)
abbrev Eb (x:(List (Tp SI)) × Unit):Option (List (Tp Bool)):=C8 x.1
def Dc (rows_:(List (Tp SI)))(BL:Int)(BY:Str)(Ep:(Mp Bool))(C3:(List Bool)):Option Bool :=
 ((some rows_).bind fun t1=>(some BL).bind fun t2=>atI t1 t2).bind fun row_ =>
 ((some row_).bind fun t9=>(some (0:Int)).bind fun t10=>atI t9.l t10).bind fun Bo =>
 (((some Bo).bind fun t17=>asS t17).bind fun t18=>(some (decide (t18=("lamp" : Str))))).bind fun b19=>cond b19
  (((((some row_).bind fun t26=>(some (1:Int)).bind fun t27=>atI t26.l t27).bind fun t28=>asS t28).bind fun t29=>(some (inS t29 BY))))
  ((((some Bo).bind fun t35=>asS t35).bind fun t36=>(some (decide (t36=("not" : Str))))).bind fun b37=>cond b37
   ((((some C3).bind fun t45=>(((some row_).bind fun t42=>(some (1:Int)).bind fun t43=>atI t42.l t43).bind fun t44=>asI t44).bind fun t46=>atI t45 t46).bind fun t47=>(some (!t47))))
   ((((some Bo).bind fun t53=>asS t53).bind fun t54=>(some (decide (t54=("and" : Str))))).bind fun b55=>cond b55
    ((((some C3).bind fun t63=>(((some row_).bind fun t60=>(some (1:Int)).bind fun t61=>atI t60.l t61).bind fun t62=>asI t62).bind fun t64=>atI t63 t64).bind fun t70=>cond t70 ((some C3).bind fun t68=>(((some row_).bind fun t65=>(some (2:Int)).bind fun t66=>atI t65.l t66).bind fun t67=>asI t67).bind fun t69=>atI t68 t69) (some false)))
    ((((some Bo).bind fun t76=>asS t76).bind fun t77=>(some (decide (t77=("next" : Str))))).bind fun b78=>cond b78
     (((some Ep).bind fun t86=>(((some row_).bind fun t83=>(some (1:Int)).bind fun t84=>atI t83.l t84).bind fun t85=>asI t85).bind fun t87=>Lb t86.l t87))
     ((((some Bo).bind fun t93=>asS t93).bind fun t94=>(some (decide (t94=("until" : Str))))).bind fun b95=>cond b95
      ((((some C3).bind fun t103=>(((some row_).bind fun t100=>(some (2:Int)).bind fun t101=>atI t100.l t101).bind fun t102=>asI t102).bind fun t104=>atI t103 t104).bind fun t113=>cond t113 (some true) (((some C3).bind fun t108=>(((some row_).bind fun t105=>(some (1:Int)).bind fun t106=>atI t105.l t106).bind fun t107=>asI t107).bind fun t109=>atI t108 t109).bind fun t112=>cond t112 ((some Ep).bind fun t110=>(some BL).bind fun t111=>Lb t110.l t111) (some false))))
      ((some true))))))
abbrev JT (x:(List (Tp SI)) × Int × Str × (Mp Bool) × (List Bool) × Unit):Option Bool:=Dc x.1 x.2.1 x.2.2.1 x.2.2.2.1 x.2.2.2.2.1
def Co (rows_:(List (Tp SI)))(BY:Str)(Ep:(Mp Bool)):Option (Tp Bool) :=
 (some ([]:List Bool)).bind fun C3 =>
 ((some (rows_.length:Int)).bind fun t9=>Ob 0 t9).bind fun as10=>(CV (S:=((List Bool))) (ρ:=(Tp Bool)) (fun (BL:Int) s17 =>
   ((some rows_).bind fun t35=>(some BL).bind fun t36=>(some BY).bind fun t37=>(some Ep).bind fun t38=>(some s17).bind fun t39=>Dc t35 t36 t37 t38 t39).bind fun a40=>(LB s17 a40).bind fun z48 =>
   some (Fl.nx z48)) as10 C3).bind fun fl12=>match fl12 with
  | .nx s17 =>
   (some (Tp.mk s17))
  | .rt r=>some r
  | .bk _=>none
abbrev Hk (x:(List (Tp SI)) × Str × (Mp Bool) × Unit):Option (Tp Bool):=Co x.1 x.2.1 x.2.2.1
def Gm (rows_:(List (Tp SI)))(BY:Str)(Cf:(Tp Bool)):Option (Tp Bool) :=
 ((some rows_).bind fun t4=>(some BY).bind fun t5=>(((some rows_).bind fun t1=>DG t1).bind fun t2=>(some Cf).bind fun t3=>Of t2 t3.l).bind fun t6=>Co t4 t5 t6)
abbrev S5 (x:(List (Tp SI)) × Str × (Tp Bool) × Unit):Option (Tp Bool):=Gm x.1 x.2.1 x.2.2.1
def CM (rows_:(List (Tp SI)))(C3:(Tp Bool)):Option (Tp Bool) :=
 ((((some rows_).bind fun t1=>DG t1).bind fun t8=>F0 (fun (BL:Int)=>((some C3).bind fun t6=>(some BL).bind fun t7=>atI t6.l t7)) t8).bind fun t9=>(some (Tp.mk t9)))
abbrev Hx (x:(List (Tp SI)) × (Tp Bool) × Unit):Option (Tp Bool):=CM x.1 x.2.1
def C6 (rows_:(List (Tp SI)))(hope_:Int)(C3:(Tp Bool)):Option Bool :=
 ((((some C3).bind fun t1=>(some hope_).bind fun t2=>atI t1.l t2).bind fun t3=>(some (!t3))).bind fun t11=>cond t11 (some true) ((some C3).bind fun t9=>((((some rows_).bind fun t4=>(some hope_).bind fun t5=>atI t4 t5).bind fun t6=>(some (2:Int)).bind fun t7=>atI t6.l t7).bind fun t8=>asI t8).bind fun t10=>atI t9.l t10))
abbrev J8 (x:(List (Tp SI)) × Int × (Tp Bool) × Unit):Option Bool:=C6 x.1 x.2.1 x.2.2.1
def FP (rows_:(List (Tp SI)))(C3:(Tp Bool)):Option (Tp Int) :=
 ((((some rows_).bind fun t1=>EW t1).bind fun t10=>Cm (fun (pc6:(Int × Int))=>((some rows_).bind fun t7=>(some pc6.2).bind fun t8=>(some C3).bind fun t9=>C6 t7 t8 t9)) (fun (pc6:(Int × Int))=>(some pc6.1)) (BE 0 t10)).bind fun t11=>(some (Tp.mk t11)))
abbrev O2 (x:(List (Tp SI)) × (Tp Bool) × Unit):Option (Tp Int):=FP x.1 x.2.1
def DO (rows_:(List (Tp SI)))(BY:Str):Option (List (T5 Int Str Int (Tp Int) (Tp Bool))) :=
 ((some rows_).bind fun t1=>C8 t1).bind fun R0 =>
 (((some R0).bind fun t13=>F0 (fun (pc12:(Int × (Tp Bool)))=>(some (pc12.2,pc12.1))) (BE 0 t13)).bind fun t14=>RN t14).bind fun OM =>
 (some ([]:List (T5 Int Str Int (Tp Int) (Tp Bool)))).bind fun Jw =>
 (some R0).bind fun as29=>(CV (S:=((List (T5 Int Str Int (Tp Int) (Tp Bool))))) (ρ:=(List (T5 Int Str Int (Tp Int) (Tp Bool)))) (fun (pr54:(Int × (Tp Bool))) s36 =>
   ((some rows_).bind fun t57=>(some BY).bind fun t58=>(some pr54.2).bind fun t59=>Gm t57 t58 t59).bind fun C3 =>
   ((some OM).bind fun t68=>((some rows_).bind fun t66=>(some C3).bind fun t67=>CM t66 t67).bind fun t69=>getT t68 t69).bind fun begin_ =>
   (((some rows_).bind fun t76=>(some C3).bind fun t77=>FP t76 t77).bind fun t78=>(some (T5.mk begin_ BY pr54.1 t78 C3))).bind fun a79=>(LB s36 a79).bind fun z87 =>
   some (Fl.nx z87)) (BE 0 as29) Jw).bind fun fl31=>match fl31 with
  | .nx s36 =>
   (some s36)
  | .rt r=>some r
  | .bk _=>none
abbrev JB (x:(List (Tp SI)) × Str × Unit):Option (List (T5 Int Str Int (Tp Int) (Tp Bool))):=DO x.1 x.2.1
def DR (rows_:(List (Tp SI))):Option (List (T5 Int Str Int (Tp Int) (Tp Bool))) :=
 (some ([]:List (T5 Int Str Int (Tp Int) (Tp Bool)))).bind fun Jw =>
 (((some rows_).bind fun t9=>Bj t9).bind fun t10=>BZ t10).bind fun as11=>(CV (S:=((List (T5 Int Str Int (Tp Int) (Tp Bool))))) (ρ:=(List (T5 Int Str Int (Tp Int) (Tp Bool)))) (fun (BY:Str) s18 =>
   ((some rows_).bind fun t33=>(some BY).bind fun t34=>DO t33 t34).bind fun a35=>(extO s18 a35).bind fun z43 =>
   some (Fl.nx z43)) as11 Jw).bind fun fl13=>match fl13 with
  | .nx s18 =>
   (some s18)
  | .rt r=>some r
  | .bk _=>none
abbrev JM (x:(List (Tp SI)) × Unit):Option (List (T5 Int Str Int (Tp Int) (Tp Bool))):=DR x.1
def BO (rows_:(List (Tp SI)))(spot_:Int):Option (T4 Str Int (List (T4 Int Str Int (Tp Int))) Int) :=
 (some ([]:List (T4 Int Str Int (Tp Int)))).bind fun As =>
 ((some rows_).bind fun t9=>DR t9).bind fun as10=>(CV (S:=((List (T4 Int Str Int (Tp Int))))) (ρ:=(T4 Str Int (List (T4 Int Str Int (Tp Int))) Int)) (fun (pr44:(T5 Int Str Int (Tp Int) (Tp Bool))) s17 =>
   ((some pr44.e).bind fun t45=>(some spot_).bind fun t46=>atI t45.l t46).bind fun b47=>(cond b47
    ((some (T4.mk (0:Int) pr44.b (pr44.c+(1:Int)) pr44.d)).bind fun a56=>(LB s17 a56).bind fun z64 =>
    some z64)
    (some s17)).bind fun s52 =>
   (some (T4.mk (pr44.a+(1:Int)) pr44.b (pr44.c+(1:Int)) pr44.d)).bind fun a68=>(LB s52 a68).bind fun z76 =>
   some (Fl.nx z76)) as10 As).bind fun fl12=>match fl12 with
  | .nx s17 =>
   (((some rows_).bind fun t95=>Bj t95).bind fun t101=>((((some rows_).bind fun t96=>C8 t96).bind fun t97=>(some (t97.length:Int))).bind fun t98=>(some ((1:Int)+t98))).bind fun t102=>(((some rows_).bind fun t99=>EW t99).bind fun t100=>(some (t100.length:Int))).bind fun t103=>(some (T4.mk t101 t102 s17 t103)))
  | .rt r=>some r
  | .bk _=>none
abbrev EA (x:(List (Tp SI)) × Int × Unit):Option (T4 Str Int (List (T4 Int Str Int (Tp Int))) Int):=BO x.1 x.2.1
def Ci (Ae:Th):Option (Except Str (T4 Str Int (List (T4 Int Str Int (Tp Int))) Int)) :=
 (((some Ae).bind fun a=>some [a]).bind fun t1=>(some (5:Int)).bind fun t2=>BU t1 t2).bind fun r0=>match r0 with
 | .error n=>some (.error n)
 | .ok Rh=>((some Rh.1).bind fun t11=>((some Rh.2).bind fun t9=>(some (0:Int)).bind fun t10=>atI t9 t10).bind fun t12=>BO t11 t12).bind fun z=>some (.ok z)
abbrev PZ (x:Th × Unit):Option (Except Str (T4 Str Int (List (T4 Int Str Int (Tp Int))) Int)):=Ci x.1
def Az (Au:Th):Option DueT:=(Ci Au).bind fun r=>match r with
 | .ok W=>some (DueT.told ("told",W.b))
 | .error n=>if n=("NoSentence" : Str) then some (DueT.ref (Tp.mk [SB.s "refused",SB.b true,SB.b false,SB.b false,SB.b true])) else if n=("TooMuch" : Str) then some (DueT.ref (Tp.mk [SB.s "refused",SB.b false,SB.b true,SB.b false,SB.b true])) else none
abbrev Dg (x:Th × Unit):Option DueT:=Az x.1
def Cs (script_:Scr)(As:Nt):Option Nt :=
 ((((((some ("abcdefghi" : Str)).bind fun t4=>(((some script_).bind fun t1=>(some (2:Int)).bind fun t2=>Aq t1 t2).bind fun t3=>(some (t3 % (9:Int)))).bind fun t5=>(atI t4.cps.toList t5).bind fun z=>some (⟨#[z]⟩:Str)).bind fun t6=>(some (Nt.txt t6))).bind fun t7=>(some [t7])).bind fun t8=>(some ((Nt.txt ("lamp" : Str))::t8))).bind fun t9=>(some (Nt.tup t9))).bind fun EI =>
 ((((some As).bind fun t16=>CL 60 t16).bind fun t17=>(some (decide ((8:Int)<t17)))).bind fun t22=>cond t22 (some true) ((((some script_).bind fun t18=>(some (13:Int)).bind fun t19=>Aq t18 t19).bind fun t20=>(some (t20 % (2:Int)))).bind fun t21=>(some (decide (t21=(0:Int)))))).bind fun b23=>cond b23
  ((some As))
  ((some (Nt.tup [(Nt.txt ("or" : Str)),(Nt.tup [(Nt.txt ("and" : Str)),As,EI]),(Nt.tup [(Nt.txt ("and" : Str)),(Nt.tup [(Nt.txt ("not" : Str)),As]),(Nt.tup [(Nt.txt ("not" : Str)),EI])])])))
abbrev HY (x:Scr × Nt × Unit):Option Nt:=Cs x.1 x.2.1
def CC (BL:Int)(As:Nt):Option D :=
 (some (BL % (8:Int))).bind fun way_ =>
 (some (decide (way_=(1:Int)))).bind fun b7=>cond b7
  ((some (ToD.to (Tp.mk [(ToD.to As)]))))
  ((some (decide (way_=(2:Int)))).bind fun b17=>cond b17
   ((some (ToD.to (Tp.mk [(ToD.to ("Not" : Str)),(ToD.to As)]))))
   ((some (decide (way_=(3:Int)))).bind fun b27=>cond b27
    (((((((((((((some [("A" : Str),("ab" : Str),("" : Str),("-" : Str),("z1" : Str)]).bind fun t32=>(some ((BL / (8:Int)) % (5:Int))).bind fun t33=>atI t32 t33).bind fun t34=>(some (ToD.to t34))).bind fun t35=>(some [t35])).bind fun t36=>(some ((ToD.to ("lamp" : Str))::t36))).bind fun t37=>(some (Tp.mk t37))).bind fun t38=>(some (ToD.to t38))).bind fun t39=>(some [t39])).bind fun t40=>(some ((ToD.to As)::t40))).bind fun t41=>(some ((ToD.to ("and" : Str))::t41))).bind fun t42=>(some (Tp.mk t42))).bind fun t43=>(some (ToD.to t43))))
    ((some (decide (way_=(4:Int)))).bind fun b49=>cond b49
     ((some (ToD.to [(ToD.to ("not" : Str)),(ToD.to As)])))
     ((some (decide (way_=(5:Int)))).bind fun b59=>cond b59
      (((some (24:Int)).bind fun t64=>Ob 0 t64).bind fun as65=>(CV (S:=(Nt)) (ρ:=D) (fun (k_:Int) s72 =>
        (some (Nt.tup [(Nt.txt ("not" : Str)),s72])).bind fun As =>
        some (Fl.nx As)) as65 As).bind fun fl67=>match fl67 with
       | .nx s72 =>
        (some (ToD.to s72))
       | .rt r=>some r
       | .bk _=>none)
      ((some (decide (way_=(6:Int)))).bind fun b104=>cond b104
       ((some (ToD.to (Tp.mk [(ToD.to ("and" : Str)),(ToD.to As)]))))
       (((some [(ToD.to ()),(ToD.to true),(ToD.to (7:Int)),(ToD.to ("yes" : Str)),D.dic,(ToD.to (Tp.mk ([]:List D))),(ToD.to (Tp.mk [(ToD.to ("next" : Str)),(ToD.to (3:Int))]))]).bind fun t114=>(some ((BL / (8:Int)) % (7:Int))).bind fun t115=>atI t114 t115)))))))
abbrev Fu (x:Int × Nt × Unit):Option D:=CC x.1 x.2.1
def Pb (script_:Scr):Option Bool :=
 ((some script_).bind fun t1=>Ct t1).bind fun OA =>
 ((some script_).bind fun t10=>((some script_).bind fun t8=>(some OA.1).bind fun t9=>Cs t8 t9).bind fun t11=>Bd t10 t11).bind fun As =>
 (some (Th.g As.1)).bind fun Au =>
 (((some ("told" : Str)).bind fun t28=>(((some [(1:Int),(2:Int),(4:Int),(8:Int),(16:Int),(32:Int)]).bind fun t24=>(some (if (5:Int)<OA.2 then (5:Int) else OA.2)).bind fun t25=>atI t24 t25).bind fun t26=>(some ((1:Int)+t26))).bind fun t29=>some (t28,t29)).bind fun t30=>(some (DueT.told t30))).bind fun due_ =>
 (some ((decide ((5:Int)<OA.2)) || (decide ((3:Int)<As.2)))).bind fun b37=>(cond b37
  ((some (DueT.ref (Tp.mk [(SB.s ("refused" : Str)),(SB.b false),(SB.b true),(SB.b false),(SB.b true)]))).bind fun due_ =>
  some due_)
  (some due_)).bind fun s42 =>
 ((((some script_).bind fun t57=>(some (22:Int)).bind fun t58=>Aq t57 t58).bind fun t59=>(some (t59 % (3:Int)))).bind fun t60=>(some (decide (t60=(1:Int))))).bind fun b61=>(cond b61
  ((((((some Au).bind fun t74=>Qp t74).bind fun t75=>CL 60 t75).bind fun t76=>(some ((24:Int) - t76))).bind fun t77=>Ob 0 t77).bind fun as78=>(CV (S:=(Th)) (ρ:=Bool) (fun (k_:Int) s85 =>
    ((((((some s85).bind fun t100=>Qp t100).bind fun t101=>(some [t101])).bind fun t102=>(some ((Nt.txt ("not" : Str))::t102))).bind fun t103=>(some (Nt.tup t103))).bind fun t104=>(some (Th.g t104))).bind fun Au =>
    some (Fl.nx Au)) as78 Au).bind fun fl80=>match fl80 with
   | .nx s85 =>
    some s85
   | .rt r=>none
   | .bk _=>none)
  (some Au)).bind fun s66 =>
 ((((some script_).bind fun t120=>(some (0:Int)).bind fun t121=>Aq t120 t121).bind fun t122=>(some (t122 % (4:Int)))).bind fun t123=>(some (decide (t123=(1:Int))))).bind fun b124=>(cond b124
  (((((some script_).bind fun t137=>(some (1:Int)).bind fun t138=>Aq t137 t138).bind fun t139=>(some As.1).bind fun t140=>CC t139 t140).bind fun t141=>(some (Th.b t141))).bind fun Au =>
  (some (DueT.ref (Tp.mk [(SB.s ("refused" : Str)),(SB.b true),(SB.b false),(SB.b false),(SB.b true)]))).bind fun due_ =>
  some (Au,due_))
  (some (s66,s42))).bind fun s129 =>
 ((some s129.1).bind fun t157=>Az t157).bind fun first_ =>
 (((some first_).bind fun t164=>(some s129.2).bind fun t165=>PF t164 t165).bind fun t173=>cond t173 ((((some (Th.g (Nt.tup [(Nt.txt ("no" : Str))]))).bind fun t166=>Az t166).bind fun t167=>(some (DueT.told (("told" : Str),(2:Int)))).bind fun t168=>PF t167 t168).bind fun t172=>cond t172 (((some s129.1).bind fun t169=>Az t169).bind fun t170=>(some s129.2).bind fun t171=>PF t170 t171) (some false)) (some false))
abbrev mm_law (x:Scr × Unit):Option Bool:=Pb x.1
def top (i:Nat):Stmt:=PySem.Challenge.pw_lassoscribe_k44_watchers_refused.main.body.getD i (.Pass ⟨0,0,0,0⟩)
abbrev FX:Stmt:=top 1
abbrev Ed:Stmt:=top 2
abbrev F8:Stmt:=top 6
abbrev Ie:Stmt:=top 7
abbrev Ge:Stmt:=top 8
abbrev Ek:Stmt:=top 9
abbrev FE:Stmt:=top 11
abbrev RU:Stmt:=top 12
abbrev Io:Stmt:=top 13
abbrev Gg:Stmt:=top 14
abbrev Ms:Stmt:=top 15
abbrev Nd:Stmt:=top 16
abbrev HD:Stmt:=top 28
abbrev Fb:Stmt:=top 29
abbrev Q8:Stmt:=top 30
abbrev GI:Stmt:=top 31
abbrev FS:Stmt:=top 32
abbrev Gy:Stmt:=top 33
abbrev NT:Stmt:=top 34
abbrev K1:Stmt:=top 37
abbrev Da:Stmt:=top 38
abbrev DV:Stmt:=top 39
abbrev Jr:Stmt:=top 40
abbrev FD:Stmt:=top 44
abbrev HC:Stmt:=top 45
abbrev Gr:Stmt:=top 46
abbrev Fs:Stmt:=top 47
abbrev CU:Stmt:=top 48
abbrev ED:Stmt:=top 49
abbrev DE:Stmt:=top 51
abbrev IU:Stmt:=top 52
abbrev HI:Stmt:=top 54
abbrev GH:Stmt:=top 55
abbrev FG:Stmt:=top 56
abbrev GF:Stmt:=top 57
abbrev DM:Stmt:=top 58
abbrev EZ:Stmt:=top 59
abbrev FC:Stmt:=top 60
abbrev s_law:Stmt:=top 61
structure Txt (w:World)(K:FZ9)(mg:Str->Option Value):Prop where
 ValueError_:mg "ValueError" = none
 dict_:mg "dict" = none
 enumerate_:mg "enumerate" = none
 int_:mg "int" = none
 isinstance_:mg "isinstance" = none
 len_:mg "len" = none
 min_:mg "min" = none
 range_:mg "range" = none
 set_:mg "set" = none
 sorted_:mg "sorted" = none
 str_:mg "str" = none
 sum_:mg "sum" = none
 tuple_:mg "tuple" = none
 zip_:mg "zip" = none
 MOST_WORDS:∃ t,mg "MOST_WORDS" = some (.int 24 t)
 PARTS:∃ a,mg "PARTS" = some (.ref a)/\CDict w K a CQ
 YES:∃ a,mg "YES" = some (.ref a)/\∀ G,Rp.rel K G (.ref a) (Nt.tup [Nt.txt "yes"])
 MOST_WAITS:∃ t,mg "MOST_WAITS" = some (.int 5 t)
 MOST_LAMPS:∃ t,mg "MOST_LAMPS" = some (.int 3 t)
theorem E1:FnScope ["thing","last","lamp"] ["thing"] (AF FX):=scm
theorem D2:FnScope ["lamps","found","lamp"] ["lamps"] (AF Ed):=scm
theorem JV:FnScope ["sentence"] ["sentence"] (AF F8):=scm
theorem Qz:FnScope ["thing"] ["thing"] (AF Ie):=scm
theorem OR:FnScope ["thing"] ["thing"] (AF Ge):=scm
theorem DD:FnScope ["thing","found","place"] ["thing"] (AF Ek):=scm
theorem Lo:FnScope ["rows","numbers","row"] ["rows","numbers","row"] (AF FE):=scm
theorem KQ:FnScope ["rows","numbers","sentence","row","part"] ["rows","numbers","sentence"] (AF RU):=scm
theorem FO:FnScope ["some","rows","numbers","spots"] ["some"] (AF Io):=scm
theorem OH:FnScope ["rows"] ["rows"] (AF Gg):=scm
theorem OL:FnScope ["rows","under_next"] ["rows"] (AF Ms):=scm
theorem sc_hopes:FnScope ["rows"] ["rows"] (AF Nd):=scm
theorem Fo:FnScope ["rows","number","moment","claimed","view","row","word"] ["rows","number","moment","claimed","view"] (AF HD):=scm
theorem FN:FnScope ["rows","moment","claimed","view","number"] ["rows","moment","claimed"] (AF Fb):=scm
theorem sc_look:FnScope ["rows","moment","claims"] ["rows","moment","claims"] (AF Q8):=scm
theorem NQ:FnScope ["rows","view"] ["rows","view"] (AF GI):=scm
theorem Di:FnScope ["many","found","added"] ["many"] (AF FS):=scm
theorem Pm:FnScope ["rows","hope","view"] ["rows","hope","view"] (AF Gy):=scm
theorem sc_eased:FnScope ["rows","view"] ["rows","view"] (AF NT):=scm
theorem So:FnScope ["plain"] ["plain"] (AF K1):=scm
theorem HS:FnScope ["word","inner"] ["word","inner"] (AF Da):=scm
theorem Hq:FnScope ["word","left","right"] ["word","left","right"] (AF DV):=scm
theorem Ku:FnScope ["sentence","word"] ["sentence"] (AF Jr):=scm
theorem LX:FnScope ["rows"] ["rows"] (AF FD):=scm
theorem C1:FnScope ["rows","moment","every","numbers","steps","end","claims","view","begin"] ["rows","moment"] (AF HC):=scm
theorem Ff:FnScope ["rows","steps","moment"] ["rows"] (AF Gr):=scm
theorem Hh:FnScope ["sentences","sentence"] ["sentences"] (AF Fs):=scm
theorem GA:FnScope ["rows","most"] ["rows","most"] (AF CU):=scm
theorem FT:FnScope ["sentences","most_waits","book"] ["sentences","most_waits"] (AF ED):=scm
theorem B5:FnScope ["rows","spot","told","begin","moment","end","taken","view"] ["rows","spot"] (AF DE):=scm
theorem KO:FnScope ["sentence","book"] ["sentence"] (AF IU):=scm
theorem Fz:FnScope ["_law_script","_law_k","_law_number"] ["_law_script","_law_k"] (AF HI):=scm
theorem Aw:FnScope ["_law_script","_law_told","_law_many","_law_asked","_law_k","_law_way","_law_word"] ["_law_script"] (AF GH):=scm
theorem J5:FnScope ["_law_told"] ["_law_told"] (AF FG):=scm
theorem IL:FnScope ["_law_script","_law_told","_law_lamp"] ["_law_script","_law_told"] (AF GF):=scm
theorem BN:FnScope ["_law_script","_law_told","_law_lamps","_law_k","_law_lamp"] ["_law_script","_law_told"] (AF DM):=scm
theorem DB:FnScope ["_law_number","_law_told","_law_way","_law_k"] ["_law_number","_law_told"] (AF EZ):=scm
theorem Bx:FnScope ["_law_thing","_law_found","_law_caught","e","_law_others"] ["_law_thing"] (AF FC):=scm
theorem E4:FnScope ["_law_script","_law_chain_here","_law_told","_law_thing","_law_due","_law_k","_law_first"] ["_law_script"] (AF s_law):=scm
def N1 (K:FZ9):Sp:=fun vs H Q _=>∃ (a:Addr) (ns:List Int),vs=[.ref a]/\SqL K H a (ns.map V.int)/\ns.length<=63/\∀ H',Q (.bl true) H'
structure XD (K:FZ9)(D aS aT aR aW aM aE aC aX aN:Addr)(e x:Bool):Prop where
 kit:XKit K D
 ex:PySem.W.exmOne K (.ref D) (.ref aS)=some true
 kE:PySem.W.kitOne K (.ref D) (.ref aE)=some e
 kX:PySem.W.kitOne K (.ref D) (.ref aX)=some x
 kV:PySem.W.kitOne K (.ref D) (.type "ValueError")=some true
 ko:∀ a∈[aC,aM,aN,aW,aR,aT],PySem.W.kitOne K (.ref D) (.ref a)=some false
structure XT (K:FZ9)(mg:Str->Option Value)(aS aT aR aW aM aE aC aX aN:Addr):Prop where
 naS:mg "ScribeError" = some (.ref aS)
 naT:mg "NoText" = some (.ref aT)
 naR:mg "NoRun" = some (.ref aR)
 naW:mg "NoRow" = some (.ref aW)
 naM:mg "NoMoment" = some (.ref aM)
 naE:mg "NoSentence" = some (.ref aE)
 naC:mg "NoMachine" = some (.ref aC)
 naX:mg "TooMuch" = some (.ref aX)
 naN:mg "NoName" = some (.ref aN)
 E:XD K aE aS aT aR aW aM aE aC aX aN true false
 X:XD K aX aS aT aR aW aM aE aC aX aN false true
def XC (K:FZ9):Prop:=∃ aS aT aR aW aM aE aC aX aN:Addr,(qxB K mainGlobals "ScribeError" = some (some (.ref aS))/\qxB K mainGlobals "NoText" = some (some (.ref aT))/\qxB K mainGlobals "NoRun" = some (some (.ref aR))/\qxB K mainGlobals "NoRow" = some (some (.ref aW))/\qxB K mainGlobals "NoMoment" = some (some (.ref aM))/\qxB K mainGlobals "NoSentence" = some (some (.ref aE))/\qxB K mainGlobals "NoMachine" = some (some (.ref aC))/\qxB K mainGlobals "TooMuch" = some (some (.ref aX))/\qxB K mainGlobals "NoName" = some (some (.ref aN)))/\PySem.W.excIn K aE bmV "ValueError.__new__" = true/\PySem.W.excIn K aX bmV "ValueError.__new__" = true/\XD K aE aS aT aR aW aM aE aC aX aN true false/\XD K aX aS aT aR aW aM aE aC aX aN false true
theorem xd_mk {K:FZ9}{D aS aT aR aW aM aE aC aX aN:Addr}{e x:Bool}{cd:ClassData}(c1:PySem.W.clsIn K D=some cd)
  (c2:PySem.W.findIn K (.ref D) "__getattribute__" = some (some (.builtin "BaseException.__getattribute__"))) (c3:PySem.W.findIn K (.ref D) "__getattr__" = some none) (c4:PySem.W.findIn K (.ref D) "__class__" = some (some (.builtin "object.__class__")))
  (c5:PySem.W.specialIn K (.builtin "object.__class__") "__get__" = some (some (.builtin "getset_descriptor.__get__"))) (c6:PySem.W.takesIn K (.builtin "object.__class__")=some true) (c7:PySem.W.mroIn K D (.type "object")=some true) (c8:PySem.W.mroIn K D (.type "BaseException")=some true)
  (xm:PySem.W.exmOne K (.ref D) (.ref aS)=some true) (k1:PySem.W.kitOne K (.ref D) (.ref aE)=some e) (k2:PySem.W.kitOne K (.ref D) (.ref aX)=some x) (k3:PySem.W.kitOne K (.ref D) (.type "ValueError")=some true) (k4:PySem.W.kitOne K (.ref D) (.ref aC)=some false) (k5:PySem.W.kitOne K (.ref D) (.ref aM)=some false) (k6:PySem.W.kitOne K (.ref D) (.ref aN)=some false) (k7:PySem.W.kitOne K (.ref D) (.ref aW)=some false) (k8:PySem.W.kitOne K (.ref D) (.ref aR)=some false) (k9:PySem.W.kitOne K (.ref D) (.ref aT)=some false):XD K D aS aT aR aW aM aE aC aX aN e x :=
 ⟨XKits.to ⟨⟨cd,c1⟩,c2,c3,c4,c5,c6,c7,c8⟩,xm,k1,k2,k3,fun a ha=>by
  simp only [qnA,qeC,or_false] at ha
  rcases ha with rfl|rfl|rfl|rfl|rfl|rfl<;>assumption⟩
theorem xc_mk {K:FZ9}{aS aT aR aW aM aE aC aX aN:Addr}{cd cd':ClassData}(n1:qxB K mainGlobals "ScribeError" = some (some (.ref aS)))(n2:qxB K mainGlobals "NoText" = some (some (.ref aT)))(n3:qxB K mainGlobals "NoRun" = some (some (.ref aR)))(n4:qxB K mainGlobals "NoRow" = some (some (.ref aW)))(n5:qxB K mainGlobals "NoMoment" = some (some (.ref aM)))(n6:qxB K mainGlobals "NoSentence" = some (some (.ref aE)))(n7:qxB K mainGlobals "NoMachine" = some (some (.ref aC)))(n8:qxB K mainGlobals "TooMuch" = some (some (.ref aX)))(n9:qxB K mainGlobals "NoName" = some (some (.ref aN)))(xe:PySem.W.excIn K aE bmV "ValueError.__new__" = true)(xx:PySem.W.excIn K aX bmV "ValueError.__new__" = true)
  (c1:PySem.W.clsIn K aE=some cd) (c2:PySem.W.findIn K (.ref aE) "__getattribute__" = some (some (.builtin "BaseException.__getattribute__"))) (c3:PySem.W.findIn K (.ref aE) "__getattr__" = some none) (c4:PySem.W.findIn K (.ref aE) "__class__" = some (some (.builtin "object.__class__"))) (c5:PySem.W.specialIn K (.builtin "object.__class__") "__get__" = some (some (.builtin "getset_descriptor.__get__"))) (c6:PySem.W.takesIn K (.builtin "object.__class__")=some true) (c7:PySem.W.mroIn K aE (.type "object")=some true) (c8:PySem.W.mroIn K aE (.type "BaseException")=some true) (xm:PySem.W.exmOne K (.ref aE) (.ref aS)=some true) (k1:PySem.W.kitOne K (.ref aE) (.ref aE)=some true) (k2:PySem.W.kitOne K (.ref aE) (.ref aX)=some false) (k3:PySem.W.kitOne K (.ref aE) (.type "ValueError")=some true) (k4:PySem.W.kitOne K (.ref aE) (.ref aC)=some false) (k5:PySem.W.kitOne K (.ref aE) (.ref aM)=some false) (k6:PySem.W.kitOne K (.ref aE) (.ref aN)=some false) (k7:PySem.W.kitOne K (.ref aE) (.ref aW)=some false) (k8:PySem.W.kitOne K (.ref aE) (.ref aR)=some false) (k9:PySem.W.kitOne K (.ref aE) (.ref aT)=some false) (d1:PySem.W.clsIn K aX=some cd') (d2:PySem.W.findIn K (.ref aX) "__getattribute__" = some (some (.builtin "BaseException.__getattribute__"))) (d3:PySem.W.findIn K (.ref aX) "__getattr__" = some none) (d4:PySem.W.findIn K (.ref aX) "__class__" = some (some (.builtin "object.__class__"))) (d5:PySem.W.specialIn K (.builtin "object.__class__") "__get__" = some (some (.builtin "getset_descriptor.__get__"))) (d6:PySem.W.takesIn K (.builtin "object.__class__")=some true) (d7:PySem.W.mroIn K aX (.type "object")=some true) (d8:PySem.W.mroIn K aX (.type "BaseException")=some true) (ym:PySem.W.exmOne K (.ref aX) (.ref aS)=some true) (l1:PySem.W.kitOne K (.ref aX) (.ref aE)=some false) (l2:PySem.W.kitOne K (.ref aX) (.ref aX)=some true) (l3:PySem.W.kitOne K (.ref aX) (.type "ValueError")=some true) (l4:PySem.W.kitOne K (.ref aX) (.ref aC)=some false) (l5:PySem.W.kitOne K (.ref aX) (.ref aM)=some false) (l6:PySem.W.kitOne K (.ref aX) (.ref aN)=some false) (l7:PySem.W.kitOne K (.ref aX) (.ref aW)=some false) (l8:PySem.W.kitOne K (.ref aX) (.ref aR)=some false) (l9:PySem.W.kitOne K (.ref aX) (.ref aT)=some false):XC K :=
 ⟨aS,aT,aR,aW,aM,aE,aC,aX,aN,⟨n1,n2,n3,n4,n5,n6,n7,n8,n9⟩,xe,xx,xd_mk c1 c2 c3 c4 c5 c6 c7 c8 xm k1 k2 k3 k4 k5 k6 k7 k8 k9,xd_mk d1 d2 d3 d4 d5 d6 d7 d8 ym l1 l2 l3 l4 l5 l6 l7 l8 l9⟩
section
variable (P:Program)(w:World)(K:FZ9)(mg:Str->Option Value)(base:Heap)
abbrev EC:Prop:=DefOk P w K mg base "_law_cell" 1 ["_law_script","_law_k"] (spM K B1)
abbrev Iy:Prop:=DefOk P w K mg base "_law_chain" 2 ["_law_script"] (spM K HV)
abbrev FQ:Prop:=DefOk P w K mg base "_law_size" 61 ["_law_told"] (spM K (Br 60))
abbrev Ey:Prop:=DefOk P w K mg base "_law_with_lamps" 62 ["_law_script","_law_told"] (spM K EK)
abbrev Kr:Prop:=DefOk P w K mg base "parts_of" 1 ["sentence"] (spM K JI)
abbrev J7:Prop:=DefOk P w K mg base "parts_of" 1 ["sentence"] (spM K Hv)
abbrev Hy:Prop:=DefOk P w K mg base "row_number" 1 ["rows","numbers","row"] (spB K DI)
abbrev Z_lay:Prop:=DefOk P w K mg base "lay" 162 ["rows","numbers","sentence"] (spB K (EH Ah 160))
abbrev M2:Prop:=DefOk P w K mg base "book_of" 163 ["some"] (spN K L5)
abbrev JE:Prop:=DefOk P w K mg base "is_moment" 1 ["thing"] (spM K IG)
abbrev MO:Prop:=DefOk P w K mg base "is_lamp" 2 ["thing"] (spM K LL)
abbrev Kt:Prop:=DefOk P w K mg base "has_form" 3 ["thing"] (spM K JU)
abbrev GU:Prop:=DefOk P w K mg base "is_sentence" 4 ["thing"] (spM K Fe)
abbrev Kj:Prop:=DefOk P w K mg base "denied" 1 ["plain"] (spM K CN)
abbrev F4:Prop:=DefOk P w K mg base "plain_with_two" 2 ["word","left","right"] (spM K EU)
abbrev Ew:Prop:=DefOk P w K mg base "plain_with_one" 2 ["word","inner"] (spM K EN)
abbrev RH:Prop:=DefOk P w K mg base "plain" 29 ["sentence"] (spM K (D7 26))
abbrev JK:Prop:=DefE P w K mg base "book_told" 164 ["sentences"] (spX K mg GW)
abbrev Jq:Prop:=DefOk P w K mg base "hopes" 1 ["rows"] (spM K HQ)
abbrev HR:Prop:=DefOk P w K mg base "waits" 2 ["rows"] (spM K GD)
abbrev Ds:Prop:=DefE P w K mg base "refuse_more_waits" 5 ["rows","most"] (spX K mg DJ)
abbrev FA:Prop:=DefOk P w K mg base "lamps_in" 1 ["rows"] (spM K EO)
abbrev Fg:Prop:=DefE P w K mg base "bounded_book" 165 ["sentences","most_waits"] (spX K mg Ex)
abbrev GZ:Prop:=DefOk P w K mg base "all_moments" 1 ["lamps"] (spM K Fk)
abbrev I0:Prop:=DefOk P w K mg base "all_claims" 1 ["many"] (spM K Gb)
abbrev F9:Prop:=DefOk P w K mg base "claims_for" 3 ["rows"] (spM K Eb)
abbrev Kx:Prop:=DefOk P w K mg base "truth_of" 1 ["rows","number","moment","claimed","view"] (spM K JT)
abbrev JR:Prop:=DefOk P w K mg base "view_with" 2 ["rows","moment","claimed"] (spM K Hk)
abbrev Z_look:Prop:=DefOk P w K mg base "look" 3 ["rows","moment","claims"] (spM K S5)
abbrev JH:Prop:=DefOk P w K mg base "claims_of" 3 ["rows","view"] (spM K Hx)
abbrev LO:Prop:=DefOk P w K mg base "is_eased" 1 ["rows","hope","view"] (spM K J8)
abbrev RI:Prop:=DefOk P w K mg base "eased" 2 ["rows","view"] (spM K O2)
abbrev LK:Prop:=DefOk P w K mg base "steps_at" 4 ["rows","moment"] (spM K JB)
abbrev Jz:Prop:=DefOk P w K mg base "steps_of" 5 ["rows"] (spM K JM)
abbrev EY:Prop:=DefOk P w K mg base "watcher_of_book" 6 ["rows","spot"] (spM K EA)
abbrev M8:Prop:=DefE P w K mg base "watcher" 166 ["sentence"] (spX K mg PZ)
abbrev Hl:Prop:=DefOk P w K mg base "_law_called" 167 ["_law_thing"] (spM K Dg)
abbrev JW:Prop:=DefOk P w K mg base "_law_twice" 62 ["_law_script","_law_told"] (spM K HY)
abbrev GQ:Prop:=DefOk P w K mg base "_law_spoiled" 1 ["_law_number","_law_told"] (spM K Fu)
end
section
variable {P:Program}{w:World}{K:FZ9}{mg:Str->Option Value}{base:Heap}
local macro_rules | `(tactic| ac_rfl) => `(tactic| first | assumption | exact Ne.symm (by assumption))
local macro_rules
 | `(tactic| clear $n:num $rs*) => do
  let hm := Lean.mkIdent `hm
  let xt := Lean.mkIdent `xt
  let q := Lean.mkIdent `q
  let rf := Lean.mkIdent `rfl
  let w : Array Lean.Ident := rs.map fun r => ⟨r.raw⟩
  match n.getNat with
  | 2 =>
   let mut ts := #[]
   for k in [0:w.size/2] do
    let a := w[2*k]!
    let b := w[2*k+1]!
    ts := ts.push (← `(tactic| refine bE $hm fun $a $b $hm => ?_))
   `(tactic| ($[$ts:tactic];*))
  | 3 => `(tactic| (replace $hm := cT $hm; refine BM ?_))
  | 4 => `(tactic| (replace $hm := cF $hm; refine BS ?_))
  | 5 => `(tactic| (rintro r' v' G' H' $rf:ident rl; cases $hm:ident; exact $q v' G' H' rl.1 rl.2))
  | 6 => let k := w[0]!; `(tactic| (rintro r' v' G' H' $rf:ident rl; cases $hm:ident; exact $k _ v' G' H' rfl rl))
  | 9 =>
   let x := w[0]!
   let ts ← (w.extract 1 w.size).mapM fun (i : Lean.Ident) => `(tactic| have $i := Rp.mono $x $i)
   `(tactic| ($[$ts:tactic];*))
  | z =>
   if z > 1 then Lean.Macro.throwUnsupported
   let x := w[0]!
   let mut m := 1
   let mut ts := #[]
   let mut hs := #[]
   for i in w.extract 1 w.size do
    if let some k := i.raw.isNatLit? then m := k
    else if m == 4 then hs := hs.push (← `(tactic| have $i := ($xt).hh.free $i))
    else ts := ts.push (← match m with
     | 1 => `(tactic| have $i := Rp.mono ($x).gg $i)
     | 2 => `(tactic| have $i := ($i).ext $x)
     | _ => `(tactic| have $i := ($i).trans ($x).gg))
   if z == 1 then hs := hs.push (← `(tactic| have $xt := ($xt).trans $x))
   let zs := hs ++ ts
   `(tactic| ($[$zs:tactic];*))
theorem O4 (F:DIn K mg "_law_cell" HI)(T:Txt w K mg):EC P w K mg base:=by
 refine F.okM2 (m:=Aq) Fz fun _ _ _ _ _ H0 _ _ hr G0 script_ k_ res Bb v_k_ xt AE LW hm q=>?_;unfold Aq at hm
 refine ⟨_,(A6 (Ax (AW Qs (pv 1) (Bp K T.len_ (pv 0)) (Aa _)) (A6 (AL (AR K (pv 0) (pv 1)))
   A9) A9)
   (A6 (AM (i:=2) Fz (B3 K (BF (GK (K:=K) rfl) (pv 1) AC) AC))
   (A6 (Ax (AW Ee (Bp K T.len_ (pv 0)) AC (Aa _)) (A6 (AM (i:=2) Fz (BF C4 (B3 K (BF (GK (K:=K) rfl) (AR K (pv 0) (BF C4 (BF (GK (K:=K) rfl) (pv 1) AC) (Bp K T.len_ (pv 0)))) AC) (BF (GK (K:=K) rfl) (pv 1) AC)) AC))
   A9) A9)
   (A6 (AL (BF C4 (BF (GK (K:=K) rfl) (pv 2) (pv 2)) AC))
   A9)))),?_⟩
 clear 2 b1 h2;refine Ay (AT (K:=K) (E5 (AA LW) (ND (AA AE)))) h2 xt.gh fun G3 H4 x5=>?_;clear 1 x5 AE LW
 cases b1 with
 | true =>
  clear 3;exact AO (K:=K) (ev_atX (AA AE) (AA LW)) hm xt.gh fun v8 G9 H10 x11 r12=>q v8 G9 H10 (xt.trans x11) r12
 | false =>
  clear 4;clear 2 BL h18;refine Ak (K:=K) (CF (Jm (AA LW)) Af) h18 xt.gh fun v13 G14 H15 x16 r17=>?_;clear 1 x16 AE LW;clear 2 b19 h20 s24 h25
  try (with_reducible refine nxt_ ?_;dsimp only)
  refine GN (t:=KS _ _ _) (fun S45 H44=>∃ (G43:Hp) (v27:V),Ext G0 H0 G43 H44/\Same G14 G43/\S45=[some Bb,some v_k_,some v27]/\Rp.rel K G43 v27 (s24:Int)) (fun nx kn29=>?_) ?_
  ·refine Ay (AT (K:=K) (E5 (ND (AA AE)) Af)) h20 xt.gh fun G21 H22 x23=>?_;clear 1 x23 AE LW r17;have mk26:Same G14 G21:=x23.gg;have hm:=h25
   cases b19 with
   | true =>
    clear 3;clear 2 BL h42;refine Ak (K:=K) (Bl (CF (Jm (ev_atX (AA AE) (ev_mod (Jm (AA LW)) (ND (AA AE))))) (Jm (AA LW)))) h42 xt.gh fun v37 G38 H39 x40 r41=>?_;clear 1 x40 3 mk26;cases hm;exact kn29 _ _ ⟨G38,v37,xt,mk26,rfl,r41⟩
   | false =>
    clear 4;cases hm;exact kn29 _ _ ⟨G21,v13,xt,mk26,rfl,r17⟩
  ·rintro _ H44 ⟨G43,v27,xt,mk26,rfl,r28⟩;exact AO (K:=K) (Bl (Pu (AA r28) (AA r28))) hm xt.gh fun v49 G50 H51 x52 r53=>q v49 G50 H51 (xt.trans x52) r53
theorem Mm (F:DIn K mg "_law_chain" GH)(T:Txt w K mg)(Ap:EC P w K mg base):Iy P w K mg base:=by
 refine F.okM1 (m:=Ct) Aw fun _ _ _ _ _ H0 _ _ hr G0 script_ res Bb xt AE hm q=>?_;unfold Ct at hm
 refine ⟨_,(A6 (AM (i:=1) Aw (AU (A5 AG (A5 (AR K AG (BF C4 (AN Ap hr (by decide) rfl (A5 (pv 0) (A5 AC A8))) AC)) A8))))
   (A6 (AM (i:=2) Aw AC)
   (A6 (AM (i:=3) Aw Ca)
   (A6 (DL PassesOwn.never rfl (E3 rfl T.range_ (A5 (BF C4 (AN Ap hr (by decide) rfl (A5 (pv 0) (A5 AC A8))) AC) A8)) (BG (i:=4) Aw) (A6 (AM (i:=5) Aw (B3 K (BF C4 (BF IB (AN Ap hr (by decide) rfl (A5 (pv 0) (A5 (B3 K AC (pv 4)) A8))) AC) AC) (BF (GK (K:=K) rfl) AC (BF C4 (AN Ap hr (by decide) rfl (A5 (pv 0) (A5 (B3 K AC (pv 4)) A8))) AC))))
   (A6 (AM (i:=6) Aw (AR K (Cg (A5 AG (A5 AG (A5 AG (A5 AG (A5 AG (A5 AG A8))))))) (BF C4 (pv 5) AC)))
   (A6 (Ax (AW Ee (pv 5) AC (Aa _)) (A6 (AM (i:=1) Aw (AU (A5 AG (A5 (pv 1) A8))))
   (A6 (AM (i:=2) Aw (B3 K (pv 2) (Cq TM (by rfl) T.int_ bt_int (A5 (Ql (pv 3)) A8))))
   A9)) (A6 (Ax (AW Ee (pv 5) AC (Aa _)) (A6 (AM (i:=1) Aw (AU (A5 (pv 6) (A5 (pv 1) (A5 (AU (A5 AG A8)) A8)))))
   (A6 (AM (i:=2) Aw (B3 K (pv 2) AC))
   A9)) (A6 (AM (i:=1) Aw (AU (A5 (pv 6) (A5 (pv 1) A8))))
   (A6 (AM (i:=2) Aw (B3 K (pv 2) (AR K (Cg (A5 AC (A5 AC (A5 AC (A5 AC A8))))) (pv 5))))
   A9)))
   A9))
   (A6 (AM (i:=3) Aw (EQ (op_inK (K:=K) rfl) (pv 5) (AU (A5 AC (A5 AC (A5 AC A8)))) rfl))
   A9)))))
   (A6 (AL (AU (A5 (pv 1) (A5 (pv 2) A8))))
   A9))))),?_⟩
 clear 2 As h15;refine Ak (K:=K) (Ad (A7 (Ai Am) (A7 (Ai (Mz Am (Bl (BI (m:=B1) (AA AE) Af)))) (AS (α:=Nt))))) h15 xt.gh fun v10 G11 H12 x13 r14=>?_;clear 1 x13 AE;clear 2 ET h21;refine Ak (K:=K) Af h21 xt.gh fun v16 G17 H18 x19 r20=>?_;clear 1 x19 AE r14;clear 2 K8 h27;refine Ak (K:=K) Ej h27 xt.gh fun v22 G23 H24 x25 r26=>?_;clear 1 x25 AE r14 r20;clear 2 as32 h33 fl34 h35;refine E9 (K:=K) (RR:=fun r v G' H'=>Ext G0 H0 G' H'/\Rp.rel K G' v r) (GJ (Bl (BI (m:=B1) (AA AE) Af))) h33 h35 xt.gh fun G36 H37 x38=>⟨fun s39 S' G' H'=>∃ (v40:V) (v41:V) (v42:V) (v43:Option V) (v44:Option V) (v45:Option V),Ext G0 H0 G' H'/\Same G36 G'/\S'=[some Bb,some v40,some v41,some v42,v43,v44,v45]/\Rp.rel K G' v40 (s39.1:Nt)/\Rp.rel K G' v41 (s39.2.1:Int)/\Rp.rel K G' v42 (s39.2.2:Bool),?_,?_,?_,?_,?_⟩
 ·clear 1 x38 r14 r20 r26;exact ⟨v10,v16,v22,_,_,_,xt,(Same.refl _),rfl,r14,r20,r26⟩
 ·rintro _ S' G' H' ⟨v40,v41,v42,v43,v44,v45,xt,mk46,rfl,r47,r48,r49⟩;exact ⟨mk46,xt.gh⟩
 ·rintro xv50 a51 s39 _ G54 H55 fl52 - ⟨v40,v41,v42,v43,v44,v45,xt,mk46,rfl,r47,r48,r49⟩ rx53 hm D' kN56 kC57 kB58 kR59;have AE:=Rp.mono (x38.gg.trans mk46) AE;refine Dl ?_;clear 2 way_ h75;refine Ak (K:=K) (CF (Bl (Hs (BI (m:=B1) (AA AE) (CF Af (AA rx53))))) (ev_mulL (Bl (BI (m:=B1) (AA AE) (CF Af (AA rx53)))))) h75 xt.gh fun v70 G71 H72 x73 r74=>?_;clear 1 x73 AE r47 r48 r49 rx53 3 mk46;clear 2 Bo h83;refine Ak (K:=K) (ER (FV.ev (D5 (A7 Am (A7 Am (A7 Am (A7 Am (A7 Am (A7 Am (AS (α:=Str)))))))))) (Bl (AA r74))) h83 xt.gh fun v78 G79 H80 x81 r82=>?_;clear 1 x81 AE r47 r48 r49 rx53 r74 3 mk46;clear 2 b84 h85 s89 h90
  try (with_reducible refine nxt_ ?_;dsimp only)
  refine GN (t:=KS _ _ _) (fun S143 H142=>∃ (G141:Hp) (v92:V) (v94:V),Ext G0 H0 G141 H142/\Same G79 G141/\S143=[some Bb,some v92,some v94,some v42,some xv50,some v70,some v78]/\Rp.rel K G141 v92 (s89.1:Nt)/\Rp.rel K G141 v94 (s89.2:Int)) (fun nx kn96=>?_) ?_
  ·refine Ay (AT (K:=K) (E5 (AA r74) Af)) h85 xt.gh fun G86 H87 x88=>?_;clear 1 x88 r47 r48 r49 r74 r82;have mk91:Same G79 G86:=x88.gg;have hm:=h90
   cases b84 with
   | true =>
    clear 3;clear 2 As h102;refine Ak (K:=K) (Ad (A7 (Ai Am) (A7 (AA r47) (AS (α:=Nt))))) h102 xt.gh fun v97 G98 H99 x100 r101=>?_;clear 1 x100 r48 r49 3 mk91;clear 2 ET h108;refine Ak (K:=K) (CF (AA r48) (ev_intB (QS (AA r49)))) h108 xt.gh fun v103 G104 H105 x106 r107=>?_;clear 1 x106 r101 3 mk91;cases hm;exact kn96 _ _ ⟨G104,v97,v103,xt,mk91,rfl,r101,r107⟩
   | false =>
    clear 4;clear 2 b109 h110;refine Ay (AT (K:=K) (E5 (AA r74) Af)) h110 xt.gh fun G111 H112 x113=>?_;clear 1 x113 r47 r48 r74 r82 3 mk91
    cases b109 with
    | true =>
     clear 3;clear 2 As h119;refine Ak (K:=K) (Ad (A7 (Ai (AA r82)) (A7 (AA r47) (A7 (Ad (A7 (Ai Am) (AS (α:=Nt)))) (AS (α:=Nt)))))) h119 xt.gh fun v114 G115 H116 x117 r118=>?_;clear 1 x117 r48 3 mk91;clear 2 ET h125;refine Ak (K:=K) (CF (AA r48) Af) h125 xt.gh fun v120 G121 H122 x123 r124=>?_;clear 1 x123 r118 3 mk91;cases hm;exact kn96 _ _ ⟨G121,v114,v120,xt,mk91,rfl,r118,r124⟩
    | false =>
     clear 4;clear 2 As h131;refine Ak (K:=K) (Ad (A7 (Ai (AA r82)) (A7 (AA r47) (AS (α:=Nt))))) h131 xt.gh fun v126 G127 H128 x129 r130=>?_;clear 1 x129 r48 r74 3 mk91;clear 2 ET h140;refine Ak (K:=K) (CF (AA r48) (ER (FV.ev (D5 (A7 Af (A7 Af (A7 Af (A7 Af (AS (α:=Int)))))))) (AA r74))) h140 xt.gh fun v135 G136 H137 x138 r139=>?_;clear 1 x138 r130 3 mk91;cases hm;exact kn96 _ _ ⟨G136,v126,v135,xt,mk91,rfl,r130,r139⟩
  ·rintro _ H142 ⟨G141,v92,v94,xt,mk91,rfl,r93,r95⟩;have mk46:=mk46.trans mk91;clear 9 mk91 r74;clear 2 K8 h149;refine Ak (K:=K) (ev_inT (AA r74) (Bs (A7 Af (A7 Af (A7 Af (AS (α:=Int))))))) h149 xt.gh fun v144 G145 H146 x147 r148=>?_;clear 1 x147 r93 r95 3 mk46;cases hm;exact kN56 _ _ _ _ rfl ⟨v92,v94,v144,_,_,_,xt,mk46,rfl,r93,r95,r148⟩
 ·rintro s39 _ G160 H161 rfl ⟨v150,v151,v152,v153,v154,v155,xt,mk156,rfl,r157,r158,r159⟩;refine Eu ?_;exact AO (K:=K) (GM (AA r157) (AA r158)) hm xt.gh fun v162 G163 H164 x165 r166=>q v162 G163 H164 (xt.trans x165) r166
 ·clear 5
theorem NN {f:Addr}{fd:FuncData}(F:Fun K "_law_size" "_law_size" FG f fd):FnOk P w K mg base CX0 1 f fd ["_law_told"] (spM K (Br 0)):=by
 refine F.ok J5 (fun vs H Q E h=>(Dy h).trans rfl) (fun cdv A outer s H0 vs Q E hr h=>?_);obtain ⟨_,_,_,_,_,hm,_⟩:=h;exact nomatch (hm:none=some _)
theorem ON {f:Addr}{fd:FuncData}(F:Fun K "_law_size" "_law_size" FG f fd)(T:Txt w K mg)(CB:Nat)(Bg:DefOk P w K mg base "_law_size" (1+CB) ["_law_told"] (spM K (Br CB))):FnOk P w K mg base CX0 (1+CB+1) f fd ["_law_told"] (spM K (Br (CB+1))):=by
 refine F.ok J5 (fun vs H Q E h=>(Dy h).trans rfl) (fun cdv A outer s H0 vs Q E hr h=>?_);obtain ⟨G0,⟨As,⟨⟩⟩,res,sg0,⟨FR,_,rfl,Ab,rfl⟩,hm,q⟩:=h;replace Ab:Rp.rel K G0 FR As:=Ab;replace hm:B0 (CL CB) As=some res:=hm;unfold B0 at hm;have xt:Ext G0 H0 G0 H0:=Ext.refl sg0
 refine ⟨_,(A6 (Ax (AW BC (AR K (pv 0) AC) AG (Aa _)) (A6 (AL AC)
   A9) A9)
   (A6 (AL (B3 K AC (Bh (SX (K:=K) rfl rfl) (by rfl) T.sum_ bt_sum (A5 (FF (cn:=[]) (cap:=[]) rfl ⟨by decide +kernel,rfl,by decide +kernel,Cc rfl⟩ rfl (by decide +kernel) trivial (C5 (K:=K) rfl (K6 (N3 (K:=K) rfl) (pv 0) (NR AC) N0)) (fun C s0 H0 fp=>⟨EM,(AN Bg hr (by omega) rfl (A5 (pv 0) A8))⟩)) A8))))
   A9)),?_⟩
 clear 2 b9 h10;refine Ay (AT (K:=K) (BR (Eo (BB (Bi (AA Ab)) Af)) Am)) h10 xt.gh fun G11 H12 x13=>?_;clear 1 x13 Ab
 cases b9 with
 | true =>
  clear 3;exact AO (K:=K) (rest:=By) (σ:=[some FR]) Af hm xt.gh fun v14 G15 H16 x17 r18=>q v14 G15 H16 (xt.trans x17) r18
 | false =>
  clear 4;exact AO (K:=K) (CF Af (ev_sumG (FV.ev (IR (cap:=[]) (fe:=fun (Rz:Nt)=>((some Rz).bind fun t28=>(CL CB) t28)) (iw_tup (IM (Bi (AA Ab)) (Md (K:=K) Af) Nr)) fun xc27 Rz Gc24 sc25 rc26=>(Aj (m:=Br CB) (AA rc26)))))) hm xt.gh fun v32 G33 H34 x35 r36=>q v32 G33 H34 (xt.trans x35) r36
theorem IA (F:DIn K mg "_law_with_lamps" DM)(T:Txt w K mg)(Ap:EC P w K mg base)(Bg:FQ P w K mg base):Ey P w K mg base:=by
 refine F.okM2 (m:=Bd) BN fun _ _ _ _ _ H0 _ _ hr G0 script_ As res Bb FR xt AE Ab hm q=>?_;unfold Bd at hm
 refine ⟨_,(A6 (AM (i:=2) BN (RW (O8 (AR K AG (BF C4 (AN Ap hr (by decide) rfl (A5 (pv 0) (A5 AC A8))) AC)) Ca Rv) rfl rfl (fun z=>nomatch z) (by decide)))
   (A6 (DL PassesOwn.never rfl (E3 rfl T.range_ (A5 (Bh (Lu rfl) (by rfl) T.min_ bt_min (A5 (BF C4 (AN Ap hr (by decide) rfl (A5 (pv 0) (A5 AC A8))) AC) (A5 (BF IB (BF op_sub AC (AN Bg hr (by decide) rfl (A5 (pv 1) A8))) AC) A8))) A8)) (BG (i:=3) BN) (A6 (AM (i:=4) BN (AR K AG (BF C4 (AN Ap hr (by decide) rfl (A5 (pv 0) (A5 (B3 K AC (pv 3)) A8))) AC)))
   (A6 (RO (HL hr) (pv 2) (pv 4) Ca rfl)
   (A6 (AM (i:=1) BN (AU (A5 AG (A5 (pv 1) (A5 (AU (A5 AG (A5 (pv 4) A8))) A8)))))
   (A6 (Ax (AW BC (BF C4 (BF IB (AN Ap hr (by decide) rfl (A5 (pv 0) (A5 (B3 K AC (pv 3)) A8))) AC) AC) AC (Aa _)) (A6 (AM (i:=1) BN (AU (A5 AG (A5 (AR K (pv 1) AC) (A5 (AR K (pv 1) AC) A8)))))
   A9) A9)
   A9)))))
   (A6 (AL (AU (A5 (pv 1) (A5 (Bh TB (by rfl) T.len_ bt_len (A5 (pv 2) A8)) A8))))
   A9))),?_⟩
 clear 2 k14 h15 a16 h17 Jy h13;refine sv_ownS1 (K:=K) (Mz Am (Bl (BI (m:=B1) (AA AE) Af))) h15 Ej h17 h13 xt.gh fun p6 vs7 G8 H9 x10 hz11 o12=>?_;clear 1 x10 AE Ab 4 hz11;clear 2 as27 h28 fl29 h30;refine E9 (K:=K) (RR:=fun r v G' H'=>Ext G0 H0 G' H'/\Rp.rel K G' v r) (GJ (ev_min (Bl (BI (m:=B1) (AA AE) Af)) (Hs (ev_sub Af (Aj (m:=Br 60) (AA Ab)))))) h28 h30 xt.gh fun G31 H32 x33=>⟨fun s34 S' G' H'=>∃ (v35:V) (v36:Option V) (v37:Option V),Ext G0 H0 G' H'/\Same G31 G'/\S'=[some Bb,some v35,some (V.ref p6),v36,v37]/\Rp.rel K G' v35 (s34.1:Nt)/\(∃ vs,OwnS K G' H' (V.ref p6) p6 vs s34.2),?_,?_,?_,?_,?_⟩
 ·clear 1 x33 Ab 2 o12;exact ⟨FR,_,_,xt,(Same.refl _),rfl,Ab,⟨_,o12⟩⟩
 ·rintro _ S' G' H' ⟨v35,v36,v37,xt,mk38,rfl,r39,⟨vs7,o12⟩⟩;exact ⟨mk38,xt.gh⟩
 ·rintro xv40 a41 s34 _ G44 H45 fl42 - ⟨v35,v36,v37,xt,mk38,rfl,r39,⟨vs7,o12⟩⟩ rx43 hm D' kN46 kC47 kB48 kR49;have AE:=Rp.mono (x33.gg.trans mk38) AE;refine Dl ?_;clear 2 EI h60;refine Ak (K:=K) (Mz Am (Bl (BI (m:=B1) (AA AE) (CF Af (AA rx43))))) h60 xt.gh fun v55 G56 H57 x58 r59=>?_;clear 1 x58 AE r39 rx43 2 o12 3 mk38;clear 2 a61 h62 k63 h64 z71 h65;refine sv_dputS (K:=K) rfl o12 Ej h62 (AA r59) h64 h65 xt.gh fun G66 H67 w68 x69 o70=>?_;have xt:Ext G0 H0 G66 (upd H67 p6 (.dK (CG vs7 (.inr k63) w68))):=(xt.trans x69).put hz11 o70.g;clear 0 x69 AE r39 rx43 r59 3 mk38;clear 2 As h77;refine Ak (K:=K) (Ad (A7 (Ai Am) (A7 (AA r39) (A7 (Ad (A7 (Ai Am) (A7 (Ai (AA r59)) (AS (α:=Nt))))) (AS (α:=Nt)))))) h77 xt.gh fun v72 G73 H74 x75 r76=>?_;clear 1 x75 AE rx43 2 o70 3 mk38;clear 2 b83 h84;refine Ay (AT (K:=K) (Ck (Bl (Hs (BI (m:=B1) (AA AE) (CF Af (AA rx43))))) Af)) h84 xt.gh fun G85 H86 x87=>?_;clear 1 x87 r76 2 o70 3 mk38
  cases b83 with
  | true =>
   clear 3;clear 2 As h104;refine Ak (K:=K) (Ad (A7 (Ai Am) (A7 (BB (Bi (AA r76)) Af) (A7 (BB (Bi (AA r76)) Af) (AS (α:=Nt)))))) h104 xt.gh fun v99 G100 H101 x102 r103=>?_;clear 1 x102 2 o70 3 mk38;cases hm;exact kN46 _ _ _ _ rfl ⟨v99,_,_,xt,mk38,rfl,r103,⟨_,o70⟩⟩
  | false =>
   clear 4;cases hm;exact kN46 _ _ _ _ rfl ⟨v72,_,_,xt,mk38,rfl,r76,⟨_,o70⟩⟩
 ·rintro s34 _ G110 H111 rfl ⟨v105,v106,v107,xt,mk108,rfl,r109,⟨vs7,o12⟩⟩;refine Eu ?_;have sf:=Same.new (o:=.dK vs7) o12.g;have xt:=xt.frz hz11 o12.g o12.h;have r112:=o12.tell;clear 9 sf r109;exact AO (K:=K) (GM (AA r109) (ev_lenMS (AA r112))) hm xt.gh fun v113 G114 H115 x116 r117=>q v113 G114 H115 (xt.trans x116) r117
 ·clear 5
theorem Ow (F:DIn K mg "parts_of" F8)(T:Txt w K mg):Kr P w K mg base:=by
 refine F.okM1 (m:=Ah) JV fun _ _ _ _ _ H0 _ _ hr G0 Ae res C2 xt AQ hm q=>?_;unfold Ah at hm
 refine ⟨_,(A6 (Ax (AW BC (AR K (pv 0) AC) AG (Aa _)) (A6 (AL (AU A8))
   A9) A9)
   (A6 (AL (K6 (N3 (K:=K) rfl) (pv 0) (NR AC) N0))
   A9)),?_⟩
 clear 2 b9 h10;refine Ay (AT (K:=K) (BR (Eo (BB (Bi (AA AQ)) Af)) Am)) h10 xt.gh fun G11 H12 x13=>?_;clear 1 x13 AQ
 cases b9 with
 | true =>
  clear 3;exact AO (K:=K) (rest:=By) (σ:=[some C2]) (Bs (AS (α:=Nt))) hm xt.gh fun v14 G15 H16 x17 r18=>q v14 G15 H16 (xt.trans x17) r18
 | false =>
  clear 4;exact AO (K:=K) (IM (Bi (AA AQ)) (Md (K:=K) Af) Nr) hm xt.gh fun v23 G24 H25 x26 r27=>q v23 G24 H25 (xt.trans x26) r27
theorem Nf (F:DIn K mg "parts_of" F8)(T:Txt w K mg):J7 P w K mg base:=by
 refine F.okM1 (m:=At) JV fun _ _ _ _ _ H0 _ _ hr G0 Ae res C2 xt AQ hm q=>?_;unfold At at hm
 refine ⟨_,(A6 (Ax (AW BC (AR K (pv 0) AC) AG (Aa _)) (A6 (AL (AU A8))
   A9) A9)
   (A6 (AL (K6 (N3 (K:=K) rfl) (pv 0) (NR AC) N0))
   A9)),?_⟩
 clear 2 b9 h10;refine Ay (AT (K:=K) (BR (Dq (Iq (AA AQ) Af)) Am)) h10 xt.gh fun G11 H12 x13=>?_;clear 1 x13 AQ
 cases b9 with
 | true =>
  clear 3;exact AO (K:=K) (rest:=By) (σ:=[some C2]) (Bs (AS (α:=D))) hm xt.gh fun v14 G15 H16 x17 r18=>q v14 G15 H16 (xt.trans x17) r18
 | false =>
  clear 4;exact AO (K:=K) (IM (TN (AA AQ)) (Md (K:=K) Af) Nr) hm xt.gh fun v23 G24 H25 x26 r27=>q v23 G24 H25 (xt.trans x26) r27
theorem Lp (F:DIn K mg "row_number" FE)(T:Txt w K mg):Hy P w K mg base:=by
 refine F.ok Lo bn3 (fun vs H Q E h=>(Mq h).trans rfl) (fun _ cdv A outer s H0 vs Q E hr h=>?_);obtain ⟨G0,p,q,v,xs,rows,a,r,rfl,sg,o,rv,hm,k⟩:=h
 refine ⟨_,(A6 (Ax (pt_cmp (Sq (HL hr) (pv 2) (pv 1))) (A6 (RO (HL hr) (pv 1) (pv 2) (Bp K T.len_ (pv 0)) rfl)
   (A6 (EL (EG K (pv 0) (pv 2))) A9)) A9)
   (A6 (AL (Nm (HL hr) (pv 1) (pv 2) (fun _ _=>rfl))) A9)),?_⟩
 exact SL sg o rv hm k
theorem ok0_lay {f:Addr}{fd:FuncData}(F:Fun K "lay" "lay" RU f fd):FnOk P w K mg base CX0 2 f fd ["rows","numbers","sentence"] (spB K (EH Ah 0)):=by
 refine F.ok KQ (fun vs H Q E h=>(Mq h).trans rfl) (fun cdv A outer s H0 vs Q E hr h=>?_);obtain ⟨_,_,_,_,_,_,_,_,_,_,_,_,hm,_⟩:=h;exact nomatch (hm:none=some _)
theorem ok_lay {f:Addr}{fd:FuncData}(F:Fun K "lay" "lay" RU f fd)(T:Txt w K mg)(Go:Kr P w K mg base)(Dz:Hy P w K mg base)(CB:Nat)(O9:DefOk P w K mg base "lay" (2+CB) ["rows","numbers","sentence"] (spB K (EH Ah CB))):FnOk P w K mg base CX0 (2+CB+1) f fd ["rows","numbers","sentence"] (spB K (EH Ah (CB+1))):=by
 refine F.ok KQ (fun vs H Q E h=>(Mq h).trans rfl) (fun cdv A outer s H0 vs Q E hr h=>?_);obtain ⟨G0,p,q,v,xs,rows,a,r,rfl,sg,o,rv,hm,k⟩:=h
 refine ⟨_,(A6 (Ax (AW BC (AR K (pv 2) AC) AG (Aa _)) (A6 (AL (AN Dz hr (by omega) rfl (A5 (pv 0) (A5 (pv 1) (A5 (pv 2) A8))))) A9) A9)
   (A6 (AM (i:=3) KQ (AU (A5 (AR K (pv 2) AC) A8)))
   (A6 (DL PassesOwn.never rfl (C5 (K:=K) rfl (AN Go hr (by omega) rfl (A5 (pv 2) A8))) (BG (i:=4) KQ)
    (A6 (AM (i:=3) KQ (BF (KW (K:=K) rfl) (pv 3) (AU (A5 (AN O9 hr (by omega) rfl (A5 (pv 0) (A5 (pv 1) (A5 (pv 4) A8)))) A8)))) A9))
   (A6 (AL (AN Dz hr (by omega) rfl (A5 (pv 0) (A5 (pv 1) (A5 (pv 3) A8))))) A9)))),?_⟩
 exact lay_body (pm:=Ah) (mp:=JI) (fun _=>rfl) sg o rv hm k
theorem R5 (F:DIn K mg "book_of" Io)(T:Txt w K mg)(O9:Z_lay P w K mg base):M2 P w K mg base:=by
 refine F.ok FO bn1 (fun vs H Q E h=>(spN_len h).trans rfl) (fun _ cdv A outer s H0 vs Q E hr h=>?_);obtain ⟨G0,⟨some_,⟨⟩⟩,r,sg,⟨v,_,rfl,rv,rfl⟩,hm,k⟩:=h
 refine ⟨_,(A6 (AM (i:=1) FO (Cg A8))
   (A6 (AM (i:=2) FO pe_dnewT)
   (A6 (KF (i:=3) (MB FO) rfl (Or.inl rfl) (cn:=["rows","numbers"]) (cap:=[1,2]) rfl ⟨by decide +kernel,rfl,by decide +kernel,Cc rfl⟩ rfl (by decide +kernel) ⟨⟨rfl,.inl rfl,rfl⟩,⟨rfl,.inl rfl,rfl⟩,trivial⟩ (C5 (K:=K) rfl (pv 0)) (fun C s0 H0 fp=>⟨EM,(AN O9 hr (by decide) rfl (A5 (pv 1) (A5 (pv 2) (A5 (pv 0) A8))))⟩))
   (A6 (AL (AU (A5 (pv 1) (A5 (pv 3) A8)))) A9)))),?_⟩
 exact SG sg rv hm k
theorem N6 (F:DIn K mg "is_moment" FX)(T:Txt w K mg):JE P w K mg base:=by
 refine F.okM1 (m:=ES) E1 fun _ _ _ _ _ H0 _ _ hr G0 Au res B6 xt Ao hm q=>?_;unfold ES at hm
 refine ⟨_,(A6 (Ax (LS (DY K (Bh (Gz (K:=K) rfl) (by rfl) T.isinstance_ Bv (A5 (pv 0) (A5 (Jo (v:=.ty "str") rfl T.str_ bt_str rfl) A8))))) (A6 (AL Ca)
   A9) A9)
   (A6 (AM (i:=1) E1 AG)
   (A6 (DL PassesOwn.never rfl (C5 (K:=K) rfl (pv 0)) (BG (i:=2) E1) (A6 (Ax (PW.pt (J0 (AW Qs (pv 2) AG (Aa _)) (J0 (AW Ee (pv 2) AG (Aa _)) (Ia (AW op_leU (pv 2) (pv 1) (Aa _)))))) (A6 (AL Ca)
   A9) A9)
   (A6 (AM (i:=1) E1 (pv 2))
   A9)))
   (A6 (AL Ca)
   A9)))),?_⟩
 clear 2 b1 h2;refine Ay (Ky (QC (K:=K) (L4 (by decide) (AA Ao)))) h2 xt.gh fun G3 H4 x5=>?_;clear 1 x5 Ao
 cases b1 with
 | true =>
  clear 3;exact AO (K:=K) (rest:=By) (σ:=[some B6,none,none]) Ej hm xt.gh fun v6 G7 H8 x9 r10=>q v6 G7 H8 (xt.trans x9) r10
 | false =>
  clear 4;clear 2 PY h16;refine Ak (K:=K) Am h16 xt.gh fun v11 G12 H13 x14 r15=>?_;clear 1 x14 Ao;clear 2 as18 h19 fl20 h21;refine E9 (K:=K) (RR:=fun r v G' H'=>Ext G0 H0 G' H'/\Rp.rel K G' v r) (iw_any (AA Ao)) h19 h21 xt.gh fun G22 H23 x24=>⟨fun s25 S' G' H'=>∃ (v26:V) (v27:Option V),Ext G0 H0 G' H'/\Same G22 G'/\S'=[some B6,some v26,v27]/\Rp.rel K G' v26 (s25:Str),?_,?_,?_,?_,?_⟩
  ·clear 1 x24 r15;exact ⟨v11,_,xt,(Same.refl _),rfl,r15⟩
  ·rintro _ S' G' H' ⟨v26,v27,xt,mk28,rfl,r29⟩;exact ⟨mk28,xt.gh⟩
  ·rintro xv30 a31 s25 _ G34 H35 fl32 - ⟨v26,v27,xt,mk28,rfl,r29⟩ rx33 hm D' kN36 kC37 kB38 kR39;refine Dl ?_;clear 2 b48 h49;refine Ay (Kq (AT (K:=K) (NC (Dq (AA rx33)) Am)) (Kq (AT (K:=K) (NC (Dq (AA rx33)) Am)) (AT (K:=K) (NC (Dq (AA rx33)) (AA r29))))) h49 xt.gh fun G50 H51 x52=>?_;clear 1 x52 rx33 3 mk28
   cases b48 with
   | true =>
    clear 3;clear 2 rr58 h59;cases hm;exact AO (K:=K) (rest:=By) (σ:=[some B6,some v26,some xv30]) Ej h59 xt.gh fun v53 G54 H55 x56 r57=>kR39 _ v53 G54 H55 rfl ⟨xt.trans x56,r57⟩
   | false =>
    clear 4;clear 2 PY h66;refine Ak (K:=K) (Dq (AA rx33)) h66 xt.gh fun v61 G62 H63 x64 r65=>?_;clear 1 x64 3 mk28;cases hm;exact kN36 _ _ _ _ rfl ⟨v61,_,xt,mk28,rfl,r65⟩
  ·rintro s25 _ G71 H72 rfl ⟨v67,v68,xt,mk69,rfl,r70⟩;refine Eu ?_;exact AO (K:=K) (rest:=By) (σ:=[some B6,some v67,v68]) Ej hm xt.gh fun v73 G74 H75 x76 r77=>q v73 G74 H75 (xt.trans x76) r77
  ·clear 5
theorem R7 (F:DIn K mg "is_lamp" Ie)(T:Txt w K mg)(FZ:JE P w K mg base):MO P w K mg base:=by
 refine F.okM1 (m:=DS) Qz fun _ _ _ _ _ H0 _ _ hr G0 Au res B6 xt Ao hm q=>?_;unfold DS at hm
 refine ⟨_,(A6 (AL (HJ (AN FZ hr (by decide) rfl (A5 (pv 0) A8)) (Fn (EQ BC (Bp K T.len_ (pv 0)) AC (Aa _)))))
   A9),?_⟩
 exact AO (K:=K) (Gj (Aj (m:=IG) (AA Ao)) (Ck (Jb (AA Ao)) Af)) hm xt.gh fun v5 G6 H7 x8 r9=>q v5 G6 H7 (xt.trans x8) r9
theorem Nz (F:DIn K mg "has_form" Ge)(T:Txt w K mg)(Iw:MO P w K mg base):Kt P w K mg base:=by
 refine F.okM1 (m:=AY) OR fun _ _ _ _ _ H0 _ _ hr G0 Au res B6 xt Ao hm q=>?_;unfold AY at hm;obtain ⟨a_PARTS,e_PARTS,q_PARTS⟩:=T.PARTS
 refine ⟨_,(A6 (Ax (PW.pt (J0 (LS (DY K (Bh (Gz (K:=K) rfl) (by rfl) T.isinstance_ Bv (A5 (pv 0) (A5 (Jo (v:=.ty "tuple") rfl T.tuple_ HN rfl) A8))))) (J0 (AW BC (Bp K T.len_ (pv 0)) AC (Aa _)) (Ia (LS (DY K (Bh (Gz (K:=K) rfl) (by rfl) T.isinstance_ Bv (A5 (AR K (pv 0) AC) (A5 (Jo (v:=.ty "str") rfl T.str_ bt_str rfl) A8))))))))) (A6 (AL Ca)
   A9) A9)
   (A6 (Ax (AW BC (AR K (pv 0) AC) AG (Aa _)) (A6 (AL (HJ (EQ BC (Bp K T.len_ (pv 0)) AC (Aa _)) (Fn (AN Iw hr (by decide) rfl (A5 (AR K (pv 0) AC) A8)))))
   A9) A9)
   (A6 (AL (HJ (pe_inC rfl rfl q_PARTS (AR K (pv 0) AC) (Cw rfl e_PARTS) rfl) (Fn (EQ BC (Bp K T.len_ (pv 0)) (B3 K AC (pe_getC rfl rfl q_PARTS (Cw rfl e_PARTS) (AR K (pv 0) AC) (fun _ _=>rfl))) (Aa _)))))
   A9))),?_⟩
 clear 2 b9 h10;refine Ay (Kq (Ky (QC (K:=K) (L4 (by decide) (AA Ao)))) (Kq (AT (K:=K) (Ck (Jb (AA Ao)) Af)) (Ky (QC (K:=K) (L4 (by decide) (Iq (AA Ao) Af)))))) h10 xt.gh fun G11 H12 x13=>?_;clear 1 x13 Ao
 cases b9 with
 | true =>
  clear 3;exact AO (K:=K) (rest:=By) (σ:=[some B6]) Ej hm xt.gh fun v14 G15 H16 x17 r18=>q v14 G15 H16 (xt.trans x17) r18
 | false =>
  clear 4;clear 2 b25 h26;refine Ay (AT (K:=K) (BR (Dq (Iq (AA Ao) Af)) Am)) h26 xt.gh fun G27 H28 x29=>?_;clear 1 x29 Ao
  cases b25 with
  | true =>
   clear 3;exact AO (K:=K) (Gj (Ck (Jb (AA Ao)) Af) (Aj (m:=LL) (Iq (AA Ao) Af))) hm xt.gh fun v36 G37 H38 x39 r40=>q v36 G37 H38 (xt.trans x39) r40
  | false =>
   clear 4;exact AO (K:=K) (Gj (ev_inC (Dq (Iq (AA Ao) Af))) (Ck (Jb (AA Ao)) (CF Af (ev_getC (Dq (Iq (AA Ao) Af)))))) hm xt.gh fun v59 G60 H61 x62 r63=>q v59 G60 H61 (xt.trans x62) r63
theorem Kh (F:DIn K mg "is_sentence" Ek)(T:Txt w K mg)(Fx:J7 P w K mg base)(Gv:Kt P w K mg base):GU P w K mg base:=by
 refine F.okM1 (m:=Ar) DD fun _ _ _ _ _ H0 _ _ hr G0 Au res B6 xt Ao hm q=>?_;unfold Ar at hm
 refine ⟨_,(A6 (AM (i:=1) DD (Cg (A5 (pv 0) A8)))
   (A6 (AM (i:=2) DD AC)
   (A6 (ps_while PassesOwn.never (AW Qs (pv 2) (Bp K T.len_ (pv 1)) (Aa _)) (A6 (Ax (PW.pt (J0 (AW Ee (Bp K T.len_ (pv 1)) (Kw rfl T.MOST_WORDS) (Aa _)) (Ia (LS (DY K (AN Gv hr (by decide) rfl (A5 (AR K (pv 1) (pv 2)) A8))))))) (A6 (AL Ca)
   A9) A9)
   (A6 (EL (Mn (K:=K) rfl PySem.F.plainAttrs_list PySem.F.slot_list_extend PySem.F.type_list_extend (Qt (K:=K) rfl) (pv 1) (A5 (AN Fx hr (by decide) rfl (A5 (AR K (pv 1) (pv 2)) A8)) A8)))
   (A6 (AM (i:=2) DD (B3 K (pv 2) AC))
   A9))))
   (A6 (AL Ca)
   A9)))),?_⟩
 clear 2 DA h8;refine Kf (K:=K) (D5 (A7 (AA Ao) (AS (α:=D)))) h8 xt.gh fun p1 vs2 G3 H4 x5 hz6 o7=>?_;clear 1 x5 4 hz6;clear 2 K2 h14;refine Ak (K:=K) Af h14 xt.gh fun v9 G10 H11 x12 r13=>?_;clear 1 x12 2 o7;clear 2 fl15 h16;refine sv_while (K:=K) (G:=G10) (RR:=fun r v G' H'=>Ext G0 H0 G' H'/\Rp.rel K G' v r) h16 (fun s17 S' G' H'=>∃ (v18:V),Ext G0 H0 G' H'/\Same G10 G'/\S'=[some B6,some (V.ref p1),some v18]/\(∃ vs,Own K G' H' (V.ref p1) p1 vs s17.1)/\Rp.rel K G' v18 (s17.2:Int)) ⟨?_,?_,?_,?_,?_,?_⟩
 ·exact ⟨v9,xt,(Same.refl _),rfl,⟨_,o7⟩,r13⟩
 ·rintro _ S' G' H' ⟨v18,xt,mk19,rfl,⟨vs2,o7⟩,r20⟩;exact xt.gh
 ·rintro s17 _ G21 H22 b' ⟨v18,xt,mk19,rfl,⟨vs2,o7⟩,r20⟩ hc Q' k';refine TV.runB o7 (AT (K:=K) (E5 (AA (Rp.mono (Same.new o7.g) r20)) (Gk (AA o7.tell)))) hc xt.gh fun G23 H24 x25=>?_;clear 1 x25 r20 2 o7 3 mk19;exact k' _ _ ⟨v18,xt,mk19,rfl,⟨_,o7⟩,r20⟩
 ·rintro s17 _ G27 H28 fl26 ⟨v18,xt,mk19,rfl,⟨vs2,o7⟩,r20⟩ hm - D' kN29 kC30 kB31 kR32;clear 2 b43 h44;refine sv_ifB o7 (Kq (AT (K:=K) (E5 (Gk (AA o7.tell)) Af)) (Ky (QC (K:=K) (Aj (m:=JU) (ER (AA o7.tell) (AA (Rp.mono (Same.new o7.g) r20))))))) h44 xt.gh fun G45 H46 x47=>?_;clear 1 x47 r20 2 o7 3 mk19
  cases b43 with
  | true =>
   clear 3;clear 2 rr53 h54;cases hm;exact AO (K:=K) (rest:=By) (σ:=[some B6,some (V.ref p1),some v18]) Ej h54 xt.gh fun v48 G49 H50 x51 r52=>kR32 _ v48 G49 H50 rfl ⟨xt.trans x51,r52⟩
  | false =>
   clear 4;clear 2 a58 h59 z66 h60;refine QL (K:=K) (m:=Hv) rfl o7 (AA r20) h59 h60 xt.gh fun G61 H62 w63 x64 o65=>?_;have xt:Ext G0 H0 G61 (upd H62 p1 (.lst (vs2++w63))):=(xt.trans x64).put hz6 o65.g;clear 0 x64 r20 3 mk19;clear 2 K2 h72;refine Ak (K:=K) (CF (AA r20) Af) h72 xt.gh fun v67 G68 H69 x70 r71=>?_;clear 1 x70 2 o65 3 mk19;cases hm;exact kN29 _ _ _ _ rfl ⟨v67,xt,mk19,rfl,⟨_,o65⟩,r71⟩
 ·rintro s17 _ G76 H77 rfl ⟨v73,xt,mk74,rfl,⟨vs2,o7⟩,r75⟩;refine Eu ?_;exact AO (K:=K) (rest:=By) (σ:=[some B6,some (V.ref p1),some v73]) Ej hm xt.gh fun v78 G79 H80 x81 r82=>q v78 G79 H80 (xt.trans x81) r82
 ·clear 5
theorem TL (F:DIn K mg "denied" K1)(T:Txt w K mg):Kj P w K mg base:=by
 refine F.okM1 (m:=BW) So fun _ _ _ _ _ H0 _ _ hr G0 Nu res v_plain_ xt Fc hm q=>?_;unfold BW at hm
 refine ⟨_,(A6 (Ax (AW BC (AR K (pv 0) AC) AG (Aa _)) (A6 (AL (AR K (pv 0) AC))
   A9) A9)
   (A6 (AL (AU (A5 AG (A5 (pv 0) A8))))
   A9)),?_⟩
 clear 2 b9 h10;refine Ay (AT (K:=K) (BR (Eo (BB (Bi (AA Fc)) Af)) Am)) h10 xt.gh fun G11 H12 x13=>?_;clear 1 x13 Fc
 cases b9 with
 | true =>
  clear 3;exact AO (K:=K) (BB (Bi (AA Fc)) Af) hm xt.gh fun v17 G18 H19 x20 r21=>q v17 G18 H19 (xt.trans x20) r21
 | false =>
  clear 4;exact AO (K:=K) (Ad (A7 (Ai Am) (A7 (AA Fc) (AS (α:=Nt))))) hm xt.gh fun v22 G23 H24 x25 r26=>q v22 G23 H24 (xt.trans x25) r26
theorem IC (F:DIn K mg "plain_with_two" DV)(T:Txt w K mg)(CA:Kj P w K mg base):F4 P w K mg base:=by
 refine F.okM3 (m:=Bc) Hq fun _ _ _ _ _ H0 _ _ hr G0 Bo O7 K5 res v_word_ v_left_ v_right_ xt BA Dm CZ hm q=>?_;unfold Bc at hm
 refine ⟨_,(A6 (Ax (AW BC (pv 0) AG (Aa _)) (A6 (AL (AU (A5 AG (A5 (AU (A5 AG (A5 (AN CA hr (by decide) rfl (A5 (pv 1) A8)) (A5 (AN CA hr (by decide) rfl (A5 (pv 2) A8)) A8)))) A8))))
   A9) A9)
   (A6 (Ax (AW BC (pv 0) AG (Aa _)) (A6 (AL (AU (A5 AG (A5 (AU (A5 AG (A5 (pv 1) (A5 (AN CA hr (by decide) rfl (A5 (pv 2) A8)) A8)))) A8))))
   A9) A9)
   (A6 (Ax (AW BC (pv 0) AG (Aa _)) (A6 (AL (AU (A5 AG (A5 (AU (A5 AG (A5 (AN CA hr (by decide) rfl (A5 (pv 1) A8)) (A5 (AN CA hr (by decide) rfl (A5 (pv 2) A8)) A8)))) A8))))
   A9) A9)
   (A6 (AL (AU (A5 (pv 0) (A5 (pv 1) (A5 (pv 2) A8)))))
   A9)))),?_⟩
 clear 2 b1 h2;refine Ay (AT (K:=K) (BR (AA BA) Am)) h2 xt.gh fun G3 H4 x5=>?_;clear 1 x5 BA Dm CZ
 cases b1 with
 | true =>
  clear 3;exact AO (K:=K) (Ad (A7 (Ai Am) (A7 (Ad (A7 (Ai Am) (A7 (Aj (m:=CN) (AA Dm)) (A7 (Aj (m:=CN) (AA CZ)) (AS (α:=Nt)))))) (AS (α:=Nt))))) hm xt.gh fun v16 G17 H18 x19 r20=>q v16 G17 H18 (xt.trans x19) r20
 | false =>
  clear 4;clear 2 b21 h22;refine Ay (AT (K:=K) (BR (AA BA) Am)) h22 xt.gh fun G23 H24 x25=>?_;clear 1 x25 BA Dm CZ
  cases b21 with
  | true =>
   clear 3;exact AO (K:=K) (Ad (A7 (Ai Am) (A7 (Ad (A7 (Ai Am) (A7 (AA Dm) (A7 (Aj (m:=CN) (AA CZ)) (AS (α:=Nt)))))) (AS (α:=Nt))))) hm xt.gh fun v34 G35 H36 x37 r38=>q v34 G35 H36 (xt.trans x37) r38
  | false =>
   clear 4;clear 2 b39 h40;refine Ay (AT (K:=K) (BR (AA BA) Am)) h40 xt.gh fun G41 H42 x43=>?_;clear 1 x43 BA Dm CZ
   cases b39 with
   | true =>
    clear 3;exact AO (K:=K) (Ad (A7 (Ai Am) (A7 (Ad (A7 (Ai Am) (A7 (Aj (m:=CN) (AA Dm)) (A7 (Aj (m:=CN) (AA CZ)) (AS (α:=Nt)))))) (AS (α:=Nt))))) hm xt.gh fun v54 G55 H56 x57 r58=>q v54 G55 H56 (xt.trans x57) r58
   | false =>
    clear 4;exact AO (K:=K) (Ad (A7 (Ai (AA BA)) (A7 (AA Dm) (A7 (AA CZ) (AS (α:=Nt)))))) hm xt.gh fun v59 G60 H61 x62 r63=>q v59 G60 H61 (xt.trans x62) r63
theorem Hw (F:DIn K mg "plain_with_one" Da)(T:Txt w K mg)(CA:Kj P w K mg base):Ew P w K mg base:=by
 refine F.okM2 (m:=Be) HS fun _ _ _ _ _ H0 _ _ hr G0 Bo HK res v_word_ v_inner_ xt BA BX hm q=>?_;unfold Be at hm;obtain ⟨a_YES,e_YES,q_YES⟩:=T.YES
 refine ⟨_,(A6 (Ax (AW BC (pv 0) AG (Aa _)) (A6 (AL (AN CA hr (by decide) rfl (A5 (pv 1) A8)))
   A9) A9)
   (A6 (Ax (AW BC (pv 0) AG (Aa _)) (A6 (AL (AU (A5 AG (A5 (pv 1) A8))))
   A9) A9)
   (A6 (Ax (AW BC (pv 0) AG (Aa _)) (A6 (AL (AU (A5 AG (A5 (Cw rfl e_YES) (A5 (pv 1) A8)))))
   A9) A9)
   (A6 (Ax (AW BC (pv 0) AG (Aa _)) (A6 (AL (AU (A5 AG (A5 (AU (A5 AG (A5 (Cw rfl e_YES) (A5 (AN CA hr (by decide) rfl (A5 (pv 1) A8)) A8)))) A8))))
   A9) A9)
   (A6 (Ax (AW BC (pv 0) AG (Aa _)) (A6 (AL (AU (A5 AG (A5 (AU (A5 AG (A5 (Cw rfl e_YES) (A5 (AU (A5 AG (A5 (AU (A5 AG (A5 (Cw rfl e_YES) (A5 (pv 1) A8)))) A8))) A8)))) A8))))
   A9) A9)
   (A6 (AL (AU (A5 AG (A5 (Cw rfl e_YES) (A5 (AU (A5 AG (A5 (AU (A5 AG (A5 (Cw rfl e_YES) (A5 (AN CA hr (by decide) rfl (A5 (pv 1) A8)) A8)))) A8))) A8)))))
   A9)))))),?_⟩
 clear 2 b1 h2;refine Ay (AT (K:=K) (BR (AA BA) Am)) h2 xt.gh fun G3 H4 x5=>?_;clear 1 x5 BA BX
 cases b1 with
 | true =>
  clear 3;exact AO (K:=K) (Aj (m:=CN) (AA BX)) hm xt.gh fun v7 G8 H9 x10 r11=>q v7 G8 H9 (xt.trans x10) r11
 | false =>
  clear 4;clear 2 b12 h13;refine Ay (AT (K:=K) (BR (AA BA) Am)) h13 xt.gh fun G14 H15 x16=>?_;clear 1 x16 BA BX
  cases b12 with
  | true =>
   clear 3;exact AO (K:=K) (Ad (A7 (Ai Am) (A7 (AA BX) (AS (α:=Nt))))) hm xt.gh fun v17 G18 H19 x20 r21=>q v17 G18 H19 (xt.trans x20) r21
  | false =>
   clear 4;clear 2 b22 h23;refine Ay (AT (K:=K) (BR (AA BA) Am)) h23 xt.gh fun G24 H25 x26=>?_;clear 1 x26 BA BX
   cases b22 with
   | true =>
    clear 3;exact AO (K:=K) (Ad (A7 (Ai Am) (A7 (KH q_YES) (A7 (AA BX) (AS (α:=Nt)))))) hm xt.gh fun v27 G28 H29 x30 r31=>q v27 G28 H29 (xt.trans x30) r31
   | false =>
    clear 4;clear 2 b32 h33;refine Ay (AT (K:=K) (BR (AA BA) Am)) h33 xt.gh fun G34 H35 x36=>?_;clear 1 x36 BA BX
    cases b32 with
    | true =>
     clear 3;exact AO (K:=K) (Ad (A7 (Ai Am) (A7 (Ad (A7 (Ai Am) (A7 (KH q_YES) (A7 (Aj (m:=CN) (AA BX)) (AS (α:=Nt)))))) (AS (α:=Nt))))) hm xt.gh fun v45 G46 H47 x48 r49=>q v45 G46 H47 (xt.trans x48) r49
    | false =>
     clear 4;clear 2 b50 h51;refine Ay (AT (K:=K) (BR (AA BA) Am)) h51 xt.gh fun G52 H53 x54=>?_;clear 1 x54 BX
     cases b50 with
     | true =>
      clear 3;exact AO (K:=K) (Ad (A7 (Ai Am) (A7 (Ad (A7 (Ai Am) (A7 (KH q_YES) (A7 (Ad (A7 (Ai Am) (A7 (Ad (A7 (Ai Am) (A7 (KH q_YES) (A7 (AA BX) (AS (α:=Nt)))))) (AS (α:=Nt))))) (AS (α:=Nt)))))) (AS (α:=Nt))))) hm xt.gh fun v55 G56 H57 x58 r59=>q v55 G56 H57 (xt.trans x58) r59
     | false =>
      clear 4;exact AO (K:=K) (Ad (A7 (Ai Am) (A7 (KH q_YES) (A7 (Ad (A7 (Ai Am) (A7 (Ad (A7 (Ai Am) (A7 (KH q_YES) (A7 (Aj (m:=CN) (AA BX)) (AS (α:=Nt)))))) (AS (α:=Nt))))) (AS (α:=Nt)))))) hm xt.gh fun v72 G73 H74 x75 r76=>q v72 G73 H74 (xt.trans x75) r76
theorem SE {f:Addr}{fd:FuncData}(F:Fun K "plain" "plain" Jr f fd):FnOk P w K mg base CX0 3 f fd ["sentence"] (spM K (D7 0)):=by
 refine F.ok Ku (fun vs H Q E h=>(Dy h).trans rfl) (fun cdv A outer s H0 vs Q E hr h=>?_);obtain ⟨_,_,_,_,_,hm,_⟩:=h;exact nomatch (hm:none=some _)
theorem ok_plain {f:Addr}{fd:FuncData}(F:Fun K "plain" "plain" Jr f fd)(T:Txt w K mg)(De:F4 P w K mg base)(DP:Ew P w K mg base)(CB:Nat)(F6:DefOk P w K mg base "plain" (3+CB) ["sentence"] (spM K (D7 CB))):FnOk P w K mg base CX0 (3+CB+1) f fd ["sentence"] (spM K (D7 (CB+1))):=by
 refine F.ok Ku (fun vs H Q E h=>(Dy h).trans rfl) (fun cdv A outer s H0 vs Q E hr h=>?_);obtain ⟨G0,⟨Ae,⟨⟩⟩,res,sg0,⟨C2,_,rfl,AQ,rfl⟩,hm,q⟩:=h;replace AQ:Rp.rel K G0 C2 Ae:=AQ;replace hm:DU (EX CB) Ae=some res:=hm;unfold DU at hm;obtain ⟨a_YES,e_YES,q_YES⟩:=T.YES;have xt:Ext G0 H0 G0 H0:=Ext.refl sg0
 refine ⟨_,(A6 (AM (i:=1) Ku (AR K (pv 0) AC))
   (A6 (Ax (AW BC (pv 1) AG (Aa _)) (A6 (AL (AU (A5 AG (A5 (Cw rfl e_YES) A8))))
   A9) A9)
   (A6 (Ax (PW.pt (J0 (AW BC (pv 1) AG (Aa _)) (Ia (AW BC (pv 1) AG (Aa _))))) (A6 (AL (pv 0))
   A9) A9)
   (A6 (Ax (AW BC (Bp K T.len_ (pv 0)) AC (Aa _)) (A6 (AL (AN DP hr (by omega) rfl (A5 (pv 1) (A5 (AN F6 hr (by omega) rfl (A5 (AR K (pv 0) AC) A8)) A8))))
   A9) A9)
   (A6 (AL (AN De hr (by omega) rfl (A5 (pv 1) (A5 (AN F6 hr (by omega) rfl (A5 (AR K (pv 0) AC) A8)) (A5 (AN F6 hr (by omega) rfl (A5 (AR K (pv 0) AC) A8)) A8)))))
   A9))))),?_⟩
 clear 2 Bo h10;refine Ak (K:=K) (Eo (BB (Bi (AA AQ)) Af)) h10 xt.gh fun v5 G6 H7 x8 r9=>?_;clear 1 x8 AQ;clear 2 b11 h12;refine Ay (AT (K:=K) (BR (AA r9) Am)) h12 xt.gh fun G13 H14 x15=>?_;clear 1 x15 AQ r9
 cases b11 with
 | true =>
  clear 3;exact AO (K:=K) (rest:=By) (σ:=[some C2,some v5]) (Ad (A7 (Ai Am) (A7 (KH q_YES) (AS (α:=Nt))))) hm xt.gh fun v16 G17 H18 x19 r20=>q v16 G17 H18 (xt.trans x19) r20
 | false =>
  clear 4;clear 2 b21 h22;refine Ay (tv_orP (AT (K:=K) (BR (AA r9) Am)) (AT (K:=K) (BR (AA r9) Am))) h22 xt.gh fun G23 H24 x25=>?_;clear 1 x25 AQ r9
  cases b21 with
  | true =>
   clear 3;exact AO (K:=K) (AA AQ) hm xt.gh fun v26 G27 H28 x29 r30=>q v26 G27 H28 (xt.trans x29) r30
  | false =>
   clear 4;clear 2 b34 h35;refine Ay (AT (K:=K) (Ck (ev_lenT (Bi (AA AQ))) Af)) h35 xt.gh fun G36 H37 x38=>?_;clear 1 x38 AQ r9
   cases b34 with
   | true =>
    clear 3;exact AO (K:=K) (BI (m:=EN) (AA r9) (Aj (m:=D7 CB) (BB (Bi (AA AQ)) Af))) hm xt.gh fun v45 G46 H47 x48 r49=>q v45 G46 H47 (xt.trans x48) r49
   | false =>
    clear 4;exact AO (K:=K) (Jj (m:=EU) (AA r9) (Aj (m:=D7 CB) (BB (Bi (AA AQ)) Af)) (Aj (m:=D7 CB) (BB (Bi (AA AQ)) Af))) hm xt.gh fun v61 G62 H63 x64 r65=>q v61 G62 H63 (xt.trans x64) r65
theorem Mj (F:DIn K mg "book_told" Fs)(T:Txt w K mg){aE:Addr}(OE:OwnCls "NoSentence" aE bmV "ValueError.__new__" mg base)(Ic:M2 P w K mg base)(Ei:GU P w K mg base)(F6:RH P w K mg base):JK P w K mg base:=by
 refine F.okE Hh bn1 (fun vs H Q E h=>(Jc h).trans rfl) (fun _ cdv A outer s H0 vs Q E hr h=>?_);obtain ⟨G0,⟨Bw,⟨⟩⟩,res,sg0,⟨Dv,_,rfl,BK,rfl⟩,hm,q⟩:=h;replace BK:Rp.rel K G0 Dv Bw:=BK;replace hm:Bt Bw=some res:=hm;unfold Bt at hm;have xt:Ext G0 H0 G0 H0:=Ext.refl sg0
 refine ⟨_,(A6 (DL PassesOwn.leaving rfl (C5 (K:=K) rfl (pv 0)) (BG (i:=1) Hh) (A6 (Ax (LS (DY K (AN Ei hr (by decide) rfl (A5 (pv 1) A8)))) (A6 (K3 OE rfl rfl Et AG)
   A9) A9)
   A9))
   (A6 (AL (AN Ic hr (by decide) rfl (A5 (FF (cn:=[]) (cap:=[]) rfl ⟨by decide +kernel,rfl,by decide +kernel,Cc rfl⟩ rfl (by decide +kernel) trivial (C5 (K:=K) rfl (pv 0)) (fun C s0 H0 fp=>⟨EM,(AN F6 hr (by decide) rfl (A5 (pv 0) A8))⟩)) A8)))
   A9)),?_⟩
 clear 2 fl3 h4;refine sv_forX (K:=K) (RR:=fun r v G' H'=>False) (D4 (AA BK)) rfl h4 xt.gh fun G5 H6 x7=>⟨fun s8 S' G' H'=>∃ (v9:Option V),Ext G0 H0 G' H'/\Same G5 G'/\S'=[some Dv,v9],?_,?_,?_,?_,?_⟩
 ·clear 1 x7;exact ⟨_,xt,(Same.refl _),rfl⟩
 ·rintro _ S' G' H' ⟨v9,xt,mk10,rfl⟩;exact ⟨mk10,xt.gh⟩
 ·rintro xv11 a12 s8 _ G15 H16 fl13 - ⟨v9,xt,mk10,rfl⟩ rx14 hm1 hres D' kN17 kC18 kB19 kR20;refine Dl ?_;obtain ⟨b23,h24,hm1⟩:=qaA.mp hm1;refine Ay (Ky (QC (K:=K) (Aj (m:=Fe) (BH (AA rx14))))) h24 xt.gh fun G25 H26 x27=>?_;clear 1 x27 3 mk10
  cases b23 with
  | true =>
   replace hm1:=cT hm1;refine BM ?_;cases hm1;have e:=hres _ rfl;subst e;cases hm;exact q aE G25 H26 OE.bound xt
  | false =>
   replace hm1:=cF hm1;refine BS ?_;cases hm1;exact kN17 _ _ _ _ rfl ⟨_,xt,mk10,rfl⟩
 ·rintro s8 _ G30 H31 rfl ⟨v28,xt,mk29,rfl⟩;refine Eu ?_;have BK:=Rp.mono (x7.gg.trans mk29) BK;clear 2 z40 h41;cases hm;exact AO (K:=K) (NV.ev (nv_def1 (m:=L5) (FV.ev (IR (cap:=[]) (fe:=fun (Ae:Th)=>(((some Ae).bind fun a=>Qp a).bind fun t36=>EX 26 t36)) (D4 (AA BK)) fun xc35 Ae Gc32 sc33 rc34=>(Aj (m:=D7 26) (Ng (AA rc34))))))) h41 xt.gh fun v39 G40 H41 x42 r43=>q v39 G40 H41 (xt.trans x42) r43
 ·rintro r' v' G' H' rfl rl;exact rl.elim
theorem ok_hopes (F:DIn K mg "hopes" Nd)(T:Txt w K mg):Jq P w K mg base:=by
 refine F.okM1 (m:=EW) sc_hopes fun _ _ _ _ _ H0 _ _ hr G0 rows_ res BP xt AI hm q=>?_;unfold EW at hm
 refine ⟨_,(A6 (AL (LG (cn:=[]) (cap:=[]) rfl ⟨by decide +kernel,rfl,by decide +kernel,Cc rfl⟩ rfl rfl (by decide +kernel) trivial (Jp (K:=K) rfl rfl T.enumerate_ (A5 (pv 0) A8)) (fun C s0 H0 fp=>⟨(Jg (AW BC (AR K (pv 1) AC) AG (Aa _))),(pv 0)⟩)))
   A9),?_⟩
 exact AO (K:=K) (FV.ev (KY (cap:=[]) (fc:=fun (pc5:(Int × (Tp SI)))=>((((some pc5.2).bind fun t8=>(some (0:Int)).bind fun t9=>atI t8.l t9).bind fun t10=>asS t10).bind fun t11=>(some (decide (t11=("until" : Str)))))) (fe:=fun (pc5:(Int × (Tp SI)))=>(some pc5.1)) (Nl (AA AI)) fun xc4 pc5 Gc1 sc2 rc3=>⟨(AT (K:=K) (BR (Em (BB (AA rc3) Af)) Am)),(AA (rel_i (K:=K) Gc1 pc5.1))⟩)) hm xt.gh fun v13 G14 H15 x16 r17=>q v13 G14 H15 (xt.trans x16) r17
theorem ok_waits (F:DIn K mg "waits" Ms)(T:Txt w K mg)(Dw:Jq P w K mg base):HR P w K mg base:=by
 refine F.okM1 (m:=DG) OL fun _ _ _ _ _ H0 _ _ hr G0 rows_ res BP xt AI hm q=>?_;unfold DG at hm
 refine ⟨_,(A6 (KF (i:=1) (MB OL) rfl (Or.inl rfl) (cn:=[]) (cap:=[]) rfl ⟨by decide +kernel,rfl,by decide +kernel,Cc rfl⟩ rfl (by decide +kernel) trivial (C5 (K:=K) rfl (pv 0)) (fun C s0 H0 fp=>⟨(Jg (AW BC (AR K (pv 0) AC) AG (Aa _))),(AR K (pv 0) AC)⟩))
   (A6 (AL (Bh (PB (w:=w) rfl rfl) (by rfl) T.sorted_ IP (A5 (BF (op_orK (w:=w) rfl) (Cq (Iv (K:=K) (w:=w) rfl rfl rfl) (by rfl) T.set_ Py (A5 (AN Dw hr (by decide) rfl (A5 (pv 0) A8)) A8)) (Cq (Iv (K:=K) (w:=w) rfl rfl rfl) (by rfl) T.set_ Py (A5 (pv 1) A8))) A8)))
   A9)),?_⟩
 clear 2 under_next_ h20;refine Ak (K:=K) (FV.ev (Nc (cap:=[]) (fc:=fun (row_:(Tp SI))=>((((some row_).bind fun t10=>(some (0:Int)).bind fun t11=>atI t10.l t11).bind fun t12=>asS t12).bind fun t13=>(some (decide (t13=("next" : Str)))))) (fe:=fun (row_:(Tp SI))=>(((some row_).bind fun t5=>(some (1:Int)).bind fun t6=>atI t5.l t6).bind fun t7=>asI t7)) (D4 (AA AI)) fun xc4 row_ Gc1 sc2 rc3=>⟨(AT (K:=K) (BR (Em (BB (AA rc3) Af)) Am)),(GC (BB (AA rc3) Af))⟩)) h20 xt.gh fun v15 G16 H17 x18 r19=>?_;clear 1 x18 AI;exact AO (K:=K) (FV.ev (Ps (w:=w) (Aj (m:=HQ) (AA AI)) (AA r19))) hm xt.gh fun v24 G25 H26 x27 r28=>q v24 G25 H26 (xt.trans x27) r28
theorem Fp (F:DIn K mg "refuse_more_waits" CU)(T:Txt w K mg){aX:Addr}(OX:OwnCls "TooMuch" aX bmV "ValueError.__new__" mg base)(Ce:HR P w K mg base):Ds P w K mg base:=by
 refine F.okE GA bn2 (fun vs H Q E h=>(Jc h).trans rfl) (fun _ cdv A outer s H0 vs Q E hr h=>?_);obtain ⟨G0,⟨rows_,S6,⟨⟩⟩,res,sg0,⟨BP,_,rfl,AI,v_most_,_,rfl,NE,rfl⟩,hm,q⟩:=h;replace AI:Rp.rel K G0 BP rows_:=AI;replace NE:Rp.rel K G0 v_most_ S6:=NE;replace hm:B8 rows_ S6=some res:=hm;unfold B8 at hm;have xt:Ext G0 H0 G0 H0:=Ext.refl sg0
 refine ⟨_,(A6 (Ax (AW Ee (Bp K T.len_ (AN Ce hr (by decide) rfl (A5 (pv 0) A8))) (pv 1) (Aa _)) (A6 (K3 OX rfl rfl Et AG)
   A9) A9)
   A9),?_⟩
 clear 2 b4 h5;refine Ay (AT (K:=K) (E5 (Gk (Aj (m:=GD) (AA AI))) (AA NE))) h5 xt.gh fun G6 H7 x8=>?_;clear 1 x8
 cases b4 with
 | true =>
  clear 3;cases hm;exact q aX G6 H7 OX.bound xt
 | false =>
  clear 4;cases hm;exact q _ _ _ xt rfl
theorem O6 (F:DIn K mg "lamps_in" Gg)(T:Txt w K mg):FA P w K mg base:=by
 refine F.okM1 (m:=Bj) OH fun _ _ _ _ _ H0 _ _ hr G0 rows_ res BP xt AI hm q=>?_;unfold Bj at hm
 refine ⟨_,(A6 (AL (Mn (K:=K) rfl PySem.F.plainAttrs_str PySem.F.slot_str_join PySem.F.type_str_join (mt_joinK (K:=K) rfl) AG (A5 (Bh (OB (w:=w) rfl rfl) (by rfl) T.sorted_ IP (A5 (Cq (Iv (K:=K) (w:=w) rfl rfl rfl) (by rfl) T.set_ Py (A5 (FF (cn:=[]) (cap:=[]) rfl ⟨by decide +kernel,rfl,by decide +kernel,Cc rfl⟩ rfl (by decide +kernel) trivial (C5 (K:=K) rfl (pv 0)) (fun C s0 H0 fp=>⟨(Jg (AW BC (AR K (pv 0) AC) AG (Aa _))),(AR K (pv 0) AC)⟩)) A8)) A8)) A8)))
   A9),?_⟩
 exact AO (K:=K) (ev_join Am (FV.ev (Oo (w:=w) (FV.ev (Nc (cap:=[]) (fc:=fun (row_:(Tp SI))=>((((some row_).bind fun t23=>(some (0:Int)).bind fun t24=>atI t23.l t24).bind fun t25=>asS t25).bind fun t26=>(some (decide (t26=("lamp" : Str)))))) (fe:=fun (row_:(Tp SI))=>(((some row_).bind fun t18=>(some (1:Int)).bind fun t19=>atI t18.l t19).bind fun t20=>asS t20)) (D4 (AA AI)) fun xc17 row_ Gc14 sc15 rc16=>⟨(AT (K:=K) (BR (Em (BB (AA rc16) Af)) Am)),(Em (BB (AA rc16) Af))⟩))))) hm xt.gh fun v31 G32 H33 x34 r35=>q v31 G32 H33 (xt.trans x34) r35
theorem JZ (F:DIn K mg "bounded_book" ED)(T:Txt w K mg){aX:Addr}(OX:OwnCls "TooMuch" aX bmV "ValueError.__new__" mg base)(Fw:JK P w K mg base)(CS:Ds P w K mg base)(C9:FA P w K mg base):Fg P w K mg base:=by
 refine F.okE FT bn2 (fun vs H Q E h=>(Jc h).trans rfl) (fun _ cdv A outer s H0 vs Q E hr h=>?_);obtain ⟨G0,⟨Bw,most_waits_,⟨⟩⟩,res,sg0,⟨Dv,_,rfl,BK,LY,_,rfl,Cb,rfl⟩,hm,q⟩:=h;replace BK:Rp.rel K G0 Dv Bw:=BK;replace Cb:Rp.rel K G0 LY most_waits_:=Cb;replace hm:BU Bw most_waits_=some res:=hm;unfold BU at hm;have xt:Ext G0 H0 G0 H0:=Ext.refl sg0
 refine ⟨_,(A6 (AM (i:=2) FT (Jd Fw hr (by decide) rfl Et (A5 (pv 0) A8)))
   (A6 (EL (Jd CS hr (by decide) rfl Et (A5 (AR K (pv 2) AC) (A5 (pv 1) A8))))
   (A6 (Ax (AW Ee (Bp K T.len_ (AN C9 hr (by decide) rfl (A5 (AR K (pv 2) AC) A8))) (Kw rfl T.MOST_LAMPS) (Aa _)) (A6 (K3 OX rfl rfl Et AG)
   A9) A9)
   (A6 (AL (pv 2))
   A9)))),?_⟩
 clear 2 r0 h7;refine sx_set (K:=K) (mg:=mg) (evx_def1 (m:=GW) (AA BK)) h7 xt.gh ?_
 cases r0 with
 | error n =>
  cases hm;exact q
 | ok Rh =>
 intro v2 G3 H4 x5 r6;clear 1 x5 Cb;clear 2 r1 h11;refine sx_drop (K:=K) (mg:=mg) (Oe (m:=DJ) (Ir (AA r6)) (AA Cb)) h11 xt.gh ?_
 cases r1 with
 | error n =>
  cases hm;exact Raises.pre q xt
 | ok u =>
 intro G12 H13 x14;clear 1 x14 r6;clear 2 b18 h19;refine Ay (AT (K:=K) (E5 (ev_lenS (Aj (m:=EO) (Ir (AA r6)))) Af)) h19 xt.gh fun G20 H21 x22=>?_;clear 1 x22 r6
 cases b18 with
 | true =>
  clear 3;cases hm;exact q aX G20 H21 OX.bound xt
 | false =>
  clear 4;cases hm;exact AO (K:=K) (AA r6) rfl xt.gh fun v23 G24 H25 x26 r27=>q v23 G24 H25 (xt.trans x26) r27
theorem Kb (F:DIn K mg "all_moments" Ed)(T:Txt w K mg):GZ P w K mg base:=by
 refine F.okM1 (m:=BZ) D2 fun _ _ _ _ _ H0 _ _ hr G0 Jy res v_lamps_ xt Kk hm q=>?_;unfold BZ at hm
 refine ⟨_,(A6 (AM (i:=1) D2 (Cg (A5 AG A8)))
   (A6 (DL PassesOwn.never rfl (C5 (K:=K) rfl (pv 0)) (BG (i:=2) D2) (A6 (AM (i:=1) D2 (B3 K (pv 1) (FF (cn:=["lamp"]) (cap:=[2]) rfl ⟨by decide +kernel,rfl,by decide +kernel,Cc rfl⟩ rfl (by decide +kernel) ⟨⟨rfl,.inl rfl,rfl⟩,trivial⟩ (C5 (K:=K) rfl (pv 1)) (fun C s0 H0 fp=>⟨EM,(B3 K (pv 0) (pv 1))⟩))))
   A9))
   (A6 (AL (Bh (No (K:=K) rfl) (by rfl) T.sorted_ IP (A5 (pv 1) A8)))
   A9))),?_⟩
 clear 2 DA h6;refine Ak (K:=K) (FV.ev (D5 (A7 Am (AS (α:=Str))))) h6 xt.gh fun v1 G2 H3 x4 r5=>?_;clear 1 x4 Kk;clear 2 as7 h8 fl9 h10;refine E9 (K:=K) (RR:=fun r v G' H'=>Ext G0 H0 G' H'/\Rp.rel K G' v r) (iw_str (AA Kk)) h8 h10 xt.gh fun G11 H12 x13=>⟨fun s14 S' G' H'=>∃ (v15:V) (v16:Option V),Ext G0 H0 G' H'/\Same G11 G'/\S'=[some v_lamps_,some v15,v16]/\Rp.rel K G' v15 (s14:(List Str)),?_,?_,?_,?_,?_⟩
 ·clear 1 x13 r5;exact ⟨v1,_,xt,(Same.refl _),rfl,r5⟩
 ·rintro _ S' G' H' ⟨v15,v16,xt,mk17,rfl,r18⟩;exact ⟨mk17,xt.gh⟩
 ·rintro xv19 a20 s14 _ G23 H24 fl21 - ⟨v15,v16,xt,mk17,rfl,r18⟩ rx22 hm D' kN25 kC26 kB27 kR28;refine Dl ?_;clear 2 DA h43;refine Ak (K:=K) (FV.ev (fv_cat (AA r18) (FV.ev (IR (cap:=[2]) (fe:=fun (BY:Str)=>((some BY).bind fun t33=>(some a20).bind fun t34=>catS t33 t34)) (D4 (AA r18)) fun xc32 BY Gc29 sc30 rc31=>(ev_catS (AA rc31) (AA (Rp.mono sc30 rx22))))))) h43 xt.gh fun v38 G39 H40 x41 r42=>?_;clear 1 x41 3 mk17;cases hm;exact kN25 _ _ _ _ rfl ⟨v38,_,xt,mk17,rfl,r42⟩
 ·rintro s14 _ G48 H49 rfl ⟨v44,v45,xt,mk46,rfl,r47⟩;refine Eu ?_;exact AO (K:=K) (FV.ev (fv_sortS (AA r47))) hm xt.gh fun v51 G52 H53 x54 r55=>q v51 G52 H53 (xt.trans x54) r55
 ·clear 5
theorem Ll (F:DIn K mg "all_claims" FS)(T:Txt w K mg):I0 P w K mg base:=by
 refine F.okM1 (m:=DH) Di fun _ _ _ _ _ H0 _ _ hr G0 ET res v_many_ xt Nq hm q=>?_;unfold DH at hm
 refine ⟨_,(A6 (AM (i:=1) Di (Cg (A5 (AU A8) A8)))
   (A6 (DL PassesOwn.never rfl (E3 rfl T.range_ (A5 (pv 0) A8)) (BG (i:=2) Di) (A6 (AM (i:=1) Di (B3 K (FF (cn:=[]) (cap:=[]) rfl ⟨by decide +kernel,rfl,by decide +kernel,Cc rfl⟩ rfl (by decide +kernel) trivial (C5 (K:=K) rfl (pv 1)) (fun C s0 H0 fp=>⟨EM,(BF (KW (K:=K) rfl) (AU (A5 Ca A8)) (pv 0))⟩)) (FF (cn:=[]) (cap:=[]) rfl ⟨by decide +kernel,rfl,by decide +kernel,Cc rfl⟩ rfl (by decide +kernel) trivial (C5 (K:=K) rfl (pv 1)) (fun C s0 H0 fp=>⟨EM,(BF (KW (K:=K) rfl) (AU (A5 Ca A8)) (pv 0))⟩))))
   A9))
   (A6 (AL (pv 1))
   A9))),?_⟩
 clear 2 DA h6;refine Ak (K:=K) (FV.ev (D5 (A7 (Bs (AS (α:=Bool))) (AS (α:=(Tp Bool)))))) h6 xt.gh fun v1 G2 H3 x4 r5=>?_;clear 1 x4 Nq;clear 2 as8 h9 fl10 h11;refine E9 (K:=K) (RR:=fun r v G' H'=>Ext G0 H0 G' H'/\Rp.rel K G' v r) (GJ (AA Nq)) h9 h11 xt.gh fun G12 H13 x14=>⟨fun s15 S' G' H'=>∃ (v16:V) (v17:Option V),Ext G0 H0 G' H'/\Same G12 G'/\S'=[some v_many_,some v16,v17]/\Rp.rel K G' v16 (s15:(List (Tp Bool))),?_,?_,?_,?_,?_⟩
 ·clear 1 x14 r5;exact ⟨v1,_,xt,(Same.refl _),rfl,r5⟩
 ·rintro _ S' G' H' ⟨v16,v17,xt,mk18,rfl,r19⟩;exact ⟨mk18,xt.gh⟩
 ·rintro xv20 a21 s15 _ G24 H25 fl22 - ⟨v16,v17,xt,mk18,rfl,r19⟩ rx23 hm D' kN26 kC27 kB28 kR29;refine Dl ?_;clear 2 DA h51;refine Ak (K:=K) (FV.ev (fv_cat (FV.ev (IR (cap:=[]) (fe:=fun (Cf:(Tp Bool))=>((some (Tp.mk [false])).bind fun t34=>(some Cf).bind fun t35=>PQ t34 t35)) (D4 (AA r19)) fun xc33 Cf Gc30 sc31 rc32=>(PR (Bs (A7 Ej (AS (α:=Bool)))) (AA rc32)))) (FV.ev (IR (cap:=[]) (fe:=fun (Cf:(Tp Bool))=>((some (Tp.mk [true])).bind fun t41=>(some Cf).bind fun t42=>PQ t41 t42)) (D4 (AA r19)) fun xc40 Cf Gc37 sc38 rc39=>(PR (Bs (A7 Ej (AS (α:=Bool)))) (AA rc39)))))) h51 xt.gh fun v46 G47 H48 x49 r50=>?_;clear 1 x49 3 mk18;cases hm;exact kN26 _ _ _ _ rfl ⟨v46,_,xt,mk18,rfl,r50⟩
 ·rintro s15 _ G56 H57 rfl ⟨v52,v53,xt,mk54,rfl,r55⟩;refine Eu ?_;exact AO (K:=K) (AA r55) hm xt.gh fun v58 G59 H60 x61 r62=>q v58 G59 H60 (xt.trans x61) r62
 ·clear 5
theorem Ld (F:DIn K mg "claims_for" FD)(T:Txt w K mg)(FM:I0 P w K mg base)(Ce:HR P w K mg base):F9 P w K mg base:=by
 refine F.okM1 (m:=C8) LX fun _ _ _ _ _ H0 _ _ hr G0 rows_ res BP xt AI hm q=>?_;unfold C8 at hm
 refine ⟨_,(A6 (AL (AN FM hr (by decide) rfl (A5 (Bp K T.len_ (AN Ce hr (by decide) rfl (A5 (pv 0) A8))) A8)))
   A9),?_⟩
 exact AO (K:=K) (Aj (m:=Gb) (Gk (Aj (m:=GD) (AA AI)))) hm xt.gh fun v4 G5 H6 x7 r8=>q v4 G5 H6 (xt.trans x7) r8
theorem Oj (F:DIn K mg "truth_of" HD)(T:Txt w K mg):Kx P w K mg base:=by
 refine F.okM5 (m:=Dc) Fo fun _ _ _ _ _ H0 _ _ hr G0 rows_ BL BY Ep C3 res BP Ij E2 Gn Jl xt AI AX Ac An B2 hm q=>?_;unfold Dc at hm
 refine ⟨_,(A6 (AM (i:=5) Fo (AR K (pv 0) (pv 1)))
   (A6 (AM (i:=6) Fo (AR K (pv 5) AC))
   (A6 (Ax (AW BC (pv 6) AG (Aa _)) (A6 (AL (EQ Sh (AR K (pv 5) AC) (pv 2) rfl))
   A9) A9)
   (A6 (Ax (AW BC (pv 6) AG (Aa _)) (A6 (AL (Ql (AR K (pv 4) (AR K (pv 5) AC))))
   A9) A9)
   (A6 (Ax (AW BC (pv 6) AG (Aa _)) (A6 (AL (HJ (AR K (pv 4) (AR K (pv 5) AC)) (Fn (AR K (pv 4) (AR K (pv 5) AC)))))
   A9) A9)
   (A6 (Ax (AW BC (pv 6) AG (Aa _)) (A6 (AL (Nm (HL hr) (pv 3) (AR K (pv 5) AC) (fun _ _=>rfl)))
   A9) A9)
   (A6 (Ax (AW BC (pv 6) AG (Aa _)) (A6 (AL (pe_or (AR K (pv 4) (AR K (pv 5) AC)) (Fn (HJ (AR K (pv 4) (AR K (pv 5) AC)) (Fn (Nm (HL hr) (pv 3) (pv 1) (fun _ _=>rfl)))))))
   A9) A9)
   (A6 (AL Ca)
   A9)))))))),?_⟩
 clear 2 row_ h8;refine Ak (K:=K) (ER (AA AI) (AA AX)) h8 xt.gh fun v3 G4 H5 x6 r7=>?_;clear 1 x6 AX Ac An B2;clear 2 Bo h16;refine Ak (K:=K) (BB (AA r7) Af) h16 xt.gh fun v11 G12 H13 x14 r15=>?_;clear 1 x14 AX Ac An B2 r7;clear 2 b19 h20;refine Ay (AT (K:=K) (BR (Em (AA r15)) Am)) h20 xt.gh fun G21 H22 x23=>?_;clear 1 x23 AX Ac An B2 r7 r15
 cases b19 with
 | true =>
  clear 3;exact AO (K:=K) (ev_inS (Em (BB (AA r7) Af)) (AA Ac)) hm xt.gh fun v30 G31 H32 x33 r34=>q v30 G31 H32 (xt.trans x33) r34
 | false =>
  clear 4;clear 2 b37 h38;refine Ay (AT (K:=K) (BR (Em (AA r15)) Am)) h38 xt.gh fun G39 H40 x41=>?_;clear 1 x41 AX An B2 r7 r15
  cases b37 with
  | true =>
   clear 3;exact AO (K:=K) (QS (ER (AA B2) (GC (BB (AA r7) Af)))) hm xt.gh fun v48 G49 H50 x51 r52=>q v48 G49 H50 (xt.trans x51) r52
  | false =>
   clear 4;clear 2 b55 h56;refine Ay (AT (K:=K) (BR (Em (AA r15)) Am)) h56 xt.gh fun G57 H58 x59=>?_;clear 1 x59 AX An B2 r7 r15
   cases b55 with
   | true =>
    clear 3;exact AO (K:=K) (Gj (ER (AA B2) (GC (BB (AA r7) Af))) (ER (AA B2) (GC (BB (AA r7) Af)))) hm xt.gh fun v71 G72 H73 x74 r75=>q v71 G72 H73 (xt.trans x74) r75
   | false =>
    clear 4;clear 2 b78 h79;refine Ay (AT (K:=K) (BR (Em (AA r15)) Am)) h79 xt.gh fun G80 H81 x82=>?_;clear 1 x82 AX An B2 r7 r15
    cases b78 with
    | true =>
     clear 3;exact AO (K:=K) (Ru (AA An) (GC (BB (AA r7) Af))) hm xt.gh fun v88 G89 H90 x91 r92=>q v88 G89 H90 (xt.trans x91) r92
    | false =>
     clear 4;clear 2 b95 h96;refine Ay (AT (K:=K) (BR (Em (AA r15)) Am)) h96 xt.gh fun G97 H98 x99=>?_;clear 1 x99 AX An B2 r7
     cases b95 with
     | true =>
      clear 3;exact AO (K:=K) (ev_or (ER (AA B2) (GC (BB (AA r7) Af))) (Gj (ER (AA B2) (GC (BB (AA r7) Af))) (Ru (AA An) (AA AX)))) hm xt.gh fun v114 G115 H116 x117 r118=>q v114 G115 H116 (xt.trans x117) r118
     | false =>
      clear 4;exact AO (K:=K) (rest:=By) (σ:=[some BP,some Ij,some E2,some Gn,some Jl,some v3,some v11]) Ej hm xt.gh fun v119 G120 H121 x122 r123=>q v119 G120 H121 (xt.trans x122) r123
theorem NW (F:DIn K mg "view_with" Fb)(T:Txt w K mg)(HA:Kx P w K mg base):JR P w K mg base:=by
 refine F.okM3 (m:=Co) FN fun _ _ _ _ _ H0 _ _ hr G0 rows_ BY Ep res BP E2 Gn xt AI Ac An hm q=>?_;unfold Co at hm
 refine ⟨_,(A6 (AM (i:=3) FN (Cg A8))
   (A6 (DL PassesOwn.never rfl (E3 rfl T.range_ (A5 (Bp K T.len_ (pv 0)) A8)) (BG (i:=4) FN) (A6 (EL (EG K (pv 3) (AN HA hr (by decide) rfl (A5 (pv 0) (A5 (pv 4) (A5 (pv 1) (A5 (pv 2) (A5 (pv 3) A8))))))))
   A9))
   (A6 (AL (Cq (Ih (K:=K) rfl) (by rfl) T.tuple_ HN (A5 (pv 3) A8)))
   A9))),?_⟩
 clear 2 C3 h8;refine Kf (K:=K) (D5 (AS (α:=Bool))) h8 xt.gh fun p1 vs2 G3 H4 x5 hz6 o7=>?_;clear 1 x5 AI Ac An 4 hz6;clear 2 as10 h11 fl12 h13;refine E9 (K:=K) (RR:=fun r v G' H'=>Ext G0 H0 G' H'/\Rp.rel K G' v r) (GJ (Gk (AA AI))) h11 h13 xt.gh fun G14 H15 x16=>⟨fun s17 S' G' H'=>∃ (v18:Option V),Ext G0 H0 G' H'/\Same G14 G'/\S'=[some BP,some E2,some Gn,some (V.ref p1),v18]/\(∃ vs,Own K G' H' (V.ref p1) p1 vs s17),?_,?_,?_,?_,?_⟩
 ·clear 1 x16 2 o7;exact ⟨_,xt,(Same.refl _),rfl,⟨_,o7⟩⟩
 ·rintro _ S' G' H' ⟨v18,xt,mk19,rfl,⟨vs2,o7⟩⟩;exact ⟨mk19,xt.gh⟩
 ·rintro xv20 a21 s17 _ G24 H25 fl22 - ⟨v18,xt,mk19,rfl,⟨vs2,o7⟩⟩ rx23 hm D' kN26 kC27 kB28 kR29;have AI:=Rp.mono (x16.gg.trans mk19) AI;have Ac:=Rp.mono (x16.gg.trans mk19) Ac;have An:=Rp.mono (x16.gg.trans mk19) An;refine Dl ?_;clear 2 a40 h41 z48 h42;refine QY (K:=K) rfl o7 (ev_def5 (m:=JT) (AA (Rp.mono (Same.new o7.g) AI)) (AA (Rp.mono (Same.new o7.g) rx23)) (AA (Rp.mono (Same.new o7.g) Ac)) (AA (Rp.mono (Same.new o7.g) An)) (AA o7.tell)) h41 h42 xt.gh fun G43 H44 w45 x46 o47=>?_;have xt:Ext G0 H0 G43 (upd H44 p1 (.lst (vs2++[w45]))):=(xt.trans x46).put hz6 o47.g;clear 0 x46 3 mk19;cases hm;exact kN26 _ _ _ _ rfl ⟨_,xt,mk19,rfl,⟨_,o47⟩⟩
 ·rintro s17 _ G51 H52 rfl ⟨v49,xt,mk50,rfl,⟨vs2,o7⟩⟩;refine Eu ?_;have sf:=Same.new (o:=.lst vs2) o7.g;have xt:=xt.frz hz6 o7.g o7.h;have r53:=o7.tell;exact AO (K:=K) (KL (AA r53)) hm xt.gh fun v54 G55 H56 x57 r58=>q v54 G55 H56 (xt.trans x57) r58
 ·clear 5
theorem ok_look (F:DIn K mg "look" Q8)(T:Txt w K mg)(Fy:JR P w K mg base)(Ce:HR P w K mg base):Z_look P w K mg base:=by
 refine F.okM3 (m:=Gm) sc_look fun _ _ _ _ _ H0 _ _ hr G0 rows_ BY Cf res BP E2 v_claims_ xt AI Ac SH hm q=>?_;unfold Gm at hm
 refine ⟨_,(A6 (AL (AN Fy hr (by decide) rfl (A5 (pv 0) (A5 (pv 1) (A5 (pe_dictZ (K:=K) rfl rfl (by rfl) T.dict_ (by rfl) T.zip_ (A5 (AN Ce hr (by decide) rfl (A5 (pv 0) A8)) (A5 (pv 2) A8))) A8)))))
   A9),?_⟩
 exact AO (K:=K) (Jj (m:=Hk) (AA AI) (AA Ac) (ev_dictZ (Aj (m:=GD) (AA AI)) (AA SH))) hm xt.gh fun v7 G8 H9 x10 r11=>q v7 G8 H9 (xt.trans x10) r11
theorem NS (F:DIn K mg "claims_of" GI)(T:Txt w K mg)(Ce:HR P w K mg base):JH P w K mg base:=by
 refine F.okM2 (m:=CM) NQ fun _ _ _ _ _ H0 _ _ hr G0 rows_ C3 res BP Jl xt AI B2 hm q=>?_;unfold CM at hm
 refine ⟨_,(A6 (AL (Cq (Ih (K:=K) rfl) (by rfl) T.tuple_ HN (A5 (FF (cn:=["view"]) (cap:=[1]) rfl ⟨by decide +kernel,rfl,by decide +kernel,Cc rfl⟩ rfl (by decide +kernel) ⟨⟨rfl,.inl rfl,rfl⟩,trivial⟩ (C5 (K:=K) rfl (AN Ce hr (by decide) rfl (A5 (pv 0) A8))) (fun C s0 H0 fp=>⟨EM,(AR K (pv 1) (pv 0))⟩)) A8)))
   A9),?_⟩
 exact AO (K:=K) (KL (FV.ev (IR (cap:=[1]) (fe:=fun (BL:Int)=>((some C3).bind fun t6=>(some BL).bind fun t7=>atI t6.l t7)) (D4 (Aj (m:=GD) (AA AI))) fun xc5 BL Gc2 sc3 rc4=>(BB (AA (Rp.mono sc3 B2)) (AA rc4))))) hm xt.gh fun v10 G11 H12 x13 r14=>q v10 G11 H12 (xt.trans x13) r14
theorem Pf (F:DIn K mg "is_eased" Gy)(T:Txt w K mg):LO P w K mg base:=by
 refine F.okM3 (m:=C6) Pm fun _ _ _ _ _ H0 _ _ hr G0 rows_ hope_ C3 res BP v_hope_ Jl xt AI Rg B2 hm q=>?_;unfold C6 at hm
 refine ⟨_,(A6 (AL (pe_or (Ql (AR K (pv 2) (pv 1))) (Fn (AR K (pv 2) (AR K (AR K (pv 0) (pv 1)) AC)))))
   A9),?_⟩
 exact AO (K:=K) (ev_or (QS (BB (AA B2) (AA Rg))) (BB (AA B2) (GC (BB (ER (AA AI) (AA Rg)) Af)))) hm xt.gh fun v12 G13 H14 x15 r16=>q v12 G13 H14 (xt.trans x15) r16
theorem ok_eased (F:DIn K mg "eased" NT)(T:Txt w K mg)(Gp:LO P w K mg base)(Dw:Jq P w K mg base):RI P w K mg base:=by
 refine F.okM2 (m:=FP) sc_eased fun _ _ _ _ _ H0 _ _ hr G0 rows_ C3 res BP Jl xt AI B2 hm q=>?_;unfold FP at hm
 refine ⟨_,(A6 (AL (Cq (Ih (K:=K) rfl) (by rfl) T.tuple_ HN (A5 (LG (cn:=["rows","view"]) (cap:=[0,1]) rfl ⟨by decide +kernel,rfl,by decide +kernel,Cc rfl⟩ rfl rfl (by decide +kernel) ⟨⟨rfl,.inl rfl,rfl⟩,⟨rfl,.inl rfl,rfl⟩,trivial⟩ (Jp (K:=K) rfl rfl T.enumerate_ (A5 (AN Dw hr (by decide) rfl (A5 (pv 0) A8)) A8)) (fun C s0 H0 fp=>⟨(Jg (DY K (AN Gp hr (by decide) rfl (A5 (pv 2) (A5 (pv 1) (A5 (pv 3) A8)))))),(pv 0)⟩)) A8)))
   A9),?_⟩
 exact AO (K:=K) (KL (FV.ev (KY (cap:=[0,1]) (fc:=fun (pc6:(Int × Int))=>((some rows_).bind fun t7=>(some pc6.2).bind fun t8=>(some C3).bind fun t9=>C6 t7 t8 t9)) (fe:=fun (pc6:(Int × Int))=>(some pc6.1)) (Nl (Aj (m:=HQ) (AA AI))) fun xc5 pc6 Gc2 sc3 rc4=>⟨(QC (K:=K) (Jj (m:=J8) (AA (Rp.mono sc3 AI)) (AA rc4) (AA (Rp.mono sc3 B2)))),(AA (rel_i (K:=K) Gc2 pc6.1))⟩))) hm xt.gh fun v12 G13 H14 x15 r16=>q v12 G13 H14 (xt.trans x15) r16
theorem P5 (F:DIn K mg "steps_at" HC)(T:Txt w K mg)(CP:F9 P w K mg base)(QV:Z_look P w K mg base)(Fv:JH P w K mg base)(Nk:RI P w K mg base):LK P w K mg base:=by
 refine F.okM2 (m:=DO) C1 fun _ _ _ _ _ H0 _ _ hr G0 rows_ BY res BP E2 xt AI Ac hm q=>?_;unfold DO at hm
 refine ⟨_,(A6 (AM (i:=2) C1 (AN CP hr (by decide) rfl (A5 (pv 0) A8)))
   (A6 (AM (i:=3) C1 (Cq (Q0 (K:=K) rfl rfl hr) (by rfl) T.dict_ RY (A5 (LG (cn:=[]) (cap:=[]) rfl ⟨by decide +kernel,rfl,by decide +kernel,Cc rfl⟩ rfl rfl (by decide +kernel) trivial (Jp (K:=K) rfl rfl T.enumerate_ (A5 (pv 2) A8)) (fun C s0 H0 fp=>⟨EM,(AU (A5 (pv 1) (A5 (pv 0) A8)))⟩)) A8)))
   (A6 (AM (i:=4) C1 (Cg A8))
   (A6 (DL PassesOwn.never rfl (Jp (K:=K) rfl rfl T.enumerate_ (A5 (pv 2) A8)) (Qb rfl (D6 (BG (i:=5) C1) (D6 (BG (i:=6) C1) N8))) (A6 (AM (i:=7) C1 (AN QV hr (by decide) rfl (A5 (pv 0) (A5 (pv 1) (A5 (pv 6) A8)))))
   (A6 (AM (i:=8) C1 (pe_dgetT (K:=K) rfl (HL hr) (pv 3) (AN Fv hr (by decide) rfl (A5 (pv 0) (A5 (pv 7) A8))) (fun _ _=>rfl)))
   (A6 (EL (EG K (pv 4) (AU (A5 (pv 8) (A5 (pv 1) (A5 (pv 5) (A5 (AN Nk hr (by decide) rfl (A5 (pv 0) (A5 (pv 7) A8))) (A5 (pv 7) A8))))))))
   A9))))
   (A6 (AL (pv 4))
   A9))))),?_⟩
 clear 2 R0 h7;refine Ak (K:=K) (Aj (m:=Eb) (AA AI)) h7 xt.gh fun v2 G3 H4 x5 r6=>?_;clear 1 x5 AI Ac;clear 2 OM h20;refine Ak (K:=K) (ev_dictT (fv_map2 (cap:=[]) (fe:=fun (pc12:(Int × (Tp Bool)))=>(some (pc12.2,pc12.1))) (Nl (AA r6)) fun xc11 pc12 Gc8 sc9 rc10=>(GM (AA rc10) (AA (rel_i (K:=K) Gc8 pc12.1))))) h20 xt.gh fun v15 G16 H17 x18 r19=>?_;clear 1 x18 AI Ac r6;clear 2 Jw h28;refine Kf (K:=K) (D5 (AS (α:=(T5 Int Str Int (Tp Int) (Tp Bool))))) h28 xt.gh fun p21 vs22 G23 H24 x25 hz26 o27=>?_;clear 1 x25 AI Ac r6 r19 4 hz26;clear 2 as29 h30 fl31 h32;refine sv_forE (K:=K) (RR:=fun r v G' H'=>Ext G0 H0 G' H'/\Rp.rel K G' v r) (ie_list (AA r6)) h30 h32 xt.gh fun G33 H34 x35=>⟨fun s36 S' G' H'=>∃ (v37:Option V) (v38:Option V) (v39:Option V) (v40:Option V),Ext G0 H0 G' H'/\Same G33 G'/\S'=[some BP,some E2,some v2,some v15,some (V.ref p21),v37,v38,v39,v40]/\(∃ vs,Own K G' H' (V.ref p21) p21 vs s36),?_,?_,?_,?_,?_⟩
 ·clear 1 x35 2 o27;exact ⟨_,_,_,_,xt,(Same.refl _),rfl,⟨_,o27⟩⟩
 ·rintro _ S' G' H' ⟨v37,v38,v39,v40,xt,mk41,rfl,⟨vs22,o27⟩⟩;exact ⟨mk41,xt.gh⟩
 ·rintro xv42 te52 a43 s36 _ G46 H47 fl44 ⟨v37,v38,v39,v40,xt,mk41,rfl,⟨vs22,o27⟩⟩ ht53 rx45 hm D' kN48 kC49 kB50 kR51;have AI:=Rp.mono (x35.gg.trans mk41) AI;have Ac:=Rp.mono (x35.gg.trans mk41) Ac;have r19:=Rp.mono (x35.gg.trans mk41) r19;have x55:=Ext.new (o:=.tup [.int a43.1,xv42]) xt.gh ht53;clear 1 x55 AI Ac r19 rx45 2 o27 3 mk41;refine sv_turnE (a:=a43) ?_;have r56:Rp.rel K (upd G46 te52 (.tup [.int a43.1,xv42])) (V.int a43.1) a43.1:=rfl;clear 2 C3 h65;refine Ak (K:=K) (Jj (m:=S5) (AA AI) (AA Ac) (AA rx45)) h65 xt.gh fun v60 G61 H62 x63 r64=>?_;clear 1 x63 AI Ac r19 r56 2 o27 3 mk41;clear 2 begin_ h75;refine Ak (K:=K) (ev_dgetT (AA r19) (BI (m:=Hx) (AA AI) (AA r64))) h75 xt.gh fun v70 G71 H72 x73 r74=>?_;clear 1 x73 AI Ac r56 r64 2 o27 3 mk41;clear 2 a79 h80 z87 h81;refine IV (K:=K) rfl o27 (ev_tup5 (AA r74) (AA Ac) (AA r56) (BI (m:=O2) (AA AI) (AA r64)) (AA r64)) h80 h81 xt.gh fun G82 H83 w84 x85 o86=>?_;have xt:Ext G0 H0 G82 (upd H83 p21 (.lst (vs22++[w84]))):=(xt.trans x85).put hz26 o86.g;clear 0 x85 3 mk41;cases hm;exact kN48 _ _ _ _ rfl ⟨_,_,_,_,xt,mk41,rfl,⟨_,o86⟩⟩
 ·rintro s36 _ G93 H94 rfl ⟨v88,v89,v90,v91,xt,mk92,rfl,⟨vs22,o27⟩⟩;refine Eu ?_;have sf:=Same.new (o:=.lst vs22) o27.g;have xt:=xt.frz hz26 o27.g o27.h;have r95:=o27.tell;exact AO (K:=K) (AA r95) hm xt.gh fun v96 G97 H98 x99 r100=>q v96 G97 H98 (xt.trans x99) r100
 ·clear 5
theorem Ox (F:DIn K mg "steps_of" Gr)(T:Txt w K mg)(Ef:GZ P w K mg base)(C9:FA P w K mg base)(Gh:LK P w K mg base):Jz P w K mg base:=by
 refine F.okM1 (m:=DR) Ff fun _ _ _ _ _ H0 _ _ hr G0 rows_ res BP xt AI hm q=>?_;unfold DR at hm
 refine ⟨_,(A6 (AM (i:=1) Ff (Cg A8))
   (A6 (DL PassesOwn.never rfl (C5 (K:=K) rfl (AN Ef hr (by decide) rfl (A5 (AN C9 hr (by decide) rfl (A5 (pv 0) A8)) A8))) (BG (i:=2) Ff) (A6 (EL (Mn (K:=K) rfl PySem.F.plainAttrs_list PySem.F.slot_list_extend PySem.F.type_list_extend Q4 (pv 1) (A5 (AN Gh hr (by decide) rfl (A5 (pv 0) (A5 (pv 2) A8))) A8)))
   A9))
   (A6 (AL (pv 1))
   A9))),?_⟩
 clear 2 Jw h8;refine Kf (K:=K) (D5 (AS (α:=(T5 Int Str Int (Tp Int) (Tp Bool))))) h8 xt.gh fun p1 vs2 G3 H4 x5 hz6 o7=>?_;clear 1 x5 AI 4 hz6;clear 2 as11 h12 fl13 h14;refine E9 (K:=K) (RR:=fun r v G' H'=>Ext G0 H0 G' H'/\Rp.rel K G' v r) (D4 (Aj (m:=Fk) (Aj (m:=EO) (AA AI)))) h12 h14 xt.gh fun G15 H16 x17=>⟨fun s18 S' G' H'=>∃ (v19:Option V),Ext G0 H0 G' H'/\Same G15 G'/\S'=[some BP,some (V.ref p1),v19]/\(∃ vs,Own K G' H' (V.ref p1) p1 vs s18),?_,?_,?_,?_,?_⟩
 ·clear 1 x17 2 o7;exact ⟨_,xt,(Same.refl _),rfl,⟨_,o7⟩⟩
 ·rintro _ S' G' H' ⟨v19,xt,mk20,rfl,⟨vs2,o7⟩⟩;exact ⟨mk20,xt.gh⟩
 ·rintro xv21 a22 s18 _ G25 H26 fl23 - ⟨v19,xt,mk20,rfl,⟨vs2,o7⟩⟩ rx24 hm D' kN27 kC28 kB29 kR30;have AI:=Rp.mono (x17.gg.trans mk20) AI;refine Dl ?_;clear 2 a35 h36 z43 h37;refine R8 (K:=K) rfl o7 (BI (m:=JB) (AA AI) (AA rx24)) h36 h37 xt.gh fun G38 H39 w40 x41 o42=>?_;have xt:Ext G0 H0 G38 (upd H39 p1 (.lst (vs2++w40))):=(xt.trans x41).put hz6 o42.g;clear 0 x41 3 mk20;cases hm;exact kN27 _ _ _ _ rfl ⟨_,xt,mk20,rfl,⟨_,o42⟩⟩
 ·rintro s18 _ G46 H47 rfl ⟨v44,xt,mk45,rfl,⟨vs2,o7⟩⟩;refine Eu ?_;have sf:=Same.new (o:=.lst vs2) o7.g;have xt:=xt.frz hz6 o7.g o7.h;have r48:=o7.tell;exact AO (K:=K) (AA r48) hm xt.gh fun v49 G50 H51 x52 r53=>q v49 G50 H51 (xt.trans x52) r53
 ·clear 5
theorem HF (F:DIn K mg "watcher_of_book" DE)(T:Txt w K mg)(HB:Jz P w K mg base)(C9:FA P w K mg base)(Dw:Jq P w K mg base)(CP:F9 P w K mg base):EY P w K mg base:=by
 refine F.okM2 (m:=BO) B5 fun _ _ _ _ _ H0 _ _ hr G0 rows_ spot_ res BP RV xt AI Hu hm q=>?_;unfold BO at hm
 refine ⟨_,(A6 (AM (i:=2) B5 (Cg A8))
   (A6 (DL PassesOwn.never rfl (C5 (K:=K) rfl (AN HB hr (by decide) rfl (A5 (pv 0) A8))) (Qb rfl (D6 (BG (i:=3) B5) (D6 (BG (i:=4) B5) (D6 (BG (i:=5) B5) (D6 (BG (i:=6) B5) (D6 (BG (i:=7) B5) N8)))))) (A6 (Ax (DY K (AR K (pv 7) (pv 1))) (A6 (EL (EG K (pv 2) (AU (A5 AC (A5 (pv 4) (A5 (B3 K (pv 5) AC) (A5 (pv 6) A8)))))))
   A9) A9)
   (A6 (EL (EG K (pv 2) (AU (A5 (B3 K (pv 3) AC) (A5 (pv 4) (A5 (B3 K (pv 5) AC) (A5 (pv 6) A8)))))))
   A9)))
   (A6 (AL (AU (A5 (AN C9 hr (by decide) rfl (A5 (pv 0) A8)) (A5 (B3 K AC (Bp K T.len_ (AN CP hr (by decide) rfl (A5 (pv 0) A8)))) (A5 (pv 2) (A5 (Bp K T.len_ (AN Dw hr (by decide) rfl (A5 (pv 0) A8))) A8))))))
   A9))),?_⟩
 clear 2 As h8;refine Kf (K:=K) (D5 (AS (α:=(T4 Int Str Int (Tp Int))))) h8 xt.gh fun p1 vs2 G3 H4 x5 hz6 o7=>?_;clear 1 x5 AI Hu 4 hz6;clear 2 as10 h11 fl12 h13;refine E9 (K:=K) (RR:=fun r v G' H'=>Ext G0 H0 G' H'/\Rp.rel K G' v r) (D4 (Aj (m:=JM) (AA AI))) h11 h13 xt.gh fun G14 H15 x16=>⟨fun s17 S' G' H'=>∃ (v18:Option V) (v19:Option V) (v20:Option V) (v21:Option V) (v22:Option V),Ext G0 H0 G' H'/\Same G14 G'/\S'=[some BP,some RV,some (V.ref p1),v18,v19,v20,v21,v22]/\(∃ vs,Own K G' H' (V.ref p1) p1 vs s17),?_,?_,?_,?_,?_⟩
 ·clear 1 x16 2 o7;exact ⟨_,_,_,_,_,xt,(Same.refl _),rfl,⟨_,o7⟩⟩
 ·rintro _ S' G' H' ⟨v18,v19,v20,v21,v22,xt,mk23,rfl,⟨vs2,o7⟩⟩;exact ⟨mk23,xt.gh⟩
 ·rintro xv24 a25 s17 _ G28 H29 fl26 - ⟨v18,v19,v20,v21,v22,xt,mk23,rfl,⟨vs2,o7⟩⟩ rx27 hm D' kN30 kC31 kB32 kR33;have AI:=Rp.mono (x16.gg.trans mk23) AI;have Hu:=Rp.mono (x16.gg.trans mk23) Hu;refine sv_turn5 rx27 xt.gh fun v34 v35 v36 v37 v38 r39 r40 r41 r42 r43=>?_;clear 2 b47 h48 s52 h53
  try (with_reducible refine nxt_ ?_;dsimp only)
  refine GN (t:=KS _ _ _) (fun S67 H66=>∃ (G65:Hp) ,Ext G0 H0 G65 H66/\Same G28 G65/\S67=[some BP,some RV,some (V.ref p1),some v34,some v35,some v36,some v37,some v38]/\(∃ vs,Own K G65 H66 (V.ref p1) p1 vs s52)) (fun nx kn55=>?_) ?_
  ·refine Ay (QC (K:=K) (BB (AA r43) (AA Hu))) h48 xt.gh fun G49 H50 x51=>?_;clear 1 x51 r40 r41 r42 2 o7;have mk54:Same G28 G49:=x51.gg;have hm:=h53
   cases b47 with
   | true =>
    clear 3;clear 2 a56 h57 z64 h58;refine IV (K:=K) rfl o7 (NJ Af (AA r40) (CF (AA r41) Af) (AA r42)) h57 h58 xt.gh fun G59 H60 w61 x62 o63=>?_;have xt:Ext G0 H0 G59 (upd H60 p1 (.lst (vs2++[w61]))):=(xt.trans x62).put hz6 o63.g;clear 0 x62 3 mk54;cases hm;exact kn55 _ _ ⟨G59,xt,mk54,rfl,⟨_,o63⟩⟩
   | false =>
    clear 4;cases hm;exact kn55 _ _ ⟨G49,xt,mk54,rfl,⟨_,o7⟩⟩
  ·rintro _ H66 ⟨G65,xt,mk54,rfl,⟨vs2,o7⟩⟩;have mk23:=mk23.trans mk54;clear 9 mk54 r39 r40 r41 r42;clear 2 a68 h69 z76 h70;refine IV (K:=K) rfl o7 (NJ (CF (AA r39) Af) (AA r40) (CF (AA r41) Af) (AA r42)) h69 h70 xt.gh fun G71 H72 w73 x74 o75=>?_;have xt:Ext G0 H0 G71 (upd H72 p1 (.lst (vs2++[w73]))):=(xt.trans x74).put hz6 o75.g;clear 0 x74 3 mk23;cases hm;exact kN30 _ _ _ _ rfl ⟨_,_,_,_,_,xt,mk23,rfl,⟨_,o75⟩⟩
 ·rintro s17 _ G83 H84 rfl ⟨v77,v78,v79,v80,v81,xt,mk82,rfl,⟨vs2,o7⟩⟩;refine Eu ?_;have AI:=Rp.mono (x16.gg.trans mk82) AI;have sf:=Same.new (o:=.lst vs2) o7.g;have xt:=xt.frz hz6 o7.g o7.h;have r94:=o7.tell;clear 9 sf AI;exact AO (K:=K) (NJ (Aj (m:=EO) (AA AI)) (CF Af (Gk (Aj (m:=Eb) (AA AI)))) (AA r94) (Gk (Aj (m:=HQ) (AA AI)))) hm xt.gh fun v104 G105 H106 x107 r108=>q v104 G105 H106 (xt.trans x107) r108
 ·clear 5
theorem QH (F:DIn K mg "watcher" IU)(T:Txt w K mg)(E8:Fg P w K mg base)(DF:EY P w K mg base):M8 P w K mg base:=by
 refine F.okE KO bn1 (fun vs H Q E h=>(Jc h).trans rfl) (fun _ cdv A outer s H0 vs Q E hr h=>?_);obtain ⟨G0,⟨Ae,⟨⟩⟩,res,sg0,⟨C2,_,rfl,AQ,rfl⟩,hm,q⟩:=h;replace AQ:Rp.rel K G0 C2 Ae:=AQ;replace hm:Ci Ae=some res:=hm;unfold Ci at hm;have xt:Ext G0 H0 G0 H0:=Ext.refl sg0
 refine ⟨_,(A6 (AM (i:=1) KO (Jd E8 hr (by decide) rfl Et (A5 (Cg (A5 (pv 0) A8)) (A5 (Kw rfl T.MOST_WAITS) A8))))
   (A6 (AL (AN DF hr (by decide) rfl (A5 (AR K (pv 1) AC) (A5 (AR K (AR K (pv 1) AC) AC) A8))))
   A9)),?_⟩
 clear 2 r0 h8;refine sx_set (K:=K) (mg:=mg) (Oe (m:=Ex) (FV.ev (D5 (A7 (AA AQ) (AS (α:=Th))))) Af) h8 xt.gh ?_
 cases r0 with
 | error n =>
  cases hm;exact q
 | ok Rh =>
 intro v3 G4 H5 x6 r7;clear 1 x6;clear 2 z9 h9;cases hm;exact AO (K:=K) (BI (m:=EA) (Ir (AA r7)) (ER (Nb (AA r7)) Af)) h9 xt.gh fun v13 G14 H15 x16 r17=>q v13 G14 H15 (xt.trans x16) r17
theorem La (F:DIn K mg "_law_called" FC)(T:Txt w K mg){aS aT aR aW aM aE aC aX aN:Addr}(W:XT K mg aS aT aR aW aM aE aC aX aN)(Im:M8 P w K mg base):Hl P w K mg base:=by
 refine F.okM1 (m:=Az) Bx fun _ _ _ _ _ H0 _ _ hr G0 Au res B6 xt Ao hm q=>?_;unfold Az at hm
 refine ⟨_,(A6 (AM (i:=1) Bx Nh)
   (A6 (AM (i:=2) Bx Nh)
   (A6 (ps_try (i:=3) rfl rfl rfl W.naS (MB Bx) rfl rfl
    (fun pn xe E L=>A6 (NM (i:=1) (MB Bx) rfl (Or.inl rfl) (Jd Im hr (by decide) rfl L (A5 (pv 0) A8))) A9)
    (fun pn ea=>A6 (NM (i:=4) (MB Bx) rfl (Or.inl rfl) (Bh (Qv (K:=K) rfl) (by rfl) T.isinstance_ Bv (A5 (pv 3) (A5 (AU (A5 (Dj (v:=.ref aC) rfl W.naC rfl) (A5 (Dj (v:=.ref aM) rfl W.naM rfl) (A5 (Dj (v:=.ref aN) rfl W.naN rfl) (A5 (Dj (v:=.ref aW) rfl W.naW rfl) (A5 (Dj (v:=.ref aR) rfl W.naR rfl) (A5 (Dj (v:=.ref aT) rfl W.naT rfl) A8))))))) A8)))) (A6 (NM (i:=2) (MB Bx) rfl (Or.inl rfl) (AU (A5 AG (A5 (Bh (HE (K:=K) rfl) (by rfl) T.isinstance_ Bv (A5 (pv 3) (A5 (Dj (v:=.ref aE) rfl W.naE rfl) A8))) (A5 (Bh (HE (K:=K) rfl) (by rfl) T.isinstance_ Bv (A5 (pv 3) (A5 (Dj (v:=.ref aX) rfl W.naX rfl) A8))) (A5 (pv 4) (A5 (Bh (HE (K:=K) rfl) (by rfl) T.isinstance_ Bv (A5 (pv 3) (A5 (Jo (v:=.ty "ValueError") rfl T.ValueError_ Le rfl) A8))) A8))))))) A9)))
   (A6 (Ax (AW op_notN (pv 2) Nh (Aa _)) (A6 (AL (pv 2)) A9) A9)
   (A6 (AL (AU (A5 AG (A5 (AR K (pv 1) AC) A8))))
   A9))))),?_⟩
 clear 2 r hr1
 cases r with
 | ok W4 =>
  cases hm;refine ⟨B6,rfl,G0,(Au,()),.ok W4,xt.gh,⟨B6,_,rfl,Ao,rfl⟩,hr1,fun v1 G1 H1 x1 r1=>?_⟩;clear 1 x1;refine Ay (AT (K:=K) (ev_notND (AA (RelD.non:RelD K G1 .non .non)))) rfl xt.gh fun G2 H2 x2=>?_;clear 1 x2 r1;refine BS ?_;exact AO (K:=K) (Mf (GM Am (ev_p42 (AA r1)))) rfl xt.gh fun v3 G3 H3 x3 r3=>q v3 G3 H3 (xt.trans x3) r3
 | error n =>
 dsimp only at hm;by_cases hE:n=("NoSentence" : Str)
 ·subst hE;rw [if_pos rfl] at hm;cases hm;refine ⟨B6,rfl,G0,(Au,()),.error "NoSentence",xt.gh,⟨B6,_,rfl,Ao,rfl⟩,hr1,fun D' G2 H2 hD x2=>?_⟩;obtain rfl:aE=D':=by have:=W.naE.symm.trans hD;cases this;rfl
  refine ⟨W.E.ex,fun ea hea=>?_⟩;have x3:=x2.trans (Ext.new (o:=Exo ea (.ref aE)) x2.gh hea);clear 1 x3;have re:Rp.rel K (upd G2 ea (Exo ea (.ref aE))) (.ref ea) (Exn.mk aE):=⟨ea,rfl,AH⟩;refine Ak (K:=K) (Lw W.E.kit W.E.ko (AA re)) rfl xt.gh fun v4 G4 H4 x4 r4=>?_;clear 1 x4 re;refine Ak (K:=K) (rest:=By) (Bs (A7 (Mg Am) (A7 (CT (F1 W.E.kit W.E.kE Ja (AA re))) (A7 (CT (F1 W.E.kit W.E.kX Ja (AA re))) (A7 (CT (AA r4)) (A7 (CT (F1 W.E.kit W.E.kV rel_ty (AA re))) (AS (α:=SB)))))))) rfl xt.gh fun v6 G6 H6 x6 r6=>?_;clear 1 x6;refine Ay (AT (K:=K) (Ri nn_tp (RG (AA r6)))) rfl xt.gh fun G7 H7 x7=>?_;clear 1 x7 r6;refine BM ?_;exact AO (K:=K) (σ:=[some B6,some V.non,some v6,none,some v4]) (rest:=By) (Jn (AA r6)) rfl xt.gh fun v8 G8 H8 x8 r8=>q v8 G8 H8 (xt.trans x8) r8
 ·rw [if_neg hE] at hm;obtain ⟨rfl,rfl⟩:=B4 hm;refine ⟨B6,rfl,G0,(Au,()),.error "TooMuch",xt.gh,⟨B6,_,rfl,Ao,rfl⟩,hr1,fun D' G2 H2 hD x2=>?_⟩;obtain rfl:aX=D':=by have:=W.naX.symm.trans hD;cases this;rfl
  refine ⟨W.X.ex,fun ea hea=>?_⟩;have x3:=x2.trans (Ext.new (o:=Exo ea (.ref aX)) x2.gh hea);clear 1 x3;have re:Rp.rel K (upd G2 ea (Exo ea (.ref aX))) (.ref ea) (Exn.mk aX):=⟨ea,rfl,AH⟩;refine Ak (K:=K) (Lw W.X.kit W.X.ko (AA re)) rfl xt.gh fun v4 G4 H4 x4 r4=>?_;clear 1 x4 re;refine Ak (K:=K) (rest:=By) (Bs (A7 (Mg Am) (A7 (CT (F1 W.X.kit W.X.kE Ja (AA re))) (A7 (CT (F1 W.X.kit W.X.kX Ja (AA re))) (A7 (CT (AA r4)) (A7 (CT (F1 W.X.kit W.X.kV rel_ty (AA re))) (AS (α:=SB)))))))) rfl xt.gh fun v6 G6 H6 x6 r6=>?_;clear 1 x6;refine Ay (AT (K:=K) (Ri nn_tp (RG (AA r6)))) rfl xt.gh fun G7 H7 x7=>?_;clear 1 x7 r6;refine BM ?_;exact AO (K:=K) (σ:=[some B6,some V.non,some v6,none,some v4]) (rest:=By) (Jn (AA r6)) rfl xt.gh fun v8 G8 H8 x8 r8=>q v8 G8 H8 (xt.trans x8) r8
theorem MW (F:DIn K mg "_law_twice" GF)(T:Txt w K mg)(Bg:FQ P w K mg base)(Ap:EC P w K mg base):JW P w K mg base:=by
 refine F.okM2 (m:=Cs) IL fun _ _ _ _ _ H0 _ _ hr G0 script_ As res Bb FR xt AE Ab hm q=>?_;unfold Cs at hm
 refine ⟨_,(A6 (AM (i:=2) IL (AU (A5 AG (A5 (AR K AG (BF C4 (AN Ap hr (by decide) rfl (A5 (pv 0) (A5 AC A8))) AC)) A8))))
   (A6 (Ax (PW.pt (J0 (AW Ee (AN Bg hr (by decide) rfl (A5 (pv 1) A8)) AC (Aa _)) (Ia (AW BC (BF C4 (AN Ap hr (by decide) rfl (A5 (pv 0) (A5 AC A8))) AC) AC (Aa _))))) (A6 (AL (pv 1))
   A9) A9)
   (A6 (AL (AU (A5 AG (A5 (AU (A5 AG (A5 (pv 1) (A5 (pv 2) A8)))) (A5 (AU (A5 AG (A5 (AU (A5 AG (A5 (pv 1) A8))) (A5 (AU (A5 AG (A5 (pv 2) A8))) A8)))) A8)))))
   A9))),?_⟩
 clear 2 EI h15;refine Ak (K:=K) (Ad (A7 (Ai Am) (A7 (Ai (Mz Am (Bl (BI (m:=B1) (AA AE) Af)))) (AS (α:=Nt))))) h15 xt.gh fun v10 G11 H12 x13 r14=>?_;clear 1 x13 AE Ab;clear 2 b23 h24;refine Ay (Kq (AT (K:=K) (E5 (Aj (m:=Br 60) (AA Ab)) Af)) (AT (K:=K) (Ck (Bl (BI (m:=B1) (AA AE) Af)) Af))) h24 xt.gh fun G25 H26 x27=>?_;clear 1 x27 Ab r14
 cases b23 with
 | true =>
  clear 3;exact AO (K:=K) (AA Ab) hm xt.gh fun v28 G29 H30 x31 r32=>q v28 G29 H30 (xt.trans x31) r32
 | false =>
  clear 4;exact AO (K:=K) (Ad (A7 (Ai Am) (A7 (Ad (A7 (Ai Am) (A7 (AA Ab) (A7 (AA r14) (AS (α:=Nt)))))) (A7 (Ad (A7 (Ai Am) (A7 (Ad (A7 (Ai Am) (A7 (AA Ab) (AS (α:=Nt))))) (A7 (Ad (A7 (Ai Am) (A7 (AA r14) (AS (α:=Nt))))) (AS (α:=Nt)))))) (AS (α:=Nt)))))) hm xt.gh fun v33 G34 H35 x36 r37=>q v33 G34 H35 (xt.trans x36) r37
seal eval in
theorem L8 (F:DIn K mg "_law_spoiled" EZ)(T:Txt w K mg):GQ P w K mg base:=by
 refine F.okM2 (m:=CC) DB fun _ _ _ _ _ H0 _ _ hr G0 BL As res Ij FR xt AX Ab hm q=>?_;unfold CC at hm
 refine ⟨_,(A6 (AM (i:=2) DB (BF C4 (pv 0) AC))
   (A6 (Ax (AW BC (pv 2) AC (Aa _)) (A6 (AL (AU (A5 (pv 1) A8)))
   A9) A9)
   (A6 (Ax (AW BC (pv 2) AC (Aa _)) (A6 (AL (AU (A5 AG (A5 (pv 1) A8))))
   A9) A9)
   (A6 (Ax (AW BC (pv 2) AC (Aa _)) (A6 (AL (AU (A5 AG (A5 (pv 1) (A5 (AU (A5 AG (A5 (AR K (Cg (A5 AG (A5 AG (A5 AG (A5 AG (A5 AG A8)))))) (BF C4 (BF IB (pv 0) AC) AC)) A8))) A8)))))
   A9) A9)
   (A6 (Ax (AW BC (pv 2) AC (Aa _)) (A6 (AL (Cg (A5 AG (A5 (pv 1) A8))))
   A9) A9)
   (A6 (Ax (AW BC (pv 2) AC (Aa _)) (A6 (DL PassesOwn.never rfl (E3 rfl T.range_ (A5 AC A8)) (BG (i:=3) DB) (A6 (AM (i:=1) DB (AU (A5 AG (A5 (pv 1) A8))))
   A9))
   (A6 (AL (pv 1))
   A9)) A9)
   (A6 (Ax (AW BC (pv 2) AC (Aa _)) (A6 (AL (AU (A5 AG (A5 (pv 1) A8))))
   A9) A9)
   (A6 (AL (AR K (Cg (A5 Nh (A5 Ca (A5 AC (A5 AG (A5 (RW (O8 AG (pv 1) Rv) rfl rfl (fun z=>nomatch z) (by decide)) (A5 (AU A8) (A5 (AU (A5 AG (A5 AC A8))) A8)))))))) (BF C4 (BF IB (pv 0) AC) AC)))
   A9)))))))),?_⟩
 clear 2 way_ h6;refine Ak (K:=K) (Bl (AA AX)) h6 xt.gh fun v1 G2 H3 x4 r5=>?_;clear 1 x4 AX Ab;clear 2 b7 h8;refine Ay (AT (K:=K) (Ck (AA r5) Af)) h8 xt.gh fun G9 H10 x11=>?_;clear 1 x11 AX Ab r5
 cases b7 with
 | true =>
  clear 3;exact AO (K:=K) (BH (Bs (A7 (BH (AA Ab)) (AS (α:=D))))) hm xt.gh fun v12 G13 H14 x15 r16=>q v12 G13 H14 (xt.trans x15) r16
 | false =>
  clear 4;clear 2 b17 h18;refine Ay (AT (K:=K) (Ck (AA r5) Af)) h18 xt.gh fun G19 H20 x21=>?_;clear 1 x21 AX Ab r5
  cases b17 with
  | true =>
   clear 3;exact AO (K:=K) (BH (Bs (A7 (BH Am) (A7 (BH (AA Ab)) (AS (α:=D)))))) hm xt.gh fun v22 G23 H24 x25 r26=>q v22 G23 H24 (xt.trans x25) r26
  | false =>
   clear 4;clear 2 b27 h28;refine Ay (AT (K:=K) (Ck (AA r5) Af)) h28 xt.gh fun G29 H30 x31=>?_;clear 1 x31 AX Ab r5
   cases b27 with
   | true =>
    clear 3;exact AO (K:=K) (BH (Bs (A7 (BH Am) (A7 (BH (AA Ab)) (A7 (BH (Bs (A7 (BH Am) (A7 (BH (ER (FV.ev (D5 (A7 Am (A7 Am (A7 Am (A7 Am (A7 Am (AS (α:=Str))))))))) (Bl (Hs (AA AX))))) (AS (α:=D)))))) (AS (α:=D))))))) hm xt.gh fun v44 G45 H46 x47 r48=>q v44 G45 H46 (xt.trans x47) r48
   | false =>
    clear 4;clear 2 b49 h50;refine Ay (AT (K:=K) (Ck (AA r5) Af)) h50 xt.gh fun G51 H52 x53=>?_;clear 1 x53 AX Ab r5
    cases b49 with
    | true =>
     clear 3;exact AO (K:=K) (BH (FV.ev (D5 (A7 (BH Am) (A7 (BH (AA Ab)) (AS (α:=D))))))) hm xt.gh fun v54 G55 H56 x57 r58=>q v54 G55 H56 (xt.trans x57) r58
    | false =>
     clear 4;clear 2 b59 h60;refine Ay (AT (K:=K) (Ck (AA r5) Af)) h60 xt.gh fun G61 H62 x63=>?_;clear 1 x63 AX Ab r5
     cases b59 with
     | true =>
      clear 3;clear 2 as65 h66 fl67 h68;refine E9 (K:=K) (RR:=fun r v G' H'=>Ext G0 H0 G' H'/\Rp.rel K G' v r) (GJ Af) h66 h68 xt.gh fun G69 H70 x71=>⟨fun s72 S' G' H'=>∃ (v73:V) (v74:Option V),Ext G0 H0 G' H'/\Same G69 G'/\S'=[some Ij,some v73,some v1,v74]/\Rp.rel K G' v73 (s72:Nt),?_,?_,?_,?_,?_⟩
      ·clear 1 x71 Ab;exact ⟨FR,_,xt,(Same.refl _),rfl,Ab⟩
      ·rintro _ S' G' H' ⟨v73,v74,xt,mk75,rfl,r76⟩;exact ⟨mk75,xt.gh⟩
      ·rintro xv77 a78 s72 _ G81 H82 fl79 - ⟨v73,v74,xt,mk75,rfl,r76⟩ rx80 hm D' kN83 kC84 kB85 kR86;refine Dl ?_;clear 2 As h92;refine Ak (K:=K) (Ad (A7 (Ai Am) (A7 (AA r76) (AS (α:=Nt))))) h92 xt.gh fun v87 G88 H89 x90 r91=>?_;clear 1 x90 3 mk75;cases hm;exact kN83 _ _ _ _ rfl ⟨v87,_,xt,mk75,rfl,r91⟩
      ·rintro s72 _ G97 H98 rfl ⟨v93,v94,xt,mk95,rfl,r96⟩;refine Eu ?_;exact AO (K:=K) (BH (AA r96)) hm xt.gh fun v99 G100 H101 x102 r103=>q v99 G100 H101 (xt.trans x102) r103
      ·clear 5
     | false =>
      clear 4;clear 2 b104 h105;refine Ay (AT (K:=K) (Ck (AA r5) Af)) h105 xt.gh fun G106 H107 x108=>?_;clear 1 x108 AX Ab
      cases b104 with
      | true =>
       clear 3;exact AO (K:=K) (BH (Bs (A7 (BH Am) (A7 (BH (AA Ab)) (AS (α:=D)))))) hm xt.gh fun v109 G110 H111 x112 r113=>q v109 G110 H111 (xt.trans x112) r113
      | false =>
       clear 4;exact AO (K:=K) (ER (FV.ev (D5 (A7 (BH ev_n) (A7 (BH Ej) (A7 (BH Af) (A7 (BH Am) (A7 (ev_disp1 (AA Ab)) (A7 (BH (Bs (AS (α:=D)))) (A7 (BH (Bs (A7 (BH Am) (A7 (BH Af) (AS (α:=D)))))) (AS (α:=D))))))))))) (Bl (Hs (AA AX)))) hm xt.gh fun v116 G117 H118 x119 r120=>q v116 G117 H118 (xt.trans x119) r120
seal eval in
theorem ok_law {f:Addr}{fd:FuncData}(F:Fun K "law" "law" s_law f fd)(T:Txt w K mg)(GG:Iy P w K mg base)(DZ:Ey P w K mg base)(D9:Hl P w K mg base)(Fh:JW P w K mg base)(El:GQ P w K mg base)(Ap:EC P w K mg base)(Bg:FQ P w K mg base):FnOk P w K mg base CX0 168 f fd ["_law_script"] (spM K mm_law):=by
 refine F.ok E4 (fun vs H Q E h=>(Dy h).trans rfl) (fun cdv A outer s H0 vs Q E hr h=>?_);obtain ⟨G0,⟨script_,⟨⟩⟩,res,sg0,⟨Bb,_,rfl,AE,rfl⟩,hm,q⟩:=h;replace AE:Rp.rel K G0 Bb script_:=AE;replace hm:Pb script_=some res:=hm;unfold Pb at hm;have xt:Ext G0 H0 G0 H0:=Ext.refl sg0
 refine ⟨_,(A6 (AM (i:=1) E4 (AN GG hr (by decide) rfl (A5 (pv 0) A8)))
   (A6 (AM (i:=2) E4 (AN DZ hr (by decide) rfl (A5 (pv 0) (A5 (AN Fh hr (by decide) rfl (A5 (pv 0) (A5 (AR K (pv 1) AC) A8))) A8))))
   (A6 (AM (i:=3) E4 (AR K (pv 2) AC))
   (A6 (AM (i:=4) E4 (AU (A5 AG (A5 (B3 K AC (AR K (Cg (A5 AC (A5 AC (A5 AC (A5 AC (A5 AC (A5 AC A8))))))) (Bh (Lu rfl) (by rfl) T.min_ bt_min (A5 (AR K (pv 1) AC) (A5 AC A8))))) A8))))
   (A6 (Ax (PW.pt (J0 (AW Ee (AR K (pv 1) AC) AC (Aa _)) (Ia (AW Ee (AR K (pv 2) AC) AC (Aa _))))) (A6 (AM (i:=4) E4 (AU (A5 AG (A5 Ca (A5 Ca (A5 Ca (A5 Ca A8)))))))
   A9) A9)
   (A6 (Ax (AW BC (BF C4 (AN Ap hr (by decide) rfl (A5 (pv 0) (A5 AC A8))) AC) AC (Aa _)) (A6 (DL PassesOwn.never rfl (E3 rfl T.range_ (A5 (BF op_sub AC (AN Bg hr (by decide) rfl (A5 (pv 3) A8))) A8)) (BG (i:=5) E4) (A6 (AM (i:=3) E4 (AU (A5 AG (A5 (pv 3) A8))))
   A9))
   A9) A9)
   (A6 (Ax (AW BC (BF C4 (AN Ap hr (by decide) rfl (A5 (pv 0) (A5 AC A8))) AC) AC (Aa _)) (A6 (AM (i:=3) E4 (AN El hr (by decide) rfl (A5 (AN Ap hr (by decide) rfl (A5 (pv 0) (A5 AC A8))) (A5 (AR K (pv 2) AC) A8))))
   (A6 (AM (i:=4) E4 (AU (A5 AG (A5 Ca (A5 Ca (A5 Ca (A5 Ca A8)))))))
   A9)) A9)
   (A6 (AM (i:=6) E4 (AN D9 hr (by decide) rfl (A5 (pv 3) A8)))
   (A6 (AL (HJ (EQ (Pz (K:=K) rfl hr) (pv 6) (pv 4) (Aa _)) (HJ (EQ (Pz (K:=K) rfl hr) (AN D9 hr (by decide) rfl (A5 (AU (A5 AG A8)) A8)) (AU (A5 AG (A5 AC A8))) (Aa _)) (Fn (EQ (Pz (K:=K) rfl hr) (AN D9 hr (by decide) rfl (A5 (pv 3) A8)) (pv 4) (Aa _))))))
   A9))))))))),?_⟩
 clear 2 OA h7;refine Ak (K:=K) (Aj (m:=HV) (AA AE)) h7 xt.gh fun v2 G3 H4 x5 r6=>?_;clear 1 x5 AE;clear 2 As h17;refine Ak (K:=K) (BI (m:=EK) (AA AE) (BI (m:=HY) (AA AE) (Ir (AA r6)))) h17 xt.gh fun v12 G13 H14 x15 r16=>?_;clear 1 x15 AE r6;clear 2 Au h23;refine Ak (K:=K) (Qj (Ir (AA r16))) h23 xt.gh fun v18 G19 H20 x21 r22=>?_;clear 1 x21 AE r6 r16;clear 2 due_ h36;refine Ak (K:=K) (Mf (GM Am (CF Af (ER (FV.ev (D5 (A7 Af (A7 Af (A7 Af (A7 Af (A7 Af (A7 Af (AS (α:=Int)))))))))) (ev_min (Nb (AA r6)) Af))))) h36 xt.gh fun v31 G32 H33 x34 r35=>?_;clear 1 x34 AE r6 r16 r22;clear 2 b37 h38 s42 h43
 try (with_reducible refine nxt_ ?_;dsimp only)
 refine GN (t:=KS _ _ _) (fun S56 H55=>∃ (G54:Hp) (v45:V),Ext G0 H0 G54 H55/\Same G32 G54/\S56=[some Bb,some v2,some v12,some v18,some v45,none,none]/\Rp.rel K G54 v45 (s42:DueT)) (fun nx kn47=>?_) ?_
 ·refine Ay (tv_orP (AT (K:=K) (E5 (Nb (AA r6)) Af)) (AT (K:=K) (E5 (Nb (AA r16)) Af))) h38 xt.gh fun G39 H40 x41=>?_;clear 1 x41 r35;have mk44:Same G32 G39:=x41.gg;have hm:=h43
  cases b37 with
  | true =>
   clear 3;clear 2 due_ h53;refine Ak (K:=K) (Jn (Bs (A7 (Mg Am) (A7 (CT Ej) (A7 (CT Ej) (A7 (CT Ej) (A7 (CT Ej) (AS (α:=SB))))))))) h53 xt.gh fun v48 G49 H50 x51 r52=>?_;clear 1 x51 3 mk44;cases hm;exact kn47 _ _ ⟨G49,v48,xt,mk44,rfl,r52⟩
  | false =>
   clear 4;cases hm;exact kn47 _ _ ⟨G39,v31,xt,mk44,rfl,r35⟩
 ·rintro _ H55 ⟨G54,v45,xt,mk44,rfl,r46⟩;clear 9 mk44 AE r6 r16 r22;clear 2 b61 h62 s66 h67
  try (with_reducible refine nxt_ ?_;dsimp only)
  refine GN (t:=KS _ _ _) (fun S119 H118=>∃ (G117:Hp) (v69:V) (v71:Option V),Ext G0 H0 G117 H118/\Same G54 G117/\S119=[some Bb,some v2,some v12,some v69,some v45,v71,none]/\Rp.rel K G117 v69 (s66:Th)) (fun nx kn73=>?_) ?_
  ·refine Ay (AT (K:=K) (Ck (Bl (BI (m:=B1) (AA AE) Af)) Af)) h62 xt.gh fun G63 H64 x65=>?_;clear 1 x65 r22;have mk68:Same G54 G63:=x65.gg;have hm:=h67
   cases b61 with
   | true =>
    clear 3;clear 2 as78 h79 fl80 h81;refine E9 (K:=K) (RR:=fun _ _ _ _=>False) (GJ (ev_sub Af (Aj (m:=Br 60) (Ng (AA r22))))) h79 h81 xt.gh fun G82 H83 x84=>⟨fun s85 S' G' H'=>∃ (v86:V) (v87:Option V),Ext G0 H0 G' H'/\Same G82 G'/\S'=[some Bb,some v2,some v12,some v86,some v45,v87,none]/\Rp.rel K G' v86 (s85:Th),?_,?_,?_,?_,?_⟩
    ·clear 1 x84 r22;exact ⟨v18,_,xt,(Same.refl _),rfl,r22⟩
    ·rintro _ S' G' H' ⟨v86,v87,xt,mk88,rfl,r89⟩;exact ⟨mk88,xt.gh⟩
    ·rintro xv90 a91 s85 _ G94 H95 fl92 - ⟨v86,v87,xt,mk88,rfl,r89⟩ rx93 hm D' kN96 kC97 kB98 kR99;refine Dl ?_;clear 2 Au h110;refine Ak (K:=K) (Qj (Ad (A7 (Ai Am) (A7 (Ng (AA r89)) (AS (α:=Nt)))))) h110 xt.gh fun v105 G106 H107 x108 r109=>?_;clear 1 x108 3 mk88;cases hm;exact kN96 _ _ _ _ rfl ⟨v105,_,xt,mk88,rfl,r109⟩
    ·rintro s85 _ G115 H116 rfl ⟨v111,v112,xt,mk113,rfl,r114⟩;refine Eu ?_;have mk68:=(mk68.trans x84.gg).trans mk113;cases hm;exact kn73 _ _ ⟨G115,v111,_,xt,mk68,rfl,r114⟩
    ·rintro r' v' G' H' rfl rl;exact rl.elim
   | false =>
    clear 4;cases hm;exact kn73 _ _ ⟨G63,v18,_,xt,mk68,rfl,r22⟩
  ·rintro _ H118 ⟨G117,v69,v71,xt,mk68,rfl,r70⟩;clear 9 mk68 AE r6 r16 r46;clear 2 b124 h125 s129 h130
   try (with_reducible refine nxt_ ?_;dsimp only)
   refine GN (t:=KS _ _ _) (fun S156 H155=>∃ (G154:Hp) (v132:V) (v134:V),Ext G0 H0 G154 H155/\Same G117 G154/\S156=[some Bb,some v2,some v12,some v132,some v134,v71,none]/\Rp.rel K G154 v132 (s129.1:Th)/\Rp.rel K G154 v134 (s129.2:DueT)) (fun nx kn136=>?_) ?_
   ·refine Ay (AT (K:=K) (Ck (Bl (BI (m:=B1) (AA AE) Af)) Af)) h125 xt.gh fun G126 H127 x128=>?_;clear 1 x128 AE r16 r70 r46;have mk131:Same G117 G126:=x128.gg;have hm:=h130
    cases b124 with
    | true =>
     clear 3;clear 2 Au h147;refine Ak (K:=K) (ev_thB (BI (m:=Fu) (BI (m:=B1) (AA AE) Af) (Ir (AA r16)))) h147 xt.gh fun v142 G143 H144 x145 r146=>?_;clear 1 x145 3 mk131;clear 2 due_ h153;refine Ak (K:=K) (Jn (Bs (A7 (Mg Am) (A7 (CT Ej) (A7 (CT Ej) (A7 (CT Ej) (A7 (CT Ej) (AS (α:=SB))))))))) h153 xt.gh fun v148 G149 H150 x151 r152=>?_;clear 1 x151 r146 3 mk131;cases hm;exact kn136 _ _ ⟨G149,v142,v148,xt,mk131,rfl,r146,r152⟩
    | false =>
     clear 4;cases hm;exact kn136 _ _ ⟨G126,v69,v45,xt,mk131,rfl,r70,r46⟩
   ·rintro _ H155 ⟨G154,v132,v134,xt,mk131,rfl,r133,r135⟩;clear 2 first_ h163;refine Ak (K:=K) (Aj (m:=Dg) (AA r133)) h163 xt.gh fun v158 G159 H160 x161 r162=>?_;clear 1 x161 r133 r135;exact AO (K:=K) (Gj (Ko (AA r162) (AA r135)) (Gj (Ko (Aj (m:=Dg) (Qj (Ad (A7 (Ai Am) (AS (α:=Nt)))))) (Mf (GM Am Af))) (Ko (Aj (m:=Dg) (AA r133)) (AA r135)))) hm xt.gh fun v174 G175 H176 x177 r178=>q v174 G175 H176 (xt.trans x177) r178
end
def abcN:List Nat:=List.range' 97 26
def one (c:Nat):Str:=⟨#[c]⟩
theorem Sf (x:Str):IT x=x.cps.toList.map one:=rfl
theorem abc_pw:abcN.Pairwise (· < ·):=List.pairwise_lt_range'
def Mom (x:Str):Prop:=x.cps.toList.Sublist abcN
theorem Ra {a b:Nat}(h:one a=one b):a=b:=by
 have:=congrArg (fun x:Str=>x.cps.toList) h
 simpa [one] using this
theorem Mom.pw {x:Str}(h:Mom x):x.cps.toList.Pairwise (· < ·):=abc_pw.sublist h
theorem join_mom (cs:List Nat)(h:cs.length<=1000):Rj "" (cs.map one)=some (Txt.join "" (cs.map one)):=by
 refine if_pos ?_;have e:("" : Str).length=0:=by decide
 have:((cs.map one).map (·.length)).sum=cs.length:=PX cs;rw [e,Nat.mul_zero,this];omega
theorem join_of (cs:List Nat):(Txt.join "" (cs.map one)).cps.toList=cs:=R6 cs
theorem leS_one {a b:Nat}(h:a<=b):leS (one a) (one b)=true:=by
 unfold leS one;rw [Bool.not_eq_true',decide_eq_false_iff_not];intro q;have:=(sing_lt b a).mp q;omega
theorem sortS_eq {ys zs:List Str}(hp:zs.Perm ys)(hz:zs.Pairwise fun a b=>leS a b=true):FU ys=zs :=
 (List.Perm.eq_of_pairwise (fun a b _ _ h1 h2=>KI h1 h2) hz (List.pairwise_mergeSort GL Il ys) (hp.trans (Bf ys).symm)).symm
theorem sort_ded {ys:List Str}{cs:List Nat}(hc:cs.Pairwise (· < ·))(h:∀ y,y∈ys ↔ ∃ c∈cs,y=one c):FU (DT ys)=cs.map one/\(DT ys).length=cs.length:=by
 have nd:(cs.map one).Nodup:=by
  rw [List.nodup_iff_pairwise_ne];exact List.Pairwise.map _ (fun a b q e=>absurd (Ra e) (qdC q)) hc
 have hp:(cs.map one).Perm (DT ys):=(List.perm_ext_iff_of_nodup nd (KP ys)).mpr fun y=>by
  rw [mem_dedA,h y,qoA];exact ⟨fun ⟨c,hc,e⟩=>⟨c,hc,e.symm⟩,fun ⟨c,hc,e⟩=>⟨c,hc,e.symm⟩⟩
 refine ⟨sortS_eq hp (List.Pairwise.map _ (fun a b q=>leS_one (Nat.le_of_lt q)) hc),?_⟩;rw [<- hp.length_eq,qfA]
theorem Qf {n i:Nat}{a:Int}(h:((List.range n).map fun (i:Nat)=>(0:Int)+(i:Int))[i]? = some a):i<n/\a=(i:Int):=by
 have hi:i<n:=by simpa using (qvA.mp h).1
 refine ⟨hi,?_⟩;simp [hi] at h;omega
theorem HP (n:Nat):((List.range n).map fun (i:Nat)=>(0:Int)+(i:Int)).length=n:=by rw [qfA,qjA]
theorem D0 (s:Scr)(k:Int)(h0:0<=k)(h1:k<=100){P:Int->Prop}(hp:∀ n,P n):OK (Aq s k) P:=by
 unfold Aq;simp only [qqB,AZ,AJ];refine Al (fun h=>P3 h0 (of_decide_eq_true h) fun x _=>hp x) fun _=>?_;refine GV (P:=fun z:Int=>-(2 ^ 64)<z/\z<2 ^ 64) (Al (fun h=>?_) fun _=>AB (by omega)) fun z hz=>AD (ok_mul (.inl hz) (AB (hp _)));have h:=of_decide_eq_true h;refine AD (ok_mod h (AD (P3 (qsB _ (by omega)) (qtB _ h) fun x _=>AB ?_)));have a0:=qsB (x * 48271+k * 7919) (b:=2147483647) (by decide);have a1:=qtB (x * 48271+k * 7919) (b:=2147483647) (by decide);omega
theorem Er {α:Type}[DecidableEq α]:∀ {l m:List α},l.Nodup->(∀ x∈l,x∈m)->l.length<=m.length
 | [],_,_,_=>qkC _
 | a::l,m,nd,h=>by
  have ⟨h1,h2⟩:=List.nodup_cons.mp nd
  have:=Er (l:=l) (m:=m.erase a) h2 fun x hx=>by
   have ne:x≠a:=fun e=>h1 (e ▸ hx);exact (List.mem_erase_of_ne ne).mpr (h x (qsA _ hx))
  have hm:a∈m:=h a (qrA ..);rw [List.length_erase_of_mem hm] at this;have:=List.length_pos_of_mem hm;rw [qhA];omega
theorem v_yl:decide (("yes" : Str) = "lamp")=false:=by decide +kernel
inductive Fm where
 | yes
 | lamp (c:Str)
 | neg (a:Fm)
 | next (a:Fm)
 | and (a b:Fm)
 | unt (a b:Fm)
def Fm.nt:Fm->Nt
 | .yes=>.tup [.txt "yes"]
 | .lamp c=>.tup [.txt "lamp",.txt c]
 | .neg a=>.tup [.txt "not",a.nt]
 | .next a=>.tup [.txt "next",a.nt]
 | .and a b=>.tup [.txt "and",a.nt,b.nt]
 | .unt a b=>.tup [.txt "until",a.nt,b.nt]
def Fm.den:Fm->Fm
 | .neg a=>a
 | a=>.neg a
def Fm.size:Fm->Nat
 | .yes=>1
 | .lamp _=>1
 | .neg a=>a.size+1
 | .next a=>a.size+1
 | .and a b=>a.size+b.size+1
 | .unt a b=>a.size+b.size+1
def Fm.dep:Fm->Nat
 | .yes=>1
 | .lamp _=>1
 | .neg a=>a.dep+1
 | .next a=>a.dep+1
 | .and a b=>max a.dep b.dep+1
 | .unt a b=>max a.dep b.dep+1
theorem N7 (a:Fm):a.den.dep<=a.dep+1:=by
 cases a<;>simp only [Fm.den,Fm.dep]<;>omega
theorem LU (a:Fm):a.den.size<=a.size+1:=by
 cases a<;>simp only [Fm.den,Fm.size]<;>omega
def pl1 (w:Str)(f:Fm):Fm :=
 if w = "not" then f.den else if w = "next" then .next f else if w = "atlast" then .unt .yes f else if w = "always" then .neg (.unt .yes f.den)
 else if w = "again" then .neg (.unt .yes (.neg (.unt .yes f))) else .unt .yes (.neg (.unt .yes f.den))
def pl2 (w:Str)(f g:Fm):Fm :=
 if w = "or" then .neg (.and f.den g.den) else if w = "then" then .neg (.and f g.den) else if w = "frees" then .neg (.unt f.den g.den)
 else if w = "and" then .and f g else .unt f g
theorem NI (f:Fm):pl1 "not" f=f.den:=by
 unfold pl1;rw [if_pos rfl]
theorem OO (f:Fm):pl1 "next" f = .next f:=by
 unfold pl1;rw [if_neg (by decide +kernel),if_pos rfl]
theorem Ka (f:Fm):pl1 "atlast" f = .unt .yes f:=by
 unfold pl1;rw [if_neg (by decide +kernel),if_neg (by decide +kernel),if_pos rfl]
theorem LI (f:Fm):pl1 "always" f = .neg (.unt .yes f.den):=by
 unfold pl1;rw [if_neg (by decide +kernel),if_neg (by decide +kernel),if_neg (by decide +kernel),if_pos rfl]
theorem MR (f:Fm):pl1 "again" f = .neg (.unt .yes (.neg (.unt .yes f))):=by
 unfold pl1;rw [if_neg (by decide +kernel),if_neg (by decide +kernel),if_neg (by decide +kernel),if_neg (by decide +kernel),if_pos rfl]
theorem JQ (f:Fm):pl1 "settles" f = .unt .yes (.neg (.unt .yes f.den)):=by
 unfold pl1;rw [if_neg (by decide +kernel),if_neg (by decide +kernel),if_neg (by decide +kernel),if_neg (by decide +kernel),if_neg (by decide +kernel)]
theorem pl2_or (f g:Fm):pl2 "or" f g = .neg (.and f.den g.den):=by
 unfold pl2;rw [if_pos rfl]
theorem M4 (f g:Fm):pl2 "frees" f g = .neg (.unt f.den g.den):=by
 unfold pl2;rw [if_neg (by decide +kernel),if_neg (by decide +kernel),if_pos rfl]
theorem Ji (f g:Fm):pl2 "and" f g = .and f g:=by
 unfold pl2;rw [if_neg (by decide +kernel),if_neg (by decide +kernel),if_neg (by decide +kernel),if_pos rfl]
theorem Lz (f g:Fm):pl2 "until" f g = .unt f g:=by
 unfold pl2;rw [if_neg (by decide +kernel),if_neg (by decide +kernel),if_neg (by decide +kernel),if_neg (by decide +kernel)]
theorem pl1_dep (w:Str)(f:Fm):(pl1 w f).dep<=f.dep+4:=by
 have h1:=N7 f;have h2:1<=f.dep:=by cases f<;>simp only [Fm.dep]<;>omega
 unfold pl1
 repeat' split
 all_goals (try simp only [Fm.dep]);omega
theorem pl2_dep (w:Str)(f g:Fm):(pl2 w f g).dep<=max f.dep g.dep+3:=by
 have h1:=N7 f;have h2:=N7 g;unfold pl2
 repeat' split
 all_goals (try simp only [Fm.dep]);omega
theorem pl1_size (w:Str)(f:Fm):(pl1 w f).size<=f.size+6:=by
 have h1:=LU f;unfold pl1
 repeat' split
 all_goals (try simp only [Fm.size]);omega
theorem pl2_size (w:Str)(f g:Fm):(pl2 w f g).size<=f.size+g.size+4:=by
 have h1:=LU f;have h2:=LU g;unfold pl2
 repeat' split
 all_goals (try simp only [Fm.size]);omega
def W1:List Str:=["not","next","atlast","always","again","settles"]
def W2:List Str:=["and","until","or","then","frees"]
def lampN (c:Nat):Nt:=.tup [.txt "lamp",.txt (one c)]
inductive Sent:Nt->Nat->Fm->Prop where
 | yes:Sent (.tup [.txt "yes"]) 1 .yes
 | no:Sent (.tup [.txt "no"]) 1 (.neg .yes)
 | lamp {c:Nat}:c∈abcN->Sent (lampN c) 1 (.lamp (one c))
 | one {w:Str}{a:Nt}{n:Nat}{f:Fm}:w∈W1->Sent a n f->Sent (.tup [.txt w,a]) (n+1) (pl1 w f)
 | two {w:Str}{a b:Nt}{n m:Nat}{f g:Fm}:w∈W2->Sent a n f->Sent b m g->Sent (.tup [.txt w,a,b]) (n+m+1) (pl2 w f g)
theorem Sent.pos {a:Nt}{n:Nat}{f:Fm}(h:Sent a n f):1<=n:=by cases h<;>omega
theorem Sent.dep {a:Nt}{n:Nat}{f:Fm}(h:Sent a n f):f.dep<=4 * n:=by
 induction h with
 | yes=>decide
 | no=>decide
 | lamp _=>simp only [Fm.dep];omega
 | @one w a n f _ _ ih=>have:=pl1_dep w f;omega
 | @two w a b n m f g _ _ _ ih1 ih2=>have:=pl2_dep w f g;omega
theorem Sent.size {a:Nt}{n:Nat}{f:Fm}(h:Sent a n f):f.size<=6 * n:=by
 induction h with
 | yes=>decide
 | no=>decide
 | lamp _=>simp only [Fm.size];omega
 | @one w a n f _ _ ih=>have:=pl1_size w f;omega
 | @two w a b n m f g _ _ _ ih1 ih2=>have:=pl2_size w f g;omega
theorem at0 (w:Str)(l:List Nt):atI (Nt.txt w::l) (0:Int)=some (Nt.txt w):=BJ (j:=0) rfl
theorem at_n0 (x:Nt)(l:List Nt):atI (x::l) (0:Int)=some x:=BJ (j:=0) rfl
theorem at1 (x y:Nt)(l:List Nt):atI (x::y::l) (1:Int)=some y:=BJ (j:=1) rfl
theorem at2 (x y z:Nt)(l:List Nt):atI (x::y::z::l) (2:Int)=some z:=BJ (j:=2) rfl
theorem En (a:Nt)(l:List Nt):JC (a::l) (some 1) none=some ⟨l⟩:=by
 have h1:HT.sIx (a::l).length 0 (some (1:Int))=1:=by
  unfold HT.sIx;simp
  try omega
 have h2:HT.sIx (a::l).length (a::l).length none=(a::l).length:=rfl;unfold JC;rw [if_pos (by rw [h1];exact fun z=>absurd z.1 (by decide))];unfold cutA;rw [h1,h2];simp
theorem OG {w:Str}{l:List Nt}(hw:w ≠ "lamp"):Ah (.tup (.txt w::l))=some ⟨l⟩:=by
 unfold Ah;simp only [qqB,AZ,AJ,Bq,at_n0,D8,decide_eq_false hw,cond_false,En]
theorem den_nt (a:Fm):BW a.nt=some a.den.nt:=by
 have other:∀ (w:Str) (l:List Nt),w ≠ "not" -> BW (.tup (.txt w::l))=some (.tup [.txt "not",.tup (.txt w::l)]):=fun w l hw=>by
  refine OK.eq ?_;unfold BW;simp only [qqB,AZ,AJ,Bq,at0,D8,decide_eq_false hw,cond_false];exact AB rfl
 cases a with
 | yes=>exact other _ _ (by decide +kernel)
 | lamp c=>exact other _ _ (by decide +kernel)
 | neg a =>
  show BW (.tup [.txt "not",a.nt])=some a.nt;refine OK.eq ?_;unfold BW;simp only [qqB,AZ,AJ,Bq];refine RA (.txt "not") rfl (AD ⟨"not",rfl,?_⟩);dsimp only;rw [decide_eq_true rfl];exact ⟨_,rfl,rfl⟩
 | next a=>exact other _ _ (by decide +kernel)
 | and a b=>exact other _ _ (by decide +kernel)
 | unt a b=>exact other _ _ (by decide +kernel)
theorem OQ (w:Str)(f:Fm):Be w f.nt=some (pl1 w f).nt:=by
 refine OK.eq ?_;unfold Be;simp only [qqB,AZ,AJ,den_nt];unfold pl1;refine Al (fun h=>?_) fun h=>?_
 ·rw [if_pos (of_decide_eq_true h)];exact AB rfl
 rw [if_neg (of_decide_eq_false h)];refine Al (fun h=>?_) fun h=>?_
 ·rw [if_pos (of_decide_eq_true h)];exact AB rfl
 rw [if_neg (of_decide_eq_false h)];refine Al (fun h=>?_) fun h=>?_
 ·rw [if_pos (of_decide_eq_true h)];exact AB rfl
 rw [if_neg (of_decide_eq_false h)];refine Al (fun h=>?_) fun h=>?_
 ·rw [if_pos (of_decide_eq_true h)];exact AB rfl
 rw [if_neg (of_decide_eq_false h)];refine Al (fun h=>?_) fun h=>?_
 ·rw [if_pos (of_decide_eq_true h)];exact AB rfl
 rw [if_neg (of_decide_eq_false h)];exact AB rfl
theorem Nw {w:Str}(hw:w∈W2)(f g:Fm):Bc w f.nt g.nt=some (pl2 w f g).nt:=by
 refine OK.eq ?_;unfold Bc;simp only [qqB,AZ,AJ,den_nt];unfold pl2;refine Al (fun h=>?_) fun h1=>?_
 ·rw [if_pos (of_decide_eq_true h)];exact AB rfl
 rw [if_neg (of_decide_eq_false h1)];refine Al (fun h=>?_) fun h2=>?_
 ·rw [if_pos (of_decide_eq_true h)];exact AB rfl
 rw [if_neg (of_decide_eq_false h2)];refine Al (fun h=>?_) fun h3=>?_
 ·rw [if_pos (of_decide_eq_true h)];exact AB rfl
 rw [if_neg (of_decide_eq_false h3)];refine AB ?_;simp only [W2,qnA,qeC,or_false] at hw;rcases hw with e|e|e|e|e
 ·rw [if_pos e,e]
  rfl
 ·subst e;rw [if_neg (by decide +kernel)]
  rfl
 ·exact absurd e (of_decide_eq_false h1)
 ·exact absurd e (of_decide_eq_false h2)
 ·exact absurd e (of_decide_eq_false h3)
structure Wd (w:Str):Prop where
 no:w ≠ "no"
 yes:w ≠ "yes"
 lamp:w ≠ "lamp"
theorem wd_one {w:Str}(hw:w∈W1):Wd w:=by
 simp only [W1,qnA,qeC,or_false] at hw;rcases hw with rfl|rfl|rfl|rfl|rfl|rfl<;>exact ⟨by decide +kernel,by decide +kernel,by decide +kernel⟩
theorem wd_two {w:Str}(hw:w∈W2):Wd w:=by
 simp only [W2,qnA,qeC,or_false] at hw;rcases hw with rfl|rfl|rfl|rfl|rfl<;>exact ⟨by decide +kernel,by decide +kernel,by decide +kernel⟩
theorem plain_ok {S:Nt}{d:Nat}{f:Fm}(h:Sent S d f):∀ n,d<=n->EX n S=some f.nt:=by
 induction h with
 | yes =>
  intro n hn;obtain ⟨m,rfl⟩:∃ m,n=m+1:=⟨n - 1,by omega⟩
  rfl
 | no =>
  intro n hn;obtain ⟨m,rfl⟩:∃ m,n=m+1:=⟨n - 1,by omega⟩
  rfl
 | lamp _ =>
  intro n hn;obtain ⟨m,rfl⟩:∃ m,n=m+1:=⟨n - 1,by omega⟩
  rfl
 | @one w a k f hw ha ih =>
  intro n hn;obtain ⟨m,rfl⟩:∃ m,n=m+1:=⟨n - 1,by omega⟩;have ww:=wd_one hw;show DU (EX m) _=_;unfold DU;simp only [qqB,AZ,AJ,Bq,at0,at1,D8,decide_eq_false ww.no,decide_eq_false ww.yes,decide_eq_false ww.lamp,Bool.or_self,cond_false];have e2:decide ((([Nt.txt w,a]:List Nt).length:Int)=2)=true:=rfl;rw [e2];simp only [AZ,ih m (by omega),cond_true];exact OQ w f
 | @two w a b k j f g hw ha hb ih1 ih2 =>
  intro n hn;obtain ⟨m,rfl⟩:∃ m,n=m+1:=⟨n - 1,by omega⟩;have ww:=wd_two hw;show DU (EX m) _=_;unfold DU;simp only [qqB,AZ,AJ,Bq,at0,at1,at2,D8,decide_eq_false ww.no,decide_eq_false ww.yes,decide_eq_false ww.lamp,Bool.or_self,cond_false];have e2:decide ((([Nt.txt w,a,b]:List Nt).length:Int)=2)=false:=rfl;rw [e2];simp only [AZ,ih1 m (by omega),ih2 m (by omega),cond_false];exact Nw hw f g
theorem Fm.dep_pos (a:Fm):1<=a.dep:=by cases a<;>simp only [Fm.dep]<;>omega
def Fm.sub:Fm->List Fm
 | .yes=>[.yes]
 | .lamp c=>[.lamp c]
 | .neg a=>.neg a::a.sub
 | .next a=>.next a::a.sub
 | .and a b=>.and a b::(a.sub++b.sub)
 | .unt a b=>.unt a b::(a.sub++b.sub)
theorem CY:∀ {f g:Fm},g∈f.sub->g.size<=f.size
 | .yes,g,h=>by rw [qqA.mp h];exact qgB _
 | .lamp _,g,h=>by rw [qqA.mp h];exact qgB _
 | .neg a,g,h=>by
  rcases qnA.mp h with e|h
  ·rw [e];exact qgB _
  ·have:=CY h;simp only [Fm.size];omega
 | .next a,g,h=>by
  rcases qnA.mp h with e|h
  ·rw [e];exact qgB _
  ·have:=CY h;simp only [Fm.size];omega
 | .and a b,g,h=>by
  rcases qnA.mp h with e|h
  ·rw [e];exact qgB _
  ·rcases qmA.mp h with h|h<;>(have:=CY h;simp only [Fm.size];omega)
 | .unt a b,g,h=>by
  rcases qnA.mp h with e|h
  ·rw [e];exact qgB _
  ·rcases qmA.mp h with h|h<;>(have:=CY h;simp only [Fm.size];omega)
theorem LN (f:Fm):f∈f.sub:=by cases f<;>simp [Fm.sub]
theorem w1:("not" : Str) ≠ "next" := by decide +kernel
theorem w2:("and" : Str) ≠ "until" := by decide +kernel
def R1 (fs:List Fm)(k:Nat)(r:Tp SI):Fm->Prop
 | .yes=>r=⟨[.s "yes"]⟩
 | .lamp c=>r=⟨[.s "lamp",.s c]⟩
 | .neg a=>∃ i:Nat,i<k/\fs[i]? = some a/\r=⟨[.s "not",.i (i:Int)]⟩
 | .next a=>∃ i:Nat,i<k/\fs[i]? = some a/\r=⟨[.s "next",.i (i:Int)]⟩
 | .and a b=>∃ i j:Nat,i<k/\j<k/\fs[i]? = some a/\fs[j]? = some b/\r=⟨[.s "and",.i (i:Int),.i (j:Int)]⟩
 | .unt a b=>∃ i j:Nat,i<k/\j<k/\fs[i]? = some a/\fs[j]? = some b/\r=⟨[.s "until",.i (i:Int),.i (j:Int)]⟩
def Dif (fs:List Fm):Prop:=∀ (i j:Nat) (f:Fm),fs[i]? = some f->fs[j]? = some f->i=j
def Bk (L:List (Tp SI))(fs:List Fm):Prop:=L.length=fs.length/\∀ (k:Nat) (r:Tp SI) (f:Fm),L[k]? = some r->fs[k]? = some f->R1 fs k r f
theorem Dx {α:Type}{l m:List α}{k:Nat}{a:α}(h:l[k]? = some a):(l++m)[k]? = some a:=by
 rw [qxA (qvA.mp h).1];exact h
theorem F7 {α:Type}{l:List α}{k:Nat}{a:α}(h:l[k]? = some a):k<l.length:=(qvA.mp h).1
theorem R1.app {fs gs:List Fm}{k k':Nat}{r:Tp SI}{f:Fm}(h:R1 fs k r f)(hk:k<=k'):R1 (fs++gs) k' r f:=by
 cases f with
 | yes=>exact h
 | lamp c=>exact h
 | neg a=>obtain ⟨i,h1,h2,e⟩:=h;exact ⟨i,by omega,Dx h2,e⟩
 | next a=>obtain ⟨i,h1,h2,e⟩:=h;exact ⟨i,by omega,Dx h2,e⟩
 | and a b=>obtain ⟨i,j,h1,h2,h3,h4,e⟩:=h;exact ⟨i,j,by omega,by omega,Dx h3,Dx h4,e⟩
 | unt a b=>obtain ⟨i,j,h1,h2,h3,h4,e⟩:=h;exact ⟨i,j,by omega,by omega,Dx h3,Dx h4,e⟩
theorem Fq {w w':Str}{i j:Nat}(e:(Tp.mk [SI.s w,SI.i (i:Int)])=Tp.mk [SI.s w',SI.i (j:Int)]):w=w'/\i=j:=by
 have e1:=Tp.mk.inj e;injection e1 with e2 e3
 injection e3 with e4 e5
 injection e4 with e4
 injection e2 with e2
 exact ⟨e2,by omega⟩
theorem F3 {w w':Str}{i j i' j':Nat}(e:(Tp.mk [SI.s w,SI.i (i:Int),SI.i (j:Int)])=Tp.mk [SI.s w',SI.i (i':Int),SI.i (j':Int)]):w=w'/\i=i'/\j=j':=by
 have e1:=Tp.mk.inj e;injection e1 with e2 e3
 injection e3 with e4 e5
 injection e5 with e6 e7
 injection e6 with e6
 injection e4 with e4
 injection e2 with e2
 exact ⟨e2,by omega,by omega⟩
theorem R1.fn {fs:List Fm}{k k':Nat}{r:Tp SI}{f f':Fm}(h:R1 fs k r f)(h':R1 fs k' r f'):f=f':=by
 cases f with
 | yes =>
  subst h
  cases f' with
  | yes=>rfl
  | lamp c=>cases (show (_:Tp SI)=_ from h')
  | neg a=>obtain ⟨i,_,_,e⟩:=h';cases e
  | next a=>obtain ⟨i,_,_,e⟩:=h';cases e
  | and a b=>obtain ⟨i,j,_,_,_,_,e⟩:=h';cases e
  | unt a b=>obtain ⟨i,j,_,_,_,_,e⟩:=h';cases e
 | lamp c =>
  subst h
  cases f' with
  | yes=>cases (show (_:Tp SI)=_ from h')
  | lamp c' =>
   have e:=(qbC (qbC (Tp.mk.inj (show (_:Tp SI)=_ from h'))).2).1;rw [SI.s.inj e]
  | neg a=>obtain ⟨i,_,_,e⟩:=h';have e:=(qbC (qbC (Tp.mk.inj e)).2).1;cases e
  | next a=>obtain ⟨i,_,_,e⟩:=h';have e:=(qbC (qbC (Tp.mk.inj e)).2).1;cases e
  | and a b=>obtain ⟨i,j,_,_,_,_,e⟩:=h';have e:=(qbC (qbC (Tp.mk.inj e)).2).1;cases e
  | unt a b=>obtain ⟨i,j,_,_,_,_,e⟩:=h';have e:=(qbC (qbC (Tp.mk.inj e)).2).1;cases e
 | neg a =>
  obtain ⟨i,_,hi,rfl⟩:=h
  cases f' with
  | yes=>cases (show (_:Tp SI)=_ from h')
  | lamp c=>have e:=(qbC (qbC (Tp.mk.inj (show (_:Tp SI)=_ from h'))).2).1;cases e
  | neg a'=>obtain ⟨j,_,hj,e⟩:=h';rw [(Fq e).2,hj] at hi;rw [qkB hi]
  | next a'=>obtain ⟨j,_,hj,e⟩:=h';exact absurd (Fq e).1 w1
  | and a b=>obtain ⟨i,j,_,_,_,_,e⟩:=h';have e:=(qbC (qbC (Tp.mk.inj e)).2).2;cases e
  | unt a b=>obtain ⟨i,j,_,_,_,_,e⟩:=h';have e:=(qbC (qbC (Tp.mk.inj e)).2).2;cases e
 | next a =>
  obtain ⟨i,_,hi,rfl⟩:=h
  cases f' with
  | yes=>cases (show (_:Tp SI)=_ from h')
  | lamp c=>have e:=(qbC (qbC (Tp.mk.inj (show (_:Tp SI)=_ from h'))).2).1;cases e
  | neg a'=>obtain ⟨j,_,hj,e⟩:=h';exact absurd (Fq e).1.symm w1
  | next a'=>obtain ⟨j,_,hj,e⟩:=h';rw [(Fq e).2,hj] at hi;rw [qkB hi]
  | and a b=>obtain ⟨i,j,_,_,_,_,e⟩:=h';have e:=(qbC (qbC (Tp.mk.inj e)).2).2;cases e
  | unt a b=>obtain ⟨i,j,_,_,_,_,e⟩:=h';have e:=(qbC (qbC (Tp.mk.inj e)).2).2;cases e
 | and a b =>
  obtain ⟨i,j,_,_,hi,hj,rfl⟩:=h
  cases f' with
  | yes=>cases (show (_:Tp SI)=_ from h')
  | lamp c=>have e:=(qbC (qbC (Tp.mk.inj (show (_:Tp SI)=_ from h'))).2).1;cases e
  | neg a'=>obtain ⟨j,_,hj,e⟩:=h';have e:=(qbC (qbC (Tp.mk.inj e)).2).2;cases e
  | next a'=>obtain ⟨j,_,hj,e⟩:=h';have e:=(qbC (qbC (Tp.mk.inj e)).2).2;cases e
  | and a b=>obtain ⟨i',j',_,_,hi',hj',e⟩:=h';rw [(F3 e).2.1,hi'] at hi;rw [(F3 e).2.2,hj'] at hj;rw [qkB hi,qkB hj]
  | unt a b=>obtain ⟨i',j',_,_,hi',hj',e⟩:=h';exact absurd (F3 e).1 w2
 | unt a b =>
  obtain ⟨i,j,_,_,hi,hj,rfl⟩:=h
  cases f' with
  | yes=>cases (show (_:Tp SI)=_ from h')
  | lamp c=>have e:=(qbC (qbC (Tp.mk.inj (show (_:Tp SI)=_ from h'))).2).1;cases e
  | neg a'=>obtain ⟨j,_,hj,e⟩:=h';have e:=(qbC (qbC (Tp.mk.inj e)).2).2;cases e
  | next a'=>obtain ⟨j,_,hj,e⟩:=h';have e:=(qbC (qbC (Tp.mk.inj e)).2).2;cases e
  | and a b=>obtain ⟨i',j',_,_,hi',hj',e⟩:=h';exact absurd (F3 e).1.symm w2
  | unt a b=>obtain ⟨i',j',_,_,hi',hj',e⟩:=h';rw [(F3 e).2.1,hi'] at hi;rw [(F3 e).2.2,hj'] at hj;rw [qkB hi,qkB hj]
theorem R1.inj {fs:List Fm}{k k':Nat}{r r':Tp SI}{f:Fm}(hd:Dif fs)(h:R1 fs k r f)(h':R1 fs k' r' f):r=r':=by
 cases f with
 | yes=>rw [show r=_ from h,show r'=_ from h']
 | lamp c=>rw [show r=_ from h,show r'=_ from h']
 | neg a=>obtain ⟨i,_,h1,e⟩:=h;obtain ⟨j,_,h2,e'⟩:=h';rw [e,e',hd i j a h1 h2]
 | next a=>obtain ⟨i,_,h1,e⟩:=h;obtain ⟨j,_,h2,e'⟩:=h';rw [e,e',hd i j a h1 h2]
 | and a b=>obtain ⟨i,j,_,_,h1,h2,e⟩:=h;obtain ⟨i',j',_,_,h1',h2',e'⟩:=h';rw [e,e',hd i i' a h1 h1',hd j j' b h2 h2']
 | unt a b=>obtain ⟨i,j,_,_,h1,h2,e⟩:=h;obtain ⟨i',j',_,_,h1',h2',e'⟩:=h';rw [e,e',hd i i' a h1 h1',hd j j' b h2 h2']
theorem Es {α:Type}{l:List α}{a b:α}{k:Nat}(h:(l++[a])[k]? = some b):l[k]? = some b\/(k=l.length/\a=b):=by
 by_cases hk:k<l.length
 ·rw [qxA hk] at h;exact .inl h
 ·rw [List.getElem?_append_right (by omega)] at h
  have h0:k - l.length=0:=by
   have:=F7 h;simp at this;omega
  rw [h0] at h;exact .inr ⟨by omega,qkB h⟩
theorem Bk.snoc {L:List (Tp SI)}{fs:List Fm}{r:Tp SI}{f:Fm}(hb:Bk L fs)(hr:R1 fs L.length r f):Bk (L++[r]) (fs++[f]):=by
 have hl:=hb.1;refine ⟨by rw [qgA,qgA,hl];rfl,fun k r' f' h1 h2=>?_⟩;rcases Es h1 with h1 | ⟨e1,e2⟩
 ·have hk:=F7 h1;rcases Es h2 with h2 | ⟨e3,e4⟩
  ·exact (hb.2 k r' f' h1 h2).app (qgB _)
  ·omega
 ·rcases Es h2 with h2 | ⟨e3,e4⟩
  ·have:=F7 h2;omega
  ·subst e2;subst e4;rw [e1];exact hr.app (qgB _)
theorem Dif.snoc {fs:List Fm}{f:Fm}(h:Dif fs)(hf:∀ m:Nat,fs[m]?≠some f):Dif (fs++[f]):=by
 intro i j g hi hj;rcases Es hi with h1 | ⟨e1,e2⟩
 ·rcases Es hj with h2 | ⟨e3,e4⟩
  ·exact h i j g h1 h2
  ·exact absurd (e4 ▸ h1) (hf i)
 ·rcases Es hj with h2 | ⟨e3,e4⟩
  ·exact absurd (e2 ▸ h2) (hf j)
  ·omega
theorem Bk.nil:Bk [] []:=⟨rfl,fun k r f h _=>by simp at h⟩
theorem Dif.nil:Dif []:=fun i j f h _=>by simp at h
theorem Bk.at {L:List (Tp SI)}{fs:List Fm}(hb:Bk L fs){k:Nat}{f:Fm}(h:fs[k]? = some f):∃ r,L[k]? = some r/\R1 fs k r f:=by
 have hk:k<L.length:=by rw [hb.1];exact F7 h
 exact ⟨L[k],qwA hk,hb.2 k _ f (qwA hk) h⟩
theorem Bk.at' {L:List (Tp SI)}{fs:List Fm}(hb:Bk L fs){k:Nat}{r:Tp SI}(h:L[k]? = some r):∃ f,fs[k]? = some f/\R1 fs k r f:=by
 have hk:k<fs.length:=by rw [<- hb.1];exact F7 h
 exact ⟨fs[k],qwA hk,hb.2 k r _ h (qwA hk)⟩
theorem Bk.subs {L:List (Tp SI)}{fs:List Fm}(hb:Bk L fs):∀ {f g:Fm}{k:Nat},fs[k]? = some f->g∈f.sub->∃ i,i<=k/\fs[i]? = some g
 | .yes,g,k,h,hg=>by rw [qqA.mp hg];exact ⟨k,qgB _,h⟩
 | .lamp c,g,k,h,hg=>by rw [qqA.mp hg];exact ⟨k,qgB _,h⟩
 | .neg a,g,k,h,hg=>by
  rcases qnA.mp hg with e|hg
  ·rw [e];exact ⟨k,qgB _,h⟩
  ·obtain ⟨r,_,i,h1,h2,_⟩:=hb.at h;obtain ⟨j,h3,h4⟩:=hb.subs h2 hg;exact ⟨j,by omega,h4⟩
 | .next a,g,k,h,hg=>by
  rcases qnA.mp hg with e|hg
  ·rw [e];exact ⟨k,qgB _,h⟩
  ·obtain ⟨r,_,i,h1,h2,_⟩:=hb.at h;obtain ⟨j,h3,h4⟩:=hb.subs h2 hg;exact ⟨j,by omega,h4⟩
 | .and a b,g,k,h,hg=>by
  rcases qnA.mp hg with e|hg
  ·rw [e];exact ⟨k,qgB _,h⟩
  ·obtain ⟨r,_,i,i',h1,h1',h2,h2',_⟩:=hb.at h;rcases qmA.mp hg with hg|hg
   ·obtain ⟨j,h3,h4⟩:=hb.subs h2 hg;exact ⟨j,by omega,h4⟩
   ·obtain ⟨j,h3,h4⟩:=hb.subs h2' hg;exact ⟨j,by omega,h4⟩
 | .unt a b,g,k,h,hg=>by
  rcases qnA.mp hg with e|hg
  ·rw [e];exact ⟨k,qgB _,h⟩
  ·obtain ⟨r,_,i,i',h1,h1',h2,h2',_⟩:=hb.at h;rcases qmA.mp hg with hg|hg
   ·obtain ⟨j,h3,h4⟩:=hb.subs h2 hg;exact ⟨j,by omega,h4⟩
   ·obtain ⟨j,h3,h4⟩:=hb.subs h2' hg;exact ⟨j,by omega,h4⟩
theorem Ro (r:Tp SI):∀ (rows:List (Tp SI)) (i:Nat) (n:Int),Kl i rows r=some n->∃ j,n=((i+j:Nat):Int)/\rows[j]? = some r
 | [],i,n,h=>by cases h
 | a::rs,i,n,h=>by
  unfold Kl at h;by_cases e:a=r
  ·rw [if_pos e] at h;cases h;exact ⟨0,rfl,by rw [e];rfl⟩
  ·rw [if_neg e] at h;obtain ⟨j,h1,h2⟩:=Ro r rs (i+1) n h;refine ⟨j+1,?_,h2⟩;rw [h1]
   congr 1
   omega
theorem Pk (r:Tp SI):∀ (rows:List (Tp SI)) (i:Nat),Kl i rows r=none->∀ j:Nat,rows[j]?≠some r
 | [],i,h,j=>by simp
 | a::rs,i,h,j=>by
  unfold Kl at h;by_cases e:a=r
  ·rw [if_pos e] at h;cases h
  ·rw [if_neg e] at h
   cases j with
   | zero=>intro z;exact e (qkB z)
   | succ j=>exact Pk r rs (i+1) h j
theorem step {L:List (Tp SI)}{fs:List Fm}{r:Tp SI}{f:Fm}(hb:Bk L fs)(hd:Dif fs)(hr:R1 fs L.length r f)(hl:L.length<100000) :
  (∃ m:Nat,fs[m]? = some f/\DI L ⟨r.l⟩=some (L,(m:Int))) \/
  ((∀ m:Nat,fs[m]?≠some f)/\DI L ⟨r.l⟩=some (L++[r],(L.length:Int))/\Bk (L++[r]) (fs++[f])/\Dif (fs++[f])):=by
 have hz:sizeLine=16777216:=qpB;have hrow:DI L ⟨r.l⟩=match Kl 0 L r with|some n=>some (L,n)|none=>if L.length<sizeLine then some (L++[r],(L.length:Int)) else none:=rfl
 cases e:Kl 0 L r with
 | some n =>
  obtain ⟨j,h1,h2⟩:=Ro r L 0 n e;obtain ⟨g,h3,h4⟩:=hb.at' h2;rw [h4.fn hr] at h3;refine .inl ⟨j,h3,?_⟩;rw [hrow,e,h1,Nat.zero_add]
 | none =>
  have hn:=Pk r L 0 e
  have hf:∀ m:Nat,fs[m]?≠some f:=fun m hm=>by
   obtain ⟨r',h1,h2⟩:=hb.at hm;rw [h2.inj hd hr] at h1;exact hn m h1
  refine .inr ⟨hf,?_,hb.snoc hr,hd.snoc hf⟩;rw [hrow,e];exact if_pos (by omega)
def Got (L:List (Tp SI))(fs:List Fm)(f:Fm)(o:Option (List (Tp SI) × Int)):Prop :=
 ∃ (L':List (Tp SI)) (fs':List Fm) (k:Nat),o=some (L++L',(k:Int))/\Bk (L++L') (fs++fs')/\Dif (fs++fs')/\(fs++fs')[k]? = some f/\(∀ g∈fs',g∈f.sub)/\L'.length<=f.size /\
  ((∃ m:Nat,fs[m]? = some f)->L'=[]/\fs'=[])/\((∀ m:Nat,fs[m]?≠some f)->k+1=(L++L').length)
theorem fin {L L':List (Tp SI)}{fs fs':List Fm}{r:Tp SI}{f:Fm}(hb:Bk (L++L') (fs++fs'))(hd:Dif (fs++fs'))(hs:∀ g∈fs',g∈f.sub/\g.size<f.size)(hn:L'.length+1<=f.size)
  (hf:(∃ m:Nat,fs[m]? = some f)->L'=[]/\fs'=[]) (hr:R1 (fs++fs') (L++L').length r f) (hl:(L++L').length<100000):Got L fs f (DI (L++L') ⟨r.l⟩):=by
 rcases step hb hd hr hl with ⟨m,h1,h2⟩ | ⟨h1,h2,h3,h4⟩
 ·refine ⟨L',fs',m,h2,hb,hd,h1,fun g hg=>(hs g hg).1,by omega,hf,fun hno=>?_⟩;exfalso;by_cases hm:m<fs.length
  ·rw [qxA hm] at h1;exact hno m h1
  ·rw [List.getElem?_append_right (by omega)] at h1;have:=(hs f (quA h1)).2;omega
 ·refine ⟨L'++[r],fs'++[f],(L++L').length,by rw [h2,qdB],by rw [<- qdB,<- qdB];exact h3,by rw [<- qdB];exact h4,?_,?_,by rw [qgA];exact hn,?_,fun _=>by rw [<- qdB,qgA (as:=L++L')];rfl⟩
  ·rw [<- qdB,hb.1];simp
  ·intro g hg;rcases qmA.mp hg with hg|hg
   ·exact (hs g hg).1
   ·rw [qqA.mp hg];exact LN f
  ·rintro ⟨m,hm⟩;exact absurd (Dx hm) (h1 m)
theorem OP (n:Nat)(rows:List (Tp SI))(a:Nt):EH Ah (n+1) rows a=(Bq a).bind fun t=>(atI t.l 0).bind fun b=>(D8 b).bind fun w =>
   cond (decide (w = "lamp")) ((sisO t.l).bind fun l=>DI rows ⟨l⟩)
   ((Ah a).bind fun ps=>(CV (KM (EH Ah n)) ps.l (rows,[.s w])).bind fun z=>TF z):=rfl
theorem L9 {n:Nat}{w:Str}{l:List Nt}(hw:w ≠ "lamp")(rows:List (Tp SI)):EH Ah (n+1) rows (.tup (.txt w::l))=(CV (KM (EH Ah n)) l (rows,[.s w])).bind fun z=>TF z:=by
 rw [OP];simp only [Bq,AZ,at0,D8,decide_eq_false hw,cond_false,OG hw]
theorem lay_lamp {n:Nat}(c:Str)(rows:List (Tp SI)):EH Ah (n+1) rows (.tup [.txt "lamp",.txt c])=DI rows ⟨[.s "lamp",.s c]⟩:=by
 rw [OP];simp only [Bq,AZ,at0,D8,decide_true,cond_true]
 rfl
theorem Mo {lay:List (Tp SI)->Nt->Option (List (Tp SI) × Int)}{a:Nt}{s:List (Tp SI) × List SI}{z:List (Tp SI) × Int}(h:lay s.1 a=some z)(hl:s.2.length<=10):KM lay a s=some (.nx (z.1,s.2++[.i z.2])):=by
 have hz:sizeLine=16777216:=qpB;unfold KM;rw [h,AZ,if_pos (by omega)]
theorem fl_one {lay:List (Tp SI)->Nt->Option (List (Tp SI) × Int)}{a:Nt}{rows:List (Tp SI)}{w:Str}{z:List (Tp SI) × Int}(h:lay rows a=some z) :
  ((CV (KM lay) [a] (rows,[.s w])).bind fun z=>TF z)=DI z.1 ⟨[.s w,.i z.2]⟩:=by
 have e:=Mo (s:=(rows,[.s w])) h (by simp);show (((KM lay a (rows,[.s w])).bind fun fl=>_).bind _)=_;rw [e]
 rfl
theorem fl_two {lay:List (Tp SI)->Nt->Option (List (Tp SI) × Int)}{a b:Nt}{rows:List (Tp SI)}{w:Str}{z y:List (Tp SI) × Int}(h:lay rows a=some z)(h2:lay z.1 b=some y) :
  ((CV (KM lay) [a,b] (rows,[.s w])).bind fun z=>TF z)=DI y.1 ⟨[.s w,.i z.2,.i y.2]⟩:=by
 have e:=Mo (s:=(rows,[.s w])) h (by simp);have e2:=Mo (s:=(z.1,[.s w]++[.i z.2])) h2 (by simp);show (((KM lay a (rows,[.s w])).bind fun fl=>_).bind _)=_;rw [e];show (((KM lay b (z.1,[.s w]++[.i z.2])).bind fun fl=>_).bind _)=_;rw [e2]
 rfl
theorem nl:(("yes" : Str) ≠ "lamp" /\ ("not" : Str) ≠ "lamp" /\ ("next" : Str) ≠ "lamp")/\("and" : Str) ≠ "lamp" /\ ("until" : Str) ≠ "lamp" := by decide +kernel
theorem Js:∀ (n:Nat) (f:Fm) (L:List (Tp SI)) (fs:List Fm),f.dep<=n->Bk L fs->Dif fs->L.length+f.size<100000->Got L fs f (EH Ah n L f.nt)
 | 0,f,L,fs,hd,_,_,_=>absurd hd (by have:=f.dep_pos;omega)
 | n+1,f,L,fs,hdp,hb,hd,hl=>by
  have one:∀ (w:Str) (a f:Fm),w ≠ "lamp" -> f.sub=f::a.sub->f.size=a.size+1->a.dep<=n->L.length+f.size<100000 ->
    (∀ {fs k r},R1 fs k r f ↔ ∃ i:Nat,i<k/\fs[i]? = some a/\r=⟨[.s w,.i (i:Int)]⟩)->Got L fs f (EH Ah (n+1) L (.tup [.txt w,a.nt])):=fun w a f hw hsub hsz hdp hl hR=>by
   rw [L9 hw];obtain ⟨L1,fs1,k1,h1,h2,h3,h4,h5,h6,h7,h8⟩:=Js n a L fs hdp hb hd (by omega);rw [fl_one h1];refine fin (r:=⟨[.s w,.i (k1:Int)]⟩) h2 h3 (fun g hg=>⟨by rw [hsub];exact qsA _ (h5 g hg),?_⟩) (by omega) (fun ⟨m,hm⟩=>?_) (hR.mpr ⟨k1,?_,h4,rfl⟩) (by rw [qgA];omega)
   ·have:=CY (h5 g hg);omega
   ·obtain ⟨r,_,hr⟩:=hb.at hm;obtain ⟨i,_,hi,_⟩:=hR.mp hr;exact h7 ⟨i,hi⟩
   ·rw [h2.1];exact F7 h4
  have two:∀ (w:Str) (a b f:Fm),w ≠ "lamp" -> f.sub=f::(a.sub++b.sub)->f.size=a.size+b.size+1->a.dep<=n->b.dep<=n->L.length+f.size<100000 ->
    (∀ {fs k r},R1 fs k r f ↔ ∃ i j:Nat,i<k/\j<k/\fs[i]? = some a/\fs[j]? = some b/\r=⟨[.s w,.i (i:Int),.i (j:Int)]⟩)->Got L fs f (EH Ah (n+1) L (.tup [.txt w,a.nt,b.nt])):=fun w a b f hw hsub hsz hdp hdp2 hl hR=>by
   rw [L9 hw];obtain ⟨L1,fs1,k1,h1,h2,h3,h4,h5,h6,h7,h8⟩:=Js n a L fs hdp hb hd (by omega);obtain ⟨L2,fs2,k2,i1,i2,i3,i4,i5,i6,i7,i8⟩:=Js n b (L++L1) (fs++fs1) hdp2 h2 h3 (by rw [qgA];omega);rw [fl_two h1 i1];dsimp only;rw [qdB] at i2 i3 i4 ⊢;rw [qdB] at i2;have k1':(fs++(fs1++fs2))[k1]? = some a:=by rw [<- qdB];exact Dx h4
   refine fin (r:=⟨[.s w,.i (k1:Int),.i (k2:Int)]⟩) i2 i3 (fun g hg=>?_) (by rw [qgA];omega) (fun ⟨m,hm⟩=>?_) (hR.mpr ⟨k1,k2,?_,?_,k1',i4,rfl⟩) (by rw [qgA,qgA];omega)
   ·rcases qmA.mp hg with hg|hg
    ·exact ⟨by rw [hsub];exact qsA _ (List.mem_append_left _ (h5 g hg)),by have:=CY (h5 g hg);omega⟩
    ·exact ⟨by rw [hsub];exact qsA _ (qgC _ (i5 g hg)),by have:=CY (i5 g hg);omega⟩
   ·obtain ⟨r,_,hr⟩:=hb.at hm;obtain ⟨i,j,_,_,hi,hj,_⟩:=hR.mp hr;obtain ⟨e1,e2⟩:=h7 ⟨i,hi⟩;obtain ⟨e3,e4⟩:=i7 ⟨j,Dx hj⟩;rw [e1,e2,e3,e4];exact ⟨rfl,rfl⟩
   ·rw [i2.1];exact F7 k1'
   ·rw [i2.1];exact F7 i4
  have zero:∀ (r:Tp SI) (f:Fm),f.size=1->R1 fs L.length r f->L.length+1<100000->Got L fs f (DI L ⟨r.l⟩):=fun r f hs hr hl=>by
   have:=fin (L:=L) (L':=[]) (fs:=fs) (fs':=[]) (r:=r) (f:=f) (by simpa using hb) (by simpa using hd) (fun g hg=>nomatch hg) (by simp [hs]) (fun _=>⟨rfl,rfl⟩) (by simpa using hr) (by simp;omega)
   rwa [qeB] at this
  cases f with
  | yes =>
   show Got _ _ _ (EH Ah (n+1) L (.tup [.txt "yes"]));rw [L9 nl.1.1];exact zero ⟨[.s "yes"]⟩ .yes rfl rfl hl
  | lamp c =>
   show Got _ _ _ (EH Ah (n+1) L (.tup [.txt "lamp",.txt c]));rw [lay_lamp];exact zero ⟨[.s "lamp",.s c]⟩ (.lamp c) rfl rfl hl
  | neg a=>exact one "not" a (.neg a) nl.1.2.1 rfl rfl (by simp only [Fm.dep] at hdp;omega) hl Iff.rfl
  | next a=>exact one "next" a (.next a) nl.1.2.2 rfl rfl (by simp only [Fm.dep] at hdp;omega) hl Iff.rfl
  | and a b=>exact two "and" a b (.and a b) nl.2.1 rfl rfl (by simp only [Fm.dep] at hdp;omega) (by simp only [Fm.dep] at hdp;omega) hl Iff.rfl
  | unt a b=>exact two "until" a b (.unt a b) nl.2.2 rfl rfl (by simp only [Fm.dep] at hdp;omega) (by simp only [Fm.dep] at hdp;omega) hl Iff.rfl
inductive Rw (n:Nat):Tp SI->Prop where
 | yes:Rw n ⟨[.s "yes"]⟩
 | lamp (c:Str):Rw n ⟨[.s "lamp",.s c]⟩
 | one {w:Str}{i:Nat}:w = "not" \/ w = "next" -> i<n->Rw n ⟨[.s w,.i (i:Int)]⟩
 | two {w:Str}{i j:Nat}:w = "and" \/ w = "until" -> i<n->j<n->Rw n ⟨[.s w,.i (i:Int),.i (j:Int)]⟩
theorem GR (w:Str)(l:List SI):atI (SI.s w::l) (0:Int)=some (SI.s w):=BJ (j:=0) rfl
theorem LP (a b:SI)(l:List SI):atI (a::b::l) (1:Int)=some b:=BJ (j:=1) rfl
theorem at_s2 (a b c:SI)(l:List SI):atI (a::b::c::l) (2:Int)=some c:=BJ (j:=2) rfl
def Lc (rows:List (Tp SI)):Prop:=∀ k r,rows[k]? = some r->Rw k r
def wd (r:Tp SI):Str:=((r.l.head?).bind asS).getD ""
theorem Rw.word {n:Nat}{r:Tp SI}(h:Rw n r):∃ l,r=⟨.s (wd r)::l⟩:=by
 cases h<;>exact ⟨_,rfl⟩
theorem nw:∀ w:Str,w = "not" \/ w = "next" -> w ≠ "yes" /\ w ≠ "lamp" /\ w ≠ "and" /\ w ≠ "until" := by
 rintro w (rfl|rfl)<;>exact ⟨by decide +kernel,by decide +kernel,by decide +kernel,by decide +kernel⟩
theorem nw2:∀ w:Str,w = "and" \/ w = "until" -> w ≠ "yes" /\ w ≠ "lamp" /\ w ≠ "not" /\ w ≠ "next" := by
 rintro w (rfl|rfl)<;>exact ⟨by decide +kernel,by decide +kernel,by decide +kernel,by decide +kernel⟩
def g (l:List Bool)(p:Nat):Bool:=l.getD p false
theorem at_g {l:List Bool}{p:Nat}(h:p<l.length):atI l (p:Int)=some (g l p):=BJ (by unfold g;simp [h])
def isU (rows:List (Tp SI))(k:Nat):Bool:=decide (wd (rows.getD k ⟨[]⟩) = "until")
def hs (rows:List (Tp SI))(n:Nat):List Int:=((List.range n).filter (isU rows)).map fun (k:Nat)=>(k:Int)
theorem R3 (rows:List (Tp SI)):BE 0 rows=(List.range rows.length).map fun (k:Nat)=>((k:Int),rows.getD k ⟨[]⟩):=by
 refine List.ext_getElem? fun i=>?_;rw [DK,qzA];by_cases h:i<rows.length
 ·simp [h]
 ·rw [qyA (by omega),qyA (by rw [qjA];omega)]
  rfl
theorem Kv (rows:List (Tp SI))(hb:Lc rows):EW rows=some (hs rows rows.length):=by
 refine OK.eq ?_;unfold EW;simp only [qqB,AZ,AJ];refine Jt (c:=fun p:Int × Tp SI=>decide (wd p.2 = "until")) (g:=fun p=>p.1) (fun p hp=>?_) (fun _ _ _=>rfl) ?_
 ·obtain ⟨i,hi⟩:=List.mem_iff_getElem?.mp hp;rw [DK] at hi;obtain ⟨r,hr,rfl⟩:=qjB.mp hi;obtain ⟨l,el⟩:=(hb i r hr).word
  have e1:atI r.l (0:Int)=some (.s (wd r)):=by
   rw [el];exact GR _ _
  simp only [e1,asS,AZ]
 ·rw [R3,List.filter_map,List.map_map]
  rfl
theorem sortZ_eq {ys zs:List Int}(hp:zs.Perm ys)(hz:zs.Pairwise (· <= ·)):JD ys=zs:=(Ot hp hz).symm
theorem Sk {ys:List Int}{cs:List Nat}(hc:cs.Pairwise (· < ·))(h:∀ y,y∈ys ↔ ∃ c∈cs,y=((c:Nat):Int)):JD (DT ys)=cs.map (fun (c:Nat)=>(c:Int))/\(DT ys).length=cs.length:=by
 have nd:(cs.map (fun (c:Nat)=>(c:Int))).Nodup:=by
  rw [List.nodup_iff_pairwise_ne];exact List.Pairwise.map _ (fun a b q e=>absurd q (by omega)) hc
 have hp:(cs.map (fun (c:Nat)=>(c:Int))).Perm (DT ys):=(List.perm_ext_iff_of_nodup nd (KP ys)).mpr fun y=>by
  rw [mem_dedA,h y,qoA];exact ⟨fun ⟨c,hc,e⟩=>⟨c,hc,e.symm⟩,fun ⟨c,hc,e⟩=>⟨c,hc,e.symm⟩⟩
 refine ⟨sortZ_eq hp (List.Pairwise.map _ (fun a b q=>by omega) hc),?_⟩;rw [<- hp.length_eq,qfA]
def nxt (k:Nat):Tp SI:=⟨[.s "next",.i (k:Int)]⟩
def isW (rows:List (Tp SI))(k:Nat):Bool:=isU rows k || decide (nxt k∈rows)
def ws (rows:List (Tp SI))(n:Nat):List Nat:=(List.range n).filter (isW rows)
theorem ws_pw (rows:List (Tp SI))(n:Nat):(ws rows n).Pairwise (· < ·):=List.pairwise_lt_range.sublist List.filter_sublist
theorem wsN_len (rows:List (Tp SI))(n:Nat):(ws rows n).length<=n:=by
 have:=List.length_filter_le (isW rows) (List.range n);rw [qjA] at this;exact this
theorem mem_ws {rows:List (Tp SI)}{n k:Nat}:k∈ws rows n ↔ k<n/\isW rows k=true:=by unfold ws;rw [qpA,qtA]
theorem Rw.next {n:Nat}{r:Tp SI}(h:Rw n r)(hw:wd r = "next"):∃ i,i<n/\r=nxt i:=by
 have ax:∀ {x y:Str},decide (x=y)=false->x=y->False:=fun h e=>of_decide_eq_false h e
 cases h with
 | yes=>exact (ax (x := "yes") (y := "next") (by decide +kernel) hw).elim
 | lamp c=>exact (ax (x := "lamp") (y := "next") (by decide +kernel) hw).elim
 | @one w i hw' hi =>
  have e:w = "next" := hw;subst e;exact ⟨i,hi,rfl⟩
 | @two w i j hw' hi hj=>exact absurd hw (nw2 w hw').2.2.2
theorem nxt_lt {rows:List (Tp SI)}(hb:Lc rows){k:Nat}(h:nxt k∈rows):k<rows.length:=by
 obtain ⟨i,hi⟩:=List.mem_iff_getElem?.mp h;obtain ⟨j,hj,e⟩:=(hb i _ hi).next rfl;have hl:=(qvA.mp hi).1;unfold nxt at e;injection e with e
 simp only [List.cons.injEq,SI.i.injEq,and_true,true_and] at e;omega
theorem IJ (rows:List (Tp SI))(hb:Lc rows)(hl:rows.length<=900)(hw:(ws rows rows.length).length<64):DG rows=some ((ws rows rows.length).map fun (k:Nat)=>(k:Int)):=by
 refine OK.eq ?_;unfold DG;simp only [qqB,AZ,AJ,Kv rows hb]
 have word:∀ r∈rows,∃ k,Rw k r:=fun r hr=>by
  obtain ⟨i,hi⟩:=List.mem_iff_getElem?.mp hr;exact ⟨i,hb i r hi⟩
 refine AD (Jt (c:=fun r:Tp SI=>decide (wd r = "next")) (g:=fun r:Tp SI=>(((r.l[1]?).bind asI).getD 0)) (fun r hr=>?_) (fun r hr hc=>?_) ?_)
 ·obtain ⟨k,hk⟩:=word r hr;obtain ⟨l,el⟩:=hk.word
  have e1:atI r.l (0:Int)=some (.s (wd r)):=by
   rw [el];exact GR _ _
  simp only [e1,asS,AZ]
 ·obtain ⟨k,hk⟩:=word r hr;obtain ⟨i,hi,e⟩:=hk.next (of_decide_eq_true hc);subst e;unfold nxt;simp only [LP,asI,AZ]
  rfl
 ·obtain ⟨e1,e2⟩:=Sk (ys:=hs rows rows.length++(rows.filter fun r=>decide (wd r = "next")).map fun r:Tp SI=>(((r.l[1]?).bind asI).getD 0)) (ws_pw rows rows.length) fun y=>by
   rw [qmA];constructor
   ·rintro (h|h)
    ·unfold hs at h;obtain ⟨k,hk,rfl⟩:=qoA.mp h;obtain ⟨h1,h2⟩:=qpA.mp hk;exact ⟨k,mem_ws.mpr ⟨qtA.mp h1,by unfold isW;rw [h2];rfl⟩,rfl⟩
    ·obtain ⟨r,hr,rfl⟩:=qoA.mp h;obtain ⟨h1,h2⟩:=qpA.mp hr;obtain ⟨k,hk⟩:=word r h1;obtain ⟨i,hi,e⟩:=hk.next (of_decide_eq_true h2);subst e;exact ⟨i,mem_ws.mpr ⟨nxt_lt hb h1,by unfold isW;rw [decide_eq_true h1,Bool.or_true]⟩,rfl⟩
   ·rintro ⟨c,hc,rfl⟩;obtain ⟨h1,h2⟩:=mem_ws.mp hc;unfold isW at h2;rw [Bool.or_eq_true] at h2;rcases h2 with h2|h2
    ·exact .inl (qoA.mpr ⟨c,qpA.mpr ⟨qtA.mpr h1,h2⟩,rfl⟩)
    ·exact .inr (qoA.mpr ⟨nxt c,qpA.mpr ⟨of_decide_eq_true h2,decide_eq_true rfl⟩,rfl⟩)
  have l1:=wsN_len rows rows.length
  have l2:(hs rows rows.length).length<=rows.length:=by
   unfold hs;have:=List.length_filter_le (isU rows) (List.range rows.length);rw [qjA] at this;rw [qfA];exact this
  have l3:((rows.filter fun r=>decide (wd r = "next")).map fun r:Tp SI=>(((r.l[1]?).bind asI).getD 0)).length<=rows.length:=by
   rw [qfA];exact List.length_filter_le _ _
  refine ⟨_,if_pos ⟨by omega,by omega,by rw [e2];omega⟩,e1⟩
theorem getM_key {l:List (Int × Bool)}{k:Int}(h:k∈l.map (·.1)):∃ b,Lb l k=some b:=by
 induction l with
 | nil=>cases h
 | cons q l ih =>
  obtain ⟨j,b⟩:=q;unfold Lb;by_cases e:j=k
  ·rw [if_pos e];exact ⟨b,rfl⟩
  ·rw [if_neg e];refine ih ?_;rcases qnA.mp h with h|h
   ·exact absurd h.symm e
   ·exact h
theorem isW_u {rows:List (Tp SI)}{k:Nat}{r:Tp SI}(hr:rows[k]? = some r)(hw:wd r = "until"):isW rows k=true:=by
 unfold isW isU;rw [qaB,hr];show (decide (wd r = "until") || _)=true;rw [decide_eq_true hw]
 rfl
theorem isW_n {rows:List (Tp SI)}{k:Nat}(h:nxt k∈rows):isW rows k=true:=by
 unfold isW;rw [decide_eq_true h,Bool.or_true]
theorem v_ly:decide (("lamp" : Str) = "yes")=false:=by decide +kernel
theorem v_yn:decide (("yes" : Str) = "not")=false:=by decide +kernel
theorem v_ya:decide (("yes" : Str) = "and")=false:=by decide +kernel
theorem v_yx:decide (("yes" : Str) = "next")=false:=by decide +kernel
theorem v_yu:decide (("yes" : Str) = "until")=false:=by decide +kernel
theorem v_ny:decide (("not" : Str) = "yes")=false:=by decide +kernel
theorem v_nl:decide (("not" : Str) = "lamp")=false:=by decide +kernel
theorem v_xy:decide (("next" : Str) = "yes")=false:=by decide +kernel
theorem v_xl:decide (("next" : Str) = "lamp")=false:=by decide +kernel
theorem v_xn:decide (("next" : Str) = "not")=false:=by decide +kernel
theorem v_xa:decide (("next" : Str) = "and")=false:=by decide +kernel
theorem v_ay:decide (("and" : Str) = "yes")=false:=by decide +kernel
theorem v_al:decide (("and" : Str) = "lamp")=false:=by decide +kernel
theorem v_an:decide (("and" : Str) = "not")=false:=by decide +kernel
theorem v_uy:decide (("until" : Str) = "yes")=false:=by decide +kernel
theorem v_ul:decide (("until" : Str) = "lamp")=false:=by decide +kernel
theorem v_un:decide (("until" : Str) = "not")=false:=by decide +kernel
theorem v_ua:decide (("until" : Str) = "and")=false:=by decide +kernel
theorem v_ux:decide (("until" : Str) = "next")=false:=by decide +kernel
theorem dT (w:Str):decide (w=w)=true:=decide_eq_true rfl
def ix (r:Tp SI)(k:Nat):Nat:=(((r.l[k]?).bind asI).getD 0).toNat
def lp (r:Tp SI):Str:=((r.l[1]?).bind asS).getD ""
def tr (lit:Str)(f:Nat->Bool)(v:List Bool)(k:Nat)(r:Tp SI):Bool :=
 cond (decide (wd r = "yes")) true (cond (decide (wd r = "lamp")) (inS (lp r) lit) (cond (decide (wd r = "not")) (!g v (ix r 1)) (cond (decide (wd r = "and")) (g v (ix r 1) && g v (ix r 2)) (cond (decide (wd r = "next")) (f (ix r 1)) (g v (ix r 2) || (g v (ix r 1) && f k))))))
section
variable (lit:Str)(f:Nat->Bool)(v:List Bool)(k:Nat)
theorem tr_yes:tr lit f v k ⟨[.s "yes"]⟩=true:=by
 show cond (decide (("yes" : Str) = "yes")) _ _=_;rw [dT];rfl
theorem tr_lamp (c:Str):tr lit f v k ⟨[.s "lamp",.s c]⟩=inS c lit:=by
 show cond (decide (("lamp" : Str) = "yes")) _ (cond (decide (("lamp" : Str) = "lamp")) _ _)=_;rw [v_ly,dT];rfl
theorem tr_not (i:Nat):tr lit f v k ⟨[.s "not",.i (i:Int)]⟩ = !g v i:=by
 show cond (decide (("not" : Str) = "yes")) _ (cond (decide (("not" : Str) = "lamp")) _ (cond (decide (("not" : Str) = "not")) _ _))=_;rw [v_ny,v_nl,dT];rfl
theorem tr_and (i j:Nat):tr lit f v k ⟨[.s "and",.i (i:Int),.i (j:Int)]⟩=(g v i && g v j):=by
 show cond (decide (("and" : Str) = "yes")) _ (cond (decide (("and" : Str) = "lamp")) _ (cond (decide (("and" : Str) = "not")) _ (cond (decide (("and" : Str) = "and")) _ _)))=_;rw [v_ay,v_al,v_an,dT];rfl
theorem tr_next (i:Nat):tr lit f v k ⟨[.s "next",.i (i:Int)]⟩=f i:=by
 show cond (decide (("next" : Str) = "yes")) _ (cond (decide (("next" : Str) = "lamp")) _ (cond (decide (("next" : Str) = "not")) _ (cond (decide (("next" : Str) = "and")) _ (cond (decide (("next" : Str) = "next")) _ _))))=_;rw [v_xy,v_xl,v_xn,v_xa,dT];rfl
theorem tr_until (i j:Nat):tr lit f v k ⟨[.s "until",.i (i:Int),.i (j:Int)]⟩=(g v j || (g v i && f k)):=by
 show cond (decide (("until" : Str) = "yes")) _ (cond (decide (("until" : Str) = "lamp")) _ (cond (decide (("until" : Str) = "not")) _ (cond (decide (("until" : Str) = "and")) _ (cond (decide (("until" : Str) = "next")) _ _))))=_;rw [v_uy,v_ul,v_un,v_ua,v_ux];rfl
end
def rw_ (rows:List (Tp SI))(k:Nat):Tp SI:=rows.getD k ⟨[]⟩
def vw (rows:List (Tp SI))(lit:Str)(f:Nat->Bool):Nat->List Bool
 | 0=>[]
 | k+1=>vw rows lit f k++[tr lit f (vw rows lit f k) k (rw_ rows k)]
theorem MY (rows:List (Tp SI))(lit:Str)(f:Nat->Bool):∀ k,(vw rows lit f k).length=k
 | 0=>rfl
 | k+1=>by
  show (vw rows lit f k++_).length=_;rw [qgA,MY rows lit f k]
  rfl
def fm (l:List (Int × Bool))(k:Nat):Bool:=(Lb l (k:Int)).getD false
theorem fm_get {rows:List (Tp SI)}{l:List (Int × Bool)}(hm:l.map (·.1)=(ws rows rows.length).map (fun (k:Nat)=>(k:Int))){k:Nat}(hk:k<rows.length)(hw:isW rows k=true):Lb l (k:Int)=some (fm l k):=by
 obtain ⟨b,e⟩:=getM_key (l:=l) (k:=(k:Int)) (by rw [hm];exact qoA.mpr ⟨k,mem_ws.mpr ⟨hk,hw⟩,rfl⟩);unfold fm;rw [e]
 rfl
theorem putM_app {l:List (Int × Bool)}{k:Int}{a:Bool}(h:k ∉ l.map (·.1)):Qo l k a=l++[(k,a)]:=by
 unfold Qo;rw [if_neg];intro q;obtain ⟨x,hx,e⟩:=List.any_eq_true.mp q;exact h (qoA.mpr ⟨x,hx,of_decide_eq_true e⟩)
theorem Oa:∀ (l acc:List (Int × Bool)),((acc++l).map (·.1)).Nodup->l.foldl (fun m q=>Qo m q.1 q.2) acc=acc++l
 | [],acc,_=>by simp
 | q::l,acc,h=>by
  have hq:q.1 ∉ acc.map (·.1):=by
   rw [qcB,qfB] at h;exact fun z=>h.2.2 _ z _ (by simp) rfl
  rw [qjC,putM_app hq,Oa l (acc++[(q.1,q.2)]) (by rw [qdB];exact h),qdB]
  rfl
theorem Ly:∀ l:List (Int × Bool),(l.map (·.1)).zip (l.map (·.2))=l
 | []=>rfl
 | q::l=>by rw [qbB,qbB,List.zip_cons_cons,Ly l]
theorem ws_nodup (rows:List (Tp SI))(n:Nat):((ws rows n).map (fun (k:Nat)=>(k:Int))).Nodup:=by
 rw [List.nodup_iff_pairwise_ne];exact List.Pairwise.map _ (fun a b q e=>absurd q (by omega)) (ws_pw rows n)
theorem truth_eq {rows:List (Tp SI)}{lit:Str}{l:List (Int × Bool)}(hm:l.map (·.1)=(ws rows rows.length).map (fun (k:Nat)=>(k:Int))){k:Nat}{r:Tp SI}{v:List Bool}(hr:rows[k]? = some r)(hw:Rw k r)(hv:v.length=k):Dc rows (k:Int) lit ⟨l⟩ v=some (tr lit (fm l) v k r):=by
 have hk:=(qvA.mp hr).1;have e0:atI rows (k:Int)=some r:=BJ hr;refine OK.eq ?_;unfold Dc;simp only [qqB,AZ,AJ,e0];have at_:∀ j,j<k->atI v (j:Int)=some (g v j):=fun j hj=>at_g (by omega)
 cases hw with
 | yes =>
  rw [tr_yes];simp only [GR,asS,AZ,v_yl,v_yn,v_ya,v_yx,v_yu,cond_false];exact AB rfl
 | lamp c =>
  rw [tr_lamp];simp only [GR,LP,asS,AZ];exact Al (fun _=>AB rfl) fun h=>absurd trivial (of_decide_eq_false h)
 | @one w j hw hj =>
  rcases hw with rfl|rfl
  ·rw [tr_not];simp only [GR,LP,asS,asI,AZ,v_nl,cond_false,at_ j hj];exact Al (fun _=>AB rfl) fun h=>absurd trivial (of_decide_eq_false h)
  ·rw [tr_next];simp only [GR,LP,asS,asI,AZ,v_xl,v_xn,v_xa,cond_false];exact Al (fun _=>⟨_,fm_get hm (by omega) (isW_n (quA hr)),rfl⟩) fun h=>absurd trivial (of_decide_eq_false h)
 | @two w j i hw hj hi =>
  rcases hw with rfl|rfl
  ·rw [tr_and];simp only [GR,LP,at_s2,asS,asI,AZ,v_al,v_an,cond_false,at_ j hj,at_ i hi];refine Al (fun _=>Al (fun h=>AB ?_) fun h=>AB ?_) fun h=>absurd trivial (of_decide_eq_false h)
   ·rw [h];rfl
   ·rw [h];rfl
  ·rw [tr_until];simp only [GR,LP,at_s2,asS,asI,AZ,v_ul,v_un,v_ua,v_ux,cond_false,at_ j hj,at_ i hi];refine Al (fun _=>Al (fun h=>AB ?_) fun h=>Al (fun h2=>⟨_,fm_get hm hk (isW_u hr rfl),?_⟩) fun h2=>AB ?_) fun h=>absurd trivial (of_decide_eq_false h)
   ·rw [h];rfl
   ·rw [h,h2];rfl
   ·rw [h,h2];rfl
theorem view_eq (rows:List (Tp SI))(hb:Lc rows)(hl:rows.length<=900)(lit:Str)(l:List (Int × Bool))(hm:l.map (·.1)=(ws rows rows.length).map (fun (k:Nat)=>(k:Int))):Co rows lit ⟨l⟩=some ⟨vw rows lit (fm l) rows.length⟩:=by
 have hs:sizeLine=16777216:=qpB;refine OK.eq ?_;unfold Co;simp only [qqB,AZ,AJ];refine AD (Jv (n:=rows.length) (by omega) (by omega) (by omega) ?_);refine AD (FB (fun i (s:List Bool)=>s=vw rows lit (fm l) i) rfl (fun i a s ha h1=>?_) fun s h1=>AB (by rw [HP] at h1;rw [h1]));obtain ⟨hi,rfl⟩:=Qf ha;obtain ⟨r,hr⟩:∃ r,rows[i]? = some r:=⟨_,qwA hi⟩;subst h1;rw [truth_eq hm hr (hb i r hr) (MY ..)];refine ok_bs (AD (Jh (by rw [MY];omega) (AB ⟨_,rfl,?_⟩)))
 have e:rw_ rows i=r:=by
  unfold rw_;rw [qaB,hr]
  rfl
 show _=vw rows lit (fm l) i++[tr lit (fm l) (vw rows lit (fm l) i) i (rw_ rows i)];rw [e]
theorem look_eq (rows:List (Tp SI))(hb:Lc rows)(hl:rows.length<=900)(h5:(ws rows rows.length).length<64)(lit:Str)(l:List (Int × Bool))(hm:l.map (·.1)=(ws rows rows.length).map (fun (k:Nat)=>(k:Int))):Gm rows lit ⟨l.map (·.2)⟩=some ⟨vw rows lit (fm l) rows.length⟩:=by
 have nd:(l.map (·.1)).Nodup:=by rw [hm];exact ws_nodup _ _
 have hz:Of (l.map (·.1)) (l.map (·.2))=some ⟨l⟩:=by
  have hlen:l.length<=63:=by
   have:=congrArg List.length hm;rw [qfA,qfA] at this;omega
  unfold Of;rw [if_pos ⟨by rw [qfA,qfA],by rw [qfA];omega⟩,Ly,Oa l [] (by simpa using nd)]
  rfl
 refine OK.eq ?_;unfold Gm;simp only [qqB,AZ,AJ,IJ rows hb hl h5];rw [<- hm,hz];exact ok_bs ⟨_,view_eq rows hb hl lit l hm,rfl⟩
def ez (rows:List (Tp SI))(v:List Bool)(k:Nat):Bool:=(C6 rows (k:Int) ⟨v⟩).getD false
structure Un (rows:List (Tp SI))(v:List Bool)(k:Nat)(i j:Nat)(a b:Bool):Prop where
 r:rows[k]? = some ⟨[.s "until",.i (i:Int),.i (j:Int)]⟩
 a:v[k]? = some a
 b:v[j]? = some b
theorem un_of {rows:List (Tp SI)}{v:List Bool}(hb:Lc rows)(hv:v.length=rows.length){k:Nat}(hk:k<rows.length)(hu:isU rows k=true):∃ i j a b,Un rows v k i j a b:=by
 have hr:rows[k]? = some (rows.getD k ⟨[]⟩):=by simp [hk]
 have hu:=of_decide_eq_true hu;have h:=hb k _ hr;generalize rows.getD k ⟨[]⟩=r at hr hu h;have ax:∀ {x y:Str},decide (x=y)=false->x=y->False:=fun h e=>of_decide_eq_false h e
 cases h with
 | yes=>exact (ax (x := "yes") (y := "until") (by decide +kernel) hu).elim
 | lamp c=>exact (ax (x := "lamp") (y := "until") (by decide +kernel) hu).elim
 | @one w i hw hi=>exact absurd hu (nw w hw).2.2.2
 | @two w i j hw hi hj =>
  have hw':w = "until" := hu;subst hw';exact ⟨i,j,_,_,hr,qwA (by omega),qwA (by omega)⟩
theorem Un.ez {rows:List (Tp SI)}{v:List Bool}{k i j:Nat}{a b:Bool}(u:Un rows v k i j a b):C6 rows (k:Int) ⟨v⟩=some (!a || b):=by
 unfold C6;simp only [qqB,AZ,AJ,BJ u.r,BJ u.a,BJ u.b,at_s2,asI];cases a<;>cases b<;>rfl
theorem Un.ez' {rows:List (Tp SI)}{v:List Bool}{k i j:Nat}{a b:Bool}(u:Un rows v k i j a b):My.ez rows v k=(!a || b):=by
 unfold My.ez;rw [u.ez]
 rfl
def told (rows:List (Tp SI))(v:List Bool)(n:Nat):List Int:=((BE 0 (hs rows n)).filter fun q=>ez rows v q.2.toNat).map fun q=>q.1
theorem eased_eq (rows:List (Tp SI))(hb:Lc rows)(v:Tp Bool)(hv:v.l.length=rows.length):FP rows v=some ⟨told rows v.l rows.length⟩:=by
 refine OK.eq ?_;unfold FP;simp only [qqB,AZ,AJ,Kv rows hb];refine AD (Jt (c:=fun q:Int × Int=>ez rows v.l q.2.toNat) (g:=fun q=>q.1) (fun q hq=>?_) (fun _ _ _=>rfl) (AB rfl));obtain ⟨i,hi⟩:=List.mem_iff_getElem?.mp hq;rw [DK] at hi;obtain ⟨x,hx,rfl⟩:=qjB.mp hi;have hm:=quA hx;unfold hs at hm;obtain ⟨k,hk,rfl⟩:=qoA.mp hm;obtain ⟨hk1,hk2⟩:=qpA.mp hk;obtain ⟨i',j,a,b,u⟩:=un_of (v:=v.l) hb hv (qtA.mp hk1) hk2;show C6 rows (k:Int) ⟨v.l⟩=some (ez rows v.l (k:Int).toNat);rw [u.ez,qrB,u.ez']
theorem TH (rows:List (Tp SI))(hb:Lc rows)(hl:rows.length<=900)(h5:(ws rows rows.length).length<64)(v:Tp Bool)(hv:v.l.length=rows.length):CM rows v=some ⟨(ws rows rows.length).map fun k=>v.l.getD k false⟩:=by
 refine OK.eq ?_;unfold CM;simp only [qqB,AZ,AJ,IJ rows hb hl h5];refine AD (Qu (g:=fun z:Int=>v.l.getD z.toNat false) (fun z hz=>?_) (AB ?_))
 ·obtain ⟨k,hk,rfl⟩:=qoA.mp hz;have:=(mem_ws.mp hk).1;exact BJ (by rw [qrB];simp [show k<v.l.length by omega])
 ·rw [List.map_map]
  rfl
def tx (l:List Nat):Str:=⟨l.toArray⟩
theorem QT (l:List Nat):(tx l).cps.toList=l:=rfl
theorem tx_inj {a b:List Nat}(h:tx a=tx b):a=b:=by
 have:=congrArg (fun x:Str=>x.cps.toList) h;exact this
theorem tx_app (l:List Nat)(c:Nat):tx l++one c=tx (l++[c]):=by
 apply Re;rw [cps_app,QT,QT]
 rfl
structure TolM (x:Str)(R:List Str):Prop where
 l:R.length=2 ^ x.length
 s:∀ y∈R,y.cps.toList.Sublist x.cps.toList
 p:R.Pairwise fun a b=>a.cps.toList<b.cps.toList
theorem all_ok (x:Str)(hx:Mom x)(h8:x.length<=5):OK (BZ x) (TolM x):=by
 have hs:sizeLine=16777216:=qpB;have pos:∀ i,i<=5->2 ^ i<=32:=fun i hi=>qhB (Nat.pow_le_pow_right (by decide) hi) (by decide);have hl:x.cps.toList.length=x.length:=rfl;unfold BZ;simp only [qqB,AZ,AJ];rw [Sf];refine AD (FB (fun i (s:List Str)=>∃ fs:List (List Nat),s=fs.map tx/\fs.length=2 ^ i/\(∀ y∈fs,y.Sublist (x.cps.toList.take i))/\fs.Nodup) ⟨[[]],rfl,rfl,fun y hy=>by rw [qqA.mp hy];exact List.nil_sublist _,by simp⟩ (fun i a s ha hI=>?_) fun s hI=>?_)
 ·obtain ⟨fs,rfl,f1,f2,f3⟩:=hI;rw [qzA] at ha;obtain ⟨c,hc,rfl⟩:=qjB.mp ha;have hi:i<x.length:=(qvA.mp hc).1;have hp:=pos i (by omega);have ht:x.cps.toList.take (i+1)=x.cps.toList.take i++[c]:=by rw [List.take_add_one,hc];rfl
  have nc:c ∉ x.cps.toList.take i:=fun hm=>by
   have h2:(x.cps.toList.take (i+1)).Pairwise (· < ·):=hx.pw.sublist (List.take_sublist _ _);rw [ht] at h2;exact qiB _ ((List.pairwise_append.mp h2).2.2 c hm c qrA)
  refine AD (Qu (g:=fun m=>m++one c) (fun m hm=>?_) (AD (ok_catL (by rw [qfA,qfA,qfA];omega) (AB ⟨_,rfl,fs++fs.map (·++[c]),?_,?_,?_,?_⟩))))
  ·obtain ⟨f,hf,rfl⟩:=qoA.mp hm;refine if_pos ?_;have:=(f2 f hf).length_le;rw [qkA] at this;show f.length+1<=_;omega
  ·rw [qcB,List.map_map,List.map_map]
   congr 1
   exact List.map_congr_left fun f _=>tx_app f c
  ·rw [qgA,qfA,f1,Nat.pow_succ];omega
  ·intro y hy;rw [ht];rcases qmA.mp hy with hy|hy
   ·exact (f2 y hy).trans (List.sublist_append_left _ _)
   ·obtain ⟨z,hz,rfl⟩:=qoA.mp hy;exact (f2 z hz).append_right [c]
  ·rw [qfB];refine ⟨f3,?_,fun y hy z hz=>?_⟩
   ·rw [List.nodup_iff_pairwise_ne] at f3 ⊢;exact List.Pairwise.map _ (fun a b q e=>q (List.append_cancel_right e)) f3
   ·rintro rfl;obtain ⟨z,hz,rfl⟩:=qoA.mp hz;exact nc ((f2 _ hy).subset (qgC _ qrA))
 ·obtain ⟨fs,rfl,f1,f2,f3⟩:=hI;rw [qfA,hl] at f1 f2;have hp:=pos x.length h8;refine ⟨_,if_pos (by rw [qfA];omega),by rw [(Bf _).length_eq,qfA];exact f1,fun y hy=>?_,?_⟩
  ·obtain ⟨z,hz,rfl⟩:=qoA.mp ((Bf _).mem_iff.mp hy);exact (f2 z hz).trans (List.take_sublist _ _)
  ·have nd:(FU (fs.map tx)).Pairwise (· ≠ ·):=by
    rw [<- List.nodup_iff_pairwise_ne,(Bf _).nodup_iff,List.nodup_iff_pairwise_ne];rw [List.nodup_iff_pairwise_ne] at f3;exact List.Pairwise.map _ (fun a b q e=>q (tx_inj e)) f3
   have pw:(FU (fs.map tx)).Pairwise fun a b=>leS a b=true:=List.pairwise_mergeSort GL Il _;refine List.Pairwise.imp ?_ (pw.and nd);rintro a b ⟨h1,h2⟩;have h1:=leS_iff.mp h1;refine Decidable.byContradiction fun q=>h2 ?_;exact KI (leS_iff.mpr h1) (leS_iff.mpr (List.not_lt.mp q))
def ac:Nat->List (List Bool)
 | 0=>[[]]
 | n+1=>(ac n).map (false::·)++(ac n).map (true::·)
theorem Ni:∀ n,(ac n).length=2 ^ n
 | 0=>rfl
 | n+1=>by
  show ((ac n).map _++(ac n).map _).length=_;rw [qgA,qfA,qfA,Ni n,Nat.pow_succ];omega
theorem Mr:∀ (n:Nat) (l:List Bool),l∈ac n ↔ l.length=n
 | 0,l=>by
  show l∈[[]] ↔ _;rw [qqA,List.length_eq_zero_iff]
 | n+1,l=>by
  show l∈(ac n).map _++(ac n).map _ ↔ _;rw [qmA,qoA,qoA];constructor
  ·rintro (⟨x,hx,rfl⟩ | ⟨x,hx,rfl⟩)<;>rw [qhA,(Mr n x).mp hx]
  ·intro h
   cases l with
   | nil=>cases h
   | cons b l =>
    have hl:l∈ac n:=(Mr n l).mpr (by rw [qhA] at h;omega);cases b
    ·exact .inl ⟨l,hl,rfl⟩
    ·exact .inr ⟨l,hl,rfl⟩
theorem ac_nd:∀ n,(ac n).Nodup
 | 0=>by show ([[]]:List (List Bool)).Nodup;simp
 | n+1=>by
  show ((ac n).map _++(ac n).map _).Nodup;have ih:=ac_nd n;rw [qfB];refine ⟨List.Pairwise.map _ (fun a b q e=>q (qbC e).2) ih,List.Pairwise.map _ (fun a b q e=>q (qbC e).2) ih,fun a ha b hb e=>?_⟩;obtain ⟨x,_,rfl⟩:=qoA.mp ha;obtain ⟨y,_,rfl⟩:=qoA.mp hb;exact Bool.noConfusion (qbC e).1
theorem Q6:∀ n:Nat,n<6->DH (n:Int)=some ((ac n).map Tp.mk):=by decide +kernel
theorem LM (a:Fm)(x:Str):Fm.lamp x∈a.den.sub ↔ Fm.lamp x∈a.sub:=by
 cases a<;>simp [Fm.den,Fm.sub]
theorem Hn (w:Str)(f:Fm)(x:Str):Fm.lamp x∈(pl1 w f).sub ↔ Fm.lamp x∈f.sub:=by
 have h:=LM f x;unfold pl1
 repeat' split
 all_goals simp [Fm.sub,h]
theorem EF (w:Str)(f g:Fm)(x:Str):Fm.lamp x∈(pl2 w f g).sub ↔ Fm.lamp x∈f.sub\/Fm.lamp x∈g.sub:=by
 have h:=LM f x;have h':=LM g x;unfold pl2
 repeat' split
 all_goals simp [Fm.sub,h,h']
def lts (ds:List Nat):List Nat:=abcN.filter fun c=>decide (c∈ds)
theorem lts_pw (ds:List Nat):(lts ds).Pairwise (· < ·):=abc_pw.sublist List.filter_sublist
theorem Jk {ds:List Nat}(h:∀ c∈ds,c∈abcN)(c:Nat):c∈lts ds ↔ c∈ds:=by
 unfold lts;rw [qpA,decide_eq_true_iff];exact ⟨fun h=>h.2,fun q=>⟨h c q,q⟩⟩
theorem lts_len (ds:List Nat):(lts ds).length<=26:=by
 have:=List.length_filter_le (fun c=>decide (c∈ds)) abcN;have e:abcN.length=26:=rfl;unfold lts;omega
theorem join_tx (cs:List Nat)(h:cs.length<=1000):Rj "" (cs.map one)=some (tx cs):=by
 rw [join_mom cs h]
 congr 1
 apply Re;rw [join_of,QT]
def RQ (r:Tp SI):Bool:=match r.l with
 | .s w::_=>decide (w = "lamp")
 | _=>false
def letR (r:Tp SI):Str:=match r.l with
 | [_,.s y]=>y
 | _ => ""
theorem Pj {L:List (Tp SI)}{fs:List Fm}(hb:Bk L fs)(hl:L.length<=3900){cs:List Nat}(hcs:cs.Pairwise (· < ·))(hc26:cs.length<=26)(hm:∀ x:Str,Fm.lamp x∈fs ↔ ∃ c∈cs,x=one c) :
  Bj L=some (tx cs):=by
 refine OK.eq ?_;unfold Bj;simp only [qqB,AZ,AJ]
 have shape:∀ x∈L,∃ f∈fs,(∃ c,f = .lamp c/\x=⟨[.s "lamp",.s c]⟩)\/((∀ c,f ≠ .lamp c)/\∃ (w:Str) (l:List SI),w ≠ "lamp" /\ x=⟨.s w::l⟩):=fun x hx=>by
  obtain ⟨k,hk⟩:=List.getElem?_of_mem hx;obtain ⟨f,hf,h⟩:=hb.at' hk;refine ⟨f,quA hf,?_⟩
  cases f with
  | yes=>cases (show x=_ from h);exact .inr ⟨(fun c e=>by cases e),_,_,nl.1.1,rfl⟩
  | lamp c=>cases (show x=_ from h);exact .inl ⟨c,rfl,rfl⟩
  | neg a=>obtain ⟨j,_,_,rfl⟩:=h;exact .inr ⟨(fun c e=>by cases e),_,_,nl.1.2.1,rfl⟩
  | next a=>obtain ⟨j,_,_,rfl⟩:=h;exact .inr ⟨(fun c e=>by cases e),_,_,nl.1.2.2,rfl⟩
  | and a b=>obtain ⟨j,j',_,_,_,_,rfl⟩:=h;exact .inr ⟨(fun c e=>by cases e),_,_,nl.2.1,rfl⟩
  | unt a b=>obtain ⟨j,j',_,_,_,_,rfl⟩:=h;exact .inr ⟨(fun c e=>by cases e),_,_,nl.2.2,rfl⟩
 refine AD (Jt (c:=RQ) (g:=letR) (fun x hx=>?_) (fun x hx hc=>?_) ?_)
 ·obtain ⟨f,_,⟨c,_,rfl⟩ | ⟨_,w,l,hw,rfl⟩⟩:=shape x hx
  ·simp only [GR,asS,AZ]
   rfl
  ·simp only [GR,asS,AZ]
   rfl
 ·obtain ⟨f,_,⟨c,_,rfl⟩ | ⟨_,w,l,hw,rfl⟩⟩:=shape x hx
  ·simp only [LP,asS,AZ]
   rfl
  ·exact absurd (of_decide_eq_true hc) hw
 ·obtain ⟨e1,e2⟩:=sort_ded (ys:=(L.filter RQ).map letR) hcs fun y=>by
   rw [qoA];constructor
   ·rintro ⟨x,hx,rfl⟩;obtain ⟨hx1,hx2⟩:=qpA.mp hx;obtain ⟨f,hf,⟨c,rfl,rfl⟩ | ⟨_,w,l,hw,rfl⟩⟩:=shape x hx1
    ·exact (hm c).mp hf
    ·exact absurd (of_decide_eq_true hx2) hw
   ·rintro ⟨c,hc,rfl⟩;obtain ⟨k,hk⟩:=List.getElem?_of_mem ((hm (one c)).mpr ⟨c,hc,rfl⟩);obtain ⟨r,hr,h⟩:=hb.at hk;cases (show r=_ from h);exact ⟨⟨[.s "lamp",.s (one c)]⟩,qpA.mpr ⟨quA hr,(decide_eq_true rfl:decide (("lamp" : Str) = "lamp")=true)⟩,rfl⟩
  have l2:((L.filter RQ).map letR).length<=L.length:=by rw [qfA];exact List.length_filter_le _ _
  have e3:Ht ((L.filter RQ).map letR)=some (cs.map one):=by
   unfold Ht;rw [if_pos ⟨by omega,by omega⟩,e1]
  exact RA _ e3 (⟨_,join_tx _ (by omega),rfl⟩)
theorem R1.rw {fs:List Fm}{k:Nat}{r:Tp SI}{f:Fm}(h:R1 fs k r f):Rw k r:=by
 cases f with
 | yes=>rw [show r=_ from h];exact .yes
 | lamp c=>rw [show r=_ from h];exact .lamp c
 | neg a=>obtain ⟨j,hj,_,rfl⟩:=h;exact .one (.inl rfl) hj
 | next a=>obtain ⟨j,hj,_,rfl⟩:=h;exact .one (.inr rfl) hj
 | and a b=>obtain ⟨j,j',hj,hj',_,_,rfl⟩:=h;exact .two (.inl rfl) hj hj'
 | unt a b=>obtain ⟨j,j',hj,hj',_,_,rfl⟩:=h;exact .two (.inr rfl) hj hj'
theorem Bk.book {L:List (Tp SI)}{fs:List Fm}(hb:Bk L fs):Lc L:=fun k r h=>by
 obtain ⟨f,_,h⟩:=hb.at' h;exact h.rw
theorem book_one {f:Fm}(hd:f.dep<=160)(hs:f.size<=900):∃ (L:List (Tp SI)) (fs:List Fm) (k:Nat),Iu [f.nt]=some (L,[(k:Int)])/\Bk L fs/\Dif fs/\fs[k]? = some f/\(∀ g,g∈fs ↔ g∈f.sub)/\L.length<=900:=by
 obtain ⟨L,fs,k,h1,h2,h3,h4,h5,h6,h7,h8⟩:=Js 160 f [] [] hd Bk.nil Dif.nil (by show 0+f.size<_;omega);rw [List.nil_append] at h1 h2 h4;rw [List.nil_append] at h2 h3;refine ⟨L,fs,k,?_,h2,h3,h4,fun g=>⟨h5 g,fun h=>?_⟩,by omega⟩
 ·show ((EH Ah 160 [] f.nt).bind fun z=>(Fj (EH Ah 160) [] z.1).bind fun y=>some (y.1,z.2::y.2))=_;rw [h1]
  rfl
 ·obtain ⟨i,_,hi⟩:=h2.subs h4 h;exact quA hi
theorem Ks {α β ρ:Type}{f:α->List β->Option (Fl (List β) ρ)}(G:α->List β)(B M:Nat):∀ (as:List α) (s0:List β),(∀ a∈as,(G a).length<=B)->(∀ a∈as,∀ s:List β,s.length<=M->f a s=some (.nx (s++G a)))->s0.length+as.length * B<=M->CV f as s0=some (.nx (s0++as.flatMap G))
 | [],s0,_,_,_=>by
  rw [List.flatMap_nil,qeB]
  rfl
 | a::as,s0,hG,hf,hb=>by
  rw [qhA,Nat.add_mul,Nat.one_mul] at hb;have h1:=hG a (qrA ..);show (f a s0).bind _=_;rw [hf a (qrA ..) s0 (by omega)];show CV f as (s0++G a)=_;rw [Ks G B M as (s0++G a) (fun x hx=>hG x (qsA _ hx)) (fun x hx=>hf x (qsA _ hx)) (by rw [qgA];omega),List.flatMap_cons,qdB]
theorem Pi {α β:Type}(G:α->List β)(B:Nat):∀ (as:List α),(∀ a∈as,(G a).length<=B)->(as.flatMap G).length<=as.length * B
 | [],_=>qkC _
 | a::as,h=>by
  have h1:=h a (qrA ..);have h2:=Pi G B as fun x hx=>h x (qsA _ hx);rw [List.flatMap_cons,qgA,qhA,Nat.add_mul,Nat.one_mul];omega
theorem MI (y:Tp Bool):∀ (l:List (Tp Bool)) (n:Nat),y∈l->(((BE n l).map fun p=>(p.2,p.1)).find? fun q=>decide (q.1=y)).map (·.2)=some ((n+l.findIdx (fun z=>decide (z=y)):Nat):Int)
 | [],_,h=>nomatch h
 | a::l,n,h=>by
  show ((((a,(n:Int)))::(BE (n+1) l).map fun p=>(p.2,p.1)).find? _).map _=_;rw [List.findIdx_cons];by_cases e:a=y
  ·rw [List.find?_cons_of_pos (by exact decide_eq_true e),decide_eq_true e]
   rfl
  ·rw [List.find?_cons_of_neg (by rw [decide_eq_false e];exact quB),decide_eq_false e]
   have:=MI y l (n+1) (by
    rcases qnA.mp h with h|h
    ·exact absurd h.symm e
    ·exact h)
   rw [this];show some _=some _
   congr 2
   show n+1+_=n+(_+1);omega
theorem Pd:∀ (l:List (List Bool)) (n:Nat),((BE n (l.map Tp.mk)).map fun p=>(p.2,p.1)).map (·.1.l)=l
 | [],_=>rfl
 | a::l,n=>by
  show a::(((BE (n+1) (l.map Tp.mk)).map fun p=>(p.2,p.1)).map (·.1.l))=_;rw [Pd l (n+1)]
section
variable (rows:List (Tp SI))(k:Nat)
def Wn:Nat:=(ws rows rows.length).length
def Cj (j:Nat):List Bool:=(ac (Wn rows)).getD j []
def Vw (m:Str)(j:Nat):List Bool:=vw rows m (fm (((ws rows rows.length).map fun (k:Nat)=>(k:Int)).zip (Cj rows j))) rows.length
def Cl (m:Str)(j:Nat):Tp Bool:=⟨(ws rows rows.length).map fun i=>(Vw rows m j).getD i false⟩
def Ea (m:Str)(j:Nat):Tp Int:=⟨told rows (Vw rows m j) rows.length⟩
def Ix (m:Str)(j:Nat):Nat:=((ac (Wn rows)).map Tp.mk).findIdx fun z=>decide (z=Cl rows m j)
def Pc (m:Str)(j:Nat):List (T4 Int Str Int (Tp Int)):=(cond (g (Vw rows m j) k) [T4.mk 0 m ((j:Int)+1) (Ea rows m j)] [])++[T4.mk ((Ix rows m j:Int)+1) m ((j:Int)+1) (Ea rows m j)]
def St (m:Str)(j:Nat):T5 Int Str Int (Tp Int) (Tp Bool):=T5.mk (Ix rows m j:Int) m (j:Int) (Ea rows m j) ⟨Vw rows m j⟩
theorem Qx (m:Str)(j:Nat):(Vw rows m j).length=rows.length:=MY ..
theorem Cl_mem (m:Str)(j:Nat):Cl rows m j∈(ac (Wn rows)).map Tp.mk:=qoA.mpr ⟨_,(Mr _ _).mpr (by rw [qfA];rfl),rfl⟩
end
section
variable {rows:List (Tp SI)}{k:Nat}(hb:Lc rows)(hl:rows.length<=900)(hw:Wn rows<=5)
include hb hl hw
theorem Rr:((ac (Wn rows)).map Tp.mk).length=2 ^ Wn rows/\2 ^ Wn rows<=32:=by
 rw [qfA,Ni];exact ⟨rfl,Nat.pow_le_pow_right (n:=2) (by decide) hw⟩
theorem wt_eq:DG rows=some ((ws rows rows.length).map fun (k:Nat)=>(k:Int)):=IJ rows hb hl (by unfold Wn at hw;omega)
theorem PK:C8 rows=some ((ac (Wn rows)).map Tp.mk):=by
 unfold C8;simp only [qqB,AZ,AJ,wt_eq hb hl hw,qfA];exact Q6 (Wn rows) (by omega)
theorem at_every {j:Nat}(hj:j<2 ^ Wn rows):atI ((ac (Wn rows)).map Tp.mk) (j:Int)=some ⟨Cj rows j⟩:=by
 refine BJ ?_;have h:j<(ac (Wn rows)).length:=by rw [Ni];exact hj
 rw [qzA,qwA h];unfold Cj;rw [qaB,qwA h]
 rfl
theorem lk {j:Nat}(hj:j<2 ^ Wn rows)(m:Str):Gm rows m ⟨Cj rows j⟩=some ⟨Vw rows m j⟩:=by
 have h:j<(ac (Wn rows)).length:=by rw [Ni];exact hj
 have hc:(Cj rows j).length=Wn rows:=by
  refine (Mr _ _).mp ?_;unfold Cj;rw [qaB,qwA h];exact List.getElem_mem h
 have e1:(((ws rows rows.length).map fun (k:Nat)=>(k:Int)).zip (Cj rows j)).map (·.1)=(ws rows rows.length).map fun (k:Nat)=>(k:Int):=List.map_fst_zip (by rw [qfA,hc];exact qgB _);have e2:(((ws rows rows.length).map fun (k:Nat)=>(k:Int)).zip (Cj rows j)).map (·.2)=Cj rows j:=List.map_snd_zip (by rw [qfA,hc];exact qgB _);have:=look_eq rows hb hl (by unfold Wn at hw;omega) m _ e1;rw [e2] at this;exact this
theorem cl_eq (m:Str)(j:Nat):CM rows ⟨Vw rows m j⟩=some (Cl rows m j):=TH rows hb hl (by unfold Wn at hw;omega) ⟨Vw rows m j⟩ (Qx ..)
theorem ea_eq (m:Str)(j:Nat):FP rows ⟨Vw rows m j⟩=some (Ea rows m j):=eased_eq rows hb ⟨Vw rows m j⟩ (Qx ..)
theorem get_eq (m:Str)(j:Nat):getT ⟨(BE 0 ((ac (Wn rows)).map Tp.mk)).map fun p=>(p.2,p.1)⟩ (Cl rows m j)=some (Ix rows m j:Int):=by
 have:=MI (Cl rows m j) ((ac (Wn rows)).map Tp.mk) 0 (Cl_mem ..);rw [Nat.zero_add] at this;exact this
theorem dict_eq:RN ((BE 0 ((ac (Wn rows)).map Tp.mk)).map fun p=>(p.2,p.1))=some ⟨(BE 0 ((ac (Wn rows)).map Tp.mk)).map fun p=>(p.2,p.1)⟩:=by
 have ⟨h1,h2⟩:=Rr hb hl hw;unfold RN;refine if_pos ⟨?_,?_⟩
 ·rw [Pd];exact ac_nd _
 ·rw [qfA,Cv];omega
def Mt (rows:List (Tp SI))(k:Nat)(m:Str):List (T4 Int Str Int (Tp Int)):=(List.range (2 ^ Wn rows)).flatMap (Pc rows k m)
theorem Oi (m:Str):DO rows m=some ((List.range (2 ^ Wn rows)).map (St rows m)):=by
 have hz:sizeLine=16777216:=qpB;have ⟨el,e32⟩:=Rr hb hl hw;refine OK.eq ?_;unfold DO;simp only [qqB,AZ,AJ];refine AD (OK.of (PK hb hl hw) ?_);refine AD (Qu (g:=fun p:Int × Tp Bool=>(p.2,p.1)) (fun _ _=>rfl) (AD (OK.of (dict_eq hb hl hw) ?_)));refine AD (FB (fun i (s:List (T5 Int Str Int (Tp Int) (Tp Bool)))=>s=(List.range i).map (St rows m)) rfl (fun i a s ha hI=>?_) fun s hI=>?_)
 ·rw [DK] at ha;obtain ⟨c,hc,rfl⟩:=qjB.mp ha;have hi:i<2 ^ Wn rows:=by rw [<- el];exact (qvA.mp hc).1
  have ec:c=⟨Cj rows i⟩:=by
   have:=at_every hb hl hw hi;rw [BJ hc] at this;exact qkB this
  subst ec;dsimp only;subst hI;refine AD (OK.of (lk hb hl hw hi m) (AD (OK.of (cl_eq hb hl hw m i) (AD (OK.of (get_eq hb hl hw m i) (AD (OK.of (ea_eq hb hl hw m i) (AD (Jh ?_ (AB ⟨_,rfl,?_⟩))))))))))
  ·rw [qfA,qjA];omega
  ·rw [List.range_succ,qcB,Nat.zero_add]
   rfl
 ·rw [Cv,el] at hI;rw [hI];exact AB rfl
theorem Oz {lit:Str}(hlit:Bj rows=some lit){ms:List Str}(hms:BZ lit=some ms)(h8:ms.length<=8):DR rows=some (ms.flatMap fun m=>(List.range (2 ^ Wn rows)).map (St rows m)):=by
 have hz:sizeLine=16777216:=qpB;have ⟨el,e32⟩:=Rr hb hl hw;refine OK.eq ?_;unfold DR;simp only [qqB,AZ,AJ];refine AD (OK.of hlit (AD (OK.of hms ?_)));have hB:∀ m:Str,((List.range (2 ^ Wn rows)).map (St rows m)).length<=32:=fun m=>by rw [qfA,qjA];exact e32
 refine AD (OK.of (Ks (fun m=>(List.range (2 ^ Wn rows)).map (St rows m)) 32 1000 ms [] (fun m _=>hB m) (fun m _ s hs=>?_) (by show 0+_<=_;omega)) ?_)
 ·refine OK.eq ?_;have:=hB m;exact AD (OK.of (Oi hb hl hw m) (AD (OK.of (if_pos (by omega)) (AB rfl))))
 ·dsimp only;rw [List.nil_append];exact AB rfl
def Qr (k:Nat)(t:T5 Int Str Int (Tp Int) (Tp Bool)):List (T4 Int Str Int (Tp Int)):=(cond (g t.e.l k) [T4.mk 0 t.b (t.c+1) t.d] [])++[T4.mk (t.a+1) t.b (t.c+1) t.d]
theorem wob_eq (hk:k<rows.length){lit:Str}(hlit:Bj rows=some lit){ms:List Str}(hms:BZ lit=some ms)(h8:ms.length<=8) :
  BO rows (k:Int)=some (T4.mk lit (1+((2 ^ Wn rows:Nat):Int)) (ms.flatMap (Mt rows k)) ((hs rows rows.length).length:Int)):=by
 have hz:sizeLine=16777216:=qpB;have ⟨el,e32⟩:=Rr hb hl hw;have hB:∀ m:Str,((List.range (2 ^ Wn rows)).map (St rows m)).length<=32:=fun m=>by rw [qfA,qjA];exact e32
 have hF:=Pi (fun m=>(List.range (2 ^ Wn rows)).map (St rows m)) 32 ms fun m _=>hB m
 have hQ:∀ t,(Qr k t).length<=2:=fun t=>by
  unfold Qr;cases g t.e.l k<;>simp
 refine OK.eq ?_;unfold BO;simp only [qqB,AZ,AJ];refine AD (OK.of (Oz hb hl hw hlit hms h8) ?_);refine AD (OK.of (Ks (Qr k) 2 1000 _ [] (fun t _=>hQ t) (fun t ht s hs=>?_) (by show 0+_<=_;omega)) ?_)
 ·have ht:t.e.l.length=rows.length:=by
   obtain ⟨m,_,ht⟩:=List.mem_flatMap.mp ht;obtain ⟨j,_,rfl⟩:=qoA.mp ht;exact Qx ..
  refine OK.eq ?_;refine AD (OK.of (at_g (by rw [ht];exact hk)) ?_);refine GV (P:=fun z=>z=s++cond (g t.e.l k) [T4.mk 0 t.b (t.c+1) t.d] []) (Al (fun h=>?_) fun h=>AB ?_) fun z hz=>?_
  ·rw [h];exact Jh (by omega) rfl
  ·rw [h];exact (qeB _).symm
  ·subst hz;refine AD (Jh ?_ (AB ?_))
   ·rw [qgA];have:(cond (g t.e.l k) [T4.mk (0:Int) t.b (t.c+1) t.d] []).length<=1:=by cases g t.e.l k<;>simp
    omega
   ·rw [qdB]
    rfl
 ·dsimp only;refine AD (OK.of hlit (AD (OK.of (PK hb hl hw) (AD (OK.of (Kv rows hb) (AB ?_))))));rw [List.nil_append,el,List.flatMap_assoc]
  congr 1
  refine congrArg (fun f=>ms.flatMap f) (funext fun m=>?_);rw [List.flatMap_map]
  rfl
end
def Mh:Fm->Bool
 | .unt _ _=>true
 | _=>false
def Wt (f g:Fm):Prop:=(g∈f.sub/\Mh g=true)\/Fm.next g∈f.sub
def Cn (f:Fm)(n:Nat):Prop:=∃ l:List Fm,l.Nodup/\(∀ g,g∈l ↔ Wt f g)/\l.length=n
theorem N2 (g:Fm):¬Wt .yes g:=by
 rintro (⟨h,u⟩|h)
 ·simp only [Fm.sub,qqA] at h;subst h;cases u
 ·simp [Fm.sub] at h
theorem HX (c:Str)(g:Fm):¬Wt (.lamp c) g:=by
 rintro (⟨h,u⟩|h)
 ·simp only [Fm.sub,qqA] at h;subst h;cases u
 ·simp [Fm.sub] at h
theorem KN (a g:Fm):Wt (.neg a) g ↔ Wt a g:=by
 unfold Wt;simp only [Fm.sub,qnA,reduceCtorEq,false_or];constructor
 ·rintro (⟨rfl|h,u⟩|h)
  ·cases u
  ·exact .inl ⟨h,u⟩
  ·exact .inr h
 ·rintro (⟨h,u⟩|h)
  ·exact .inl ⟨.inr h,u⟩
  ·exact .inr h
theorem KR (a g:Fm):Wt a.den g ↔ Wt a g:=by
 cases a with
 | neg a=>exact (KN a g).symm
 | _=>exact KN _ g
theorem Rc (a g:Fm):Wt (.next a) g ↔ Wt a g\/g=a:=by
 unfold Wt;simp only [Fm.sub,qnA,Fm.next.injEq];constructor
 ·rintro (⟨rfl|h,u⟩|rfl|h)
  ·cases u
  ·exact .inl (.inl ⟨h,u⟩)
  ·exact .inr rfl
  ·exact .inl (.inr h)
 ·rintro ((⟨h,u⟩|h)|rfl)
  ·exact .inl ⟨.inr h,u⟩
  ·exact .inr (.inr h)
  ·exact .inr (.inl rfl)
theorem LH (a b g:Fm):Wt (.and a b) g ↔ Wt a g\/Wt b g:=by
 unfold Wt;simp only [Fm.sub,qnA,qmA,reduceCtorEq,false_or];constructor
 ·rintro (⟨rfl|h|h,u⟩|h|h)
  ·cases u
  ·exact .inl (.inl ⟨h,u⟩)
  ·exact .inr (.inl ⟨h,u⟩)
  ·exact .inl (.inr h)
  ·exact .inr (.inr h)
 ·rintro ((⟨h,u⟩|h) | (⟨h,u⟩|h))
  ·exact .inl ⟨.inr (.inl h),u⟩
  ·exact .inr (.inl h)
  ·exact .inl ⟨.inr (.inr h),u⟩
  ·exact .inr (.inr h)
theorem wt_unt (a b g:Fm):Wt (.unt a b) g ↔ Wt a g\/Wt b g\/g = .unt a b:=by
 unfold Wt;simp only [Fm.sub,qnA,qmA,reduceCtorEq,false_or];constructor
 ·rintro (⟨rfl|h|h,u⟩|h|h)
  ·exact .inr (.inr rfl)
  ·exact .inl (.inl ⟨h,u⟩)
  ·exact .inr (.inl (.inl ⟨h,u⟩))
  ·exact .inl (.inr h)
  ·exact .inr (.inl (.inr h))
 ·rintro ((⟨h,u⟩|h) | (⟨h,u⟩|h)|rfl)
  ·exact .inl ⟨.inr (.inl h),u⟩
  ·exact .inr (.inl h)
  ·exact .inl ⟨.inr (.inr h),u⟩
  ·exact .inr (.inr h)
  ·exact .inl ⟨.inl rfl,rfl⟩
theorem RL {f g:Fm}(h:Wt f g):g.size<=f.size:=by
 rcases h with ⟨h,_⟩|h
 ·exact CY h
 ·have:=CY h;simp only [Fm.size] at this;omega
theorem Cn.congr {f f':Fm}{n:Nat}(h:Cn f n)(e:∀ g,Wt f' g ↔ Wt f g):Cn f' n:=by
 obtain ⟨l,h1,h2,h3⟩:=h;exact ⟨l,h1,fun g=>(h2 g).trans (e g).symm,h3⟩
theorem Cn.more {f f' x:Fm}{n:Nat}(h:Cn f n)(nx:¬Wt f x)(e:∀ g,Wt f' g ↔ Wt f g\/g=x):Cn f' (n+1):=by
 obtain ⟨l,h1,h2,h3⟩:=h;refine ⟨x::l,List.nodup_cons.mpr ⟨fun z=>nx ((h2 x).mp z),h1⟩,fun g=>?_,by rw [qhA,h3]⟩;rw [qnA,h2,e];exact or_comm
theorem cn_yes:Cn .yes 0:=⟨[],.nil,fun g=>⟨fun h=>(nomatch h),fun h=>(N2 g h).elim⟩,rfl⟩
theorem cn_lamp (c:Str):Cn (.lamp c) 0:=⟨[],.nil,fun g=>⟨fun h=>(nomatch h),fun h=>(HX c g h).elim⟩,rfl⟩
theorem Cn.neg {f:Fm}{n:Nat}(h:Cn f n):Cn (.neg f) n:=h.congr (KN f)
theorem Cn.den {f:Fm}{n:Nat}(h:Cn f n):Cn f.den n:=h.congr (KR f)
theorem Cn.unt {f:Fm}{n:Nat}(h:Cn f n):Cn (.unt .yes f) (n+1):=by
 refine h.more (x:=.unt .yes f) (fun z=>?_) fun g=>?_
 ·have:=RL z;simp only [Fm.size] at this;omega
 ·rw [wt_unt];exact ⟨fun z=>z.elim (fun z=>(N2 g z).elim) id,.inr⟩
theorem Cn.next {f:Fm}{n:Nat}(h:Cn f n):Cn (.next f) (n+if Mh f=true then 0 else 1):=by
 by_cases u:Mh f=true
 ·rw [if_pos u];refine h.congr fun g=>?_;rw [Rc];exact ⟨fun z=>z.elim id fun e=>.inl ⟨e ▸ LN f,e ▸ u⟩,.inl⟩
 ·rw [if_neg u];refine h.more (x:=f) (fun z=>?_) fun g=>Rc f g;rcases z with ⟨_,z⟩|z
  ·exact u z
  ·have:=CY z;simp only [Fm.size] at this;omega
theorem Cn.untY {f y:Fm}{n:Nat}(h:Cn f n)(hy:∀ g,¬Wt y g):Cn (.unt f y) (n+1):=by
 refine h.more (x:=.unt f y) (fun z=>?_) fun g=>?_
 ·have:=RL z;simp only [Fm.size] at this;omega
 ·rw [wt_unt];exact ⟨fun z=>z.elim .inl fun z=>z.elim (fun z=>(hy g z).elim) .inr,fun z=>z.elim .inl fun z=>.inr (.inr z)⟩
theorem nw6:("yes" : Str) ≠ "until" /\ ("lamp" : Str) ≠ "until" /\ ("not" : Str) ≠ "until" /\ ("next" : Str) ≠ "until" /\ ("and" : Str) ≠ "until" := by decide +kernel
theorem nw7:("yes" : Str) ≠ "next" /\ ("lamp" : Str) ≠ "next" /\ ("not" : Str) ≠ "next" /\ ("and" : Str) ≠ "next" /\ ("until" : Str) ≠ "next" := by decide +kernel
theorem Cy (w:Str)(l:List SI):wd ⟨.s w::l⟩=w:=rfl
theorem R1.un {fs:List Fm}{k:Nat}{r:Tp SI}{f:Fm}(h:R1 fs k r f):decide (wd r = "until")=Mh f:=by
 obtain ⟨n1,n2,n3,n4,n5⟩:=nw6
 cases f with
 | yes=>rw [show r=_ from h,Cy];exact decide_eq_false n1
 | lamp c=>rw [show r=_ from h,Cy];exact decide_eq_false n2
 | neg a=>obtain ⟨j,hj,_,rfl⟩:=h;rw [Cy];exact decide_eq_false n3
 | next a=>obtain ⟨j,hj,_,rfl⟩:=h;rw [Cy];exact decide_eq_false n4
 | and a b=>obtain ⟨j,j',hj,hj',_,_,rfl⟩:=h;rw [Cy];exact decide_eq_false n5
 | unt a b=>obtain ⟨j,j',hj,hj',_,_,rfl⟩:=h;rw [Cy];exact decide_eq_true rfl
theorem wd_nxt (i:Nat):wd (nxt i) = "next" := rfl
theorem R1.nx {fs:List Fm}{k i:Nat}{f:Fm}(h:R1 fs k (nxt i) f):∃ a,f = .next a/\fs[i]? = some a:=by
 obtain ⟨n1,n2,n3,n4,n5⟩:=nw7;have hw:=wd_nxt i
 cases f with
 | yes=>rw [show nxt i=_ from h,Cy] at hw;exact (n1 hw).elim
 | lamp c=>rw [show nxt i=_ from h,Cy] at hw;exact (n2 hw).elim
 | neg a=>obtain ⟨j,hj,_,e⟩:=h;rw [e,Cy] at hw;exact (n3 hw).elim
 | next a =>
  obtain ⟨j,hj,hf,e⟩:=h;obtain ⟨_,rfl⟩:=Fq e;exact ⟨a,rfl,hf⟩
 | and a b=>obtain ⟨j,j',hj,hj',_,_,e⟩:=h;rw [e,Cy] at hw;exact (n4 hw).elim
 | unt a b=>obtain ⟨j,j',hj,hj',_,_,e⟩:=h;rw [e,Cy] at hw;exact (n5 hw).elim
theorem isW_wt {L:List (Tp SI)}{fs:List Fm}(hb:Bk L fs)(hd:Dif fs){f:Fm}(hs:∀ g,g∈fs ↔ g∈f.sub){i:Nat}{g:Fm}(hi:fs[i]? = some g):isW L i=true ↔ Wt f g:=by
 obtain ⟨r,hr,h1⟩:=hb.at hi;unfold isW isU Wt;rw [Bool.or_eq_true,show L.getD i ⟨[]⟩=r by rw [qaB,hr];rfl,h1.un,decide_eq_true_iff,<- hs,<- hs];refine or_congr ⟨fun u=>⟨quA hi,u⟩,fun u=>u.2⟩ ⟨fun h=>?_,fun h=>?_⟩
 ·obtain ⟨m,hm,e⟩:=List.getElem_of_mem h;have hm':L[m]? = some (nxt i):=by rw [qwA hm,e]
  obtain ⟨f',hf',h2⟩:=hb.at' hm';obtain ⟨a,rfl,ha⟩:=h2.nx;rw [hi] at ha;cases ha;exact quA hf'
 ·obtain ⟨m,hm,e⟩:=List.getElem_of_mem h;have hm':fs[m]? = some (.next g):=by rw [qwA hm,e]
  obtain ⟨r',hr',j,hj,hj',e'⟩:=hb.at hm';obtain rfl:=hd _ _ _ hj' hi;exact quA (e' ▸ hr')
open Classical in
theorem wn_eq {L:List (Tp SI)}{fs:List Fm}(hb:Bk L fs)(hd:Dif fs){f:Fm}(hs:∀ g,g∈fs ↔ g∈f.sub){n:Nat}(hc:Cn f n):(ws L L.length).length=n:=by
 obtain ⟨l,h1,h2,h3⟩:=hc
 have hm:∀ i∈ws L L.length,∃ g,fs[i]? = some g/\Wt f g:=fun i hi=>by
  obtain ⟨a,b⟩:=mem_ws.mp hi;have:i<fs.length:=by rw [<- hb.1];exact a
  exact ⟨_,qwA this,(isW_wt hb hd hs (qwA this)).mp b⟩
 have el:((ws L L.length).map fun i=>fs.getD i .yes).length=(ws L L.length).length:=qfA ..
 have nd:((ws L L.length).map fun i=>fs.getD i .yes).Nodup:=by
  refine List.pairwise_map.mpr ((ws_pw L L.length).imp_of_mem fun {i j} hi hj hlt=>?_);obtain ⟨g,hg,_⟩:=hm i hi;obtain ⟨g',hg',_⟩:=hm j hj;intro e;rw [qaB,qaB,hg,hg'] at e;have e:g=g':=e;subst e;have:=hd _ _ _ hg hg';omega
 have a1:=Er nd (m:=l) fun x hx=>by
  obtain ⟨i,hi,rfl⟩:=qoA.mp hx;obtain ⟨g,hg,hw⟩:=hm i hi;rw [qaB,hg];exact (h2 g).mpr hw
 have a2:=Er h1 (m:=(ws L L.length).map fun i=>fs.getD i .yes) fun x hx=>by
  have hw:=(h2 x).mp hx
  have hx':x∈fs:=(hs x).mpr (by
   rcases hw with ⟨h,_⟩|h
   ·exact h
   ·obtain ⟨m,hm,e⟩:=List.getElem_of_mem ((hs _).mpr h);have hm':fs[m]? = some (.next x):=by rw [qwA hm,e]
    obtain ⟨i,_,hi⟩:=hb.subs hm' (show x∈(Fm.next x).sub by simp [Fm.sub,LN])
    exact (hs x).mp (quA hi))
  obtain ⟨i,hi,e⟩:=List.getElem_of_mem hx';have hi':fs[i]? = some x:=by rw [qwA hi,e]
  refine qoA.mpr ⟨i,mem_ws.mpr ⟨by rw [hb.1];exact hi,(isW_wt hb hd hs hi').mpr hw⟩,?_⟩;rw [qaB,hi']
  rfl
 omega
inductive Sx:Nt->Nat->Prop where
 | leaf {w:Str}:w = "yes" \/ w = "no" -> Sx (.tup [.txt w]) 1
 | lamp {c:Nat}:c∈abcN->Sx (.tup [.txt "lamp",.txt (one c)]) 1
 | one {w:Str}{a:Nt}{n:Nat}:w∈W1->Sx a n->Sx (.tup [.txt w,a]) (n+1)
 | two {w:Str}{a b:Nt}{n m:Nat}:w∈W2->Sx a n->Sx b m->Sx (.tup [.txt w,a,b]) (n+m+1)
theorem g_one:∀ w∈W1,Eg CQ w=some 1:=by decide +kernel
theorem g_two:∀ w∈W2,Eg CQ w=some 2:=by decide +kernel
theorem g_leaf:Eg CQ "yes" = some 0/\Eg CQ "no" = some 0:=by decide +kernel
theorem R9:∀ w∈W1,w ≠ "lamp" := by decide +kernel
theorem QQ:∀ w∈W2,w ≠ "lamp" := by decide +kernel
theorem nl_leaf:("yes" : Str) ≠ "lamp" /\ ("no" : Str) ≠ "lamp" := by decide +kernel
theorem TJ (x:D)(l:List D):atI (x::l) (0:Int)=some x:=BJ (j:=0) rfl
theorem atd1 (x y:D)(l:List D):atI (x::y::l) (1:Int)=some y:=BJ (j:=1) rfl
theorem Sy {α:Type}(a:α)(l:List α):JC (a::l) (some 1) none=some ⟨l⟩:=by
 have h1:HT.sIx (a::l).length 0 (some (1:Int))=1:=by
  unfold HT.sIx;simp
  try omega
 have h2:HT.sIx (a::l).length (a::l).length none=(a::l).length:=rfl;unfold JC;rw [if_pos (by rw [h1];exact fun z=>absurd z.1 (by decide))];unfold cutA;rw [h1,h2];simp
theorem Rb (l:List D):isK "tuple" (.tup l)=true:=id rfl
theorem k_str (x:Str):isK "str" (.str x)=true:=id rfl
theorem ln0 (x:D)(r:List D):decide (((x::r).length:Int)=0)=false:=decide_eq_false (by rw [qhA];omega)
theorem FH {w:Str}{k:Nat}{l:List D}(hw:w ≠ "lamp")(hg:Eg CQ w=some (k:Int)):AY (.tup (.str w::l))=some (decide (l.length=k)):=by
 refine OK.eq ?_;unfold AY;simp only [qqB,AZ,AJ,Rb,NY,ln0,atD,TJ,k_str,EJ,Bool.not_true,cond_false,decide_eq_false hw,hg,Option.isSome_some,cond_true];refine AB ?_;refine decide_eq_decide.mpr ?_;rw [qhA];omega
theorem form_out {w:Str}{l:List D}(hw:w ≠ "lamp")(hg:Eg CQ w=none):AY (.tup (.str w::l))=some false:=by
 refine OK.eq ?_;unfold AY;simp only [qqB,AZ,AJ,Rb,NY,ln0,atD,TJ,k_str,EJ,Bool.not_true,cond_false,decide_eq_false hw,hg,Option.isSome_none];exact AB rfl
theorem DW {d:D}(h:isK "tuple" d=false):AY d=some false:=by
 refine OK.eq ?_;unfold AY;simp only [qqB,AZ,AJ,h,Bool.not_false,cond_true];exact AB rfl
theorem Qm {x:D}{l:List D}(h:isK "str" x=false):AY (.tup (x::l))=some false:=by
 refine OK.eq ?_;unfold AY;simp only [qqB,AZ,AJ,Rb,NY,ln0,atD,TJ,h,Bool.not_true,Bool.not_false,cond_false,cond_true];exact AB rfl
theorem Lv {x:D}{b:Bool}(h:DS x=some b):AY (.tup [.str "lamp",x])=some b:=by
 refine OK.eq ?_;unfold AY;simp only [qqB,AZ,AJ,Rb,NY,ln0,atD,TJ,atd1,k_str,EJ,Bool.not_true,cond_false,decide_true,cond_true,h];exact ⟨_,rfl,rfl⟩
theorem PH {x:D}{l:List D}:At (.tup (.str "lamp" :: l))=some ⟨[]⟩:=by
 refine OK.eq ?_;unfold At;simp only [qqB,AZ,AJ,atD,TJ,EJ,decide_true,cond_true];exact AB rfl
theorem CO {w:Str}{l:List D}(hw:w ≠ "lamp"):At (.tup (.str w::l))=some ⟨l⟩:=by
 refine OK.eq ?_;unfold At;simp only [qqB,AZ,AJ,atD,TJ,EJ,QG,decide_eq_false hw,cond_false,Sy];exact AB rfl
theorem lamp_abc:∀ c∈abcN,DS (.str (one c))=some true:=by decide +kernel
inductive Tame:D->Prop where
 | no {d:D}:AY d=some false->Tame d
 | yes {d:D}{ds:List D}:AY d=some true->At d=some ⟨ds⟩->ds.length<=2->(∀ x∈ds,Tame x)->Tame d
inductive Bad:D->Prop where
 | here {d:D}:AY d=some false->Bad d
 | part {d x:D}{ds:List D}:AY d=some true->At d=some ⟨ds⟩->x∈ds->Bad x->Bad d
inductive Gd:D->Nat->Prop where
 | zero {d:D}:AY d=some true->At d=some ⟨[]⟩->Gd d 1
 | one {d x:D}{n:Nat}:AY d=some true->At d=some ⟨[x]⟩->Gd x n->Gd d (n+1)
 | two {d x y:D}{n m:Nat}:AY d=some true->At d=some ⟨[x,y]⟩->Gd x n->Gd y m->Gd d (n+m+1)
theorem Gd.tame {d:D}{n:Nat}(h:Gd d n):Tame d:=by
 induction h with
 | zero h1 h2=>exact .yes h1 h2 (by simp) fun x hx=>by cases hx
 | one h1 h2 _ ih=>exact .yes h1 h2 (by simp) fun x hx=>by rw [qqA.mp hx];exact ih
 | two h1 h2 _ _ ih1 ih2 =>
  refine .yes h1 h2 (by simp) fun x hx=>?_;rcases qnA.mp hx with e|hx
  ·rw [e];exact ih1
  ·rw [qqA.mp hx];exact ih2
theorem Gd.pos {d:D}{n:Nat}(h:Gd d n):1<=n:=by cases h<;>omega
theorem toD_leaf (w:Str):(Nt.tup [.txt w]).toD = .tup [.str w]:=by simp only [Nt.toD,Nt.toDs]
theorem RZ (w:Str)(a:Nt):(Nt.tup [.txt w,a]).toD = .tup [.str w,a.toD]:=by simp only [Nt.toD,Nt.toDs]
theorem toD_two (w:Str)(a b:Nt):(Nt.tup [.txt w,a,b]).toD = .tup [.str w,a.toD,b.toD]:=by simp only [Nt.toD,Nt.toDs]
theorem Sx.gd {S:Nt}{n:Nat}(h:Sx S n):Gd S.toD n:=by
 induction h with
 | @leaf w hw =>
  rw [toD_leaf];rcases hw with rfl|rfl
  ·exact .zero (FH (k:=0) nl_leaf.1 g_leaf.1) (CO nl_leaf.1)
  ·exact .zero (FH (k:=0) nl_leaf.2 g_leaf.2) (CO nl_leaf.2)
 | @lamp c hc =>
  rw [RZ];simp only [Nt.toD];exact .zero (Lv (lamp_abc c hc)) (PH (x:=.non))
 | @one w a n hw _ ih =>
  rw [RZ];exact .one (FH (k:=1) (R9 w hw) (g_one w hw)) (CO (R9 w hw)) ih
 | @two w a b n m hw _ _ ih1 ih2 =>
  rw [toD_two];exact .two (FH (k:=2) (QQ w hw) (g_two w hw)) (CO (QQ w hw)) ih1 ih2
inductive Gs:List D->Nat->Prop where
 | nil:Gs [] 0
 | cons {d:D}{ds:List D}{n m:Nat}:Gd d n->Gs ds m->Gs (d::ds) (n+m)
theorem Gs.app {l m:List D}{a b:Nat}(h:Gs l a)(g:Gs m b):Gs (l++m) (a+b):=by
 induction h with
 | nil=>rw [Nat.zero_add];exact g
 | cons h _ ih=>rw [List.cons_append,Nat.add_assoc];exact .cons h ih
theorem Gs.len {l:List D}{a:Nat}(h:Gs l a):l.length<=a:=by
 induction h with
 | nil=>exact qgB _
 | cons h _ ih=>have:=h.pos;rw [qhA];omega
theorem OY {α:Type}{f:List α}{p:Nat}{x:α}(hx:f[p]? = some x)(ds:List α):(f++ds).drop (p+1)=f.drop (p+1)++ds:=by
 rw [List.drop_append_of_le_length];have:=(qvA.mp hx).1;omega
theorem RP {α:Type}{f:List α}{p:Nat}{x:α}(hx:f[p]? = some x):f.drop p=x::f.drop (p+1):=by
 obtain ⟨h1,h2⟩:=qvA.mp hx;rw [List.drop_eq_getElem_cons h1,h2]
theorem Lg {d:D}{n:Nat}(h:Gd d n):Ar d=some (decide (n<=24)):=by
 have hz:sizeLine=16777216:=qpB;refine OK.eq ?_;unfold Ar;simp only [qqB,AZ,AJ];refine AD (P1 (fun s:List D × Int=>∃ p r:Nat,s.2=(p:Int)/\p<=s.1.length/\p<=24/\Gs (s.1.drop p) r/\p+r=n) (fun _=>False) (fun b=>b=decide (n<=24)) (fun s=>100 - s.2.toNat) ⟨0,n,rfl,qkC _,qkC _,by have:=Gs.cons h .nil;simpa using this,by omega⟩ (by simp) ?_ (fun _ h=>h.elim) fun r hr=>AB hr);rintro ⟨f,pl⟩ ⟨p,r,e1,h1,h2,h3,h4⟩;dsimp only at e1 h1 h3;subst e1;refine AB ?_;have hlen:=h3.len;rw [List.length_drop] at hlen;by_cases hlt:(p:Int)<(f.length:Int)
 ·rw [decide_eq_true hlt,if_pos rfl];have hx:f[p]? = some f[p]:=qwA (by omega);have hat:atI f (p:Int)=some f[p]:=BJ hx;rw [RP hx] at h3;dsimp only;by_cases h24:(24:Int)<(f.length:Int)
  ·rw [decide_eq_true h24,cond_true,AZ];refine Al (fun _=>AB ?_) fun h=>nomatch h;dsimp only;rw [decide_eq_false (by omega)]
  ·rw [decide_eq_false h24,cond_false,hat];simp only [AZ]
   cases h3 with
   | @cons _ _ k m hg hs =>
    have fin:∀ (ds:List D) (k':Nat),AY f[p]=some true->At f[p]=some ⟨ds⟩->Gs ds k'->k=k'+1->ds.length<=2->OK (((AY f[p]).bind fun t41=>some (!t41)).bind fun b43=>cond b43 (some (Fl.rt false:Fl (List D × Int) Bool)) ((At f[p]).bind fun a61=>(extO f a61.l).bind fun z69=>some (Fl.nx (z69,(p:Int)+1)))) fun fl=>∃ s',fl=Fl.nx s'/\(∃ p r:Nat,s'.2=(p:Int)/\p<=s'.1.length/\p<=24/\Gs (s'.1.drop p) r/\p+r=n)/\100 - s'.2.toNat<100 - ((p:Int)).toNat:=fun ds k' q1 q2 q3 q4 q5=>by
     rw [q1,q2,AZ,AZ,AZ];refine RA _ (if_pos (by dsimp only;omega)) (AB ⟨_,rfl,⟨p+1,m+k',by dsimp only;omega,?_,by omega,?_,by omega⟩,?_⟩)
     ·dsimp only;rw [qgA];omega
     ·dsimp only;rw [OY hx];exact hs.app q3
     ·dsimp only;omega
    cases hg with
    | zero q1 q2=>exact (fin [] 0 q1 q2 .nil rfl (by simp)).mono fun fl ⟨s',e,h⟩=>by subst e;exact h
    | @one _ x k' q1 q2 q3=>exact (fin [x] k' q1 q2 (by have:=Gs.cons q3 .nil;simpa using this) rfl (by simp)).mono fun fl ⟨s',e,h⟩=>by subst e;exact h
    | @two _ x y k' k'' q1 q2 q3 q4=>exact (fin [x,y] (k'+k'') q1 q2 (by have:=Gs.cons q3 (Gs.cons q4 .nil);simpa using this) rfl (by simp)).mono fun fl ⟨s',e,h⟩=>by subst e;exact h
 ·rw [decide_eq_false hlt,if_neg quB];refine AB ?_;have e:f.drop p=[]:=List.drop_eq_nil_of_le (by omega);rw [e] at h3;cases h3;exact (decide_eq_true (by omega)).symm
theorem FL {d:D}(ht:Tame d)(hb:Bad d):Ar d=some false:=by
 have hz:sizeLine=16777216:=qpB;refine OK.eq ?_;unfold Ar;simp only [qqB,AZ,AJ];refine AD (P1 (fun s:List D × Int=>∃ p:Nat,s.2=(p:Int)/\p<=24/\(∀ x∈s.1,Tame x)/\∃ x∈s.1.drop p,Bad x) (fun _=>False) (fun b=>b=false) (fun s=>100 - s.2.toNat) ⟨0,rfl,qkC _,fun x hx=>by rw [qqA.mp hx];exact ht,d,by simp,hb⟩ (by simp) ?_ (fun _ h=>h.elim) fun r hr=>AB hr);rintro ⟨f,pl⟩ ⟨p,e1,h2,hT,x,hx,hbx⟩;dsimp only at e1 hT hx;subst e1;refine AB ?_
 have hlt:p<f.length:=by
  have:=List.length_pos_of_mem hx;rw [List.length_drop] at this;omega
 dsimp only;rw [show decide ((p:Int)<(f.length:Int))=true from decide_eq_true (by omega),if_pos rfl];have hp:f[p]? = some f[p]:=qwA hlt;have hat:atI f (p:Int)=some f[p]:=BJ hp;rw [RP hp] at hx;by_cases h24:(24:Int)<(f.length:Int)
 ·rw [decide_eq_true h24,cond_true,AZ];exact Al (fun _=>AB rfl) fun h=>nomatch h
 ·rw [decide_eq_false h24,cond_false,hat];simp only [AZ]
  cases hT f[p] (List.getElem_mem hlt) with
  | no q =>
   rw [q,AZ,AZ];exact Al (fun _=>AB rfl) fun h=>nomatch h
  | @yes _ ds q1 q2 q3 q4 =>
   rw [q1,q2,AZ,AZ,AZ];refine Al (fun h=>nomatch h) fun _=>RA _ (if_pos (by dsimp only;omega)) (AB ⟨⟨p+1,by dsimp only;omega,by omega,fun y hy=>?_,?_⟩,by dsimp only;omega⟩)
   ·rcases qmA.mp hy with hy|hy
    ·exact hT y hy
    ·exact q4 y hy
   ·dsimp only;rw [OY hp];rcases qnA.mp hx with e|hx
    ·subst e
     cases hbx with
     | here q=>rw [q1] at q;cases q
     | @part _ y ds' r1 r2 r3 r4 =>
      rw [q2] at r2;cases r2;exact ⟨y,qgC _ r3,r4⟩
    ·exact ⟨x,List.mem_append_left _ hx,hbx⟩
theorem kf:isK "tuple" .non=false/\(∀ b,isK "tuple" (.bl b)=false)/\(∀ i,isK "tuple" (.int i)=false)/\(∀ x,isK "tuple" (.str x)=false)/\(∀ l,isK "tuple" (.lst l)=false)/\isK "tuple" .dic=false :=
 ⟨by decide +kernel,fun _=>(by decide +kernel:(("bool" : String) == "tuple" || (("tuple" : String) == "int" && ("bool" : String) == "bool"))=false),fun _=>(by decide +kernel:(("int" : String) == "tuple" || (("tuple" : String) == "int" && ("int" : String) == "bool"))=false),fun _=>(by decide +kernel:(("str" : String) == "tuple" || (("tuple" : String) == "int" && ("str" : String) == "bool"))=false),fun _=>(by decide +kernel:(("list" : String) == "tuple" || (("tuple" : String) == "int" && ("list" : String) == "bool"))=false),by decide +kernel⟩
theorem HW {d:D}(h:AY d=some false):Tame d/\Bad d:=⟨.no h,.here h⟩
theorem Sent.sx {S:Nt}{n:Nat}{f:Fm}(h:Sent S n f):Sx S n:=by
 induction h with
 | yes=>exact .leaf (.inl rfl)
 | no=>exact .leaf (.inr rfl)
 | lamp hc=>exact .lamp hc
 | one hw _ ih=>exact .one hw ih
 | two hw _ _ ih1 ih2=>exact .two hw ih1 ih2
theorem Rt {S:Nt}{n:Nat}{f:Fm}(h:Sent S n f):Ar (ToD.to S)=some (decide (n<=24)):=Lg h.sx.gd
theorem Ec {d:D}(h:AY d=some false):Ar d=some false:=FL (HW h).1 (HW h).2
theorem Mk {S:Nt}{n:Nat}{f:Fm}(h:Sent S n f):∀ k,n<=k->CL k S=some (n:Int):=by
 induction h with
 | yes =>
  intro k hk;obtain ⟨k,rfl⟩:∃ j,k=j+1:=⟨k - 1,by omega⟩;show B0 _ _=_;refine OK.eq ?_;unfold B0;simp only [qqB,AZ,AJ,Bq,at0,D8,v_yl,cond_false,En,F0];exact AB rfl
 | no =>
  intro k hk;obtain ⟨k,rfl⟩:∃ j,k=j+1:=⟨k - 1,by omega⟩;show B0 _ _=_;refine OK.eq ?_;unfold B0;simp only [qqB,AZ,AJ,Bq,at0,D8,decide_eq_false nl_leaf.2,cond_false,En,F0];exact AB rfl
 | lamp hc =>
  intro k hk;obtain ⟨k,rfl⟩:∃ j,k=j+1:=⟨k - 1,by omega⟩;show B0 _ _=_;refine OK.eq ?_;unfold B0;simp only [qqB,AZ,AJ,lampN,Bq,at0,D8,decide_true,cond_true];exact AB rfl
 | @one w a n f hw ha ih =>
  intro k hk;obtain ⟨k,rfl⟩:∃ j,k=j+1:=⟨k - 1,by omega⟩;show B0 _ _=_;refine OK.eq ?_;unfold B0;simp only [qqB,AZ,AJ,Bq,at0,D8,decide_eq_false (R9 w hw),cond_false,En,F0,ih k (by omega),Option.bind_some];refine AB ?_;show (1:Int)+_=_;simp;omega
 | @two w a b n m f g hw ha hb ih1 ih2 =>
  intro k hk;obtain ⟨k,rfl⟩:∃ j,k=j+1:=⟨k - 1,by omega⟩;show B0 _ _=_;refine OK.eq ?_;unfold B0;simp only [qqB,AZ,AJ,Bq,at0,D8,decide_eq_false (QQ w hw),cond_false,En,F0,ih1 k (by omega),ih2 k (by omega),Option.bind_some];refine AB ?_;show (1:Int)+_=_;simp;omega
theorem lms_ok {S:Nt}{n:Nat}{f:Fm}(h:Sent S n f):∃ ds:List Nat,(∀ c∈ds,c∈abcN)/\∀ x:Str,Fm.lamp x∈f.sub ↔ ∃ c∈ds,x=one c:=by
 induction h with
 | yes=>exact ⟨[],fun c h=>(nomatch h),fun x=>by simp [Fm.sub]⟩
 | no=>exact ⟨[],fun c h=>(nomatch h),fun x=>by simp [Fm.sub]⟩
 | @lamp c hc=>exact ⟨[c],fun d h=>by rw [qqA.mp h];exact hc,fun x=>by simp [Fm.sub]⟩
 | one hw _ ih =>
  obtain ⟨ds,h1,h2⟩:=ih;exact ⟨ds,h1,fun x=>by rw [Hn,h2]⟩
 | two hw _ _ ih1 ih2 =>
  obtain ⟨ds,h1,h2⟩:=ih1;obtain ⟨es,g1,g2⟩:=ih2;refine ⟨ds++es,fun c hc=>(qmA.mp hc).elim (h1 c) (g1 c),fun x=>?_⟩;rw [EF,h2,g2];constructor
  ·rintro (⟨c,hc,e⟩ | ⟨c,hc,e⟩)
   ·exact ⟨c,List.mem_append_left _ hc,e⟩
   ·exact ⟨c,qgC _ hc,e⟩
  ·rintro ⟨c,hc,e⟩;rcases qmA.mp hc with hc|hc
   ·exact .inl ⟨c,hc,e⟩
   ·exact .inr ⟨c,hc,e⟩
theorem mom_tx (ds:List Nat):Mom (tx (lts ds)):=by
 show (lts ds).Sublist abcN;exact List.filter_sublist
def Lk (f:Fm)(ks:List Str):Prop:=ks.Nodup/\∀ x,x∈ks ↔ Fm.lamp x∈f.sub
theorem lk_len {f:Fm}{ks:List Str}(hk:Lk f ks){ds:List Nat}(d1:∀ c∈ds,c∈abcN)(d2:∀ x:Str,Fm.lamp x∈f.sub ↔ ∃ c∈ds,x=one c):(lts ds).length=ks.length:=by
 have nd:((lts ds).map one).Nodup:=by
  refine List.pairwise_map.mpr ((lts_pw ds).imp fun {a b} h e=>?_);have:=Ra e;omega
 have a1:=Er nd (m:=ks) fun x hx=>by
  obtain ⟨c,hc,rfl⟩:=qoA.mp hx;exact (hk.2 _).mpr ((d2 _).mpr ⟨c,(Jk d1 c).mp hc,rfl⟩)
 have a2:=Er hk.1 (m:=(lts ds).map one) fun x hx=>by
  obtain ⟨c,hc,rfl⟩:=(d2 x).mp ((hk.2 x).mp hx);exact qoA.mpr ⟨c,(Jk d1 c).mpr hc,rfl⟩
 rw [qfA] at a1 a2;omega
def refused (e x:Bool):DueT:=DueT.ref (Tp.mk [SB.s "refused",SB.b e,SB.b x,SB.b false,SB.b true])
def Kd (c k:Nat):DueT:=if 5<c\/3<k then refused false true else DueT.told ("told",1+((2 ^ c:Nat):Int))
theorem ntm:("TooMuch" : Str) ≠ "NoSentence" := by decide +kernel
theorem J9 {S:Nt}{n:Nat}{f:Fm}(hS:Sent S n f)(hn:n<=24){c:Nat}(hc:Cn f c)(h16:c<=20){ks:List Str}(hk:Lk f ks):Az (.g S)=some (Kd c ks.length):=by
 have hz:sizeLine=16777216:=qpB;have hd:=hS.dep;have hsz:=hS.size;have hp:=plain_ok hS 26 (by omega);obtain ⟨ds,d1,d2⟩:=lms_ok hS;obtain ⟨L,fs,k,hbk,hB,hD,hfk,hsub,hl⟩:=book_one (f:=f) (by omega) (by omega);have hb:=hB.book;have hkl:k<L.length:=by rw [hB.1];exact F7 hfk
 have hw:=wn_eq hB hD hsub hc
 have hlam:Bj L=some (tx (lts ds)):=by
  refine Pj hB (by omega) (lts_pw ds) (lts_len ds) fun x=>?_;rw [hsub,d2];exact ⟨fun ⟨c,hc,e⟩=>⟨c,(Jk d1 c).mpr hc,e⟩,fun ⟨c,hc,e⟩=>⟨c,(Jk d1 c).mp hc,e⟩⟩
 have hll:(tx (lts ds)).length=ks.length:=(show (tx (lts ds)).length=(lts ds).length from rfl).trans (lk_len hk d1 d2);have hwt:DG L=some ((ws L L.length).map fun (k:Nat)=>(k:Int)):=IJ L hb hl (by omega)
 have hbt:Bt [.g S]=some (.ok (L,[(k:Int)])):=by
  refine OK.eq ?_;unfold Bt;simp only [qqB,AZ,AJ];refine AD (OK.of (a:=Fl.nx ()) ?_ ?_)
  ·refine OK.eq (AD (AD (OK.of (Rt hS) ?_)));rw [decide_eq_true hn];exact AB (AB rfl)
  ·dsimp only;refine AD (OK.of (a:=[f.nt]) ?_ (AD (OK.of hbk (AB rfl))));refine OK.eq (AD (AD (OK.of (show Qp (Th.g S)=some S from rfl) (OK.of hp ?_))));exact AB rfl
 have hrf:B8 L 5=some (if 5<c then .error "TooMuch" else .ok ()):=by
  refine OK.eq ?_;unfold B8;simp only [qqB,AZ,AJ];refine AD (OK.of hwt (Al (fun h=>AB ?_) fun h=>AB ?_))
  ·have h:=of_decide_eq_true h;rw [qfA] at h;rw [if_pos (by omega)]
  ·have h:=of_decide_eq_false h;rw [qfA] at h;rw [if_neg (by omega)]
 have hbb:BU [.g S] 5=some (if 5<c\/3<ks.length then .error "TooMuch" else .ok (L,[(k:Int)])):=by
  refine OK.eq ?_;unfold BU;simp only [qqB,AZ,AJ];refine AD (OK.of hbt ?_);dsimp only;refine AD (OK.of hrf ?_);by_cases h5:5<c
  ·rw [if_pos h5,if_pos (.inl h5)];exact AB rfl
  ·rw [if_neg h5];dsimp only;refine AD (OK.of hlam ?_);rw [hll];refine Al (fun h=>AB ?_) fun h=>AB ?_
   ·have h:=of_decide_eq_true h;rw [if_pos (.inr (by omega))]
   ·have h:=of_decide_eq_false h;rw [if_neg (by omega)]
 refine OK.eq ?_;unfold Az;by_cases hr:5<c\/3<ks.length
 ·refine AD (OK.of (a:=.error "TooMuch") ?_ ?_)
  ·refine OK.eq ?_;unfold Ci;simp only [qqB,AZ,AJ];refine AD (OK.of hbb ?_);rw [if_pos hr];exact AB rfl
  ·dsimp only;rw [if_neg ntm,if_pos rfl];unfold Kd;rw [if_pos hr];exact AB rfl
 ·obtain ⟨ms,hms,ht⟩:=all_ok (tx (lts ds)) (mom_tx ds) (by omega)
  have h8:ms.length<=8:=by
   rw [ht.l];exact qhB (Nat.pow_le_pow_right (n:=2) (by decide) (show (tx (lts ds)).length<=3 by omega)) (by decide)
  have hwn:Wn L<=5:=by unfold Wn;omega
  refine AD (OK.of (a:=.ok (T4.mk (tx (lts ds)) (1+((2 ^ Wn L:Nat):Int)) (ms.flatMap (Mt L k)) ((hs L L.length).length:Int))) ?_ ?_)
  ·refine OK.eq ?_;unfold Ci;simp only [qqB,AZ,AJ];refine AD (OK.of hbb ?_);rw [if_neg hr];dsimp only;have a0:atI [(k:Int)] (0:Int)=some (k:Int):=rfl;exact AD (OK.of a0 (AD (OK.of (wob_eq hb hl hwn hkl hlam hms h8) (AB rfl))))
  ·dsimp only;unfold Kd;rw [if_neg hr];refine AB ?_;unfold Wn;rw [hw]
theorem QA {d:D}(h:Ar d=some false):Az (.b d)=some (refused true false):=by
 have hbt:Bt [.b d]=some (.error "NoSentence"):=by
  refine OK.eq ?_;unfold Bt;simp only [qqB,AZ,AJ];refine AD (OK.of (a:=Fl.rt "NoSentence") ?_ (AB rfl));refine OK.eq (AD (AD (OK.of (show Ar (ToD.to (Th.b d))=some false from h) ?_)));exact AB (AB rfl)
 refine OK.eq ?_;unfold Az;refine AD (OK.of (a:=.error "NoSentence") ?_ ?_)
 ·refine OK.eq ?_;unfold Ci;simp only [qqB,AZ,AJ];refine AD (OK.of (a:=.error "NoSentence") ?_ (AB rfl));refine OK.eq ?_;unfold BU;simp only [qqB,AZ,AJ];exact AD (OK.of hbt (AB rfl))
 ·dsimp only;rw [if_pos rfl];exact AB rfl
theorem abc9:("abcdefghi" : Str).cps.toList=[97,98,99,100,101,102,103,104,105]:=by decide +kernel
theorem letter (x:Int):∃ c∈abcN,atI ("abcdefghi" : Str).cps.toList (x % 9)=some c:=by
 have h0:=qsB x (b:=9) (by decide);have h1:=qtB x (b:=9) (by decide);rw [abc9];obtain ⟨n,hn⟩:=Int.eq_ofNat_of_zero_le h0;rw [hn] at h1 ⊢;have h9:n<9:=by omega
 have:∀ n:Nat,n<9->∃ c∈abcN,([97,98,99,100,101,102,103,104,105]:List Nat)[n]? = some c:=by decide
 obtain ⟨c,hc,e⟩:=this n h9;exact ⟨c,hc,BJ e⟩
theorem Lk.pl1 {f:Fm}{ks:List Str}(h:Lk f ks)(w:Str):Lk (pl1 w f) ks:=⟨h.1,fun x=>by rw [Hn];exact h.2 x⟩
theorem Lk.congr {f f':Fm}{ks:List Str}(h:Lk f ks)(e:∀ x,Fm.lamp x∈f'.sub ↔ Fm.lamp x∈f.sub):Lk f' ks:=⟨h.1,fun x=>by rw [e];exact h.2 x⟩
theorem lmy (x:Str):¬Fm.lamp x∈Fm.yes.sub:=by simp [Fm.sub]
theorem Lk.pl2 {f:Fm}{ks:List Str}(h:Lk f ks)(w:Str):Lk (pl2 w f .yes) ks:=h.congr fun x=>by
 rw [EF];exact ⟨fun z=>z.elim id fun z=>(lmy x z).elim,.inl⟩
theorem Se {f:Fm}{c:Nat}(h:Cn f c):Cn (.neg (.unt .yes f.den)) (c+1):=h.den.unt.neg
theorem cn_again {f:Fm}{c:Nat}(h:Cn f c):Cn (.neg (.unt .yes (.neg (.unt .yes f)))) (c+2):=h.unt.neg.unt.neg
theorem Qa {f:Fm}{c:Nat}(h:Cn f c):Cn (.unt .yes (.neg (.unt .yes f.den))) (c+2):=h.den.unt.neg.unt
theorem cn_frees {f:Fm}{c:Nat}(h:Cn f c):Cn (.neg (.unt f.den (.neg .yes))) (c+1):=(h.den.untY fun g z=>N2 g ((KN _ g).mp z)).neg
structure Chn (c0:Nat)(m:Nat)(s:Nt × Int × Bool)(n:Nat)(f:Fm)(c:Nat):Prop where
 S:Sent s.1 n f
 l:n<=2 * m+1
 C:Cn f c
 k:c<=2 * m
 e:s.2.1=(c:Int)
 u:s.2.2=Mh f
 L:Lk f [one c0]
theorem mem034 (w:Int)(h:5<w):decide (w∈([0,3,4]:List Int))=false:=by
 apply decide_eq_false;simp only [qnA,qeC,or_false,not_or];omega
theorem w1s:(("next" : Str)∈W1/\("atlast" : Str)∈W1/\("always" : Str)∈W1/\("again" : Str)∈W1/\("settles" : Str)∈W1/\("not" : Str)∈W1)/\("until" : Str)∈W2/\("frees" : Str)∈W2/\("and" : Str)∈W2/\("or" : Str)∈W2:=by decide +kernel
theorem chain_ok (sc:Scr){x2:Int}(hx:Aq sc 2=some x2){c0:Nat}(h0:c0∈abcN)(hc:atI ("abcdefghi" : Str).cps.toList (x2 % 9)=some c0) :
  OK (Ct sc) fun r=>∃ n f c,Sent r.1 n f/\n<=17/\Cn f c/\c<=16/\r.2=(c:Int)/\Lk f [one c0]:=by
 have hz:sizeLine=16777216:=qpB;obtain ⟨⟨i1,i2,i3,i4,i5,i6⟩,j1,j2,j3,j4⟩:=w1s;unfold Ct;simp only [qqB,AZ,AJ];refine AD (OK.of hx (AD (OK.of hc ?_)));refine AD (D0 _ _ (by decide) (by decide) fun x3=>?_);have a0:=qsB x3 (b:=9) (by decide);have a1:=qtB x3 (b:=9) (by decide);obtain ⟨m,hm⟩:=Int.eq_ofNat_of_zero_le a0;rw [hm];refine AD (Jv (n:=m) (by omega) (by omega) (by omega) ?_);refine AD (FB (fun i (s:Nt × Int × Bool)=>∃ n f c,Chn c0 i s n f c) ⟨1,.lamp (one c0),0,.lamp h0,by omega,cn_lamp _,by omega,rfl,rfl,List.nodup_cons.mpr ⟨by simp,.nil⟩,fun x=>by simp [Fm.sub]⟩ (fun i a s ha hI=>?_) fun s hI=>?_)
 ·obtain ⟨hi,rfl⟩:=Qf ha;obtain ⟨n,f,c,hS,hn,hC,hcm,he,hu,hL⟩:=hI;obtain ⟨S,z,b⟩:=s;have he:z=(c:Int):=he;have hu:b=Mh f:=hu;subst he hu;refine AD (D0 _ _ (by omega) (by omega) fun x=>AD (D0 _ _ (by omega) (by omega) fun y=>?_));have b0:=qsB (x / 2) (b:=6) (by decide);have b1:=qtB (x / 2) (b:=6) (by decide);have b2:=qsB y (b:=2) (by decide);have b3:=qtB y (b:=2) (by decide);generalize hw:x / 2 % 6+6 * (y % 2)=w;refine AD (P3 (qsB _ (by decide)) (qtB _ (by decide)) fun word hword=>?_);by_cases h5:5<w
  ·rw [decide_eq_true h5,mem034 w h5];refine AD (AB (AB ⟨_,rfl,n+1,pl1 "next" f,c+(if Mh f=true then 0 else 1),?_,?_,?_,?_,?_,?_,hL.pl1 _⟩))
   ·exact .one i1 hS
   ·omega
   ·rw [OO];exact hC.next
   ·by_cases u:Mh f=true
    ·rw [if_pos u];omega
    ·rw [if_neg u];omega
   ·cases Mh f
    ·show (c:Int)+1=((c+1:Nat):Int);omega
    ·show (c:Int)+0=((c+0:Nat):Int);omega
   ·rw [OO];rfl
  ·rw [decide_eq_false h5];have hw6:w=0\/w=1\/w=2\/w=3\/w=4\/w=5:=by omega
   rcases hw6 with rfl|rfl|rfl|rfl|rfl|rfl
   ·cases hword;refine AD (AB (AB ⟨_,rfl,n+1,pl1 "atlast" f,c+1,.one i2 hS,by omega,?_,by omega,?_,?_,hL.pl1 _⟩))
    ·rw [Ka];exact hC.unt
    ·show (c:Int)+1=_;omega
    ·rw [Ka];rfl
   ·cases hword;refine AD (AB (AB ⟨_,rfl,n+1,pl1 "always" f,c+1,.one i3 hS,by omega,?_,by omega,?_,?_,hL.pl1 _⟩))
    ·rw [LI];exact Se hC
    ·show (c:Int)+1=_;omega
    ·rw [LI];rfl
   ·cases hword;refine AD (AB (AB ⟨_,rfl,n+1,pl1 "again" f,c+2,.one i4 hS,by omega,?_,by omega,?_,?_,hL.pl1 _⟩))
    ·rw [MR];exact cn_again hC
    ·show (c:Int)+2=_;omega
    ·rw [MR];rfl
   ·cases hword;refine AD (AB (AB ⟨_,rfl,n+1,pl1 "settles" f,c+2,.one i5 hS,by omega,?_,by omega,?_,?_,hL.pl1 _⟩))
    ·rw [JQ];exact Qa hC
    ·show (c:Int)+2=_;omega
    ·rw [JQ];rfl
   ·cases hword;refine AD (AB (AB ⟨_,rfl,n+1+1,pl2 "until" f .yes,c+1,.two j1 hS .yes,by omega,?_,by omega,?_,?_,hL.pl2 _⟩))
    ·rw [Lz];exact hC.untY N2
    ·show (c:Int)+1=_;omega
    ·rw [Lz];rfl
   ·cases hword;refine AD (AB (AB ⟨_,rfl,n+1+1,pl2 "frees" f .yes,c+1,.two j2 hS .yes,by omega,?_,by omega,?_,?_,hL.pl2 _⟩))
    ·rw [M4];exact cn_frees hC
    ·show (c:Int)+1=_;omega
    ·rw [M4];rfl
 ·rw [HP] at hI;obtain ⟨n,f,c,hS,hn,hC,hcm,he,hu,hL⟩:=hI;exact AB ⟨n,f,c,hS,by omega,hC,by omega,he,hL⟩
theorem twice_ok (sc:Scr){x2:Int}(hx:Aq sc 2=some x2){c0:Nat}(h0:c0∈abcN)(hc:atI ("abcdefghi" : Str).cps.toList (x2 % 9)=some c0){S:Nt}{n:Nat}{f:Fm}{c:Nat}(hS:Sent S n f)(hn:n<=17)(hC:Cn f c)(hL:Lk f [one c0]) :
  OK (Cs sc S) fun S'=>∃ n' f',Sent S' n' f'/\n'<=23/\Cn f' c/\Lk f' [one c0]:=by
 obtain ⟨⟨i1,i2,i3,i4,i5,i6⟩,j1,j2,j3,j4⟩:=w1s;unfold Cs;simp only [qqB,AZ,AJ];refine AD (OK.of hx (AD (OK.of hc ?_)));refine AD (OK.of (Mk hS 60 (by omega)) ?_);refine GV (P:=fun b=>b=false->n<=8) (Al (fun _=>AB fun z=>nomatch z) fun h=>AD (D0 _ _ (by decide) (by decide) fun x=>AB fun _=>?_)) fun b hb=>?_
 ·have h:=of_decide_eq_false h;omega
 ·refine Al (fun _=>AB ⟨n,f,hS,by omega,hC,hL⟩) fun h=>?_;have h8:=hb h;refine AB ⟨_,_,.two j4 (.two j3 hS (.lamp h0)) (.two j3 (.one i6 hS) (.one i6 (.lamp h0))),by omega,?_,?_⟩
  ·rw [pl2_or,Ji,Ji,NI,NI];refine hC.congr fun g=>?_;rw [KN,LH,KR,KR,LH,LH,KR,KR];constructor
   ·rintro ((z|z)|z|z)
    ·exact z
    ·exact (HX _ g z).elim
    ·exact z
    ·exact (HX _ g z).elim
   ·exact fun z=>.inl (.inl z)
  ·refine hL.congr fun x=>?_;rw [EF,EF,EF,Hn,Hn]
   have hx:Fm.lamp x∈(Fm.lamp (one c0)).sub->Fm.lamp x∈f.sub:=fun z=>by
    simp only [Fm.sub,qqA,Fm.lamp.injEq] at z;rw [z];exact (hL.2 _).mp qrA
   constructor
   ·rintro ((z|z)|z|z)
    ·exact z
    ·exact hx z
    ·exact z
    ·exact hx z
   ·exact fun z=>.inl (.inl z)
theorem OJ (l:List (Str × Bool))(k:Str)(a:Bool):(Gc l k a).map (·.1)=if k∈l.map (·.1) then l.map (·.1) else l.map (·.1)++[k]:=by
 unfold Gc
 have e:(l.any fun q=>decide (q.1=k))=true ↔ k∈l.map (·.1):=by
  rw [List.any_eq_true,qoA];exact ⟨fun ⟨q,h1,h2⟩=>⟨q,h1,of_decide_eq_true h2⟩,fun ⟨q,h1,h2⟩=>⟨q,h1,decide_eq_true h2⟩⟩
 by_cases h:k∈l.map (·.1)
 ·rw [if_pos h,if_pos (e.mpr h),List.map_map];refine List.map_congr_left fun q hq=>?_;show (if q.1=k then (q.1,a) else q).1=q.1;split<;>rfl
 ·rw [if_neg h,if_neg (fun z=>h (e.mp z)),qcB]
  rfl
theorem put_len (l:List (Str × Bool))(k:Str)(a:Bool):(Gc l k a).length<=l.length+1:=by
 have:=congrArg List.length (OJ l k a);rw [qfA] at this;rw [this];split
 ·rw [qfA];omega
 ·rw [qgA,qfA];simp
theorem lk_put {f:Fm}{l:List (Str × Bool)}(h:Lk f (l.map (·.1)))(k:Str)(a:Bool){f':Fm}(e:∀ x,Fm.lamp x∈f'.sub ↔ Fm.lamp x∈f.sub\/x=k):Lk f' ((Gc l k a).map (·.1)):=by
 rw [OJ];by_cases hk:k∈l.map (·.1)
 ·rw [if_pos hk];refine h.congr fun x=>?_;rw [e];exact ⟨fun z=>z.elim id fun z=>z ▸ (h.2 k).mp hk,.inl⟩
 ·rw [if_neg hk];refine ⟨qfB.mpr ⟨h.1,List.nodup_cons.mpr ⟨by simp,.nil⟩,fun a ha b hb z=>?_⟩,fun x=>?_⟩
  ·rw [qqA.mp hb] at z;exact hk (z ▸ ha)
  ·rw [qmA,qqA,e,h.2]
structure Wl (c:Nat)(n0 i:Nat)(s:Nt × MpS Bool)(n:Nat)(f:Fm):Prop where
 S:Sent s.1 n f
 l:n<=n0+2 * i
 C:Cn f c
 L:Lk f (s.2.l.map (·.1))
 d:s.2.l.length<=i+1
theorem lamps_ok (sc:Scr){x2:Int}(hx:Aq sc 2=some x2){c0:Nat}(hc:atI ("abcdefghi" : Str).cps.toList (x2 % 9)=some c0){S:Nt}{n:Nat}{f:Fm}{c:Nat}(hS:Sent S n f)(hn:n<=23)(hC:Cn f c)(hL:Lk f [one c0]) :
  OK (Bd sc S) fun r=>∃ n' f' ks,Sent r.1 n' f'/\n'<=24/\Cn f' c/\Lk f' ks/\r.2=(ks.length:Int):=by
 have hz:sizeLine=16777216:=qpB;obtain ⟨⟨i1,i2,i3,i4,i5,i6⟩,j1,j2,j3,j4⟩:=w1s;unfold Bd;simp only [qqB,AZ,AJ];refine AD (OK.of hx (AD (OK.of hc ?_)));refine AD (D0 _ _ (by decide) (by decide) fun x8=>AD (OK.of (Mk hS 60 (by omega)) ?_));have a0:=qsB x8 (b:=5) (by decide);have a1:=qtB x8 (b:=5) (by decide);have hd:(0:Int)<=(24 - (n:Int)) / 2:=by omega
 obtain ⟨m,hm,hm2⟩:∃ m:Nat,(if (24 - (n:Int)) / 2<x8 % 5 then (24 - (n:Int)) / 2 else x8 % 5)=(m:Int)/\n+2 * m<=24:=by
  by_cases h:(24 - (n:Int)) / 2<x8 % 5
  ·exact ⟨((24 - (n:Int)) / 2).toNat,by rw [if_pos h];omega,by omega⟩
  ·exact ⟨(x8 % 5).toNat,by rw [if_neg h];omega,by omega⟩
 rw [hm];refine AD (Jv (n:=m) (by omega) (by omega) (by omega) ?_);refine AD (FB (fun i (s:Nt × MpS Bool)=>∃ n' f',Wl c n i s n' f') ⟨n,f,hS,by omega,hC,hL,by show 1<=0+1;omega⟩ (fun i a s ha hI=>?_) fun s hI=>?_)
 ·obtain ⟨hi,rfl⟩:=Qf ha;obtain ⟨n',f',hS',hn',hC',hL',hd'⟩:=hI;refine AD (D0 _ _ (by omega) (by omega) fun x=>?_);obtain ⟨d,hd,e⟩:=letter x;refine AD (OK.of e ?_);refine AD (OK.of (a:=⟨Gc s.2.l (one d) true⟩) (if_pos (by omega)) ?_);refine AD (D0 _ _ (by omega) (by omega) fun y=>?_);have hll:∀ x,Fm.lamp x∈(Fm.lamp (one d)).sub ↔ x=one d:=fun x=>by simp [Fm.sub]
  have hp:=put_len s.2.l (one d) true;refine Al (fun _=>?_) fun _=>AB ⟨_,rfl,n'+1+1,pl2 "and" f' (.lamp (one d)),.two j3 hS' (.lamp hd),by omega,?_,?_,by show (Gc _ _ _).length<=_;omega⟩
  ·have b1:atI [Nt.txt ("and" : Str),s.1,Nt.tup [Nt.txt ("lamp" : Str),Nt.txt (one d)]] (2:Int)=some (Nt.tup [Nt.txt ("lamp" : Str),Nt.txt (one d)]):=at2 ..;have b2:atI [Nt.txt ("and" : Str),s.1,Nt.tup [Nt.txt ("lamp" : Str),Nt.txt (one d)]] (1:Int)=some s.1:=at1 ..;refine AD (OK.of rfl (AD (OK.of b1 (AD (OK.of rfl (AD (OK.of b2 ?_)))))));refine AB ⟨_,rfl,1+n'+1,pl2 "and" (.lamp (one d)) f',.two j3 (.lamp hd) hS',by omega,?_,?_,by show (Gc _ _ _).length<=_;omega⟩
   ·rw [Ji];refine hC'.congr fun g=>?_;rw [LH];exact ⟨fun z=>z.elim (fun z=>(HX _ g z).elim) id,.inr⟩
   ·exact lk_put hL' _ _ fun x=>by rw [EF,hll];exact or_comm
  ·rw [Ji];refine hC'.congr fun g=>?_;rw [LH];exact ⟨fun z=>z.elim id fun z=>(HX _ g z).elim,.inl⟩
  ·exact lk_put hL' _ _ fun x=>by rw [EF,hll]
 ·rw [HP] at hI;obtain ⟨n',f',hS',hn',hC',hL',hd'⟩:=hI;exact AB ⟨n',f',_,hS',by omega,hC',hL',by rw [qfA]⟩
theorem Mb:∀ (m:Nat) {S:Nt}{n:Nat}{f:Fm},Sent S n f->∀ {T:Nt} ,T=Nat.rec S (fun _ T=>Nt.tup [Nt.txt ("not" : Str),T]) m->∃ f',Sent T (n+m) f'/\(∀ c,Cn f c->Cn f' c)/\∀ ks,Lk f ks->Lk f' ks
 | 0,S,n,f,h,T,e=>by subst e;exact ⟨f,h,fun _ z=>z,fun _ z=>z⟩
 | m+1,S,n,f,h,T,e=>by
  obtain ⟨f',h1,h2,h3⟩:=Mb m h (T:=Nat.rec S (fun _ T=>Nt.tup [Nt.txt ("not" : Str),T]) m) rfl;subst e;exact ⟨pl1 "not" f',.one w1s.1.2.2.2.2.2 h1,fun c z=>by rw [NI];exact (h2 c z).den,fun ks z=>(h3 ks z).pl1 _⟩
theorem gNot:Eg CQ "Not" = none/\("Not" : Str) ≠ "lamp" /\ Eg CQ "and" = some 2/\("and" : Str) ≠ "lamp" /\ Eg CQ "next" = some 1/\("next" : Str) ≠ "lamp" := by decide +kernel
theorem bad5:∀ w∈[("A" : Str),"ab","","-","z1"],DS (.str w)=some false:=by decide +kernel
theorem form_nil:AY (.tup [])=some false:=by decide +kernel
theorem Qq (x:Int){S:Nt}{n:Nat}{f:Fm}(hS:Sent S n f)(hn:n<=24):OK (CC x S) fun d=>Ar d=some false:=by
 have hz:sizeLine=16777216:=qpB;obtain ⟨k1,k2,k3,k4,k5,k6⟩:=gNot;have ht:=hS.sx.gd.tame;have hp:=hS.pos;unfold CC;simp only [qqB,AZ,AJ];refine Al (fun _=>AB ?_) fun _=>Al (fun _=>AB ?_) fun _=>Al (fun _=>?_) fun _=>Al (fun _=>AB ?_) fun _=>Al (fun _=>?_) fun _=>Al (fun _=>AB ?_) fun _=>?_
 ·refine Ec (Qm (x:=ToD.to S) (l:=[]) ?_);cases hS<;>rfl
 ·exact Ec (form_out (w := "Not") k2 k1)
 ·have a0:=qsB (x / 8) (b:=5) (by decide);have a1:=qtB (x / 8) (b:=5) (by decide);refine AD (P3 a0 a1 fun w hw=>AB ?_);have hw:=bad5 w (quA hw);have hf:AY (.tup [.str "and",ToD.to S,.tup [.str "lamp",.str w]])=some true:=FH (k:=2) k4 k3;have hpp:At (.tup [.str "and",ToD.to S,.tup [.str "lamp",.str w]])=some ⟨[ToD.to S,.tup [.str "lamp",.str w]]⟩:=CO k4;have hb:AY (.tup [.str "lamp",.str w])=some false:=Lv hw;refine FL (.yes hf hpp (by simp) fun y hy=>?_) (.part hf hpp (qsA _ qrA) (HW hb).2);rcases qnA.mp hy with rfl|hy
  ·exact ht
  ·rw [qqA.mp hy];exact (HW hb).1
 ·exact Ec (DW (kf.2.2.2.2.1 _))
 ·refine AD (Jv (n:=24) (by decide) (by decide) (by omega) ?_);refine AD (FB (fun i (T:Nt)=>T=Nat.rec S (fun _ T=>Nt.tup [Nt.txt ("not" : Str),T]) i) rfl (fun i a T ha hI=>AB ⟨_,rfl,by rw [hI]⟩) fun T hI=>?_);rw [HP] at hI;obtain ⟨f',h1,_⟩:=Mb 24 hS hI;refine AB ?_;rw [Rt h1];exact congrArg some (decide_eq_false (by omega))
 ·refine Ec ?_;exact FH (l:=[ToD.to S]) (k:=2) k4 k3
 ·have a0:=qsB (x / 8) (b:=7) (by decide);have a1:=qtB (x / 8) (b:=7) (by decide);refine P3 a0 a1 fun d hd=>?_;have hd:=quA hd;obtain ⟨q1,q2,q3,q4,q5,q6⟩:=kf;simp only [qnA,qeC,or_false] at hd;rcases hd with rfl|rfl|rfl|rfl|rfl|rfl|rfl
  ·exact Ec (DW q1)
  ·exact Ec (DW (q2 true))
  ·exact Ec (DW (q3 7))
  ·exact Ec (DW (q4 _))
  ·exact Ec (DW q6)
  ·exact Ec form_nil
  ·have hf:AY (.tup [.str "next",.int 3])=some true:=FH (k:=1) k6 k5;have hpp:At (.tup [.str "next",.int 3])=some ⟨[.int 3]⟩:=CO k6;have hb:=HW (DW (q3 3));exact FL (.yes hf hpp (by simp) fun y hy=>by rw [qqA.mp hy];exact hb.1) (.part hf hpp qrA hb.2)
theorem Kz (d:DueT):PF d d=some true:=by
 cases d with
 | told p=>exact congrArg some (decide_eq_true rfl)
 | ref t=>exact congrArg some (decide_eq_true rfl)
theorem pow_at:∀ c:Nat,c<=5->atI [(1:Int),2,4,8,16,32] (c:Int)=some ((2 ^ c:Nat):Int):=by decide
theorem Sn:Az (Th.g (Nt.tup [Nt.txt ("no" : Str)]))=some (DueT.told ("told",2)):=by
 have h:=J9 Sent.no (by decide) cn_yes.neg (by decide) (ks:=[]) ⟨.nil,fun x=>by simp [Fm.sub]⟩;unfold Kd at h;rw [if_neg (by decide)] at h;exact h
def Cd (p:Th × DueT):Prop:=Az p.1=some p.2
theorem cd_mk {t:Th}{d:DueT}(h:Az t=some d):Cd (t,d):=by
 unfold Cd;exact h
theorem cd_bad {d:D}(h:Ar d=some false):Cd (Th.b d,DueT.ref (Tp.mk [SB.s ("refused" : Str),SB.b true,SB.b false,SB.b false,SB.b true])):=by
 unfold Cd;exact QA h
theorem law_true (ns:List Int)(hl:ns.length<=63):Pb ⟨ns⟩=some true:=by
 have hz:sizeLine=16777216:=qpB;obtain ⟨x2,hx,_⟩:=D0 ⟨ns⟩ 2 (by decide) (by decide) (P:=fun _=>True) fun _=>trivial;obtain ⟨c0,h0,hc⟩:=letter x2;refine OK.eq ?_;unfold Pb;simp only [qqB,AZ,AJ];refine GV (chain_ok ⟨ns⟩ hx h0 hc) fun r ⟨n,f,c,hS,hn,hC,hc16,he,hL⟩=>?_;refine GV (twice_ok ⟨ns⟩ hx h0 hc hS hn hC hL) fun S2 ⟨n2,f2,hS2,hn2,hC2,hL2⟩=>?_;refine GV (lamps_ok ⟨ns⟩ hx hc hS2 hn2 hC2 hL2) fun t ⟨n3,f3,ks,hS3,hn3,hC3,hL3,hk⟩=>?_;rw [he,hk]
 obtain ⟨c',hc',hcc⟩:∃ c':Nat,(if (5:Int)<(c:Int) then (5:Int) else (c:Int))=(c':Int)/\c'=min c 5:=by
  by_cases h:(5:Int)<(c:Int)
  ·exact ⟨5,by rw [if_pos h];rfl,by omega⟩
  ·exact ⟨c,by rw [if_neg h],by omega⟩
 rw [hc'];refine AD (OK.of (pow_at c' (by omega)) ?_);refine GV (P:=fun d=>d=Kd c ks.length) (Al (fun h=>AB ?_) fun h=>AB ?_) fun d hd=>?_
 ·rw [Bool.or_eq_true,decide_eq_true_iff,decide_eq_true_iff] at h;unfold Kd;rw [if_pos (by omega)]
  rfl
 ·rw [Bool.or_eq_false_iff,decide_eq_false_iff_not,decide_eq_false_iff_not] at h;unfold Kd;rw [if_neg (by omega),show c'=c by omega]
 subst hd;refine AD (D0 _ _ (by decide) (by decide) fun x22=>?_);refine GV (P:=fun T=>∃ S n f,T=Th.g S/\Sent S n f/\n<=24/\Cn f c/\Lk f ks) (Al (fun _=>?_) fun _=>AB ⟨_,n3,f3,rfl,hS3,hn3,hC3,hL3⟩) fun T ⟨S4,n4,f4,eT,hS4,hn4,hC4,hL4⟩=>?_
 ·refine AD (OK.of (show Qp (Th.g t.1)=some t.1 from rfl) (AD (OK.of (Mk hS3 60 (by omega)) ?_)));refine AD (Jv (n:=24 - n3) (by omega) (by decide) (by omega) ?_);refine AD (FB (fun i (T:Th)=>T=Th.g (Nat.rec t.1 (fun _ T=>Nt.tup [Nt.txt ("not" : Str),T]) i)) rfl (fun i a T ha hI=>?_) fun T hI=>?_)
  ·subst hI;exact AD (OK.of rfl (AB ⟨_,rfl,rfl⟩))
  ·rw [HP] at hI;obtain ⟨f',h1,h2,h3⟩:=Mb (24 - n3) hS3 (T:=Nat.rec t.1 (fun _ T=>Nt.tup [Nt.txt ("not" : Str),T]) (24 - n3)) rfl;exact AB ⟨_,_,f',hI,h1,by omega,h2 c hC3,h3 ks hL3⟩
 subst eT;refine AD (D0 _ _ (by decide) (by decide) fun x0=>?_);refine GV (P:=Cd) (Al (fun _=>?_) fun _=>AB (cd_mk (J9 hS4 hn4 hC4 (by omega) hL4))) fun p hp=>?_
 ·refine AD (D0 _ _ (by decide) (by decide) fun x1=>?_);exact GV (Qq x1 hS3 hn3) fun d hd=>AB (cd_bad hd)
 unfold Cd at hp;refine AD (OK.of hp ?_);refine AD (OK.of (Kz p.2) ?_);refine AD (OK.of Sn ?_);refine AD (OK.of (Kz _) ?_);refine AD (OK.of hp ?_);exact OK.of (Kz _) rfl
theorem law_imp {K:FZ9}{vs:List V}{H:Hp}{Q:VK}{E:XK}(h:N1 K vs H Q E):spM K mm_law vs H Q E:=by
 obtain ⟨a,ns,rfl,hS,hl,q⟩:=h;exact ⟨H,(⟨ns⟩,()),true,Same.refl H,⟨.ref a,[],rfl,⟨a,rfl,hS⟩,rfl⟩,law_true ns hl,fun v G2 H2 x r=>by cases r;exact q H2⟩
set_option maxHeartbeats 1000000 in
theorem all_mk {l:PySem.W.OpenLaw}{w:World}{K:FZ9}{h:Heap}{mg:Str->Option Value}{fa:Addr}(X:K.In h)(G:h.Ns mainGlobals mg)(hfa:mg "law" = some (.ref fa))
  (Z:DIn K mg "is_moment" FX/\DIn K mg "all_moments" Ed/\DIn K mg "parts_of" F8/\DIn K mg "is_lamp" Ie/\DIn K mg "has_form" Ge/\DIn K mg "is_sentence" Ek/\DIn K mg "row_number" FE/\DIn K mg "lay" RU/\DIn K mg "book_of" Io/\DIn K mg "lamps_in" Gg/\DIn K mg "waits" Ms/\DIn K mg "hopes" Nd/\DIn K mg "truth_of" HD/\DIn K mg "view_with" Fb/\DIn K mg "look" Q8/\DIn K mg "claims_of" GI/\DIn K mg "all_claims" FS/\DIn K mg "is_eased" Gy/\DIn K mg "eased" NT/\DIn K mg "denied" K1/\DIn K mg "plain_with_one" Da/\DIn K mg "plain_with_two" DV/\DIn K mg "plain" Jr/\DIn K mg "claims_for" FD/\DIn K mg "steps_at" HC/\DIn K mg "steps_of" Gr/\DIn K mg "book_told" Fs/\DIn K mg "refuse_more_waits" CU/\DIn K mg "bounded_book" ED/\DIn K mg "watcher_of_book" DE/\DIn K mg "watcher" IU/\DIn K mg "_law_cell" HI/\DIn K mg "_law_chain" GH/\DIn K mg "_law_size" FG/\DIn K mg "_law_twice" GF/\DIn K mg "_law_with_lamps" DM/\DIn K mg "_law_spoiled" EZ/\DIn K mg "_law_called" FC/\DIn K mg "law" s_law)
  {tk0 tk2 tk3 tk4:Tok}
  {ga1:Addr}{ges1:Array DictEntry}{gn1:Nat}
  {ga2:Addr}{god2:Option Addr}{gn2:Nat}{gsl2:Array (Option Value)}
  (gv0:qxB K mainGlobals "MOST_WORDS" = some (some (.int 24 tk0)))
  (gv1:qxB K mainGlobals "PARTS" = some (some (.ref ga1))) (gl1:K.lookup ga1=some ⟨.type "dict",none,.dict ges1 gn1,#[]⟩) (gk1:PySem.W.KeysLit w.params ges1.toList) (ge1:EntC ges1.toList CQ) (go1:(ga1 == sysModules)=false)
  (gv2:qxB K mainGlobals "YES" = some (some (.ref ga2))) (gl2:K.lookup ga2=some ⟨.type "tuple",god2,.seq #[.str "yes" tk2] gn2,gsl2⟩)
  (gv3:qxB K mainGlobals "MOST_WAITS" = some (some (.int 5 tk3)))
  (gv4:qxB K mainGlobals "MOST_LAMPS" = some (some (.int 3 tk4)))
  (zs:Nn K "ValueError" /\ Nn K "dict" /\ Nn K "enumerate" /\ Nn K "int" /\ Nn K "isinstance" /\ Nn K "len" /\ Nn K "min" /\ Nn K "range" /\ Nn K "set" /\ Nn K "sorted" /\ Nn K "str" /\ Nn K "sum" /\ Nn K "tuple" /\ Nn K "zip")
  (XX:XC K) :
  ∃ fd:FuncData,(∀ (s:Shared) (v:Value),BindsTo s fd ⟨[v],[]⟩ [("_law_script",v)])/\∀ base:Heap,K.In base->base.Ns mainGlobals mg->FnOk l.prog w K mg base CX0 168 fa fd ["_law_script"] (N1 K):=by
 obtain ⟨z0,z1,z2,z3,z4,z5,z6,z7,z8,z9,z10,z11,z12,z13,z14,z15,z16,z17,z18,z19,z20,z21,z22,z23,z24,z25,z26,z27,z28,z29,z30,z31,z32,z33,z34,z35,z36,z37,z38⟩:=Z;obtain ⟨y0,y1,y2,y3,y4,y5,y6,y7,y8,y9,y10,y11,y12,y13⟩:=zs;obtain ⟨f,fd,a,F⟩:=z38.ex;cases hfa.symm.trans a;have T:Txt w K mg:=⟨PySem.W.mg_none_of X G y0,PySem.W.mg_none_of X G y1,PySem.W.mg_none_of X G y2,PySem.W.mg_none_of X G y3,PySem.W.mg_none_of X G y4,PySem.W.mg_none_of X G y5,PySem.W.mg_none_of X G y6,PySem.W.mg_none_of X G y7,PySem.W.mg_none_of X G y8,PySem.W.mg_none_of X G y9,PySem.W.mg_none_of X G y10,PySem.W.mg_none_of X G y11,PySem.W.mg_none_of X G y12,PySem.W.mg_none_of X G y13,⟨_,qyB X G gv0⟩,⟨_,qyB X G gv1,go1,_,_,gl1,gk1,ge1⟩,⟨_,qyB X G gv2,fun G_=>rel_tup1 gl2 (by decide) G_⟩,⟨_,qyB X G gv3⟩,⟨_,qyB X G gv4⟩⟩;refine ⟨fd,?_,fun base KB GB=>?_⟩
 ·obtain ⟨_,_,_,_,_,_,_,_,_,rfl,_⟩:=F.ex;exact fun s v=>.of_eq rfl
 obtain ⟨aS,aT,aR,aW,aM,aE,aC,aX,aN,⟨naS,naT,naR,naW,naM,naE,naC,naX,naN⟩,xe,xx,xE,xX⟩:=XX;have OE:OwnCls "NoSentence" aE bmV "ValueError.__new__" mg base:=own_in KB GB naE xe;have OX:OwnCls "TooMuch" aX bmV "ValueError.__new__" mg base:=own_in KB GB naX xx;have W:XT K mg aS aT aR aW aM aE aC aX aN:=⟨qyB X G naS,qyB X G naT,qyB X G naR,qyB X G naW,qyB X G naM,qyB X G naE,qyB X G naC,qyB X G naX,qyB X G naN,xE,xX⟩;have Ap:=@O4 l.prog w K mg base z31 T;have GG:=@Mm l.prog w K mg base z32 T Ap
 have Bg:FQ l.prog w K mg base:=by
  obtain ⟨f,fd,a,F⟩:=z33.ex
  have D:∀ n:Nat,DefOk l.prog w K mg base "_law_size" (1+n) ["_law_told"] (spM K (Br n)):=fun n=>by
   induction n with
   | zero=>exact Gi F a (F.binds bn1) (NN F)
   | succ n ih=>exact Gi F a (F.binds bn1) (ON F T n ih)
  exact D 60
 have DZ:=@IA l.prog w K mg base z35 T Ap Bg;have Go:=@Ow l.prog w K mg base z2 T;have Fx:=@Nf l.prog w K mg base z2 T;have Dz:=@Lp l.prog w K mg base z6 T
 have O9:Z_lay l.prog w K mg base:=by
  obtain ⟨f,fd,a,F⟩:=z7.ex
  have D:∀ n:Nat,DefOk l.prog w K mg base "lay" (2+n) ["rows","numbers","sentence"] (spB K (EH Ah n)):=fun n=>by
   induction n with
   | zero=>exact Gi F a (F.binds bn3) (ok0_lay F)
   | succ n ih=>exact Gi F a (F.binds bn3) (ok_lay F T Go Dz n ih)
  exact D 160
 have Ic:=@R5 l.prog w K mg base z8 T O9;have FZ:=@N6 l.prog w K mg base z0 T;have Iw:=@R7 l.prog w K mg base z3 T FZ;have Gv:=@Nz l.prog w K mg base z4 T Iw;have Ei:=@Kh l.prog w K mg base z5 T Fx Gv;have CA:=@TL l.prog w K mg base z19 T;have De:=@IC l.prog w K mg base z21 T CA;have DP:=@Hw l.prog w K mg base z20 T CA
 have F6:RH l.prog w K mg base:=by
  obtain ⟨f,fd,a,F⟩:=z22.ex
  have D:∀ n:Nat,DefOk l.prog w K mg base "plain" (3+n) ["sentence"] (spM K (D7 n)):=fun n=>by
   induction n with
   | zero=>exact Gi F a (F.binds bn1) (SE F)
   | succ n ih=>exact Gi F a (F.binds bn1) (ok_plain F T De DP n ih)
  exact D 26
 have Fw:=@Mj l.prog w K mg base z26 T _ OE Ic Ei F6;have Dw:=@ok_hopes l.prog w K mg base z11 T;have Ce:=@ok_waits l.prog w K mg base z10 T Dw;have CS:=@Fp l.prog w K mg base z27 T _ OX Ce;have C9:=@O6 l.prog w K mg base z9 T;have E8:=@JZ l.prog w K mg base z28 T _ OX Fw CS C9;have Ef:=@Kb l.prog w K mg base z1 T;have FM:=@Ll l.prog w K mg base z16 T;have CP:=@Ld l.prog w K mg base z23 T FM Ce;have HA:=@Oj l.prog w K mg base z12 T;have Fy:=@NW l.prog w K mg base z13 T HA;have QV:=@ok_look l.prog w K mg base z14 T Fy Ce;have Fv:=@NS l.prog w K mg base z15 T Ce;have Gp:=@Pf l.prog w K mg base z17 T;have Nk:=@ok_eased l.prog w K mg base z18 T Gp Dw;have Gh:=@P5 l.prog w K mg base z24 T CP QV Fv Nk;have HB:=@Ox l.prog w K mg base z25 T Ef C9 Gh;have DF:=@HF l.prog w K mg base z29 T HB C9 Dw CP;have Im:=@QH l.prog w K mg base z30 T E8 DF;have D9:=@La l.prog w K mg base z37 T _ _ _ _ _ _ _ _ _ W Im;have Fh:=@MW l.prog w K mg base z34 T Bg Ap;have El:=@L8 l.prog w K mg base z36 T;exact (ok_law F T GG DZ D9 Fh El Ap Bg).imp fun _ _ _ _ h=>law_imp h
theorem walk {l:PySem.W.OpenLaw}{q:Program}{loose:List Str}{XP:(Str->Option Value)->Heap->Prop}{YP:World->Heap->Prop}{d:DefRec}{K:Params->FZ9}(hn:l.most=some 63)(hdf:d.params.defaults=[])
  (hY:∀ (w:World) (h:Heap),YP w h->(K w.params).In h)
  (F:∀ (w:World) (mg:Str->Option Value) (fa:Addr) (h:Heap),(K w.params).In h->h.Ns mainGlobals mg->mg d.name=some (.ref fa) ->
   ∃ fd:FuncData,(∀ (s:Shared) (u:Value),BindsTo s fd ⟨[u],[]⟩ [("_law_script",u)])/\∀ base:Heap,(K w.params).In base->base.Ns mainGlobals mg->FnOk l.prog w (K w.params) mg base CX0 168 fa fd ["_law_script"] (N1 (K w.params))) :
  PySem.W.WalkO q loose XP YP l.row.toRowW d [] (fun f vs=>PySem.call f vs) :=
 L2.walk_of (n:=63) (k:=168) (x := "_law_script") (CX:=fun _=>CX0) (sp:=fun w=>N1 (K w.params)) hn (by decide) hdf ⟨rfl,by decide,by decide⟩ hY F (fun _ _ a ns hl _ hS=>⟨a,ns,rfl,hS,hl,fun _=>rfl⟩) fun _ _ _ _ _ z=>z
end My
open PySem PySem.W PyProof.Rows
theorem PySem.W.Fast.tw3432778043089121754:True:=trivial
theorem PySem.W.Fast.tw6682378984789658728:True:=trivial
theorem PySem.W.Fast.tw4907001742089179797:True:=trivial
theorem PySem.W.Fast.tw5114653888169172114:True:=trivial
theorem PySem.W.Fast.tw12160462881657838539:True:=trivial
theorem PySem.W.Fast.tw1105127934333358625:True:=trivial
theorem PySem.W.Fast.tw15049987140715179544:True:=trivial
theorem PySem.W.Fast.tw13858669161018147710:True:=trivial
theorem PySem.W.Fast.tw940037849226649516:True:=trivial
theorem PySem.W.Fast.tw17387438503220890926:True:=trivial
theorem PySem.W.Fast.tw12268417714467400300:True:=trivial
theorem PySem.W.Fast.tw11563220808121226553:True:=trivial
theorem PySem.W.Fast.tw669720921982249543:True:=trivial
theorem PySem.W.Fast.tw9180825125834721996:True:=trivial
theorem PySem.W.Fast.tw8179112909432385970:True:=trivial
theorem PySem.W.Fast.tw13713360411690204989:True:=trivial
theorem PySem.W.Fast.tw9973618527311743368:True:=trivial
theorem PySem.W.Fast.tw6381863921810017403:True:=trivial
theorem PySem.W.Fast.tw955489482660862367:True:=trivial
theorem PySem.W.Fast.tw7807033675863815391:True:=trivial
theorem PySem.W.Fast.tw9647261956513170744:True:=trivial
theorem PySem.W.Fast.tw4971009743793453060:True:=trivial
theorem PySem.W.Fast.tw12370583223143651885:True:=trivial
theorem PySem.W.Fast.tw15146118992849536910:True:=trivial
theorem PySem.W.Fast.tw5157660759965193058:True:=trivial
theorem PySem.W.Fast.tw14273008494991732938:True:=trivial
theorem PySem.W.Fast.tw4431310162374540638:True:=trivial
theorem PySem.W.Fast.tw13196568259961494305:True:=trivial
theorem PySem.W.Fast.tw15511867785291082465:True:=trivial
theorem PySem.W.Fast.tw1675596024581108019:True:=trivial
theorem PySem.W.Fast.tw6933980394449573960:True:=trivial
theorem PySem.W.Fast.tw17929731007712090275:True:=trivial
theorem PySem.W.Fast.tw4736686767976411743:True:=trivial
theorem PySem.W.Fast.tw6771700603764621099:True:=trivial
theorem PySem.W.Fast.tw18111471706892319987:True:=trivial
theorem PySem.W.Fast.tw11601573583169084316:True:=trivial
theorem PySem.W.Fast.tw919669339963079012:True:=trivial
theorem PySem.W.Fast.tw7610402738481318620:True:=trivial
theorem PySem.W.Fast.tw5132472391044570612:True:=trivial
theorem PySem.W.Fast.tw6371026840483822995:True:=trivial
theorem PySem.W.Fast.tw835904041900924298:True:=trivial
theorem PySem.W.Fast.tw3335619275534375231:True:=trivial
theorem PySem.W.Fast.tw760324855693752646:True:=trivial
theorem PySem.W.Fast.tw15137180453923677785:True:=trivial
theorem PySem.W.Fast.tw6253966694820659890:True:=trivial
theorem PySem.W.Fast.tw8236818417570685003:True:=trivial
theorem PySem.W.Fast.tw13834457453148973450:True:=trivial
theorem PySem.W.Fast.tw18381747053828546801:True:=trivial
theorem PySem.W.Fast.tw3389251705837489181:True:=trivial
theorem PySem.W.Fast.tw13991723181287347246:True:=trivial
theorem PySem.W.Fast.tw13522152747919875377:True:=trivial
theorem PySem.W.Fast.tw16475091977283031927:True:=trivial
theorem PySem.W.Fast.tw10921449298841480939:True:=trivial
set_option maxRecDepth 100000 in
set_option maxHeartbeats 0 in
theorem PySem.Challenge.cw_lassoscribe_k44_watchers_refused_holds : PySem.Challenge.rw_lassoscribe_k44_watchers_refused.Holds := by
 w_on; o_law; k_head; (case hw => w_witness2)
 k_fill
 refine My.walk (l := PySem.Challenge.rw_lassoscribe_k44_watchers_refused) rfl rfl (fun w h Y => PySem.W.kIn_of Y) ?F
 case F =>
  intro w mg fa h KX G hmg;refine' My.all_mk KX G hmg ?zz ?gv0 ?gv1 ?gl1 ?gk1 ?ge1 ?go1 ?gv2 ?gl2 ?gv3 ?gv4 ?zy ?xx
  (case zz =>
   refine ⟨?_, ?_, ?_, ?_, ?_, ?_, ?_, ?_, ?_, ?_, ?_, ?_, ?_, ?_, ?_, ?_, ?_, ?_, ?_, ?_, ?_, ?_, ?_, ?_, ?_, ?_, ?_, ?_, ?_, ?_, ?_, ?_, ?_, ?_, ?_, ?_, ?_, ?_, ?_⟩
   all_goals (refine' L2.din KX G ?a ?l ?c ?k; (case a => k_is); (case l => k_is); (case c => k_is); (case k => k_is)))
  (case gv0 => k_is)
  (case gv1 => k_is)
  (case gl1 => k_is)
  (case gk1 => k_keys)
  (case ge1 => (repeat (first | exact True.intro | refine And.intro ⟨_, _, rfl, rfl⟩ ?_)))
  (case go1 => decide)
  (case gv2 => k_is)
  (case gl2 => k_is)
  (case gv3 => k_is)
  (case gv4 => k_is)
  (case zy => refine ⟨?_, ?_, ?_, ?_, ?_, ?_, ?_, ?_, ?_, ?_, ?_, ?_, ?_, ?_⟩ <;> (unfold L2.Nn; k_is))
  (case xx =>
   refine' My.xc_mk ?n1 ?n2 ?n3 ?n4 ?n5 ?n6 ?n7 ?n8 ?n9 ?xe ?xz ?c1 ?c2 ?c3 ?c4 ?c5 ?c6 ?c7 ?c8 ?xm ?k1 ?k2 ?k3 ?k4 ?k5 ?k6 ?k7 ?k8 ?k9 ?d1 ?d2 ?d3 ?d4 ?d5 ?d6 ?d7 ?d8 ?ym ?l1 ?l2 ?l3 ?l4 ?l5 ?l6 ?l7 ?l8 ?l9
   (case n1 => k_is)
   (case n2 => k_is)
   (case n3 => k_is)
   (case n4 => k_is)
   (case n5 => k_is)
   (case n6 => k_is)
   (case n7 => k_is)
   (case n8 => k_is)
   (case n9 => k_is)
   (case xe => k_exc)
   (case xz => k_exc)
   (case c1 => k_is)
   (case c2 => k_is)
   (case c3 => k_is)
   (case c4 => k_is)
   (case c5 => k_is)
   (case c6 => k_is)
   (case c7 => k_is)
   (case c8 => k_is)
   (case xm => kts_exm)
   (case k1 => kit_is)
   (case k2 => kit_is)
   (case k3 => kit_is)
   (case k4 => kit_is)
   (case k5 => kit_is)
   (case k6 => kit_is)
   (case k7 => kit_is)
   (case k8 => kit_is)
   (case k9 => kit_is)
   (case d1 => k_is)
   (case d2 => k_is)
   (case d3 => k_is)
   (case d4 => k_is)
   (case d5 => k_is)
   (case d6 => k_is)
   (case d7 => k_is)
   (case d8 => k_is)
   (case ym => kts_exm)
   (case l1 => kit_is)
   (case l2 => kit_is)
   (case l3 => kit_is)
   (case l4 => kit_is)
   (case l5 => kit_is)
   (case l6 => kit_is)
   (case l7 => kit_is)
   (case l8 => kit_is)
   (case l9 => kit_is))
end
