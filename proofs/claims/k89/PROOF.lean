import PyProof.Rows.All
import Wide.All
import OpenK.AllK
import Wide.FinOn
import Lean
import PyProof.EqAt
import PyProof.EqKinds
import PyProof.TupleCall
import PyProof.NeKinds
import PyProof.EnumFor
import PyProof.EnumMake
import PyProof.Rows.EnumRows
import PyProof.Rows.Range3
import PyProof.NoPylong
import PyProof.ListRange
import PyProof.TupleOfSeq
import PyProof.TupleOfStr
import PyProof.Draws
import PyProof.ZipIter
import PyProof.Rows.ZipGen
import PyProof.Rows.SortStr
import PyProof.Rows.TupAdd
import PyProof.SetRoads
import PyProof.Rows.SetFrom
import PyProof.StrWalks
import PyProof.CollectWalk
import KE.KDictList
import PyProof.Tail
import PyProof.TupleIter
import PyProof.AttrMiss
import KE.KDictOf
import OpenK.KTop
import PyProof.Rows.SortRev
import PyProof.Rows.CallKwBuiltin
import PyProof.Rows.CallKw2
import KE.KRevIter
import PyProof.SumWalkG
import Wide.Seal
import PyProof.AttrMissHeap
import PyProof.TupleKey
import PyProof.StrCalls2
import PyProof.Rows.StrKeys3
import PyProof.Conv_int
import PyProof.ExcBaseAll.ValueError
import KE.KTryMore
import PyProof.ExcArgsOwn
import KE.KIsAll
import KE.RegKTryMore
import KE.RegKIsAll
import PyProof.ToksMono
import PyProof.StrReplace2
import PyProof.StrCalls
import PyProof.Rows.StrLen
import PyProof.MinMaxWalk
import PyProof.WalkInts
import PySem.Challenge.RW_lassoscribe_k89_machines_read
open Option renaming bind_eq_some_iff → qaA, map_eq_some_iff → qfB, bind_assoc → qmB
open PySem renaming wpAny_bind → qbA, wpAny_pure → qcA, wpAny_holding → qdA, sizeLine_eq → qkB, wpAny_setState_of → qbC
open List renaming length_map → qeA, length_append → qfA, length_cons → qgA, length_singleton → qhA, length_range → qiA, length_take → qjA, mem_append → qkA, mem_cons → qmA, mem_map → qnA, mem_filter → qoA, mem_singleton → qpA, mem_cons_self → qqA, mem_cons_of_mem → qrA, mem_range → qsA, mem_of_getElem? → qtA, getElem?_eq_some_iff → quA, getElem?_eq_getElem → qvA, getElem?_append_right → qwA, getElem?_map → qxA, map_cons → qyA, map_append → qzA, append_assoc → qaB, append_nil → qbB, size_toArray → qrB, not_mem_nil → qyB, mem_append_right → qaC, foldl_cons → qcC
open Nat renaming le_refl → qcB, le_trans → qdB, lt_irrefl → qeB, ne_of_lt → qxB, lt_of_lt_of_le → qzB, zero_le → qdC
open Option.some renaming inj → qgB
open PySem.Heap renaming lt_size → qhB, get?_push_of_some → qiB, get?_push_size → qjB
open Int renaming eq_ofNat_of_zero_le → qnB, emod_nonneg → qoB, emod_lt_of_pos → qpB
open Bool renaming false_ne_true → qqB, and_eq_true → qeC
open PySem.W renaming nsIn → qsB, mg_of → qtB, keepIn → quB, fnOf → qvB
open Array renaming length_toList → qwB
noncomputable section
set_option Elab.async false
set_option linter.all false
set_option maxRecDepth 100000
set_option maxHeartbeats 4000000
local macro_rules
 | `(tactic| clear $n:num $rs*) => do
  let i := fun (n : Lean.Name) => Lean.mkIdent n
  match n.getNat with
  | 7 => let l := #[`G1, `s1, `c, `hc, `H, `sH, `Q, `k].map i; `(tactic| intro $l:ident*)
  | 8 => `(tactic| refine $(rs[0]!) $(i `G1) $(i `s1) $(rs[1]!) $(rs[2]!) $(i `H) $(i `sH) _ fun $(i `v) $(i `G2) $(i `H2) $(i `x2) $(i `r2) => ?_)
  | _ => Lean.Macro.throwUnsupported
theorem bE {α β : Type} {o : Option α} {f : α -> Option β} {b : β} {C : Prop} (h : o.bind f = some b) (k : ∀ a, o = some a -> f a = some b -> C) : C := by
 obtain ⟨a, h1, h2⟩ := qaA.mp h;exact k a h1 h2
abbrev FZ9 := PySem.W.Frag
namespace L2
open PySem PySem.Spec PyProof.Rows
abbrev Key:=Sum Int Str
def E9:Key->Value->Bool
 | .inl k,v=>Value.isInt k v
 | .inr x,v=>Value.isStrOf x v
def N7 (w:World):Key->Int
 | .inl k=>hashInt k
 | .inr x=>hashStr w x
theorem Br:∀ {k:Key}{v:Value},E9 k v=true->(∃ i t,k=Sum.inl i/\v=Value.int i t)\/(∃ x t,k=Sum.inr x/\v=Value.str x t)
 | .inl i,v,h=>by
  obtain ⟨t,e⟩:=Value.isInt_shape (k:=i) (v:=v) h;exact .inl ⟨i,t,rfl,e⟩
 | .inr x,v,h=>by
  obtain ⟨t,e⟩:=Value.isStrOf_shape (x:=x) (v:=v) h;exact .inr ⟨x,t,rfl,e⟩
theorem Iz (i:Int)(t:Tok):E9 (.inl i) (.int i t)=true:=by simp [E9,Value.isInt]
theorem Qb (x:Str)(t:Tok):E9 (.inr x) (.str x t)=true:=by simp [E9,Value.isStrOf]
theorem key_ll (a b:Int):decide ((Sum.inl a:Key)=Sum.inl b)=(a == b):=by
 by_cases e:a=b
 ·subst e;simp
 ·have h:¬ (Sum.inl a:Key)=Sum.inl b:=fun q=>e (Sum.inl.inj q);rw [decide_eq_false h];exact (beq_eq_false_iff_ne.mpr e).symm
theorem key_rr (a b:Str):decide ((Sum.inr a:Key)=Sum.inr b)=decide (a=b):=by
 by_cases e:a=b
 ·subst e;simp
 ·have h:¬ (Sum.inr a:Key)=Sum.inr b:=fun q=>e (Sum.inr.inj q);rw [decide_eq_false h,decide_eq_false e]
theorem key_lr (a:Int)(b:Str):decide ((Sum.inl a:Key)=Sum.inr b)=false:=decide_eq_false (fun q=>nomatch q)
theorem key_rl (a:Str)(b:Int):decide ((Sum.inr a:Key)=Sum.inl b)=false:=decide_eq_false (fun q=>nomatch q)
def Bh (prog:Program)(w:World):PySem.KeyKind prog w Key where
 is:=E9
 hash:=N7 w
 inj:=fun v a b ha hb=>by
  rcases Br ha with ⟨i,t,rfl,rfl⟩ | ⟨x,t,rfl,rfl⟩
  ·rcases Br hb with ⟨j,u,rfl,e⟩ | ⟨y,u,rfl,e⟩
   ·injection e with e1 _;rw [e1]
   ·exact nomatch e
  ·rcases Br hb with ⟨j,u,rfl,e⟩ | ⟨y,u,rfl,e⟩
   ·exact nomatch e
   ·injection e with e1 _;rw [e1]
 byValue:=fun k v h=>by
  rcases Br h with ⟨i,t,rfl,rfl⟩ | ⟨x,t,rfl,rfl⟩<;>rfl
 pyHash:=fun hv h=>by
  rcases Br hv with ⟨i,t,rfl,rfl⟩ | ⟨x,t,rfl,rfl⟩
  ·exact wpAny_pyHash_int h
  ·exact wpAny_pyHash_str h
 eqBool:=fun hu hv h=>by
  rcases Br hu with ⟨i,t,rfl,rfl⟩ | ⟨x,t,rfl,rfl⟩
  ·rcases Br hv with ⟨j,u,rfl,rfl⟩ | ⟨y,u,rfl,rfl⟩
   ·rw [key_ll] at h;exact wpAny_eqBool_int h
   ·rw [key_lr] at h;exact SeqAt.EqAt.int_str i t y u _ _ _ _ h
  ·rcases Br hv with ⟨j,u,rfl,rfl⟩ | ⟨y,u,rfl,rfl⟩
   ·rw [key_rl] at h;exact SeqAt.EqAt.str_int x t j u _ _ _ _ h
   ·rw [key_rr] at h;exact wpAny_eqBool_str h
 «strs»:=fun k x t v h=>by
  rcases Br h with ⟨i,u,rfl,e⟩ | ⟨y,u,rfl,e⟩
  ·exact nomatch e
  ·injection e with e1 _
   subst e1;cases v<;>rfl
inductive V where
 | non|bl (b:Bool)|int (i:Int)|str (x:Str)|byt (b:Array UInt8)|flt (b:UInt64)|ref (a:Addr)|ty (n:String)
 deriving DecidableEq
def RelV:V->Value->Prop
 | .non,u=>u=Value.none
 | .bl b,u=>u=Value.bool b
 | .int i,u=>∃ t,u=Value.int i t
 | .str x,u=>∃ t,u=Value.str x t
 | .byt b,u=>∃ t,u=Value.bytes b t
 | .flt b,u=>∃ t,u=Value.float b t
 | .ref a,u=>u=Value.ref a
 | .ty n,u=>u=Value.type n
abbrev Vals:List V->List Value->Prop:=Paired RelV
theorem Vals.length {xs:List V}{us:List Value}(r:Vals xs us):xs.length=us.length:=Paired.length r
theorem Vals.get:∀ {xs:List V}{us:List Value}{i:Nat}{x:V},Vals xs us->xs[i]? = some x->∃ u,us[i]? = some u/\RelV x u
 | _,_,_,_,.nil,e=>by simp at e
 | _,_,0,_,.cons r _,e=>by simp at e;subst e;exact ⟨_,rfl,r⟩
 | _,_,i+1,x,.cons _ t,e=>by
  obtain ⟨u,h1,h2⟩:=Vals.get (i:=i) (x:=x) t (by simpa using e);exact ⟨u,by simpa using h1,h2⟩
theorem Vals.append:∀ {xs ys:List V}{us ws:List Value},Vals xs us->Vals ys ws->Vals (xs++ys) (us++ws)
 | _,_,_,_,.nil,s=>s
 | _,_,_,_,.cons r t,s=>.cons r (Vals.append t s)
theorem Vals.take:∀ {xs:List V}{us:List Value}(n:Nat),Vals xs us->Vals (xs.take n) (us.take n)
 | _,_,0,_=>.nil
 | _,_,_+1,.nil=>.nil
 | _,_,n+1,.cons r t=>.cons r (Vals.take n t)
theorem Vals.drop:∀ {xs:List V}{us:List Value}(n:Nat),Vals xs us->Vals (xs.drop n) (us.drop n)
 | _,_,0,r=>r
 | _,_,_+1,.nil=>.nil
 | _,_,n+1,.cons _ t=>Vals.drop n t
def RelO:Option V->Option Value->Prop
 | some v,some u=>RelV v u
 | none,none=>True
 | _,_=>False
def KV {κ:Type}:List (κ × V)->List (κ × Value)->Prop:=Paired fun (p:κ × V) (q:κ × Value)=>p.1=q.1/\RelV p.2 q.2
def kV:Key->V
 | .inl i=>.int i
 | .inr x=>.str x
inductive HO where
 | lst (xs:List V)
 | tup (xs:List V)
 | dK (kvs:List (Key × V))|dT (kvs:List (List Key × V))
 | set (S:Int->Bool) (n:Nat)
 | ins (C dx:Addr) (fs:List (Str × V))
 | own (x:Addr)
 | xd (fs:List (Str × V))
 | met (f x:Addr)
 | rng (lo hi:Int)
 | frz (o:Obj) (u:HO)
 | tbl (ps:Array Value)
 | ext (φ:Heap->Prop)
abbrev Hp:=Addr->Option HO
def upd (H:Hp)(a:Addr)(o:HO):Hp:=fun b=>if b=a then some o else H b
theorem AQ {H:Hp}{a:Addr}{o:HO}:upd H a o a=some o:=by unfold upd;rw [if_pos rfl]
theorem Af {H:Hp}{a b:Addr}{o:HO}(h:b≠a):upd H a o b=H b:=by unfold upd;rw [if_neg h]
theorem Ay {H:Hp}{a b:Addr}{o:HO}(h:H a=some o)(h':H b=none):a≠b:=by
 intro e;subst e;rw [h] at h';cases h'
section
variable (P:Program)(w:World)
def ObjOk (H:Hp)(h:Heap)(a:Addr):HO->Prop
 | .lst xs=>xs.length<=sizeLine/\∃ (its:List Value) (n:Nat),Vals xs its/\h.get? a=some { cls:=.type "list",data:=.seq its.toArray n }
 | .tup xs=>xs.length<=sizeLine/\∃ its:List Value,Vals xs its/\IsTup h a its.toArray
 | .dK kvs=>kvs.length<=sizeLine/\(a == sysModules)=false/\∃ vs,KV kvs vs/\h.DictOf (Bh P w) a vs
 | .dT kvs=>kvs.length<=sizeLine/\(a == sysModules)=false/\∃ xs:List (List Key × Addr × Value),
   Paired (fun (p:List Key × V) (q:List Key × Addr × Value)=>p.1=q.1/\H q.2.1=some (.tup (p.1.map kV))/\RelV p.2 q.2.2) kvs xs /\
   ∃ o es ep,h.get? a=some o/\o.ExactDict/\o.data = .dict es ep/\es.toList=xs.map (entryOfKey (tupleKind (Bh P w)))/\(xs.map (·.1)).Nodup
 | .set S n=>h.SetOf (intKind P w) a S n
 | .ins C dx fs=>H dx=some (.own a)/\fs.length<=1000/\dx≠a/\h.get? a=some (PySem.W.instObj C dx) /\
   ∃ mA,h.Ns1 dx mA/\(∀ f,RelO (fs.lookup f) (mA f))/\PySem.Within mA (fs.map (·.1))
 | .own _=>∃ o,h.get? a=some o
 | .xd fs=>∃ mA,h.Ns1 a mA/\∀ f,RelO (fs.lookup f) (mA f)
 | .rng lo hi=>∃ t u v,h.get? a=some { cls:=.type "range",data:=.fields #[.int lo t,.int hi u,.int 1 v] }
 | .frz o u=>h.get? a=some o/\ObjOk H h a u
 | .tbl ps=>h.get? a=some { cls:=.none,data:=.fields ps }
 | .met f x=>h.get? a=some (PySem.W.methodObj (.ref f) (.ref x))
 | .ext φ=>φ h/\(∃ o,h.get? a=some o)/\∀ h1 h2:Heap,φ h1->(∀ o,h1.get? a=some o->h2.get? a=some o)->φ h2
def HOk (H:Hp)(h:Heap):Prop:=∀ a o,H a=some o->ObjOk P w H h a o
end
section
variable {P:Program}{w:World}{H H':Hp}{h h':Heap}{a:Addr}{o:HO}
theorem ObjOk.lt (x:ObjOk P w H h a o):a<h.objs.size:=by
 cases o with
 | lst xs=>obtain ⟨_,_,_,_,e⟩:=x;exact qhB e
 | tup xs=>obtain ⟨_,_,_,p⟩:=x;exact p.lt
 | dK kvs=>obtain ⟨_,_,_,_,o,_,_,e,_⟩:=x;exact qhB e
 | dT kvs=>obtain ⟨_,_,_,_,o,_,_,e,_⟩:=x;exact qhB e
 | set S n=>obtain ⟨o,_,_,_,e,_⟩:=x;exact qhB e
 | ins C dx fs=>obtain ⟨_,_,_,e,_⟩:=x;exact qhB e
 | own y=>obtain ⟨_,e⟩:=x;exact qhB e
 | xd fs=>obtain ⟨_,⟨_,_,_,e,_⟩,_⟩:=x;exact qhB e
 | rng lo hi=>obtain ⟨_,_,_,e⟩:=x;exact qhB e
 | frz ob u=>obtain ⟨e,_⟩:=x;exact qhB e
 | tbl ps=>exact qhB (show h.get? a=some _ from x)
 | met f y=>exact qhB (show h.get? a=some _ from x)
 | ext φ=>obtain ⟨_,⟨_,e⟩,_⟩:=x;exact qhB e
theorem Paired.mapP {α β:Type}{F G:α->β->Prop}:∀ {l₁:List α}{l₂:List β},Paired F l₁ l₂->(∀ a b,F a b->G a b)->Paired G l₁ l₂
 | _,_,.nil,_=>.nil
 | _,_,.cons r t,f=>.cons (f _ _ r) (Paired.mapP t f)
theorem Paired.imp' {α β:Type}{F G:α->β->Prop}(f:∀ a b,F a b->G a b){l₁:List α}{l₂:List β}(r:Paired F l₁ l₂):Paired G l₁ l₂:=Paired.mapP r f
theorem ObjOk.stay (x:ObjOk P w H h a o)(k:∀ b u,(b=a\/H b=some (.own a))->h.get? b=some u->h'.get? b=some u)
  (ho:∀ b,H b=some (.own a)->H' b=some (.own a)) (ht:∀ b xs,H b=some (.tup xs)->H' b=some (.tup xs)):ObjOk P w H' h' a o:=by
 induction o with
 | lst xs=>obtain ⟨z,its,n,r,e⟩:=x;exact ⟨z,its,n,r,k _ _ (.inl rfl) e⟩
 | tup xs=>obtain ⟨z,its,r,ob,e,c⟩:=x;exact ⟨z,its,r,ob,k _ _ (.inl rfl) e,c⟩
 | dK kvs=>obtain ⟨z,y,vs,r,ob,es,ep,e,c⟩:=x;exact ⟨z,y,vs,r,ob,es,ep,k _ _ (.inl rfl) e,c⟩
 | dT kvs =>
  obtain ⟨z,y,xs,r,ob,es,ep,e,c⟩:=x;exact ⟨z,y,xs,Paired.mapP r fun p q z=>⟨z.1,ht _ _ z.2.1,z.2.2⟩,ob,es,ep,k _ _ (.inl rfl) e,c⟩
 | set S n=>obtain ⟨ob,es,ep,t,e,c⟩:=x;exact ⟨ob,es,ep,t,k _ _ (.inl rfl) e,c⟩
 | ins C dx fs =>
  obtain ⟨d,z,ne,e,mA,⟨od,es,ep,e2,c⟩,r⟩:=x;exact ⟨ho _ d,z,ne,k _ _ (.inl rfl) e,mA,⟨od,es,ep,k _ _ (.inr d) e2,c⟩,r⟩
 | own y=>obtain ⟨ob,e⟩:=x;exact ⟨ob,k _ _ (.inl rfl) e⟩
 | xd fs=>obtain ⟨mA,⟨od,es,ep,e,c⟩,r⟩:=x;exact ⟨mA,⟨od,es,ep,k _ _ (.inl rfl) e,c⟩,r⟩
 | rng lo hi=>obtain ⟨t,u,v,e⟩:=x;exact ⟨t,u,v,k _ _ (.inl rfl) e⟩
 | frz ob u ih=>obtain ⟨e,q⟩:=x;exact ⟨k _ _ (.inl rfl) e,ih q⟩
 | tbl ps =>
  have e:h.get? a=some { cls:=.none,data:=.fields ps }:=x;show h'.get? a=some { cls:=.none,data:=.fields ps };exact k a _ (.inl rfl) e
 | met f y =>
  have e:h.get? a=some (PySem.W.methodObj (.ref f) (.ref y)):=x;show h'.get? a=some (PySem.W.methodObj (.ref f) (.ref y));exact k a _ (.inl rfl) e
 | ext φ=>obtain ⟨p,⟨o,e⟩,st⟩:=x;exact ⟨st _ _ p fun o q=>k _ _ (.inl rfl) q,⟨o,k _ _ (.inl rfl) e⟩,st⟩
theorem HOk.lt (x:HOk P w H h)(e:H a=some o):a<h.objs.size:=(x a o e).lt
theorem HOk.fresh (x:HOk P w H h)(e:h.objs.size<=a):H a=none:=by
 cases q:H a with
 | none=>rfl
 | some u=>exact absurd (qzB (x.lt q) e) (qeB _)
theorem HOk.kept (x:HOk P w H h)(k:∀ b u,h.get? b=some u->h'.get? b=some u):HOk P w H h':=fun a o e =>
 (x a o e).stay (fun b u _ q=>k b u q) (fun _ q=>q) fun _ _ q=>q
theorem HOk.laid (x:HOk P w H h)(k:∀ b u,h.get? b=some u->h'.get? b=some u)(hp:h.objs.size<=a)(new:ObjOk P w (upd H a o) h' a o):HOk P w (upd H a o) h':=fun b u e=>by
 have hn:=x.fresh hp;by_cases hb:b=a
 ·subst hb;rw [AQ] at e;cases e;exact new
 ·rw [Af hb] at e;exact (x b u e).stay (fun c v _ q=>k c v q) (fun c q=>by rw [Af (Ay q hn)];exact q) fun c xs q=>by rw [Af (Ay q hn)];exact q
end
def Rd (H:Hp)(a:Addr)(u:HO):Prop:=H a=some u\/∃ o,H a=some (.frz o u)
theorem Rd.ok {P:Program}{w:World}{H:Hp}{h:Heap}{a:Addr}{u:HO}(r:Rd H a u)(x:HOk P w H h):ObjOk P w H h a u:=by
 rcases r with r | ⟨o,r⟩
 ·exact x a u r
 ·obtain ⟨_,q⟩:=x a _ r;exact q
def Mut:Option HO->Prop
 | some (.lst _)=>True
 | some (.dK _)=>True
 | some (.dT _)=>True
 | some (.set _ _)=>True
 | some (.ins _ _ _)=>True
 | some (.ext _)=>True
 | _=>False
section
variable {P:Program}{w:World}{H:Hp}{h h':Heap}{x e:Addr}{o':HO}
theorem HOk.write (ok:HOk P w H h)(mu:Mut (H x))(he:e=x\/H e=some (.own x))(k:∀ b u,b≠e->h.get? b=some u->h'.get? b=some u)(heo:∃ u,h'.get? e=some u)
  (new:ObjOk P w (upd H x o') h' x o'):HOk P w (upd H x o') h':=fun b u q=>by
 have nown:∀ c y,H c=some (.own y)->c≠x:=fun c y r z=>by subst z;rw [r] at mu;exact mu
 have ntup:∀ c xs,H c=some (.tup xs)->c≠x:=fun c xs r z=>by subst z;rw [r] at mu;exact mu
 by_cases hb:b=x
 ·subst hb;rw [AQ] at q;cases q;exact new
 ·rw [Af hb] at q;by_cases hbe:b=e
  ·have q':H b=some (.own x):=by
    rcases he with z|z
    ·exact absurd (hbe.trans z) hb
    ·rw [hbe];exact z
   rw [q] at q';cases q';obtain ⟨v,hv⟩:=heo;exact ⟨v,by rw [hbe];exact hv⟩
  ·refine (ok b u q).stay (fun c v hc r=>k c v ?_ r) (fun c r=>by rw [Af (nown c b r)];exact r) fun c xs r=>by rw [Af (ntup c xs r)];exact r
   rcases hc with rfl|hc
   ·exact hbe
   ·rintro rfl;rcases he with z|z
    ·exact nown c b hc z
    ·rw [hc] at z;cases z;exact hb rfl
end
structure Un (fs ex:List Addr)(H H':Hp)(h h':Heap):Prop where
 keep:∀ b o,h.get? b=some o->H b=none->b ∉ fs->b ∉ ex->h'.get? b=some o
 slot:∀ b o,h.get? b=some o->H b=none->b∈fs->b ∉ ex->∃ sl,h'.get? b=some { o with slots:=sl }
 free:∀ b o,h.get? b=some o->H b=none->b ∉ ex->H' b=none
 there:∀ b o,h.get? b=some o->b ∉ ex->∃ o',h'.get? b=some o'
 tups:∀ b xs,H b=some (.tup xs)->H' b=some (.tup xs)
 frzs:∀ b o u,H b=some (.frz o u)->H' b=some (.frz o u)
 tbls:∀ b ps,H b=some (.tbl ps)->∃ more,H' b=some (.tbl (ps++more))
section
variable {fs fs' ex ex':List Addr}{H H1 H2:Hp}{h h1 h2 h':Heap}{a x e:Addr}{o:HO}
theorem Un.any (u:Un fs ex H H1 h h1){b:Addr}{ob:Obj}(q:h.get? b=some ob)(n:H b=none)(hx:b ∉ ex):∃ sl,h1.get? b=some { ob with slots:=sl }:=by
 by_cases hb:b∈fs
 ·exact u.slot b ob q n hb hx
 ·exact ⟨ob.slots,u.keep b ob q n hb hx⟩
theorem Un.kept (k:∀ b u,h.get? b=some u->h'.get? b=some u):Un fs ex H H h h' :=
 ⟨fun b ob q _ _ _=>k b ob q,fun b ob q _ _ _=>⟨ob.slots,k b ob q⟩,fun _ _ _ n _=>n,fun b ob q _=>⟨ob,k b ob q⟩,fun _ _ q=>q,fun _ _ _ q=>q,fun _ ps q=>⟨#[],by rw [q];simp⟩⟩
theorem Un.refl:Un fs ex H H h h:=Un.kept fun _ _ q=>q
theorem Un.laid (k:∀ b u,h.get? b=some u->h'.get? b=some u)(hp:h.objs.size<=a)(hn:H a=none):Un fs ex H (upd H a o) h h' where
 keep:=fun b u q _ _ _=>k b u q
 slot:=fun b u q _ _ _=>⟨u.slots,k b u q⟩
 free:=fun b u q n _=>by rw [Af (qxB (qzB (qhB q) hp))];exact n
 there:=fun b u q _=>⟨u,k b u q⟩
 tups:=fun b xs q=>by rw [Af (Ay q hn)];exact q
 frzs:=fun b u xs q=>by rw [Af (Ay q hn)];exact q
 tbls:=fun b ps q=>⟨#[],by rw [Af (Ay q hn),q];simp⟩
theorem Un.write (mu:Mut (H x))(he:e=x\/H e=some (.own x))(k:∀ b u,b≠e->h.get? b=some u->h'.get? b=some u)(heo:∃ u,h'.get? e=some u):Un fs ex H (upd H x o) h h':=by
 have hx:∀ b,H b=none->b≠x:=fun b n z=>by subst z;rw [n] at mu;exact mu
 have hb:∀ b,H b=none->b≠e:=fun b n z=>by
  subst z;rcases he with r|r
  ·exact hx b n r
  ·rw [n] at r;cases r
 have hm:∀ b u,H b=some u->¬ Mut (some u)->b≠x:=fun b u q nm z=>by subst z;rw [q] at mu;exact nm mu
 refine ⟨fun b u q n _ _=>k b u (hb b n) q,fun b u q n _ _=>⟨u.slots,k b u (hb b n) q⟩,fun b u q n _=>by rw [Af (hx b n)];exact n,fun b u q _=>?_,
  fun b xs q=>by rw [Af (hm b _ q fun z=>z)];exact q,fun b u xs q=>by rw [Af (hm b _ q fun z=>z)];exact q,fun b ps q=>⟨#[],by rw [Af (hm b _ q fun z=>z),q];simp⟩⟩
 by_cases hbe:b=e
 ·subst hbe;exact heo
 ·exact ⟨u,k b u hbe q⟩
end
def trk (h:Heap)(H:Hp):List Addr:=(List.range h.objs.size).filter fun a=>(H a).isSome
def MD (h:Heap)(H:Hp):Heap:=PySem.W.hideAll h (trk h H)
theorem Qm (h:Heap)(H:Hp):(MD h H).objs.size=h.objs.size:=PySem.W.hideAll_size _ _
theorem hidT_get {h:Heap}{H:Hp}{b:Addr}{o:Obj}(e:h.get? b=some o)(n:H b=none):(MD h H).get? b=some o :=
 PySem.W.hideAll_get _ e fun hm=>by
  have q:(H b).isSome=true:=(qoA.mp hm).2;rw [n] at q;simp at q
theorem of_hidT {h:Heap}{H:Hp}{b:Addr}{o:Obj}(e:(MD h H).get? b=some o):h.get? b=some o/\H b=none:=by
 have e':h.get? b=some o:=PySem.W.of_hideAll (trk h H) e;refine ⟨e',?_⟩
 cases q:H b with
 | none=>rfl
 | some x =>
  have hm:b∈trk h H:=qoA.mpr ⟨qsA.mpr (qhB e'),by simp [q]⟩;have z:(MD h H).get? b=none:=PySem.W.hideAll_none (trk h H) hm;rw [z] at e;cases e
structure Mod (K:FZ9)(mg:Str->Option Value)(base:Heap):Prop where
 kin:K.In base
 glob:base.Ns mainGlobals mg
 blt:∃ mb,base.Ns builtinsNs mb/\∀ x:Str,x ≠ "__name__" -> mb x=bootBuiltins x
 nolimit:base.NoLimit
structure Cx where
 prog:Program
 w:World
 K:FZ9
 mg:Str->Option Value
 base:Heap
 A:Around
 N:List Str
 s₀:Shared
 H₀:Hp
 env:Env
 outer:List Env
 stack:List Env
 ex:List Addr
 fn:Str->Bool
 calm:Bool
 pn:List (Addr × Obj)
 xe:Value->Shared->Prop
def frs (l:List Env):List Addr:=l.filterMap (·.frame)
abbrev Cx.fs (X:Cx):List Addr:=frs X.outer
def Vis (sc:Scope)(x:Str):Prop:=sc.names.lookup x=some .local \/ sc.names.lookup x=some .cell\/sc.names.lookup x=some .free
def Loc (sc:Scope)(x:Str):Prop:=sc.names.lookup x=some .local \/ sc.names.lookup x=some .cell
def Look (env:Env)(h:Heap)(m:Str->Option Value)(x:Str)(u:Value):Prop :=
 (env.kindOf x=some .local /\ m x=some u)\/((env.kindOf x=some .cell\/env.kindOf x=some .free)/\∃ c,env.cells.lookup x=some c/\h.IsCell c (some u))
structure Cx.Ok (X:Cx):Prop where
 mod:Mod X.K X.mg X.base
 kind:X.env.scope.kind = .function
 glob:X.env.globals=mainGlobals
 blt:X.env.builtins=builtinsNs
 above:X.s₀.heap.objs.size<=X.env.locals
 inj:∀ x y c,X.env.cells.lookup x=some c->X.env.cells.lookup y=some c->x=y
 has:∀ x,(X.env.kindOf x=some .cell\/X.env.kindOf x=some .free)->∃ c,X.env.cells.lookup x=some c
 cab:∀ x c,X.fn x=true->X.env.cells.lookup x=some c->X.s₀.heap.objs.size<=c
 hd:X.calm=true->X.A.handled=none
 frames:X.A.frames=some X.stack
 stk:X.stack=X.outer\/(X.stack=X.env::X.outer/\X.env.frame=some X.env.locals)
 exf:∀ b∈X.ex,b≠X.env.locals/\∀ x c,X.env.cells.lookup x=some c->c≠b
 bs:∀ b o,X.base.get? b=some o->X.s₀.heap.get? b=some o/\X.H₀ b=none
 bsz:X.base.objs.size<=X.s₀.heap.objs.size
 noex:∀ b o,X.base.get? b=some o->b ∉ X.ex
 exfs:∀ b∈X.ex,b ∉ X.fs
 funs:X.s₀.heap.FunFrames X.base X.outer
 frf:∀ b∈X.fs,X.H₀ b=none
structure Inv (X:Cx)(pins:List (Addr × Obj))(σ:List (Option V))(H:Hp)(s:Shared):Prop where
 ok:X.Ok
 os:s.os=X.s₀.os
 bare:AllBare s.gens
 base:Un X.fs X.ex X.H₀ H X.s₀.heap s.heap
 loc:∃ m,s.heap.Ns X.env.locals m/\∀ (i:Nat) (x:Str) (v:V),X.N[i]? = some x->σ[i]? = some (some v)->Vis X.env.scope x->∃ u,RelV v u/\Look X.env s.heap m x u
 cell:∀ x c,X.env.cells.lookup x=some c->∃ v,s.heap.IsCell c v
 free:H X.env.locals=none
 freeC:∀ x c,X.env.cells.lookup x=some c->H c=none
 pin:∀ p∈X.pn++pins,s.heap.get? p.1=some p.2/\H p.1=none/\p.1≠X.env.locals/\p.1 ∉ X.fs/\∀ v,p.2.data ≠ .cell v
 hok:HOk X.prog X.w H s.heap
 len:σ.length=X.N.length
section
variable {X:Cx}{pins:List (Addr × Obj)}{σ:List (Option V)}{H H':Hp}{s:Shared}{h':Heap}
theorem Cx.Ok.nofr (ok:X.Ok){b:Addr}{o:Obj}(e:X.base.get? b=some o):b ∉ X.fs:=fun hb=>by
 have:=(ok.funs.mem hb).1;rw [e] at this;cases this
theorem Inv.bs (I:Inv X pins σ H s):∀ b o,X.base.get? b=some o->s.heap.get? b=some o/\H b=none:=fun b o e =>
 ⟨I.base.keep b o (I.ok.bs b o e).1 (I.ok.bs b o e).2 (I.ok.nofr e) (I.ok.noex b o e),I.base.free b o (I.ok.bs b o e).1 (I.ok.bs b o e).2 (I.ok.noex b o e)⟩
theorem Inv.bk (I:Inv X pins σ H s):∀ b o,X.base.get? b=some o->s.heap.get? b=some o:=fun b o e=>(I.bs b o e).1
theorem Inv.mod (I:Inv X pins σ H s):Mod X.K X.mg X.base:=I.ok.mod
theorem Inv.kIn (I:Inv X pins σ H s):X.K.In s.heap:=I.ok.mod.kin.keeps I.bk
theorem Inv.lt (I:Inv X pins σ H s):X.env.locals<s.heap.objs.size:=let ⟨_,hn,_⟩:=I.loc;hn.lt
theorem Inv.sz (I:Inv X pins σ H s):X.s₀.heap.objs.size<=s.heap.objs.size:=qdB I.ok.above (Nat.le_of_lt I.lt)
theorem Inv.nofs (I:Inv X pins σ H s){a:Addr}(h:s.heap.objs.size<=a):a ∉ X.fs:=fun hb=>by
 obtain ⟨_,o,ho,_⟩:=I.ok.funs.mem hb;exact absurd (qzB (qhB ho) (qdB I.sz h)) (qeB _)
theorem Inv.cne (I:Inv X pins σ H s):∀ x c,X.env.cells.lookup x=some c->c≠X.env.locals:=fun x c e z=>by
 obtain ⟨v,o,ho,hd⟩:=I.cell x c e;obtain ⟨m,⟨o',es,ep,ho',hd',_⟩,_⟩:=I.loc;rw [z,ho'] at ho;cases ho;rw [hd'] at hd;cases hd
theorem Inv.funs (I:Inv X pins σ H s):s.heap.FunFrames X.base X.outer:=by
 have all:∀ (l:List Env),(∀ b∈frs l,b∈X.fs)->X.s₀.heap.FunFrames X.base l->s.heap.FunFrames X.base l:=by
  intro l
  induction l with
  | nil=>intro _ _;trivial
  | cons env r ih =>
   intro hs hl;obtain ⟨hk,⟨L,o,hf,hn,ho,hd⟩,hr⟩:=hl;have hL:L∈X.fs:=hs L (by unfold frs;rw [List.filterMap_cons,hf];exact qqA);obtain ⟨sl,e⟩:=I.base.slot L o ho (I.ok.frf L hL) hL fun z=>I.ok.exfs L z hL;exact ⟨hk,⟨L,_,hf,hn,e,hd⟩,ih (fun b hb=>hs b (by unfold frs;rw [List.filterMap_cons,hf];exact qrA _ hb)) hr⟩
 exact all X.outer (fun _ hb=>hb) I.ok.funs
theorem Inv.stack (I:Inv X pins σ H s):s.heap.FunFrames X.base X.stack:=by
 rcases I.ok.stk with e | ⟨e,hf⟩
 ·rw [e];exact I.funs
 ·rw [e];obtain ⟨m,hn,_⟩:=I.loc;refine .cons (by rw [I.ok.kind];decide) hf hn ?_ I.funs;exact Heap.get?_none_of_le (qdB I.ok.bsz I.ok.above)
theorem Inv.stkSub (I:Inv X pins σ H s):∀ b∈frs X.stack,b∈X.env.locals::X.fs:=fun b hb=>by
 rcases I.ok.stk with e | ⟨e,hf⟩
 ·rw [e] at hb;exact qrA _ hb
 ·rw [e] at hb;unfold frs at hb;rw [List.filterMap_cons,hf] at hb;exact hb
theorem Inv.stkFree (I:Inv X pins σ H s):∀ b∈frs X.stack,H b=none:=fun b hb=>by
 rcases qmA.mp (I.stkSub b hb) with e|hb
 ·rw [e];exact I.free
 ·obtain ⟨_,o,ho,_⟩:=I.ok.funs.mem hb;exact I.base.free b o ho (I.ok.frf b hb) fun z=>I.ok.exfs b z hb
theorem Inv.step {g':Array GenState}{t':Nat}{d':Drawn}{ch:List Addr}(I:Inv X pins σ H s)
  (hch:∀ b∈ch,(b∈X.ex\/X.s₀.heap.objs.size<=b)/\b≠X.env.locals/\(∀ x c,X.env.cells.lookup x=some c->c≠b)/\∀ p∈X.pn++pins,p.1≠b)
  (keep:∀ b o,b≠X.env.locals->b ∉ X.fs->b ∉ ch->s.heap.get? b=some o->H b=none->h'.get? b=some o)
  (slot:∀ b o,b≠X.env.locals->b∈X.fs->b ∉ ch->s.heap.get? b=some o->H b=none->∃ sl,h'.get? b=some { o with slots:=sl }) (free:∀ b o,b ∉ ch->s.heap.get? b=some o->H b=none->H' b=none)
  (there:∀ b o,b ∉ ch->s.heap.get? b=some o->∃ o',h'.get? b=some o')
  (tups:∀ b xs,H b=some (.tup xs)->H' b=some (.tup xs)) (frzs:∀ b o u,H b=some (.frz o u)->H' b=some (.frz o u)) (tbls:∀ b ps,H b=some (.tbl ps)->∃ more,H' b=some (.tbl (ps++more)))
  (ns:∀ m,s.heap.Ns X.env.locals m->h'.Ns X.env.locals m) (hok:HOk X.prog X.w H' h') (hg:AllBare g') :
  Inv X pins σ H' { s with heap:=h',gens:=g',drawn:=d',toks:=t' }:=by
 have neL:∀ b o,X.s₀.heap.get? b=some o->b≠X.env.locals:=fun b o e=>qxB (qzB (qhB e) I.ok.above)
 have neC:∀ b o,X.s₀.heap.get? b=some o->b ∉ X.ex->b ∉ ch:=fun b o e hx hb=>by
  rcases (hch b hb).1 with z|z
  ·exact hx z
  ·exact absurd (qzB (qhB e) z) (qeB _)
 have cellK:∀ x c,X.env.cells.lookup x=some c->∀ v,s.heap.IsCell c v->h'.IsCell c v:=fun x c e v ⟨o,ho,hd⟩=>by
  have nch:c ∉ ch:=fun z=>(hch c z).2.2.1 x c e rfl;by_cases hc:c∈X.fs
  ·obtain ⟨sl,q⟩:=slot c o (I.cne x c e) hc nch ho (I.freeC x c e);exact ⟨_,q,hd⟩
  ·exact ⟨o,keep c o (I.cne x c e) hc nch ho (I.freeC x c e),hd⟩
 refine ⟨I.ok,I.os,hg,⟨fun b o e n hb hx=>?_,fun b o e n hb hx=>?_,fun b o e n hx=>?_,fun b o e hx=>?_,fun b xs e=>tups b xs (I.base.tups b xs e),fun b o xs e=>frzs b o xs (I.base.frzs b o xs e),fun b ps e=>?_⟩,?_,fun x c e=>?_,?_,fun x c e=>?_,fun p hp=>?_,hok,I.len⟩
 ·exact keep b o (neL b o e) hb (neC b o e hx) (I.base.keep b o e n hb hx) (I.base.free b o e n hx)
 ·obtain ⟨sl,e1⟩:=I.base.slot b o e n hb hx;obtain ⟨sl',e2⟩:=slot b _ (neL b o e) hb (neC b o e hx) e1 (I.base.free b o e n hx);exact ⟨sl',e2⟩
 ·obtain ⟨o',e1⟩:=I.base.there b o e hx;exact free b o' (neC b o e hx) e1 (I.base.free b o e n hx)
 ·obtain ⟨o',e1⟩:=I.base.there b o e hx;exact there b o' (neC b o e hx) e1
 ·obtain ⟨m1,e1⟩:=I.base.tbls b ps e;obtain ⟨m2,e2⟩:=tbls b _ e1;exact ⟨m1++m2,by rw [e2,Array.append_assoc]⟩
 ·obtain ⟨m,hn,hl⟩:=I.loc;refine ⟨m,ns m hn,fun i x v e1 e2 e3=>?_⟩;obtain ⟨u,r,l⟩:=hl i x v e1 e2 e3;refine ⟨u,r,?_⟩;rcases l with l | ⟨k,c,e,z⟩
  ·exact .inl l
  ·exact .inr ⟨k,c,e,cellK x c e _ z⟩
 ·obtain ⟨v,z⟩:=I.cell x c e;exact ⟨v,cellK x c e v z⟩
 ·obtain ⟨m,⟨o,_,_,ho,_⟩,_⟩:=I.loc;exact free _ o (fun z=>(hch _ z).2.1 rfl) ho I.free
 ·obtain ⟨v,o,ho,hd⟩:=I.cell x c e;exact free c o (fun z=>(hch c z).2.2.1 x c e rfl) ho (I.freeC x c e)
 ·obtain ⟨e,n,ne,nf,d⟩:=I.pin p hp;have nch:p.1 ∉ ch:=fun z=>(hch p.1 z).2.2.2 p hp rfl;exact ⟨keep p.1 p.2 ne nf nch e n,free p.1 p.2 nch e n,ne,nf,d⟩
theorem Inv.un {t':Nat}(I:Inv X pins σ H s)(u:Un X.fs [] H H' s.heap h')(hok:HOk X.prog X.w H' h'):Inv X pins σ H' { s with heap:=h',toks:=t' }:=by
 obtain ⟨m,⟨o,es,ep,ho,r⟩,_⟩:=id I.loc;obtain ⟨sl,hL⟩:=u.any ho I.free (by simp)
 exact I.step (g':=s.gens) (d':=s.drawn) (ch:=[]) (fun _ z=>nomatch z) (fun b o _ hb _ e n=>u.keep b o e n hb (by simp)) (fun b o _ hb _ e n=>u.slot b o e n hb (by simp)) (fun b o _ e n=>u.free b o e n (by simp)) (fun b o _ e=>u.there b o e (by simp)) u.tups u.frzs u.tbls (fun m' hm=>by
  obtain ⟨o',es',ep',ho',r'⟩:=hm;rw [ho] at ho';cases ho'
  exact ⟨_,es',ep',hL,r'⟩) hok I.bare
theorem Inv.call {g':Array GenState}{t':Nat}{d':Drawn}{ch:List Addr}(I:Inv X pins σ H s)(u:Un (frs X.stack) ch H H' s.heap h')(hok:HOk X.prog X.w H' h')(hg:AllBare g')
  (hch:∀ b∈ch,(b∈X.ex\/X.s₀.heap.objs.size<=b)/\b≠X.env.locals/\(∀ x c,X.env.cells.lookup x=some c->c≠b)/\∀ p∈X.pn++pins,p.1≠b) :
  Inv X pins σ H' { s with heap:=h',gens:=g',drawn:=d',toks:=t' }:=by
 obtain ⟨m,⟨o,es,ep,ho,r⟩,_⟩:=id I.loc;obtain ⟨sl,hL⟩:=u.any ho I.free fun z=>(hch _ z).2.1 rfl
 exact I.step (ch:=ch) hch (fun b o hL hb hc e n=>u.keep b o e n (fun z=>(qmA.mp (I.stkSub b z)).elim hL hb) hc) (fun b o _ _ hc e n=>u.any e n hc) (fun b o hc e n=>u.free b o e n hc) (fun b o hc e=>u.there b o e hc) u.tups u.frzs u.tbls (fun m' hm=>by
  obtain ⟨o',es',ep',ho',r'⟩:=hm;rw [ho] at ho';cases ho'
  exact ⟨_,es',ep',hL,r'⟩) hok hg
theorem Inv.turned {t':Nat}{it:Addr}(I:Inv X pins σ H s)(k:∀ b o,b≠it->s.heap.get? b=some o->h'.get? b=some o)(hn:H it=none)(hL:it≠X.env.locals)
  (h1:it∈X.ex\/X.s₀.heap.objs.size<=it) (h2:∀ x c,X.env.cells.lookup x=some c->c≠it) (h3:∀ p∈X.pn++pins,p.1≠it):Inv X pins σ H { s with heap:=h',toks:=t' }:=by
 have nit:∀ b u,H b=some u->b≠it:=fun b u e z=>by rw [z,hn] at e;cases e
 refine I.step (g':=s.gens) (d':=s.drawn) (ch:=[it]) (fun b hb=>?_) (fun b o _ _ hc e _=>k b o (fun z=>hc (by simp [z])) e) (fun b o _ _ hc e _=>⟨o.slots,k b o (fun z=>hc (by simp [z])) e⟩) (fun _ _ _ _ n=>n)
  (fun b o hc e=>⟨o,k b o (fun z=>hc (by simp [z])) e⟩) (fun _ _ e=>e) (fun _ _ _ e=>e) (fun b ps e=>⟨#[],by rw [e];simp⟩) (fun m hm=>?_) (fun b u e=>?_) I.bare
 ·have e:b=it:=by simpa using hb
  subst e;exact ⟨h1,hL,h2,h3⟩
 ·obtain ⟨o,es,ep,ho,r⟩:=hm;exact ⟨o,es,ep,k _ o (Ne.symm hL) ho,r⟩
 ·refine (I.hok b u e).stay (fun c v hc q=>k c v ?_ q) (fun _ q=>q) fun _ _ q=>q;rcases hc with z|z
  ·rw [z];exact nit b u e
  ·exact nit c _ z
theorem Inv.tok (I:Inv X pins σ H s)(t:Nat):Inv X pins σ H { s with toks:=t }:=I.un (h':=s.heap) (t':=t) Un.refl I.hok
theorem Inv.kept {t':Nat}(I:Inv X pins σ H s)(k:∀ b u,s.heap.get? b=some u->h'.get? b=some u):Inv X pins σ H { s with heap:=h',toks:=t' }:=I.un (Un.kept k) (I.hok.kept k)
theorem Inv.laid {a:Addr}{o:HO}{t':Nat}(I:Inv X pins σ H s)(k:∀ b u,s.heap.get? b=some u->h'.get? b=some u)(hp:s.heap.objs.size<=a)(new:ObjOk X.prog X.w (upd H a o) h' a o) :
  Inv X pins σ (upd H a o) { s with heap:=h',toks:=t' }:=I.un (Un.laid k hp (I.hok.fresh hp)) (I.hok.laid k hp new)
theorem Inv.write {x e:Addr}{o:HO}{t':Nat}(I:Inv X pins σ H s)(mu:Mut (H x))(he:e=x\/H e=some (.own x))(k:∀ b u,b≠e->s.heap.get? b=some u->h'.get? b=some u)(heo:∃ u,h'.get? e=some u)
  (new:ObjOk X.prog X.w (upd H x o) h' x o):Inv X pins σ (upd H x o) { s with heap:=h',toks:=t' }:=I.un (Un.write mu he k heo) (I.hok.write mu he k heo new)
theorem Inv.weak {σ':List (Option V)}(I:Inv X pins σ H s)(hl:σ'.length=σ.length)(w:∀ (i:Nat) v,σ'[i]? = some (some v)->σ[i]? = some (some v)):Inv X pins σ' H s :=
 ⟨I.ok,I.os,I.bare,I.base,let ⟨m,hn,hl'⟩:=I.loc;⟨m,hn,fun i x v e1 e2 e3=>hl' i x v e1 (w i v e2) e3⟩,I.cell,I.free,I.freeC,I.pin,I.hok,hl.trans I.len⟩
theorem Inv.pins_of {pins':List (Addr × Obj)}(I:Inv X pins σ H s)(h:∀ p∈pins',s.heap.get? p.1=some p.2/\H p.1=none/\p.1≠X.env.locals/\p.1 ∉ X.fs/\∀ v,p.2.data ≠ .cell v):Inv X pins' σ H s :=
 ⟨I.ok,I.os,I.bare,I.base,I.loc,I.cell,I.free,I.freeC,fun p hp=>(qkA.mp hp).elim (fun z=>I.pin p (List.mem_append_left _ z)) (h p),I.hok,I.len⟩
theorem K5 {N:List Str}(hN:N.Nodup){i j:Nat}{x:Str}(a:N[i]? = some x)(b:N[j]? = some x):i=j:=by
 obtain ⟨h1,e1⟩:=quA.mp a;obtain ⟨h2,e2⟩:=quA.mp b;exact (List.getElem_inj hN).mp (e1.trans e2.symm)
theorem Lv {M:Model}{A:Around}{E:Value->Shared->Prop}{i:Nat}{x:Str}{v:V}{u:Value}{Q:Unit->Shared->Prop}(I:Inv X pins σ H s)(hN:X.N.Nodup)(hi:X.N[i]? = some x)(hx:Loc X.env.scope x)(r:RelV v u)
  (h:∀ s',Inv X pins (σ.set i (some v)) H s'->(∃ a,Heap.SameBut a s.heap s'.heap/\(a=X.env.locals\/X.env.cells.lookup x=some a))->Q () s') (hf:X.fn x=true\/X.env.scope.names.lookup x=some .local := by first|exact .inl rfl|exact .inr rfl|assumption):wpAny M A (storeName X.env x u) Q E s:=by
 obtain ⟨m,hn,hl⟩:=id I.loc;have hcls:(X.env.scope.kind == .class || (X.env.scope.kind == .module && X.env.locals != X.env.globals))=false:=by rw [I.ok.kind];rfl
 have hiσ:i<σ.length:=by rw [I.len];exact (quA.mp hi).1
 have cne:=I.cne
 have tracked:∀ {a:Addr}{h':Heap},(∃ o,s.heap.get? a=some o/\H a=none)->Heap.SameBut a s.heap h'->HOk X.prog X.w H h':=fun {a h'} ha hs b ob e=>by
  obtain ⟨_,_,hfree⟩:=ha;refine (I.hok b ob e).stay (fun c w' hc q=>(hs.2 c ?_).trans q) (fun _ q=>q) fun _ _ q=>q;rintro rfl;rcases hc with rfl|hc
  ·rw [hfree] at e;cases e
  ·rw [hfree] at hc;cases hc
 rcases hx with hk|hk
 ·refine wpAny_storeName_local hk hn (fun h' hn' hs=>?_) hcls;obtain ⟨oL,_,_,hoL,_⟩:=id hn;refine h _ ⟨I.ok,I.os,I.bare,⟨fun b o e n hb hx=>?_,fun b o e n hb hx=>?_,I.base.free,fun b o e hx=>?_,I.base.tups,I.base.frzs,I.base.tbls⟩,⟨_,hn',fun j y v' e1 e2 e3=>?_⟩,fun y c e=>?_,I.free,I.freeC,fun p hp=>?_,tracked ⟨oL,hoL,I.free⟩ hs,by simpa using I.len⟩ ⟨_,hs,.inl rfl⟩
  ·exact (hs.2 b (qxB (qzB (qhB e) I.ok.above))).trans (I.base.keep b o e n hb hx)
  ·obtain ⟨sl,e1⟩:=I.base.slot b o e n hb hx;exact ⟨sl,(hs.2 b (qxB (qzB (qhB e) I.ok.above))).trans e1⟩
  ·obtain ⟨o',e1⟩:=I.base.there b o e hx;exact ⟨o',(hs.2 b (qxB (qzB (qhB e) I.ok.above))).trans e1⟩
  ·by_cases hj:j=i
   ·subst hj;rw [hi] at e1;cases e1;rw [List.getElem?_set_self hiσ] at e2;cases e2;exact ⟨u,r,.inl ⟨hk,by simp⟩⟩
   ·rw [List.getElem?_set_ne (Ne.symm hj)] at e2;obtain ⟨u',r',q⟩:=hl j y v' e1 e2 e3;refine ⟨u',r',?_⟩;rcases q with ⟨k,e⟩ | ⟨k,c,e,z⟩
    ·refine .inl ⟨k,?_⟩;have:y≠x:=fun e=>hj (K5 hN e1 (e ▸ hi));simp [this,e]
    ·exact .inr ⟨k,c,e,z.sameBut hs (cne y c e)⟩
  ·obtain ⟨w',z⟩:=I.cell y c e;exact ⟨w',z.sameBut hs (cne y c e)⟩
  ·obtain ⟨e,n,ne,nf,d⟩:=I.pin p hp;exact ⟨(hs.2 p.1 ne).trans e,n,ne,nf,d⟩
 ·have hfn:X.fn x=true:=by
   rcases hf with z|z
   ·exact z
   ·rw [z] at hk;cases hk
  obtain ⟨c,hc⟩:=I.ok.has x (.inl hk);obtain ⟨w',z⟩:=I.cell x c hc;refine wpAny_storeName_cell I.ok.kind hk hc z (fun h' hc' hs=>?_);obtain ⟨oc,hoc,hocd⟩:=id z;refine h { s with heap:=h' } ⟨I.ok,I.os,I.bare,⟨fun b o e n hb hx=>?_,fun b o e n hb hx=>?_,I.base.free,fun b o e hx=>?_,I.base.tups,I.base.frzs,I.base.tbls⟩,⟨m,hn.sameBut hs (Ne.symm (cne x c hc)),fun j y v' e1 e2 e3=>?_⟩,fun y c' e=>?_,I.free,I.freeC,fun p hp=>?_,tracked ⟨oc,hoc,I.freeC x c hc⟩ hs,by simpa using I.len⟩ ⟨c,hs,.inr hc⟩
  ·exact (hs.2 b (qxB (qzB (qhB e) (I.ok.cab x c hfn hc)))).trans (I.base.keep b o e n hb hx)
  ·obtain ⟨sl,e1⟩:=I.base.slot b o e n hb hx;exact ⟨sl,(hs.2 b (qxB (qzB (qhB e) (I.ok.cab x c hfn hc)))).trans e1⟩
  ·obtain ⟨o',e1⟩:=I.base.there b o e hx;exact ⟨o',(hs.2 b (qxB (qzB (qhB e) (I.ok.cab x c hfn hc)))).trans e1⟩
  ·by_cases hj:j=i
   ·subst hj;rw [hi] at e1;cases e1;rw [List.getElem?_set_self hiσ] at e2;cases e2;exact ⟨u,r,.inr ⟨.inl hk,c,hc,hc'⟩⟩
   ·rw [List.getElem?_set_ne (Ne.symm hj)] at e2;obtain ⟨u',r',q⟩:=hl j y v' e1 e2 e3;refine ⟨u',r',?_⟩;rcases q with q | ⟨k,c',e,z'⟩
    ·exact .inl q
    ·refine .inr ⟨k,c',e,z'.sameBut hs ?_⟩;rintro rfl;exact hj (K5 hN e1 (I.ok.inj _ _ _ e hc ▸ hi))
  ·by_cases hcc:c'=c
   ·subst hcc;exact ⟨_,hc'⟩
   ·obtain ⟨w2,z2⟩:=I.cell y c' e;exact ⟨w2,z2.sameBut hs hcc⟩
  ·obtain ⟨e,n,ne,nf,d⟩:=I.pin p hp;refine ⟨(hs.2 p.1 ?_).trans e,n,ne,nf,d⟩;intro q;rw [q,hoc] at e;have q':oc=p.2:=qgB e;exact d w' (by rw [<- q'];exact hocd)
theorem GK {M:Model}{A:Around}{E:Value->Shared->Prop}{i:Nat}{x:Str}{v:V}{u:Value}{Q:Unit->Shared->Prop}(I:Inv X pins σ H s)(hN:X.N.Nodup)(hi:X.N[i]? = some x)(hx:Loc X.env.scope x)(r:RelV v u)
  (h:∀ s',Inv X pins (σ.set i (some v)) H s'->Q () s') (hf:X.fn x=true\/X.env.scope.names.lookup x=some .local := by first|exact .inl rfl|exact .inr rfl|assumption):wpAny M A (storeName X.env x u) Q E s :=
 Lv I hN hi hx r (fun s' I' _=>h s' I') hf
theorem Inv.call' {s':Shared}{ch:List Addr}(I:Inv X pins σ H s)(ho:s'.os=s.os)(u:Un (frs X.stack) ch H H' s.heap s'.heap)(hok:HOk X.prog X.w H' s'.heap)(hg:AllBare s'.gens)
  (hch:∀ b∈ch,(b∈X.ex\/X.s₀.heap.objs.size<=b)/\b≠X.env.locals/\(∀ x c,X.env.cells.lookup x=some c->c≠b)/\∀ p∈X.pn++pins,p.1≠b):Inv X pins σ H' s':=by
 obtain ⟨h',g',d',t',o'⟩:=s';have e:o'=s.os:=ho;subst e;exact I.call (g':=g') (t':=t') (d':=d') u hok hg hch
end
abbrev XK:=Value->Option Addr->Hp->Prop
abbrev St:=List (Option V)
abbrev VK:=V->Hp->Prop
abbrev TE:=St->Hp->VK->Prop
abbrev TT:=St->Hp->(Bool->Hp->Prop)->Prop
abbrev TA:=St->Hp->(List V->Hp->Prop)->Prop
structure Ends where
 nx:St->Hp->Prop
 rt:VK
 bk:St->Hp->Prop:=fun _ _=>False
 ct:St->Hp->Prop:=fun _ _=>False
abbrev TS:=Ends->St->Hp->Prop
def EP (X:Cx)(pins:List (Addr × Obj))(σ:St)(Q:VK)(u:Value)(s':Shared):Prop:=∃ v H',Inv X pins σ H' s'/\RelV v u/\Q v H'
def TP (X:Cx)(pins:List (Addr × Obj))(σ:St)(Q:Bool->Hp->Prop)(b:Bool)(s':Shared):Prop:=∃ H',Inv X pins σ H' s'/\Q b H'
def AP (X:Cx)(pins:List (Addr × Obj))(σ:St)(Q:List V->Hp->Prop)(us:List Value)(s':Shared):Prop:=∃ vs H',Inv X pins σ H' s'/\Vals vs us/\Q vs H'
def SP (X:Cx)(pins:List (Addr × Obj))(D:Ends)(f:Flow)(s':Shared):Prop :=
 match f with
 | .next=>∃ σ' H',Inv X pins σ' H' s'/\D.nx σ' H'
 | .brk=>∃ σ' H',Inv X pins σ' H' s'/\D.bk σ' H'
 | .cont=>∃ σ' H',Inv X pins σ' H' s'/\D.ct σ' H'
 | .ret u=>∃ v σ' H',Inv X pins σ' H' s'/\RelV v u/\D.rt v H'
def PE (X:Cx)(e:Expr)(t:TE):Prop :=
 ∀ (pins:List (Addr × Obj)) (s:Shared) (σ:St) (H:Hp) (Q:VK),Inv X pins σ H s->t σ H Q->wpAny (model X.prog X.w) X.A (eval e X.env) (EP X pins σ Q) X.xe s
def PT (X:Cx)(e:Expr)(t:TT):Prop :=
 ∀ (pins:List (Addr × Obj)) (s:Shared) (σ:St) (H:Hp) (Q:Bool->Hp->Prop),Inv X pins σ H s->t σ H Q->wpAny (model X.prog X.w) X.A (isTrue e X.env (eval e X.env)) (TP X pins σ Q) X.xe s
def PW (X:Cx)(e:Expr)(t:TT):Prop :=
 ∀ (whole:Sem Value) (pins:List (Addr × Obj)) (s:Shared) (σ:St) (H:Hp) (Q:Bool->Hp->Prop),Inv X pins σ H s->t σ H Q->wpAny (model X.prog X.w) X.A (isTrue e X.env whole) (TP X pins σ Q) X.xe s
theorem PW.pt {X:Cx}{e:Expr}{t:TT}(h:PW X e t):PT X e t:=h _
def PA (X:Cx)(es:List Expr)(t:TA):Prop :=
 ∀ (pos:Pos) (pins:List (Addr × Obj)) (s:Shared) (σ:St) (H:Hp) (Q:List V->Hp->Prop),Inv X pins σ H s->t σ H Q->wpAny (model X.prog X.w) X.A (spliced (backTo pos (starEach es X.env))) (AP X pins σ Q) X.xe s
def PS (X:Cx)(st:Stmt)(t:TS):Prop :=
 ∀ (pins:List (Addr × Obj)) (s:Shared) (σ:St) (H:Hp) (D:Ends),Inv X pins σ H s->t D σ H->wpAny (model X.prog X.w) X.A (exec st X.env) (SP X pins D) X.xe s
def PSs (X:Cx)(st:List Stmt)(t:TS):Prop :=
 ∀ (pins:List (Addr × Obj)) (s:Shared) (σ:St) (H:Hp) (D:Ends),Inv X pins σ H s->t D σ H->wpAny (model X.prog X.w) X.A (execs st X.env) (SP X pins D) X.xe s
theorem thn {α:Type}{t:Sem α}{Q Q':α->Shared->Prop}{M:Model}{A:Around}{E:Value->Shared->Prop}{s:Shared}(h:wpAny M A t Q E s)(hQ:∀ a s,Q a s->Q' a s):wpAny M A t Q' E s:=wpAny_mono h hQ fun _ _ x=>x
section
variable {X:Cx}
abbrev Hi (i:Nat):TE:=fun σ H Q=>∃ v,σ[i]? = some (some v)/\Q v H
abbrev tC (v:V):TE:=fun _ H Q=>Q v H
theorem pe_var {i:Nat}{x:Str}{pos:Pos}(hN:X.N[i]? = some x)(hv:Vis X.env.scope x)(hd:(x == ("__debug__" : Str))=false:=by decide)(hcd:(x == ("__classdict__" : Str))=false:=by decide):PE X (.Name x pos) (Hi i):=by
 intro pins s σ H Q I h;obtain ⟨v,e,h⟩:=h;obtain ⟨m,hn,hl⟩:=I.loc;obtain ⟨u,r,l⟩:=hl i x v hN e hv;have fin:EP X pins σ Q u s:=⟨v,H,I,r,h⟩;rcases l with ⟨hk,hm⟩ | ⟨hk,c,hc,hcell⟩
 ·exact wpAny_Name (wpAny_loadName_local I.ok.kind hk hn hm fin) hd
 ·rcases hk with hk|hk
  ·exact wpAny_Name (wpAny_loadName_cell I.ok.kind hk hc hcell fin) hd
  ·exact wpAny_Name (wpAny_loadName_free I.ok.kind hk hc hcell fin hcd) hd
theorem A8 {i j pos}:PE X (.Constant (.int i) j pos) (tC (.int i)):=fun _ _ _ H _ I h=>wpAny_Constant_int ⟨.int i,H,I.tok _,⟨_,rfl⟩,h⟩
theorem De {b j pos}:PE X (.Constant (.bool b) j pos) (tC (.bl b)):=fun _ _ _ H _ I h=>Constant_bool ⟨.bl b,H,I,rfl,h⟩
theorem D0 {j pos}:PE X (.Constant .none j pos) (tC .non):=fun _ _ _ H _ I h=>Constant_none ⟨.non,H,I,rfl,h⟩
theorem AK {x j pos}:PE X (.Constant (.str x) j pos) (tC (.str x)):=fun _ _ _ H _ I h=>Calls.Constant_str ⟨.str x,H,I.tok _,⟨_,rfl⟩,h⟩
def Gl (X:Cx)(x:Str):Prop:=X.env.kindOf x=some .globalImplicit
theorem Gn {E:Value->Shared->Prop}{pins:List (Addr × Obj)}{s:Shared}{σ:St}{H:Hp}{x:Str}{u:Value}{pos:Pos}{Q:Value->Shared->Prop}(I:Inv X pins σ H s)(hg:Gl X x)(hm:X.mg x=some u)(h:Q u s)
  (hd:(x == ("__debug__" : Str))=false:=by decide):wpAny (model X.prog X.w) X.A (eval (.Name x pos) X.env) Q E s :=
 Calls.Name_function_global I.ok.kind hg (Calls.loadGlobal_global (by rw [I.ok.glob];exact I.mod.glob.keeps I.bk) hm h) hd
theorem KZ {E:Value->Shared->Prop}{pins:List (Addr × Obj)}{s:Shared}{σ:St}{H:Hp}{x:Str}{u:Value}{pos:Pos}{Q:Value->Shared->Prop}(I:Inv X pins σ H s)(hg:Gl X x)(hm:X.mg x=none)(hv:bootBuiltins x=some u)(h:Q u s)
  (hn:x ≠ "__name__" := by decide) (hd:(x == ("__debug__" : Str))=false:=by decide):wpAny (model X.prog X.w) X.A (eval (.Name x pos) X.env) Q E s:=by
 obtain ⟨mb,h1,h2⟩:=I.mod.blt;exact Calls.Name_function_global I.ok.kind hg (Calls.loadGlobal_builtin (by rw [I.ok.glob];exact I.mod.glob.keeps I.bk) hm (by rw [I.ok.blt];exact h1.keeps I.bk) ((h2 x hn).trans hv) h) hd
theorem Db {x:Str}{v:V}{u:Value}{pos:Pos}(hg:Gl X x)(hm:X.mg x=some u)(r:RelV v u)(hd:(x == ("__debug__" : Str))=false:=by decide):PE X (.Name x pos) (tC v) :=
 fun _ _ _ H _ I h=>Gn I hg hm ⟨v,H,I,r,h⟩ hd
theorem Ci {x:Str}{v:V}{u:Value}{pos:Pos}(hg:Gl X x)(hm:X.mg x=none)(hv:bootBuiltins x=some u)(r:RelV v u)(hn:x ≠ "__name__" := by decide)(hd:(x == ("__debug__" : Str))=false:=by decide):PE X (.Name x pos) (tC v) :=
 fun _ _ _ H _ I h=>KZ I hg hm hv ⟨v,H,I,r,h⟩ hn hd
variable {a b:Expr}{ta tb:TE}{pos:Pos}
variable {tA tB':TT}{rest:List Expr}
abbrev tAnd (t u:TT):TT:=fun σ H Q=>t σ H fun c H1=>if c=true then u σ H1 Q else Q false H1
abbrev tOr (t u:TT):TT:=fun σ H Q=>t σ H fun c H1=>if c=true then Q true H1 else u σ H1 Q
abbrev tNot (t:TT):TT:=fun σ H Q=>t σ H fun c H1=>Q (!c) H1
theorem Jk (ha:PT X a tA):PW X (.BoolOp .And [a] pos) tA:=by
 intro wh pins s σ H Q I h;refine isTrue_and (thn (ha pins s σ H Q I h) fun c s1 e=>?_)
 cases c with
 | true=>exact isTrue_and_nil e
 | false=>exact e
theorem Dm (ha:PT X a tA):PW X (.BoolOp .Or [a] pos) tA:=by
 intro wh pins s σ H Q I h;refine isTrue_or (thn (ha pins s σ H Q I h) fun c s1 e=>?_)
 cases c with
 | false=>exact isTrue_or_nil e
 | true=>exact e
theorem MS (ha:PT X a tA)(hb:PW X (.BoolOp .And (b::rest) pos) tB'):PW X (.BoolOp .And (a::b::rest) pos) (tAnd tA tB'):=by
 intro wh pins s σ H Q I h;refine isTrue_and (thn (ha pins s σ H _ I h) fun c s1 ⟨H1,I1,q1⟩=>?_)
 cases c with
 | true=>exact hb wh pins s1 σ H1 Q I1 q1
 | false=>exact ⟨H1,I1,q1⟩
theorem E8 (ha:PT X a tA)(hb:PW X (.BoolOp .Or (b::rest) pos) tB'):PW X (.BoolOp .Or (a::b::rest) pos) (tOr tA tB'):=by
 intro wh pins s σ H Q I h;refine isTrue_or (thn (ha pins s σ H _ I h) fun c s1 ⟨H1,I1,q1⟩=>?_)
 cases c with
 | true=>exact ⟨H1,I1,q1⟩
 | false=>exact hb wh pins s1 σ H1 Q I1 q1
theorem Cz (ha:PT X a tA):PT X (.UnaryOp .Not a pos) (tNot tA):=by
 intro pins s σ H Q I h;exact isTrue_not (ha pins s σ H (fun c H1=>Q (!c) H1) I h)
abbrev tAndV (ta tb:TE):TE:=fun σ H Q=>ta σ H fun x H1=>∃ c,x = .bl c/\if c=true then tb σ H1 Q else Q (.bl false) H1
abbrev tNotV (ta:TE):TE:=fun σ H Q=>ta σ H fun x H1=>∃ c,x = .bl c/\Q (.bl (!c)) H1
theorem JJ {op}{t:TE}(h:PE X a t):PE X (.BoolOp op [a] pos) t:=fun pins s σ H Q I hw=>BoolOp_one (h pins s σ H Q I hw)
theorem Hq (ha:PE X a ta)(hb:PE X (.BoolOp .And (b::rest) pos) tb):PE X (.BoolOp .And (a::b::rest) pos) (tAndV ta tb):=by
 intro pins s σ H Q I h;refine BoolOp_and (thn (ha pins s σ H _ I h) fun v s1 ⟨x,H1,I1,r1,q1⟩=>?_);obtain ⟨c,rfl,q1⟩:=q1;cases r1;refine wpAny_truthy_bool ?_
 cases c with
 | true=>exact hb pins s1 σ H1 Q I1 q1
 | false=>exact ⟨.bl false,H1,I1,rfl,q1⟩
theorem pe_not (ha:PE X a ta):PE X (.UnaryOp .Not a pos) (tNotV ta):=by
 intro pins s σ H Q I h;refine UnaryOp_ (thn (ha pins s σ H _ I h) fun v s1 ⟨x,H1,I1,r1,q1⟩=>?_);obtain ⟨c,rfl,q1⟩:=q1;cases r1;exact not_of (wpAny_truthy_bool ⟨.bl (!c),H1,I1,rfl,q1⟩)
def tIf (t:TT)(ta tb:TE):TE:=fun σ H Q=>t σ H fun c H1=>if c=true then ta σ H1 Q else tb σ H1 Q
theorem FL {c:Expr}(hc:PT X c tA)(ha:PE X a ta)(hb:PE X b tb):PE X (.IfExp c a b pos) (tIf tA ta tb):=by
 intro pins s σ H Q I h;refine wpAny_IfExp (thn (hc pins s σ H _ I h) fun d s1 ⟨H1,I1,q1⟩=>?_)
 cases d with
 | true=>exact ha pins s1 σ H1 Q I1 q1
 | false=>exact hb pins s1 σ H1 Q I1 q1
end
def SqL (K:FZ9)(H:Hp)(a:Addr)(xs:List V):Prop :=
 Rd H a (.lst xs) \/
  ∃ (o:Obj) (its:Array Value) (n:Nat),K.lookup a=some o/\o.cls = .type "list" /\ o.dict=none/\o.data = .seq its n/\its.size<=sizeLine/\Vals xs its.toList
def SqT (K:FZ9)(H:Hp)(a:Addr)(xs:List V):Prop :=
 Rd H a (.tup xs) \/
  ∃ (o:Obj) (its:Array Value) (n:Nat),K.lookup a=some o/\o.cls = .type "tuple" /\ o.data = .seq its n/\its.size<=sizeLine/\Vals xs its.toList
def absV:Value->Option V
 | .none=>some .non
 | .bool b=>some (.bl b)
 | .int i _=>some (.int i)
 | .str x _=>some (.str x)
 | .bytes b _=>some (.byt b)
 | .float b _=>some (.flt b)
 | .ref a=>some (.ref a)
 | .type n=>some (.ty n)
 | _=>none
theorem RelV.abs {x:V}{u:Value}(r:RelV x u):absV u=some x:=by
 cases x with
 | non=>cases r;rfl
 | bl _=>cases r;rfl
 | int _=>obtain ⟨t,rfl⟩:=r;rfl
 | str _=>obtain ⟨t,rfl⟩:=r;rfl
 | byt _=>obtain ⟨t,rfl⟩:=r;rfl
 | flt _=>obtain ⟨t,rfl⟩:=r;rfl
 | ref _=>cases r;rfl
 | ty _=>cases r;rfl
theorem RelV.inj {x y:V}{u:Value}(r:RelV x u)(q:RelV y u):x=y:=qgB (r.abs.symm.trans q.abs)
theorem Vals.inj:∀ {xs ys:List V}{us:List Value},Vals xs us->Vals ys us->xs=ys
 | _,_,_,.nil,.nil=>rfl
 | _,_,_,.cons r t,.cons r' t'=>by rw [r.inj r',Vals.inj t t']
section
variable {X:Cx}{pins:List (Addr × Obj)}{σ:St}{H:Hp}{s:Shared}{a:Addr}{xs ys:List V}
theorem SqL.of {K:FZ9}(h:H a=some (.lst xs)):SqL K H a xs:=.inl (.inl h)
theorem SqT.of {K:FZ9}(h:H a=some (.tup xs)):SqT K H a xs:=.inl (.inl h)
theorem Inv.list (I:Inv X pins σ H s)(h:SqL X.K H a xs):∃ its:List Value,Vals xs its/\PlainL s.heap a its.toArray/\xs.length<=sizeLine:=by
 rcases h with h | ⟨o,its,n,hk,hc,hd,hs,hz,r⟩
 ·obtain ⟨z,its,n,r,e⟩:=h.ok I.hok;exact ⟨its,r,⟨_,n,e,rfl,rfl,rfl⟩,z⟩
 ·refine ⟨its.toList,r,⟨o,n,I.kIn a o hk,hc,hd,by simpa using hs⟩,?_⟩;have e:=r.length;simp only [qwB] at e;omega
theorem Inv.tuple (I:Inv X pins σ H s)(h:SqT X.K H a xs):∃ its:List Value,Vals xs its/\IsTup s.heap a its.toArray/\xs.length<=sizeLine:=by
 rcases h with h | ⟨o,its,n,hk,hc,hs,hz,r⟩
 ·obtain ⟨z,its,r,p⟩:=h.ok I.hok;exact ⟨its,r,p,z⟩
 ·refine ⟨its.toList,r,⟨o,I.kIn a o hk,hc,n,by simpa using hs⟩,?_⟩;have e:=r.length;simp only [qwB] at e;omega
theorem Inv.list_inj (I:Inv X pins σ H s)(h:SqL X.K H a xs)(h':SqL X.K H a ys):xs=ys:=by
 obtain ⟨its,r,⟨o,n,e,_,_,d⟩,_⟩:=I.list h;obtain ⟨its',r',⟨o',n',e',_,_,d'⟩,_⟩:=I.list h';rw [e] at e';cases e';rw [d] at d';injection d' with d1 _
 have:its=its':=by simpa using congrArg Array.toList d1
 subst this;exact r.inj r'
theorem Inv.tuple_inj (I:Inv X pins σ H s)(h:SqT X.K H a xs)(h':SqT X.K H a ys):xs=ys:=by
 obtain ⟨its,r,⟨o,e,_,n,d⟩,_⟩:=I.tuple h;obtain ⟨its',r',⟨o',e',_,n',d'⟩,_⟩:=I.tuple h';rw [e] at e';cases e';rw [d] at d';injection d' with d1 _
 have:its=its':=by simpa using congrArg Array.toList d1
 subst this;exact r.inj r'
end
abbrev Cx.wish (X:Cx)(E:Value->Shared->Prop):Cx:={ X with xe:=E }
abbrev Cx.nox (X:Cx):Cx:=X.wish fun _ _=>False
theorem Cx.Ok.wish {X:Cx}(ok:X.Ok)(E:Value->Shared->Prop):(X.wish E).Ok :=
 ⟨ok.mod,ok.kind,ok.glob,ok.blt,ok.above,ok.inj,ok.has,ok.cab,ok.hd,ok.frames,ok.stk,ok.exf,ok.bs,ok.bsz,ok.noex,ok.exfs,ok.funs,ok.frf⟩
theorem Cx.Ok.unwish {X:Cx}{E:Value->Shared->Prop}(ok:(X.wish E).Ok):X.Ok :=
 ⟨ok.mod,ok.kind,ok.glob,ok.blt,ok.above,ok.inj,ok.has,ok.cab,ok.hd,ok.frames,ok.stk,ok.exf,ok.bs,ok.bsz,ok.noex,ok.exfs,ok.funs,ok.frf⟩
section
variable {X:Cx}{pins:List (Addr × Obj)}{σ:St}{H:Hp}{s:Shared}{E:Value->Shared->Prop}
theorem Inv.wish (I:Inv X pins σ H s)(E:Value->Shared->Prop):Inv (X.wish E) pins σ H s:=⟨I.ok.wish E,I.os,I.bare,I.base,I.loc,I.cell,I.free,I.freeC,I.pin,I.hok,I.len⟩
theorem Inv.unwish (I:Inv (X.wish E) pins σ H s):Inv X pins σ H s:=⟨I.ok.unwish,I.os,I.bare,I.base,I.loc,I.cell,I.free,I.freeC,I.pin,I.hok,I.len⟩
theorem SP.unwish {D:Ends}{f:Flow}{s':Shared}(h:SP (X.wish E) pins D f s'):SP X pins D f s':=by
 cases f with
 | next=>obtain ⟨σ',H',I,q⟩:=h;exact ⟨σ',H',I.unwish,q⟩
 | brk=>obtain ⟨σ',H',I,q⟩:=h;exact ⟨σ',H',I.unwish,q⟩
 | cont=>obtain ⟨σ',H',I,q⟩:=h;exact ⟨σ',H',I.unwish,q⟩
 | ret u=>obtain ⟨v,σ',H',I,r,q⟩:=h;exact ⟨v,σ',H',I.unwish,r,q⟩
theorem PSs.nox {st:List Stmt}{t:TS}(h:PSs X.nox st t):PSs X st t:=fun pins s σ H D I hw =>
 wpAny_mono (h pins s σ H D (I.wish _) hw) (fun _ _ q=>q.unwish) fun _ _ z=>False.elim z
end
section
variable {X:Cx}{st:Stmt}{rest:List Stmt}{t u:TS}{e:Expr}{te:TE}{pos:Pos}
abbrev CZ:TS:=fun D σ H=>D.nx σ H
abbrev EE (t u:TS):TS:=fun D σ H=>t { D with nx:=u D } σ H
theorem A4:PSs X [] CZ:=fun _ _ σ H _ I h=>wpAny_execs_nil ⟨σ,H,I,h⟩
theorem A3 (h1:PS X st t)(h2:PSs X rest u):PSs X (st::rest) (EE t u):=by
 intro pins s σ H D I h;refine wpAny_execs_cons (thn (h1 pins s σ H { D with nx:=u D } I h) fun f s1 q=>?_)
 cases f with
 | next =>
  obtain ⟨σ',H',I',q⟩:=q;exact h2 pins s1 σ' H' D I' q
 | ret v=>exact q
 | brk=>exact q
 | cont=>exact q
theorem Inv.quiet {pins:List (Addr × Obj)}{σ:St}{H:Hp}{s:Shared}(I:Inv X pins σ H s):interactive X.env=false:=by simp [interactive,I.ok.kind]
abbrev Ft (te:TE):TS:=fun D σ H=>te σ H fun _ H1=>D.nx σ H1
theorem Bx (he:PE X e te)(hs:swapsWith e none pos.line X.env=pure false:=by rfl):PS X (.Expr e pos) (Ft te):=by
 intro pins s σ H D I h;exact wpAny_Expr_any (thn (he pins s σ H _ I h) fun v s1 ⟨x,H1,I1,r1,q1⟩=>⟨σ,H1,I1,q1⟩) I.quiet hs
abbrev tRet (te:TE):TS:=fun D σ H=>te σ H D.rt
theorem AN (he:PE X e te):PS X (.Return (some e) pos) (tRet te):=by
 intro pins s σ H D I h;exact wpAny_Return_some (thn (he pins s σ H _ I h) fun v s1 ⟨x,H1,I1,r1,q1⟩=>⟨x,σ,H1,I1,r1,q1⟩)
abbrev Jt (c:TT)(t u:TS):TS:=fun D σ H=>c σ H fun b H1=>if b=true then t D σ H1 else u D σ H1
theorem Ax {c:Expr}{a b:List Stmt}{tc:TT}(hc:PT X c tc)(ha:PSs X a t)(hb:PSs X b u):PS X (.If c a b pos) (Jt tc t u):=by
 intro pins s σ H D I h;refine wpAny_If (thn (hc pins s σ H _ I h) fun d s1 ⟨H1,I1,q1⟩=>?_)
 cases d with
 | true=>exact ha pins s1 σ H1 D I1 q1
 | false=>exact hb pins s1 σ H1 D I1 q1
end
abbrev TG:=V->St->Hp->(St->Hp->Prop)->Prop
def PG (X:Cx)(target:Expr)(t:TG):Prop :=
 ∀ (pins:List (Addr × Obj)) (s:Shared) (σ:St) (H:Hp) (v:V) (u:Value) (Q:St->Hp->Prop),Inv X pins σ H s->RelV v u->t v σ H Q ->
  wpAny (model X.prog X.w) X.A (assign target X.env u) (fun _ s'=>∃ σ' H',Inv X pins σ' H' s'/\Q σ' H') X.xe s
section
variable {X:Cx}{pos:Pos}
abbrev HM (i:Nat):TG:=fun v σ H Q=>Q (σ.set i (some v)) H
theorem pg_name {i:Nat}{x:Str}(hN:X.N.Nodup)(hi:X.N[i]? = some x)(hx:Loc X.env.scope x)(hf:X.fn x=true\/X.env.scope.names.lookup x=some .local := by first|exact .inl rfl|exact .inr rfl|assumption):PG X (.Name x pos) (HM i):=by
 intro pins s σ H v u Q I r h;exact wpAny_assign_Name (GK I hN hi hx r (fun s' I'=>⟨_,H,I',h⟩) hf)
abbrev Q9 (te:TE)(g:TG):TS:=fun D σ H=>te σ H fun x H1=>g x σ H1 D.nx
theorem MQ {i:Nat}{x:Str}{e:Expr}{te:TE}{pos':Pos}(hN:X.N.Nodup)(hi:X.N[i]? = some x)(hx:Loc X.env.scope x)(he:PE X e te)(hs:swapsWith e (some (.Name x pos')) pos.line X.env=pure false:=by rfl)(hf:X.fn x=true\/X.env.scope.names.lookup x=some .local := by first|exact .inl rfl|exact .inr rfl|assumption) :
  PS X (.Assign [.Name x pos'] e pos) (Q9 te (HM i)):=by
 intro pins s σ H D I h;refine wpAny_Assign_Name (thn (he pins s σ H _ I h) fun v s1 ⟨y,H1,I1,r1,q1⟩=>?_) hs;exact GK I1 hN hi hx r1 (fun s2 I2=>⟨_,H1,I2,q1⟩) hf
end
structure It where
 go:Nat->Hp->Prop
 yld:Nat->Hp->V->Hp->Prop
 stop:Nat->Hp->Prop
def Hg (X:Cx)(pins:List (Addr × Obj))(H:Hp)(b:Addr):Prop :=
 H b=none/\b≠X.env.locals/\b ∉ X.fs/\(b∈X.ex\/X.s₀.heap.objs.size<=b)/\(∀ x c,X.env.cells.lookup x=some c->c≠b)/\∀ p∈X.pn++pins,p.1≠b
theorem Inv.fpOk {X:Cx}{pins:List (Addr × Obj)}{σ:St}{H H':Hp}{s:Shared}{b:Addr}(I:Inv X pins σ H s)(hb:s.heap.objs.size<=b)(hn:H' b=none):Hg X pins H' b:=by
 refine ⟨hn,Nat.ne_of_gt (qzB I.lt hb),I.nofs hb,.inr (qdB I.sz hb),fun x c e z=>?_,fun p hp z=>?_⟩
 ·obtain ⟨v,q⟩:=I.cell x c e;exact absurd (qzB q.lt (by rw [z];exact hb)) (qeB _)
 ·exact absurd (qzB (qhB (I.pin p hp).1) (by rw [z];exact hb)) (qeB _)
structure Turn (P:Program)(w:World)(K:FZ9)(tg:Expr)(J:It)(fp:List Addr)(it:Addr)(tn:Nat->Heap->Prop):Prop where
 mem:it∈fp
 obj:∀ i h,tn i h->∀ b∈fp,∃ o,h.get? b=some o/\∀ v,o.data ≠ .cell v
 keep:∀ i h h',tn i h->(∀ b∈fp,∀ o,h.get? b=some o->h'.get? b=some o)->tn i h'
 item:∀ (X:Cx),X.prog=P->X.w=w->X.K=K->X.calm=true->∀ (i:Nat) (pins:List (Addr × Obj)) (s:Shared) (σ:St) (H:Hp) (E:Value->Shared->Prop),Inv X pins σ H s->(∀ b∈fp,Hg X pins H b)->tn i s.heap->J.go i H ->
  wpAny (model P w) X.A (pyNext (.ref it)) (fun r s1=>∃ u,r=some u /\
   wpAny (model P w) X.A (letOwnedTupleGo tg (.ref it) u) (fun _ s2=>∃ x H',Inv X pins σ H' s2/\RelV x u/\J.yld i H x H'/\tn (i+1) s2.heap/\∀ b∈fp,H' b=none) E s1) E s
 done:∀ (X:Cx),X.prog=P->X.w=w->X.K=K->X.calm=true->∀ (i:Nat) (pins:List (Addr × Obj)) (s:Shared) (σ:St) (H:Hp) (E:Value->Shared->Prop),Inv X pins σ H s->(∀ b∈fp,Hg X pins H b)->tn i s.heap->J.stop i H ->
  wpAny (model P w) X.A (pyNext (.ref it)) (fun r s1=>r=none/\Inv X pins σ H s1) E s
 self:∀ (A:Around) (i:Nat) (s:Shared) (Q:Value->Shared->Prop) (E:Value->Shared->Prop),tn i s.heap->Q (.ref it) s->wpAny (model P w) A (pyIter (.ref it)) Q E s
abbrev TI:=St->Hp->(It->Hp->Prop)->Prop
def PIE (X:Cx)(pins:List (Addr × Obj))(σ:St)(tg:Expr)(R:It->Hp->Prop)(itv:Value)(s2:Shared):Prop :=
 ∃ (it:Addr) (fp:List Addr) (tn:Nat->Heap->Prop) (J:It) (H':Hp),itv = .ref it/\Inv X pins σ H' s2/\Turn X.prog X.w X.K tg J fp it tn/\tn 0 s2.heap/\(∀ b∈fp,Hg X pins H' b)/\R J H'
def PI (X:Cx)(tg iter:Expr)(wi:TI):Prop :=
 ∀ (pins:List (Addr × Obj)) (s:Shared) (σ:St) (H:Hp) (R:It->Hp->Prop),Inv X pins σ H s->wi σ H R ->
  wpAny (model X.prog X.w) X.A (eval iter X.env) (fun v s1=>wpAny (model X.prog X.w) X.A (pyIter v) (PIE X pins σ tg R) X.xe s1) X.xe s
theorem Nl {M:Model}{A:Around}{E:Value->Shared->Prop}{s:Shared}{tg:Expr}{it:Addr}{u:Value}{o:Obj}{n:String}{vs:Array Value}{Q:Unit->Shared->Prop}(ho:s.heap.get? it=some o)(hc:o.cls = .type n)(hd:o.data = .fields vs)
  (hn:["enumerate","zip","dict_itemiterator","dict_reverseitemiterator","odict_iterator","itertools.zip_longest","itertools.pairwise"].contains n=false) (hQ:Q () s):wpAny M A (letOwnedTupleGo tg (.ref it) u) Q E s:=by
 unfold letOwnedTupleGo
 cases tg<;>first
  | exact qcA hQ
  | (cases u<;>first
    | exact qcA hQ
    | (refine qbA (wpAny_load ho ?_)
       rw [hc,hd];show wpAny M A (if (["enumerate","zip","dict_itemiterator","dict_reverseitemiterator","odict_iterator","itertools.zip_longest","itertools.pairwise"].contains n && vs[0]? == some (rawInt _))=true then _ else _) Q E s;rw [if_neg (by intro h;rw [hn,Bool.false_and] at h;cases h)]
       exact qcA hQ))
def Itl (K:FZ9)(a:Addr):It :=
 ⟨fun i H=>∃ xs x,SqL K H a xs/\xs[i]? = some x,fun i H x H'=>H'=H/\∀ xs,SqL K H a xs->xs[i]? = some x,fun i H=>∃ xs,SqL K H a xs/\xs.length<=i⟩
def Itt (K:FZ9)(a:Addr):It :=
 ⟨fun i H=>∃ xs x,SqT K H a xs/\xs[i]? = some x,fun i H x H'=>H'=H/\∀ xs,SqT K H a xs->xs[i]? = some x,fun i H=>∃ xs,SqT K H a xs/\xs.length<=i⟩
def Itr (lo:Int)(n:Nat):It:=⟨fun i _=>i<n,fun i H x H'=>H'=H/\x = .int (lo+i),fun i _=>n<=i⟩
theorem Po {P:Program}{w:World}{K:FZ9}{tg:Expr}(a it:Addr):Turn P w K tg (Itl K a) [it] it (fun i h=>h.IsListIter it a i) where
 mem:=by simp
 obj:=fun i h st b hb=>by
  have e:b=it:=by simpa using hb
  subst e;obtain ⟨o,e,c,d⟩:=st;exact ⟨o,e,fun v z=>by rw [d] at z;cases z⟩
 keep:=fun i h h' st k=>st.at fun o e=>k it (by simp) o e
 item:=by
  intro X hP hw hK hc i pins s σ H E I hf st hg;subst hP hw hK;obtain ⟨xs,x,hq,hx⟩:=hg;obtain ⟨its,rv,p,hz⟩:=I.list hq;obtain ⟨u,hu,ru⟩:=rv.get hx;obtain ⟨f0,f1,f2,f3,f4,f5⟩:=hf it (by simp);refine wpAny_pyNext_list_item st p.isList (x:=u) (by simpa using hu) fun h' st' sb=>?_;have I1:Inv X pins σ H { s with heap:=h' }:=I.turned (t':=s.toks) (fun b o hb e=>(sb.2 b hb).trans e) f0 f1 f3 f4 f5;obtain ⟨o,e,c,d⟩:=id st';exact ⟨u,rfl,Nl (s:={ s with heap:=h' }) e c d (by decide) ⟨x,H,I1,ru,⟨rfl,fun ys hy=>by rw [I.list_inj hy hq];exact hx⟩,st',fun b hb=>(hf b hb).1⟩⟩
 done:=by
  intro X hP hw hK hc i pins s σ H E I hf st hg;subst hP hw hK;obtain ⟨xs,hq,hx⟩:=hg;obtain ⟨its,rv,p,hz⟩:=I.list hq;obtain ⟨f0,f1,f2,f3,f4,f5⟩:=hf it (by simp);have hl:=rv.length;exact wpAny_pyNext_list_end (I.ok.hd hc) st p.isList (by simp;omega) fun h' eb=>⟨rfl,I.turned (t':=s.toks) (fun b o hb e=>eb b o hb e) f0 f1 f3 f4 f5⟩
 self:=fun _ _ _ _ _ st h=>wpAny_pyIter_listiter st h
theorem Oj {P:Program}{w:World}{K:FZ9}{tg:Expr}(a it:Addr):Turn P w K tg (Itt K a) [it] it (fun i h=>h.IsTupleIter it a i) where
 mem:=by simp
 obj:=fun i h st b hb=>by
  have e:b=it:=by simpa using hb
  subst e;obtain ⟨o,e,c,d⟩:=st;exact ⟨o,e,fun v z=>by rw [d] at z;cases z⟩
 keep:=fun i h h' st k=>st.at fun o e=>k it (by simp) o e
 item:=by
  intro X hP hw hK hc i pins s σ H E I hf st hg;subst hP hw hK;obtain ⟨xs,x,hq,hx⟩:=hg;obtain ⟨its,rv,p,hz⟩:=I.tuple hq;obtain ⟨u,hu,ru⟩:=rv.get hx;obtain ⟨f0,f1,f2,f3,f4,f5⟩:=hf it (by simp);refine wpAny_pyNext_tuple_item st (show s.heap.IsTuple a its.toArray from p) (x:=u) (by simpa using hu) fun h' st' sb=>?_;have I1:Inv X pins σ H { s with heap:=h' }:=I.turned (t':=s.toks) (fun b o hb e=>(sb.2 b hb).trans e) f0 f1 f3 f4 f5;obtain ⟨o,e,c,d⟩:=id st';exact ⟨u,rfl,Nl (s:={ s with heap:=h' }) e c d (by decide) ⟨x,H,I1,ru,⟨rfl,fun ys hy=>by rw [I.tuple_inj hy hq];exact hx⟩,st',fun b hb=>(hf b hb).1⟩⟩
 done:=by
  intro X hP hw hK hc i pins s σ H E I hf st hg;subst hP hw hK;obtain ⟨xs,hq,hx⟩:=hg;obtain ⟨its,rv,p,hz⟩:=I.tuple hq;obtain ⟨f0,f1,f2,f3,f4,f5⟩:=hf it (by simp);have hl:=rv.length;exact wpAny_pyNext_tuple_end (I.ok.hd hc) st (show s.heap.IsTuple a its.toArray from p) (by simp;omega) fun h' eb=>⟨rfl,I.turned (t':=s.toks) (fun b o hb e=>eb b o hb e) f0 f1 f3 f4 f5⟩
 self:=fun _ _ _ _ _ st h=>wpAny_pyIter_tupleiter st h
theorem Ob {P:Program}{w:World}{K:FZ9}{tg:Expr}(it:Addr)(lo:Int)(n:Nat):Turn P w K tg (Itr lo n) [it] it (fun i h=>IsRangeIter h it (lo+(i:Nat) * 1) ((n:Int) - (i:Nat)) 1) where
 mem:=by simp
 obj:=fun i h st b hb=>by
  have e:b=it:=by simpa using hb
  subst e
  exact ⟨_,st,fun v z=>by
   have z':Data.fields _=Data.cell v:=z
   cases z'⟩
 keep:=fun i h h' st k=>k it (by simp) _ st
 item:=by
  intro X hP hw hK hc i pins s σ H E I hf st hg;subst hP hw hK;obtain ⟨f0,f1,f2,f3,f4,f5⟩:=hf it (by simp);have W:=Walks.range (prog:=X.prog) (w:=X.w) (I.ok.hd hc) it lo 1 n;refine W.item i s _ _ hg st fun v h' tk hv st' kk=>?_;obtain ⟨t,rfl⟩:=hv;have I1:Inv X pins σ H { s with heap:=h',toks:=tk }:=I.turned (fun b o hb e=>kk b o (by simpa using hb) e) f0 f1 f3 f4 f5;refine ⟨_,rfl,Nl (s:={ s with heap:=h',toks:=tk }) (n := "range_iterator") st' rfl rfl (by decide) ⟨.int (lo+i),H,I1,⟨t,?_⟩,⟨rfl,rfl⟩,st',fun b hb=>(hf b hb).1⟩⟩;rw [Int.mul_one]
 done:=by
  intro X hP hw hK hc i pins s σ H E I hf st hg;subst hP hw hK;obtain ⟨f0,f1,f2,f3,f4,f5⟩:=hf it (by simp);exact wpAny_pyNext_range_end (I.ok.hd hc) st (by have:n<=i:=hg;omega) fun h' eb=>⟨rfl,I.turned (t':=s.toks) (fun b o hb e=>eb b o hb e) f0 f1 f3 f4 f5⟩
 self:=fun _ _ _ _ _ st h=>wpAny_pyIter_rangeiter st h
section
variable {X:Cx}{tg:Expr}
theorem range_it {pins:List (Addr × Obj)}{σ:St}{H:Hp}{s:Shared}{R:It->Hp->Prop}{E:Value->Shared->Prop}{lo hi:Int}{t u v:Tok}{tk:Nat}(I:Inv X pins σ H s)(h1:-(2 ^ 62)<=lo)(h2:lo<2 ^ 62)(h3:-(2 ^ 62)<=hi)(h4:hi<2 ^ 62)
  (q:R (Itr lo (hi - lo).toNat) H):wpAny (model X.prog X.w) X.A (pyIter (.ref s.heap.objs.size)) (PIE X pins σ tg R) E { s with heap:=s.heap.push { cls:=.type "range",data:=.fields #[.int lo t,.int hi u,.int 1 v] },toks:=tk }:=by
 refine wpAny_pyIter_range (IsRange.new ..) (small_one h1 h2 h3 h4) ?_;have I1:Inv X pins σ H { s with heap:=s.heap.push { cls:=.type "range",data:=.fields #[.int lo t,.int hi u,.int 1 v] },toks:=tk }:=I.kept fun b o e=>qiB _ e
 refine ⟨(s.heap.push { cls:=.type "range",data:=.fields #[.int lo t,.int hi u,.int 1 v] }).objs.size,[(s.heap.push { cls:=.type "range",data:=.fields #[.int lo t,.int hi u,.int 1 v] }).objs.size],_,_,H,rfl,
  I1.kept (t':=tk) fun b o e=>qiB _ e,Ob _ lo (hi - lo).toNat,?_,fun b hb=>?_,q⟩
 ·have e1:lo+((0:Nat):Int) * 1=lo:=by simp
  have e2:(((hi - lo).toNat:Nat):Int) - ((0:Nat):Int)=Builtin.Range.rangeSize lo hi 1:=by rw [rangeSize_one];split<;>omega
  show IsRangeIter _ _ (lo+((0:Nat):Int) * 1) ((((hi - lo).toNat:Nat):Int) - ((0:Nat):Int)) 1;rw [e1,e2];exact qjB _ rfl
 ·have e:b=(s.heap.push { cls:=.type "range",data:=.fields #[.int lo t,.int hi u,.int 1 v] }).objs.size:=by simpa using hb
  subst e;exact I1.fpOk (qcB _) (I1.hok.fresh (qcB _))
def iRng1 (ta:TA):TI:=fun σ H R=>ta σ H fun vs H1=>∃ j:Int,vs=[.int j]/\-(2 ^ 62)<=j/\j<2 ^ 62/\R (Itr 0 j.toNat) H1
theorem DA {a:Expr}{ta:TA}{p pos:Pos}(hg:Gl X "range")(hm:X.mg "range" = none)(ha:PA X [a] ta)(hs:starEach [a] X.env=[(false,eval a X.env)]:=by rfl):PI X tg (.Call (.Name "range" p) [a] [] pos) (iRng1 ta):=by
 intro pins s σ H R I h;refine Call_ (KZ I hg hm boot_range (PyProof.Rows.callWith_type1 (thn (ha pos pins s σ H _ I h) fun us s1 ⟨vs,H1,I1,r1,q1⟩=>?_) hs rfl));obtain ⟨j,e,q1,q2,q⟩:=q1;subst e
 cases r1 with
 | cons r rr =>
  cases rr;obtain ⟨t,rfl⟩:=r;exact call_range_1 (range_it I1 (by omega) (by omega) q1 q2 (by simpa using q))
def tFor (wi:TI)(g:TG)(tb:TS):TS:=fun D σ H=>wi σ H fun J H1=>∃ W:Nat->Nat->St->Hp->Prop,(∃ m,W 0 m σ H1)/\∀ i m σ H,W i m σ H ->
 (J.stop i H/\D.nx σ H)\/(J.go i H/\∃ N:St->Hp->Prop,(∀ σ' H',N σ' H'->∃ m',m'<m/\W (i+1) m' σ' H')/\∀ x H',J.yld i H x H'->g x σ H' fun σ2 H2=>tb { D with nx:=N,ct:=N,bk:=D.nx } σ2 H2)
def Ij (fp:List Addr)(h:Heap):List (Addr × Obj):=fp.filterMap fun b=>(h.get? b).map fun o=>(b,o)
theorem DX {fp:List Addr}{h:Heap}{b:Addr}{o:Obj}(hb:b∈fp)(e:h.get? b=some o):(b,o)∈Ij fp h:=List.mem_filterMap.mpr ⟨b,hb,by rw [e];rfl⟩
theorem Qh {fp:List Addr}{h:Heap}{p:Addr × Obj}(hp:p∈Ij fp h):p.1∈fp/\h.get? p.1=some p.2:=by
 obtain ⟨b,hb,e⟩:=List.mem_filterMap.mp hp
 cases q:h.get? b with
 | none=>rw [q] at e;cases e
 | some o =>
  rw [q] at e;have e':(b,o)=p:=qgB e;subst e';exact ⟨hb,q⟩
theorem Inv.pinned {pins:List (Addr × Obj)}{σ:St}{H:Hp}{s:Shared}{fp:List Addr}(I:Inv X pins σ H s)(hf:∀ b∈fp,Hg X pins H b)(ho:∀ b∈fp,∃ o,s.heap.get? b=some o/\∀ v,o.data ≠ .cell v):Inv X (pins++Ij fp s.heap) σ H s :=
 I.pins_of fun p hp=>(qkA.mp hp).elim (fun z=>I.pin p (qaC _ z)) fun z=>by
  obtain ⟨hb,e⟩:=Qh z;obtain ⟨f0,f1,f2,_⟩:=hf p.1 hb;obtain ⟨o,e',d⟩:=ho p.1 hb;rw [e] at e';cases e';exact ⟨e,f0,f1,f2,d⟩
theorem Inv.unpinned {pins pl:List (Addr × Obj)}{σ:St}{H:Hp}{s:Shared}(I:Inv X (pins++pl) σ H s):Inv X pins σ H s:=I.pins_of fun p hp=>I.pin p (qaC _ (List.mem_append_left _ hp))
theorem DV {iter:Expr}{body:List Stmt}{wi:TI}{g:TG}{tb:TS}{pos:Pos}(hp:PassesOwn (model X.prog X.w) X.A X.env X.xe)(hc:X.calm=true)(hi:PI X tg iter wi)(hg:PG X tg g)(hb:PSs X body tb)
  (hs:∀ x,foldedSetIterable iter X.env x=pure x:=by intro _;rfl):PS X (.For tg iter body [] pos) (tFor wi g tb):=by
 intro pins s σ H D I h;refine wpAny_For (thn (hi pins s σ H _ I h) fun v s1 h1=>thn h1 fun itv s2 h2=>?_) hs;obtain ⟨it,fp,tn,J,H2,e,I2,T,st2,f2,W,⟨m0,w0⟩,turn⟩:=h2;subst e;have stat:∀ {H':Hp},(∀ b∈fp,H' b=none)->∀ b∈fp,Hg X pins H' b:=fun hn b hb=>⟨hn b hb,(f2 b hb).2⟩;refine codeAny_forLoop_any (fun n s'=>∃ i σ' H',Inv X pins σ' H' s'/\tn i s'.heap/\(∀ b∈fp,H' b=none)/\W i n σ' H') ?_ m0 ⟨0,σ,H2,I2,st2,fun b hb=>(f2 b hb).1,w0⟩;rintro n s3 ⟨i,σ3,H3,I3,st3,fr3,w3⟩;rcases turn i n σ3 H3 w3 with ⟨stop,qn⟩ | ⟨go,N,hN,step⟩
 ·refine wpAny_passesOwn hp (thn (T.done X rfl rfl rfl hc i pins s3 σ3 H3 X.xe I3 (stat fr3) st3 stop) fun r s4 ⟨hr,I4⟩=>?_);subst hr;exact wpAny_execs_nil ⟨σ3,H3,I4,qn⟩
 ·refine wpAny_passesOwn hp (thn (T.item X rfl rfl rfl hc i pins s3 σ3 H3 X.xe I3 (stat fr3) st3 go) fun r s4 ⟨u,hr,h4⟩=>?_);subst hr;refine wpAny_passesOwn hp (thn h4 fun _ s5 ⟨x,H5,I5,r5,y5,st5,fr5⟩=>?_);have I5':=I5.pinned (stat fr5) (T.obj _ _ st5);refine wpAny_passesOwn hp (thn (hg _ s5 σ3 H5 x u _ I5' r5 (step x H5 y5)) fun _ s6 ⟨σ6,H6,I6,q6⟩=>?_);refine wpAny_passesOwn hp (thn (hb _ s6 σ6 H6 _ I6 q6) fun f s7 q7=>?_)
  have again:∀ {σ7:St}{H7:Hp},Inv X (pins++Ij fp s5.heap) σ7 H7 s7->N σ7 H7->∃ m,m<n/\∃ i σ' H',Inv X pins σ' H' s7/\tn i s7.heap/\(∀ b∈fp,H' b=none)/\W i m σ' H':=fun {σ7 H7} I7 n7=>by
   obtain ⟨m',hm,w7⟩:=hN σ7 H7 n7;refine ⟨m',hm,i+1,σ7,H7,I7.unpinned,T.keep _ _ _ st5 fun b hb o e=>(I7.pin (b,o) (qaC _ (qaC _ (DX hb e)))).1,fun b hb=>?_,w7⟩;obtain ⟨o,e,d⟩:=T.obj _ _ st5 b hb;exact (I7.pin (b,o) (qaC _ (qaC _ (DX hb e)))).2.1
  cases f with
  | next=>obtain ⟨σ7,H7,I7,n7⟩:=q7;exact again I7 n7
  | cont=>obtain ⟨σ7,H7,I7,n7⟩:=q7;exact again I7 n7
  | brk=>obtain ⟨σ7,H7,I7,q7⟩:=q7;exact ⟨σ7,H7,I7.unpinned,q7⟩
  | ret v=>obtain ⟨x7,σ7,H7,I7,r7,q7⟩:=q7;exact ⟨x7,σ7,H7,I7.unpinned,r7,q7⟩
end
abbrev R2:=V->V->Hp->VK->Prop
def OpR (X:Cx)(f:Value->Value->Sem Value)(r:R2):Prop :=
 ∀ (pins:List (Addr × Obj)) (s:Shared) (σ:St) (H:Hp) (x y:V) (v u:Value) (Q:VK),Inv X pins σ H s->RelV x v->RelV y u->r x y H Q ->
  wpAny (model X.prog X.w) X.A (f v u) (EP X pins σ Q) X.xe s
def UnR (X:Cx)(f:Value->Sem Value)(r:V->Hp->VK->Prop):Prop :=
 ∀ (pins:List (Addr × Obj)) (s:Shared) (σ:St) (H:Hp) (x:V) (v:Value) (Q:VK),Inv X pins σ H s->RelV x v->r x H Q ->
  wpAny (model X.prog X.w) X.A (f v) (EP X pins σ Q) X.xe s
def Cc (X:Cx)(f:Value)(r:List V->Hp->VK->Prop):Prop :=
 ∀ (pins:List (Addr × Obj)) (s:Shared) (σ:St) (H:Hp) (xs:List V) (us:List Value) (Q:VK),Inv X pins σ H s->Vals xs us->r xs H Q ->
  wpAny (model X.prog X.w) X.A (call f us) (EP X pins σ Q) X.xe s
def TruR (X:Cx)(r:V->Hp->(Bool->Hp->Prop)->Prop):Prop :=
 ∀ (pins:List (Addr × Obj)) (s:Shared) (σ:St) (H:Hp) (x:V) (v:Value) (Q:Bool->Hp->Prop),Inv X pins σ H s->RelV x v->r x H Q ->
  wpAny (model X.prog X.w) X.A (truthy v) (TP X pins σ Q) X.xe s
abbrev tOp (r:R2)(ta tb:TE):TE:=fun σ H Q=>ta σ H fun x H1=>tb σ H1 fun y H2=>r x y H2 Q
abbrev tUn (r:V->Hp->VK->Prop)(ta:TE):TE:=fun σ H Q=>ta σ H fun x H1=>r x H1 Q
def rI (C:Int->Int->Prop)(g:Int->Int->V):R2:=fun x y H Q=>∃ i j,x = .int i/\y = .int j/\C i j/\Q (g i j) H
def rI0 (g:Int->Int->V):R2:=fun x y H Q=>∃ i j,x = .int i/\y = .int j/\Q (g i j) H
def rU (g:Int->V):V->Hp->VK->Prop:=fun x H Q=>∃ i,x = .int i/\Q (g i) H
section
variable {X:Cx}{a b c:Expr}{ta tb tc:TE}{pos:Pos}
theorem binT (ha:PE X a ta)(hb:PE X b tb){pins:List (Addr × Obj)}{s:Shared}{σ:St}{H:Hp}{R:V->V->Hp->Prop}(I:Inv X pins σ H s)
  (h:ta σ H fun x H1=>tb σ H1 fun y H2=>R x y H2) {Q:Value->Shared->Prop}{f:Value->Value->Sem Value}
  (hf:∀ v u s2 x y H2,Inv X pins σ H2 s2->RelV x v->RelV y u->R x y H2->wpAny (model X.prog X.w) X.A (f v u) Q X.xe s2) :
  wpAny (model X.prog X.w) X.A (eval a X.env) (fun v s₁=>wpAny (model X.prog X.w) X.A (eval b X.env) (fun u s₂=>wpAny (model X.prog X.w) X.A (f v u) Q X.xe s₂) X.xe s₁) X.xe s:=by
 refine thn (ha pins s σ H _ I h) fun v s1 ⟨x,H1,I1,r1,q1⟩=>?_;refine thn (hb pins s1 σ H1 _ I1 q1) fun u s2 ⟨y,H2,I2,r2,q2⟩=>?_;exact hf v u s2 x y H2 I2 r1 r2 q2
theorem An {op:Operator}{r:R2}(ho:OpR X (binaryOp op) r)(ha:PE X a ta)(hb:PE X b tb):PE X (.BinOp a op b pos) (tOp r ta tb):=by
 intro pins s σ H Q I h;exact wpAny_BinOp (binT ha hb I h fun v u s2 x y H2 I2 rx ry q=>ho pins s2 σ H2 x y v u Q I2 rx ry q)
theorem pe_un {op:UnaryOp}{r:V->Hp->VK->Prop}(ho:UnR X (unaryOp op) r)(ha:PE X a ta):PE X (.UnaryOp op a pos) (tUn r ta):=by
 intro pins s σ H Q I h;exact UnaryOp_ (thn (ha pins s σ H _ I h) fun v s1 ⟨x,H1,I1,r1,q1⟩=>ho pins s1 σ H1 x v Q I1 r1 q1)
theorem opI {f:Value->Value->Sem Value}{C:Int->Int->Prop}{g:Int->Int->Int}
  (rule:∀ (i j:Int) (t u:Tok) (s:Shared) (Q:Value->Shared->Prop) (E:Value->Shared->Prop),C i j->Q (.int (g i j) s.toks) { s with toks:=s.toks+1 }->wpAny (model X.prog X.w) X.A (f (.int i t) (.int j u)) Q E s) :
  OpR X f (rI C fun i j=>.int (g i j)):=by
 intro pins s σ H x y v u Q I rx ry h;obtain ⟨i,j,rfl,rfl,hc,q⟩:=h;obtain ⟨t,rfl⟩:=rx;obtain ⟨t',rfl⟩:=ry;exact rule i j t t' s _ _ hc ⟨.int (g i j),H,I.tok _,⟨_,rfl⟩,q⟩
theorem opI0 {f:Value->Value->Sem Value}{g:Int->Int->Int}
  (rule:∀ (i j:Int) (t u:Tok) (s:Shared) (Q:Value->Shared->Prop) (E:Value->Shared->Prop),Q (.int (g i j) s.toks) { s with toks:=s.toks+1 }->wpAny (model X.prog X.w) X.A (f (.int i t) (.int j u)) Q E s) :
  OpR X f (rI0 fun i j=>.int (g i j)):=by
 intro pins s σ H x y v u Q I rx ry h;obtain ⟨i,j,rfl,rfl,q⟩:=h;obtain ⟨t,rfl⟩:=rx;obtain ⟨t',rfl⟩:=ry;exact rule i j t t' s _ _ ⟨.int (g i j),H,I.tok _,⟨_,rfl⟩,q⟩
theorem opB0 {f:Value->Value->Sem Value}{g:Int->Int->Bool}
  (rule:∀ (i j:Int) (t u:Tok) (s:Shared) (Q:Value->Shared->Prop) (E:Value->Shared->Prop),Q (.bool (g i j)) s->wpAny (model X.prog X.w) X.A (f (.int i t) (.int j u)) Q E s) :
  OpR X f (rI0 fun i j=>.bl (g i j)):=by
 intro pins s σ H x y v u Q I rx ry h;obtain ⟨i,j,rfl,rfl,q⟩:=h;obtain ⟨t,rfl⟩:=rx;obtain ⟨t',rfl⟩:=ry;exact rule i j t t' s _ _ ⟨.bl (g i j),H,I,rfl,q⟩
def OX (i j:Int):Prop:=0<j/\j<1073741824
def CMul (i j:Int):Prop:=(-(2 ^ 64)<i/\i<2 ^ 64)\/(-(2 ^ 64)<j/\j<2 ^ 64)
theorem CMul.ok {i j:Int}(h:CMul i j):IntMulOk i j:=by
 rcases h with ⟨h1,h2⟩ | ⟨h1,h2⟩
 ·exact .of_left (intBits_le_64 h1 h2)
 ·exact .of_right (intBits_le_64 h1 h2)
theorem op_add:OpR X (binaryOp .Add) (rI0 fun i j=>.int (i+j)):=opI0 fun _ _ _ _ _ _ _ q=>add_int q
theorem op_mul:OpR X (binaryOp .Mult) (rI CMul fun i j=>.int (i * j)):=opI fun _ _ _ _ _ _ _ hc q=>mul_int q hc.ok
theorem CY:OpR X (binaryOp .FloorDiv) (rI OX fun i j=>.int (i / j)):=opI fun i j _ _ _ _ _ hc q=>by
 have h1:(0:Int)<j:=hc.1;have h2:j<1073741824:=hc.2;exact floordiv_int (by omega) (by rw [Int.fdiv_eq_ediv_of_nonneg i (by omega)];exact q) (.inl (PyProof.noPylong_small (by omega)))
theorem B4:OpR X (binaryOp .Mod) (rI (fun _ j=>0<j) fun i j=>.int (i % j)):=opI fun i j _ _ _ _ _ hc q=>by
 have h1:(0:Int)<j:=hc;exact mod_int' (by omega) (by rw [Int.fmod_eq_emod_of_nonneg i (by omega)];exact q)
theorem unI {f:Value->Sem Value}{g:Int->Int}
  (rule:∀ (i:Int) (t:Tok) (s:Shared) (Q:Value->Shared->Prop) (E:Value->Shared->Prop),Q (.int (g i) s.toks) { s with toks:=s.toks+1 }->wpAny (model X.prog X.w) X.A (f (.int i t)) Q E s) :
  UnR X f (rU fun i=>.int (g i)):=by
 intro pins s σ H x v Q I rx h;obtain ⟨i,rfl,q⟩:=h;obtain ⟨t,rfl⟩:=rx;exact rule i t s _ _ ⟨.int (g i),H,I.tok _,⟨_,rfl⟩,q⟩
theorem un_neg:UnR X (unaryOp .USub) (rU fun i=>.int (-i)):=unI fun _ _ _ _ _ q=>neg_int q
end
def scal:V->V->Bool
 | .non,.non=>true | .non,.int _=>true | .int _,.non=>true | .non,.bl _=>true | .bl _,.non=>true | .non,.str _=>true | .str _,.non=>true
 | .int _,.int _=>true | .bl _,.bl _=>true | .str _,.str _=>true | .byt _,.byt _=>true
 | .int _,.str _=>true | .str _,.int _=>true | .bl _,.str _=>true | .str _,.bl _=>true
 | _,_=>false
def rEq:R2:=fun x y H Q=>scal x y=true/\Q (.bl (decide (x=y))) H
def rNe:R2:=fun x y H Q=>scal x y=true/\Q (.bl (!decide (x=y))) H
theorem Pe {i j:Int}:decide (V.int i=V.int j)=(i == j):=by
 rw [Bool.eq_iff_iff];simp
theorem dec_bl {i j:Bool}:decide (V.bl i=V.bl j)=(i == j):=by
 rw [Bool.eq_iff_iff];simp
theorem P8 {i j:Str}:decide (V.str i=V.str j)=(i == j):=by
 rw [Bool.eq_iff_iff];simp
theorem PZ {i j:Array UInt8}:decide (V.byt i=V.byt j)=(i.toList == j.toList):=by
 rw [Bool.eq_iff_iff];cases i;cases j;simp
section
variable {X:Cx}{a b c:Expr}{ta tb tc:TE}{pos:Pos}
theorem B9 {pins:List (Addr × Obj)}{σ:St}{H:Hp}{s:Shared}{Q:VK}{k k':Bool}(I:Inv X pins σ H s)(q:Q (.bl k) H)(e:k=k'):EP X pins σ Q (.bool k') s:=by
 subst e;exact ⟨.bl k,H,I,rfl,q⟩
theorem BQ:OpR X (compareOp .Eq) rEq:=by
 intro pins s σ H x y v u Q I rx ry h;obtain ⟨hs,q⟩:=h
 cases x with
 | non =>
  cases rx
  cases y with
  | non=>cases ry;exact PySem.EqNone.eq_none_none (B9 I q (by simp))
  | bl j=>cases ry;exact PySem.EqNone.eq_none_bool (B9 I q (by simp))
  | int j=>obtain ⟨t',rfl⟩:=ry;exact PySem.EqNone.eq_none_int (B9 I q (by simp))
  | str j=>obtain ⟨t',rfl⟩:=ry;exact PySem.EqNone.eq_none_str (B9 I q (by simp))
  | _=>exact absurd (show false=true from hs) qqB
 | bl i =>
  cases rx
  cases y with
  | non=>cases ry;exact PySem.EqNone.eq_bool_none (B9 I q (by simp))
  | bl j=>cases ry;exact eq_bool (B9 I q dec_bl)
  | str j=>obtain ⟨t',rfl⟩:=ry;exact PySem.EqMixed.eq_bool_str (B9 I q (by simp))
  | _=>exact absurd (show false=true from hs) qqB
 | int i =>
  obtain ⟨t,rfl⟩:=rx
  cases y with
  | non=>cases ry;exact PySem.EqNone.eq_int_none (B9 I q (by simp))
  | int j=>obtain ⟨t',rfl⟩:=ry;exact eq_int (B9 I q Pe)
  | str j=>obtain ⟨t',rfl⟩:=ry;exact PySem.EqMixed.eq_int_str (B9 I q (by simp))
  | _=>exact absurd (show false=true from hs) qqB
 | str i =>
  obtain ⟨t,rfl⟩:=rx
  cases y with
  | non=>cases ry;exact PySem.EqNone.eq_str_none (B9 I q (by simp))
  | bl j=>cases ry;exact PySem.EqMixed.eq_str_bool (B9 I q (by simp))
  | int j=>obtain ⟨t',rfl⟩:=ry;exact PySem.EqMixed.eq_str_int (B9 I q (by simp))
  | str j=>obtain ⟨t',rfl⟩:=ry;exact eq_str (B9 I q P8)
  | _=>exact absurd (show false=true from hs) qqB
 | byt i =>
  obtain ⟨t,rfl⟩:=rx
  cases y with
  | byt j=>obtain ⟨t',rfl⟩:=ry;exact PySem.W.eq_bytes (B9 I q PZ)
  | _=>exact absurd (show false=true from hs) qqB
 | _=>cases y<;>exact absurd (show false=true from hs) qqB
theorem Ls:OpR X (compareOp .NotEq) rNe:=by
 intro pins s σ H x y v u Q I rx ry h;obtain ⟨hs,q⟩:=h
 cases x with
 | non =>
  cases rx
  cases y with
  | non=>cases ry;exact PySem.EqNone.ne_none_none (B9 I q (by simp))
  | bl j=>cases ry;exact PySem.EqNone.ne_none_bool (B9 I q (by simp))
  | int j=>obtain ⟨t',rfl⟩:=ry;exact PySem.EqNone.ne_none_int (B9 I q (by simp))
  | str j=>obtain ⟨t',rfl⟩:=ry;exact PySem.EqNone.ne_none_str (B9 I q (by simp))
  | _=>exact absurd (show false=true from hs) qqB
 | bl i =>
  cases rx
  cases y with
  | non=>cases ry;exact PySem.EqNone.ne_bool_none (B9 I q (by simp))
  | bl j=>cases ry;exact ne_bool (B9 I q (congrArg not dec_bl))
  | str j=>obtain ⟨t',rfl⟩:=ry;exact PySem.EqMixed.ne_bool_str (B9 I q (by simp))
  | _=>exact absurd (show false=true from hs) qqB
 | int i =>
  obtain ⟨t,rfl⟩:=rx
  cases y with
  | non=>cases ry;exact PySem.EqNone.ne_int_none (B9 I q (by simp))
  | int j=>obtain ⟨t',rfl⟩:=ry;exact ne_int (B9 I q (congrArg not Pe))
  | str j=>obtain ⟨t',rfl⟩:=ry;exact PySem.EqMixed.ne_int_str (B9 I q (by simp))
  | _=>exact absurd (show false=true from hs) qqB
 | str i =>
  obtain ⟨t,rfl⟩:=rx
  cases y with
  | non=>cases ry;exact PySem.EqNone.ne_str_none (B9 I q (by simp))
  | bl j=>cases ry;exact PySem.EqMixed.ne_str_bool (B9 I q (by simp))
  | int j=>obtain ⟨t',rfl⟩:=ry;exact PySem.EqMixed.ne_str_int (B9 I q (by simp))
  | str j=>obtain ⟨t',rfl⟩:=ry;exact ne_str (B9 I q (congrArg not P8))
  | _=>exact absurd (show false=true from hs) qqB
 | byt i =>
  obtain ⟨t,rfl⟩:=rx
  cases y with
  | byt j=>obtain ⟨t',rfl⟩:=ry;exact PySem.W.ne_bytes (B9 I q (congrArg not PZ))
  | _=>exact absurd (show false=true from hs) qqB
 | _=>cases y<;>exact absurd (show false=true from hs) qqB
theorem op_lt:OpR X (compareOp .Lt) (rI0 fun i j=>.bl (decide (i<j))):=opB0 fun _ _ _ _ _ _ _ q=>lt_int q
theorem op_le:OpR X (compareOp .LtE) (rI0 fun i j=>.bl (decide (i<=j))):=opB0 fun _ _ _ _ _ _ _ q=>le_int q
theorem op_gt:OpR X (compareOp .Gt) (rI0 fun i j=>.bl (decide (j<i))):=opB0 fun _ _ _ _ _ _ _ q=>gt_int q
theorem Ld:OpR X (compareOp .In) (fun x y H Q=>∃ i j,x = .str i/\y = .str j/\Q (.bl (!(Builtin.Str.occurrences j i 0 j.length 1).isEmpty)) H):=by
 intro pins s σ H x y v u Q I rx ry h;obtain ⟨i,j,rfl,rfl,q⟩:=h;obtain ⟨t,rfl⟩:=rx;obtain ⟨t',rfl⟩:=ry;exact in_str (B9 I q rfl)
theorem op_isN:OpR X (compareOp .Is) (fun x y H Q=>y = .non/\Q (.bl (decide (x = .non))) H):=by
 intro pins s σ H x y v u Q I rx ry h;obtain ⟨rfl,q⟩:=h;cases ry;refine is_none_gen (B9 I q ?_)
 cases x<;>first
  | (cases rx;rfl)
  | (obtain ⟨t,rfl⟩:=rx;rfl)
theorem Mb:OpR X (compareOp .NotIn) (fun x y H Q=>∃ i j,x = .str i/\y = .str j/\Q (.bl (!(!(Builtin.Str.occurrences j i 0 j.length 1).isEmpty))) H):=by
 intro pins s σ H x y v u Q I rx ry h;obtain ⟨i,j,rfl,rfl,q⟩:=h;obtain ⟨t,rfl⟩:=rx;obtain ⟨t',rfl⟩:=ry;exact notIn_str (B9 I q rfl)
theorem AT (b:Expr){op:CmpOp}(h:op ≠ .In:=by decide)(h2:op ≠ .NotIn:=by decide):behindInMarks op b=false:=by
 have e1:(op == CmpOp.In)=false:=by cases op<;>first|rfl|exact absurd rfl h
 have e2:(op == CmpOp.NotIn)=false:=by cases op<;>first|rfl|exact absurd rfl h2
 cases b<;>simp [behindInMarks,e1,e2]
theorem Gh {op:CmpOp}{r:R2}(ho:OpR X (compareOp op) r)(ha:PE X a ta)(hb:PE X b tb)(hm:behindInMarks op b=false):PE X (.Compare a [op] [b] pos) (tOp r ta tb):=by
 intro pins s σ H Q I h;exact wpAny_Compare1 (binT ha hb I h fun v u s2 x y H2 I2 rx ry q=>ho pins s2 σ H2 x y v u Q I2 rx ry q) hm
abbrev tTest (t:TE):TT:=fun σ H Q=>t σ H fun x H'=>∃ k,x = .bl k/\Q k H'
theorem AJ {op:CmpOp}{r:R2}(ho:OpR X (compareOp op) r)(ha:PE X a ta)(hb:PE X b tb)(hm:behindInMarks op b=false):PT X (.Compare a [op] [b] pos) (tTest (tOp r ta tb)):=by
 intro pins s σ H Q I h
 refine wpAny_isTrue_Compare1 (thn (ha pins s σ H _ I h) fun v s1 ⟨x,H1,I1,r1,q1⟩=>thn (hb pins s1 σ H1 _ I1 q1) fun u s2 ⟨y,H2,I2,r2,q2⟩ =>
  thn (ho pins s2 σ H2 x y v u _ I2 r1 r2 q2) fun c s3 ⟨z,H3,I3,r3,k,e,q3⟩=>?_) hm
 subst e;cases r3;exact wpAny_truthy_bool ⟨H3,I3,q3⟩
def tChain (r r':R2)(ta tb tc:TE):TE:=fun σ H Q=>ta σ H fun x H1=>tb σ H1 fun y H2=>r x y H2 fun z H3=>∃ k,z = .bl k /\
 (if k=true then tc σ H3 fun w' H4=>r' y w' H4 Q else Q (.bl false) H3)
theorem pe_chain {op op':CmpOp}{r r':R2}(ho:OpR X (compareOp op) r)(ho':OpR X (compareOp op') r')(ha:PE X a ta)(hb:PE X b tb)(hc:PE X c tc)
  (hm:lastMarks [op,op'] [b,c]=false:=by with_unfolding_all rfl):PE X (.Compare a [op,op'] [b,c] pos) (tChain r r' ta tb tc):=by
 intro pins s σ H Q I h
 refine Compare_chain (thn (ha pins s σ H _ I h) fun v s1 ⟨x,H1,I1,r1,q1⟩=>chain_link (thn (hb pins s1 σ H1 _ I1 q1) fun u s2 ⟨y,H2,I2,r2,q2⟩ =>
  thn (ho pins s2 σ H2 x y v u _ I2 r1 r2 q2) fun d s3 ⟨z,H3,I3,r3,k,e,q3⟩=>?_)) hm
 subst e;cases r3;refine wpAny_truthy_bool ?_
 cases k with
 | false=>exact ite_ff ⟨.bl false,H3,I3,rfl,q3⟩
 | true=>exact ite_tt (chain_last (thn (hc pins s3 σ H3 _ I3 q3) fun w' s4 ⟨z',H4,I4,r4,q4⟩=>ho' pins s4 σ H4 y z' u w' Q I4 r2 r4 q4))
def TruV (K:FZ9)(x:V)(H:Hp)(k:Bool):Prop :=
 match x with
 | .non=>k=false
 | .bl b=>k=b
 | .int i=>k=(i != 0)
 | .str y=>y.length<=sizeLine/\k=((y.length:Int) != 0)
 | .byt y=>y.size<=sizeLine/\k=((y.size:Int) != 0)
 | .ref p=>(∃ xs,SqL K H p xs/\k = !xs.isEmpty)\/(∃ xs,SqT K H p xs/\k = !xs.isEmpty)\/∃ kvs,H p=some (.dK kvs)/\k = !kvs.isEmpty
 | _=>False
theorem OA {κ:Type}{kvs:List (κ × V)}{vs:List (κ × Value)}(r:KV kvs vs):(!vs.isEmpty) = !kvs.isEmpty:=by
 cases r<;>rfl
theorem KO {xs:List V}{its:List Value}(r:Vals xs its):(!its.toArray.isEmpty) = !xs.isEmpty:=by
 cases r<;>simp
theorem J7:(sizeLine:Nat)<2 ^ 63:=by rw [qkB];decide
theorem tru_ok:TruR X (fun x H Q=>∃ k,TruV X.K x H k/\Q k H):=by
 intro pins s σ H x v Q I rx h;obtain ⟨k,e,q⟩:=h;have hl:=J7;have hs:sizeLine=16777216:=qkB
 cases x with
 | non =>
  cases rx;have e':k=false:=e;subst e';exact truthy_none ⟨H,I,q⟩
 | bl b =>
  cases rx;have e':k=b:=e;subst e';exact wpAny_truthy_bool ⟨H,I,q⟩
 | int i =>
  obtain ⟨t,rfl⟩:=rx;have e':k=(i != 0):=e;subst e';exact PySem.P.truthy_int ⟨H,I,q⟩
 | str y =>
  obtain ⟨t,rfl⟩:=rx;obtain ⟨hy,e'⟩:y.length<=sizeLine/\k=((y.length:Int) != 0):=e;subst e';exact PySem.P.truthy_str (by omega) ⟨H,I.tok _,q⟩
 | byt y =>
  obtain ⟨t,rfl⟩:=rx;obtain ⟨hy,e'⟩:y.size<=sizeLine/\k=((y.size:Int) != 0):=e;subst e';exact PySem.W.truthy_bytes (by omega) ⟨H,I.tok _,q⟩
 | ref p =>
  cases rx;have e':(∃ xs,SqL X.K H p xs/\k = !xs.isEmpty)\/(∃ xs,SqT X.K H p xs/\k = !xs.isEmpty)\/∃ kvs,H p=some (.dK kvs)/\k = !kvs.isEmpty:=e;rcases e' with ⟨xs,hx,e'⟩ | ⟨xs,hx,e'⟩ | ⟨kvs,hx,e'⟩
  ·subst e';obtain ⟨its,r,pl,hz⟩:=I.list hx;have hlen:=r.length;exact wpAny_truthy_list pl.isList (by simp only [qrB];omega) ⟨H,I.tok _,by rw [KO r];exact q⟩
  ·subst e';obtain ⟨its,r,pl,hz⟩:=I.tuple hx;have hlen:=r.length;exact truthy_tuple pl (by simp only [qrB];omega) ⟨H,I.tok _,by rw [KO r];exact q⟩
  ·subst e';obtain ⟨hz,hS,vs,r,m⟩:kvs.length<=sizeLine/\(p == sysModules)=false/\∃ vs,KV kvs vs/\s.heap.DictOf (Bh X.prog X.w) p vs:=I.hok p _ hx;have hlen:kvs.length=vs.length:=Paired.length r;exact wpAny_truthy_dict hS m (by omega) ⟨H,I.tok _,by rw [OA r];exact q⟩
 | _=>exact (show False from e).elim
theorem pt_truth (ha:PE X a ta)(he:∀ whole,isTrue a X.env whole=(do let v <- whole;standAt a.pos;holding [v] (truthy v))) :
  PT X a (fun σ H Q=>ta σ H fun x H'=>∃ k,TruV X.K x H' k/\Q k H'):=by
 intro pins s σ H Q I h;exact isTrue_plain (thn (ha pins s σ H _ I h) fun v s1 ⟨x,H1,I1,r1,q1⟩=>tru_ok pins s1 σ H1 x v Q I1 r1 q1) (he _)
theorem O3:OpR X (binaryOp .Add) (fun x y H Q=>∃ i j,x = .str i/\y = .str j/\i.length+j.length<=sizeLine/\Q (.str (i++j)) H):=by
 intro pins s σ H x y v u Q I rx ry h;obtain ⟨i,j,rfl,rfl,hz,q⟩:=h;obtain ⟨t,rfl⟩:=rx;obtain ⟨t',rfl⟩:=ry;exact add_str (fun t' tk=>⟨.str (i++j),H,I.tok _,⟨_,rfl⟩,q⟩) hz
theorem Dh {x:V}{us:List Value}(r:Vals [x] us):∃ u,us=[u]/\RelV x u:=by
 cases r with
 | cons r1 r2=>cases r2;exact ⟨_,rfl,r1⟩
theorem Om {x y:V}{us:List Value}(r:Vals [x,y] us):∃ u w',us=[u,w']/\RelV x u/\RelV y w':=by
 cases r with
 | cons r1 r2 =>
  cases r2 with
  | cons r3 r4=>cases r4;exact ⟨_,_,rfl,r1,r3⟩
theorem Qf (hc:X.calm=true):Cc X (.builtin "min") (fun xs H Q=>∃ i j,xs=[.int i,.int j]/\Q (.int (if j<i then j else i)) H):=by
 intro pins s σ H xs us Q I r h;obtain ⟨i,j,rfl,q⟩:=h;obtain ⟨u,w',rfl,⟨t,rfl⟩,⟨t',rfl⟩⟩:=Om r;refine min_two_ints (I.ok.hd hc) fun h' tk k=>⟨_,H,I.kept k,?_,q⟩;by_cases hj:j<i
 ·rw [if_pos hj,if_pos hj];exact ⟨_,rfl⟩
 ·rw [if_neg hj,if_neg hj];exact ⟨_,rfl⟩
end
structure Room (k:Nat)(A:Around):Prop where
 hd:A.handled=none
 dp:A.depth+3 * k+5<recursionLimit
 un:A.units+16 * k+200<cLine
theorem Room.mono {j k:Nat}{A:Around}(r:Room k A)(h:j<=k):Room j A:=⟨r.hd,by have:=r.dp;omega,by have:=r.un;omega⟩
theorem Room.deeper {k:Nat}{A:Around}(r:Room (k+1) A)(env:Env):Room k (A.deeper env) :=
 ⟨r.hd,by have:=r.dp;show A.depth+1+3 * k+5<_;omega,by have:=r.un;show A.units+3+16 * k+200<_;omega⟩
theorem Room.depth {k:Nat}{A:Around}(r:Room k A):A.depth<recursionLimit:=by have:=r.dp;omega
theorem Room.units {k:Nat}{A:Around}(r:Room k A):A.units+64<cLine:=by have:=r.un;omega
abbrev Bm:TA:=fun _ H Q=>Q [] H
abbrev Am (ta:TE)(tr:TA):TA:=fun σ H Q=>ta σ H fun x H1=>tr σ H1 fun xs H2=>Q (x::xs) H2
section
variable {X:Cx}{e:Expr}{es:List Expr}{te:TE}{t:TA}{pos:Pos}
theorem A5:PA X [] Bm:=fun _ _ _ _ H Q I h=>Calls.spliced_nil ⟨[],H,I,.nil,h⟩
theorem A2 (ha:PE X e te)(hr:PA X es t)(hs:starEach (e::es) X.env=(false,eval e X.env)::starEach es X.env:=by rfl):PA X (e::es) (Am te t):=by
 intro pos pins s σ H Q I h;rw [hs];show wpAny _ _ (spliced ((false,eval e X.env)::backTo pos (starEach es X.env))) _ _ s;refine Calls.spliced_cons (thn (ha pins s σ H _ I h) fun u s1 ⟨x,H1,I1,r1,q1⟩=>?_);exact thn (hr pos pins s1 σ H1 _ I1 q1) fun us s2 ⟨xs,H2,I2,r2,q2⟩=>⟨x::xs,H2,I2,.cons r1 r2,q2⟩
abbrev tTup (t:TA):TE:=fun σ H Q=>t σ H fun xs H1=>xs.length<=sizeLine/\∀ p,H1 p=none->Q (.ref p) (upd H1 p (.tup xs))
abbrev QF (t:TA):TE:=fun σ H Q=>t σ H fun xs H1=>xs.length<=sizeLine/\∀ p,H1 p=none->Q (.ref p) (upd H1 p (.lst xs))
theorem Ix {x1}(h:PA X es t):PE X (.Tuple es x1 pos) (tTup t):=by
 intro pins s σ H Q I hq;refine wpAny_Tuple_spliced (thn (h pos pins s σ H _ I hq) fun us s1 ⟨xs,H1,I1,r,z,q⟩=>⟨by rw [<- r.length];exact z,?_⟩);have hf:H1 s1.heap.objs.size=none:=I1.hok.fresh (qcB _);refine ⟨.ref s1.heap.objs.size,upd H1 s1.heap.objs.size (.tup xs),I1.laid (t':=s1.toks) (fun b u e=>qiB _ e) (qcB _) ?_,rfl,q _ hf⟩;exact ⟨z,us,r,⟨_,qjB _ rfl,rfl,_,rfl⟩⟩
theorem BU (h:PA X es t):PE X (.List es pos) (QF t):=by
 intro pins s σ H Q I hq;refine wpAny_List_spliced (thn (h pos pins s σ H _ I hq) fun us s1 ⟨xs,H1,I1,r,z,q⟩=>⟨by rw [<- r.length];exact z,?_⟩);have hf:H1 s1.heap.objs.size=none:=I1.hok.fresh (qcB _);refine ⟨.ref s1.heap.objs.size,upd H1 s1.heap.objs.size (.lst xs),I1.laid (t':=s1.toks) (fun b u e=>qiB _ e) (qcB _) ?_,rfl,q _ hf⟩;exact ⟨z,us,0,r,qjB _ rfl⟩
end
abbrev Sp:=List V->Hp->VK->XK->Prop
abbrev CXT:=List Env->Hp->Shared->XK->Value->Shared->Prop
structure Env0 (P:Program)(w:World)(K:FZ9)(mg:Str->Option Value)(base:Heap)(A:Around)(outer:List Env)(s:Shared)(H:Hp):Prop where
 frames:A.frames=some outer
 mod:Mod K mg base
 bs:∀ b o,base.get? b=some o->s.heap.get? b=some o/\H b=none
 bsz:base.objs.size<=s.heap.objs.size
 funs:s.heap.FunFrames base outer
 frf:∀ b∈frs outer,H b=none
 hok:HOk P w H s.heap
 bare:AllBare s.gens
def CE (outer:List Env)(P:Program)(w:World)(H:Hp)(s:Shared)(Q:VK)(u:Value)(s':Shared):Prop :=
 ∃ v H',s'.os=s.os/\AllBare s'.gens/\Un (frs outer) [] H H' s.heap s'.heap/\HOk P w H' s'.heap/\RelV v u/\Q v H'
def CR (CX:CXT)(outer:List Env)(P:Program)(w:World)(H:Hp)(s:Shared)(Q:VK)(E:XK)(r:Result)(s':Shared):Prop :=
 match r with
 | .ok (.ret u)=>CE outer P w H s Q u s'
 | .ok _=>False
 | .error e=>CX outer H s E e s'
structure FnOk (P:Program)(w:World)(K:FZ9)(mg:Str->Option Value)(base:Heap)(CX:CXT)(k:Nat)(f:Addr)(fd:FuncData)(ps:List Str)(sp:Sp):Prop where
 len:∀ vs H Q E,sp vs H Q E->vs.length=ps.length
 run:∀ (A:Around) (outer:List Env) (s:Shared) (H:Hp) (args:Args) (us:List Value) (vs:List V) (Q:VK) (E:XK),Room k A->Env0 P w K mg base A outer s H->BindsTo s fd args (ps.zip us)->Vals vs us->sp vs H Q E ->
  codeAny (model P w) A (.call (.ref f) args) (CR CX outer P w H s Q E) s
theorem FnOk.imp {P:Program}{w:World}{K:FZ9}{mg:Str->Option Value}{base:Heap}{CX:CXT}{k:Nat}{f:Addr}{fd:FuncData}{ps:List Str}{sp sp':Sp}(F:FnOk P w K mg base CX k f fd ps sp)
  (h:∀ vs H Q E,sp' vs H Q E->sp vs H Q E):FnOk P w K mg base CX k f fd ps sp' :=
 ⟨fun vs H Q E q=>F.len vs H Q E (h _ _ _ _ q),fun A outer s H args us vs Q E hr he hb hv hs=>F.run A outer s H args us vs Q E hr he hb hv (h _ _ _ _ hs)⟩
section
variable {X:Cx}{pins:List (Addr × Obj)}{σ:St}{H:Hp}{s s':Shared}
theorem Inv.env0 (I:Inv X pins σ H s):Env0 X.prog X.w X.K X.mg X.base X.A X.stack s H :=
 ⟨I.ok.frames,I.ok.mod,I.bs,qdB I.ok.bsz I.sz,I.stack,I.stkFree,I.hok,I.bare⟩
theorem Inv.after {Q:VK}{u:Value}(I:Inv X pins σ H s)(h:CE X.stack X.prog X.w H s Q u s'):EP X pins σ Q u s':=by
 obtain ⟨v,H',os,bare,un,hok,r,q⟩:=h;obtain ⟨hh,g,d,t,os'⟩:=s';obtain rfl:os'=s.os:=os;exact ⟨v,H',I.call (h':=hh) (g':=g) (d':=d) (t':=t) (ch:=[]) un hok bare (fun b z=>absurd z (by simp)),r,q⟩
end
abbrev Nu (sp:Sp)(dvs:List V)(E:XK)(t:TA):TE:=fun σ H Q=>t σ H fun vs H1=>sp (vs++dvs) H1 Q E
def Binds (K:FZ9)(fd:FuncData)(ps:List Str)(ds:List Value):Prop :=
 ∀ (s:Shared) (us:List Value),K.In s.heap->(us++ds).length=ps.length->BindsTo s fd ⟨us,[]⟩ (ps.zip (us++ds))
theorem Binds.all {K:FZ9}{fd:FuncData}{ps:List Str}(h:∀ us:List Value,us.length=ps.length->bindArgs fd ⟨us,[]⟩=pure (ps.zip us)):Binds K fd ps []:=fun s us _ hl=>by
 rw [qbB] at hl ⊢;exact .of_eq (h us hl)
def OM (CX:CXT)(X:Cx)(E:XK):Prop:=∀ (pins:List (Addr × Obj)) (σ:St) (H:Hp) (s:Shared) (e:Value) (s':Shared),Inv X pins σ H s->CX X.stack H s E e s'->X.xe e s'
section
variable {X:Cx}{CX:CXT}{k:Nat}{f C:Addr}{fd:FuncData}{ps:List Str}{sp:Sp}{dvs:List V}{ds:List Value}{E:XK}{x m:Str}{p pos apos:Pos}{e o:Expr}{es:List Expr}{ta:TE}{t:TA}
theorem run_fn {pins:List (Addr × Obj)}{σ:St}{H:Hp}{s:Shared}{Q:VK}{us:List Value}{vs:List V}(F:FnOk X.prog X.w X.K X.mg X.base CX k f fd ps sp)(hr:Room k X.A)(hb:Binds X.K fd ps ds)(hd:Vals dvs ds)(hx:OM CX X E)
  (I:Inv X pins σ H s) (r:Vals vs us) (h:sp (vs++dvs) H Q E):wpAny (model X.prog X.w) X.A (call (.ref f) us) (EP X pins σ Q) X.xe s:=by
 have r2:Vals (vs++dvs) (us++ds):=r.append hd;have hl:(us++ds).length=ps.length:=by rw [<- r2.length];exact F.len _ _ _ _ h
 refine wpAny_call (codeAny_mono (F.run X.A X.stack s H ⟨us,[]⟩ (us++ds) (vs++dvs) Q E hr I.env0 (hb s us I.kIn hl) r2 h) fun r s' hq=>?_)
 cases r with
 | error e=>exact hx pins σ H s e s' I hq
 | ok fl =>
  cases fl with
  | ret u=>exact I.after hq
  | next=>exact False.elim hq
  | brk=>exact False.elim hq
  | cont=>exact False.elim hq
theorem pe_call (F:FnOk X.prog X.w X.K X.mg X.base CX k f fd ps sp)(hr:Room k X.A)(hg:Gl X x)(hm:X.mg x=some (.ref f))(hk:quB X.K (.ref f)=true)(hb:Binds X.K fd ps ds)(hd:Vals dvs ds)(hx:OM CX X E)
  (ha:PA X (e::es) t) (hdb:(x == ("__debug__" : Str))=false:=by decide) (he:starEach (e::es) X.env=(false,eval e X.env)::starEach es X.env:=by rfl) (hpl:(backTo pos (starEach es X.env)).any (·.1)=false:=by rfl) :
  PE X (.Call (.Name x p) (e::es) [] pos) (Nu sp dvs E t):=by
 intro pins s σ H Q I h;refine wpAny_Call_Name_kw (Gn I hg hm ?_ hdb);refine PySem.W.callWith_K (h₀:=X.base) I.ok.mod.kin hk (thn (ha pos pins s σ H _ I h) fun us s1 ⟨vs,H1,I1,r,q⟩=>⟨I1.kIn,?_⟩) he hpl;exact run_fn F hr hb hd hx I1 r q
end
structure FnScope (N P:List Str)(sc:Scope):Prop where
 kind:sc.kind = .function
 co:sc.isCoroutine=false
 gen:sc.isGenerator=false
 nd:N.Nodup
 pre:N.take P.length=P
 par:∀ x∈P,sc.names.lookup x=some .local \/ sc.names.lookup x=some .cell
 nofree:∀ y∈sc.names,y.2 ≠ .free
theorem Lq {kindOf:Str->Option NameKind}{x:Str}:∀ {binds:List (Str × Value)}{m:Str->Option Value},(∀ v,(x,v) ∉ binds)->bindL kindOf binds m x=m x
 | [],_,_=>rfl
 | (n,v)::r,m,h=>by
  unfold bindL;rw [Lq fun w hw=>h w (qrA _ hw)];split
  ·have:x≠n:=by rintro rfl;exact h v qqA
   simp [this]
  ·rfl
theorem M8 {kindOf:Str->Option NameKind}{x:Str}:∀ {binds:List (Str × Value)}{m:Str->Option Value},(∀ v,(x,v) ∉ binds)->bindC kindOf binds m x=m x
 | [],_,_=>rfl
 | (n,v)::r,m,h=>by
  unfold bindC;rw [M8 fun w hw=>h w (qrA _ hw)];split
  ·rfl
  ·have:x≠n:=by rintro rfl;exact h v qqA
   simp [this]
theorem M1 {kindOf:Str->Option NameKind}{x:Str}{v:Value}:∀ {P:List Str}{vs:List Value}{i:Nat}{m:Str->Option Value},P.Nodup->P[i]? = some x->vs[i]? = some v->kindOf x=some .local ->
  bindL kindOf (P.zip vs) m x=some v
 | [],_,_,_,_,h,_,_=>by simp at h
 | _::_,[],_,_,_,_,h,_=>by simp at h
 | p::P,w::vs,0,m,nd,h1,h2,hk=>by
  simp at h1 h2;subst h1;subst h2;show bindL kindOf ((p,w)::P.zip vs) m p=_;unfold bindL;rw [Lq fun v hv=>(List.nodup_cons.mp nd).1 (List.of_mem_zip hv).1,if_pos hk];simp
 | p::P,w::vs,i+1,m,nd,h1,h2,hk=>by
  show bindL kindOf ((p,w)::P.zip vs) m x=_;unfold bindL;exact M1 (i:=i) (List.nodup_cons.mp nd).2 (by simpa using h1) (by simpa using h2) hk
theorem LZ {kindOf:Str->Option NameKind}{x:Str}{v:Value}:∀ {P:List Str}{vs:List Value}{i:Nat}{m:Str->Option Value},P.Nodup->P[i]? = some x->vs[i]? = some v->kindOf x≠some .local ->
  bindC kindOf (P.zip vs) m x=some v
 | [],_,_,_,_,h,_,_=>by simp at h
 | _::_,[],_,_,_,_,h,_=>by simp at h
 | p::P,w::vs,0,m,nd,h1,h2,hk=>by
  simp at h1 h2;subst h1;subst h2;show bindC kindOf ((p,w)::P.zip vs) m p=_;unfold bindC;rw [M8 fun v hv=>(List.nodup_cons.mp nd).1 (List.of_mem_zip hv).1,if_neg hk];simp
 | p::P,w::vs,i+1,m,nd,h1,h2,hk=>by
  show bindC kindOf ((p,w)::P.zip vs) m x=_;unfold bindC;exact LZ (i:=i) (List.nodup_cons.mp nd).2 (by simpa using h1) (by simpa using h2) hk
def start (N:List Str)(vs:List V):St:=vs.map some++List.replicate (N.length - vs.length) none
def JG (CX:CXT)(P:Program)(w:World)(K:FZ9)(mg:Str->Option Value)(base:Heap)(N:List Str)(qual:Str)(scope:Scope)(f:Addr)(cd:Value)(A:Around)(outer:List Env)(s:Shared)(H:Hp)(E:XK):Cx where
 prog:=P
 w:=w
 K:=K
 mg:=mg
 base:=base
 A:=A.deeper (envOfC qual scope s.heap.objs.size f cd)
 N:=N
 s₀:=s
 H₀:=H
 env:=envOfC qual scope s.heap.objs.size f cd
 outer:=outer
 stack:=envOfC qual scope s.heap.objs.size f cd::outer
 ex:=[]
 calm:=true
 fn:=fun _=>true
 pn:=[]
 xe:=fun e s'=>wpAny (model P w) (A.deeper (envOfC qual scope s.heap.objs.size f cd)) (leaving (envOfC qual scope s.heap.objs.size f cd) e) (fun _ s''=>CX outer H s E e s'') (fun e' s''=>CX outer H s E e' s'') s'
theorem NN {sc:Scope}{n:Nat}{x:Str}(h:sc.names.lookup x=some .cell):∃ c,(cellsFrom n sc.names []).lookup x=some c:=by
 have q:=PySem.W.cellsFrom_some sc.names n [] (.inl h);exact Option.isSome_iff_exists.mp q
theorem LN {CX:CXT}{P:Program}{w:World}{K:FZ9}{mg:Str->Option Value}{base:Heap}{N ps:List Str}{qual:Str}{scope:Scope}{f:Addr}{cd:Value}{A:Around}{outer:List Env}{s s1:Shared}{H:Hp}{E:XK}{us:List Value}{vs:List V}
  (S:FnScope N ps scope) (hd:A.handled=none) (e0:Env0 P w K mg base A outer s H) (hl:vs.length=ps.length) (r:Vals vs us)
  (x:InCallC s s.heap.objs.size (bindL (envOfC qual scope s.heap.objs.size f cd).kindOf (ps.zip us) fun _=>none) (cellsFrom (s.heap.objs.size+1) scope.names []) (bindC (envOfC qual scope s.heap.objs.size f cd).kindOf (ps.zip us) fun _=>none) s1) :
  Inv (JG CX P w K mg base N qual scope f cd A outer s H E) [] (start N vs) H s1:=by
 have hpl:ps.length<=N.length:=by have:=congrArg List.length S.pre;rw [qjA] at this;omega
 obtain ⟨h1,tk,rfl,hk⟩:=x.done;have noA:∀ b:Addr,b ∉ (JG CX P w K mg base N qual scope f cd A outer s H E).ex:=fun b z=>absurd (show b∈([]:List Addr) from z) (by simp)
 refine ⟨⟨e0.mod,S.kind,rfl,rfl,qcB _,fun y z c h1 h2=>?_,fun y hy=>?_,fun y c _ h=>?_,fun _=>hd,Around.frames_deeper e0.frames,.inr ⟨rfl,rfl⟩,fun b z=>absurd z (noA b),e0.bs,e0.bsz,fun b _ _=>noA b,fun b z=>absurd z (noA b),e0.funs,e0.frf⟩,
  rfl,e0.bare,Un.kept hk,⟨_,x.toInCall.ns,fun i y v h1 h2 h3=>?_⟩,fun y c h=>⟨_,x.cell y c h⟩,e0.hok.fresh (qcB _),fun y c h=>?_,fun p hp=>absurd (show p∈([]:List (Addr × Obj)) from hp) (by simp),e0.hok.kept hk,?_⟩
 ·exact name_of_addr x.apart (PySem.mem_of_lookup h1) (PySem.mem_of_lookup h2)
 ·have hy:scope.names.lookup y=some .cell\/scope.names.lookup y=some .free:=hy;rcases hy with hy|hy
  ·exact NN hy
  ·exact absurd rfl (S.nofree _ (PySem.mem_of_lookup hy))
 ·exact Nat.le_of_lt (x.above y c (PySem.mem_of_lookup h))
 ·have hi:i<vs.length:=by
   unfold start at h2;by_cases hi:i<vs.length
   ·exact hi
   ·rw [qwA (by simpa using hi)] at h2;rw [List.getElem?_replicate] at h2;split at h2<;>cases h2
  have ha:vs[i]? = some v:=by
   unfold start at h2;rw [List.getElem?_append_left (by simpa using hi),qxA] at h2
   cases e:vs[i]? with
   | none=>rw [e] at h2;cases h2
   | some a=>rw [e] at h2;cases h2;rfl
  obtain ⟨u,hu,rv⟩:=r.get ha
  have hp:ps[i]? = some y:=by
   rw [<- S.pre,List.getElem?_take_of_lt (by omega)];exact h1
  have ndP:ps.Nodup:=by rw [<- S.pre];exact S.nd.sublist (List.take_sublist _ _)
  refine ⟨u,rv,?_⟩;rcases S.par y (qtA hp) with k|k
  ·exact .inl ⟨k,M1 ndP hp hu k⟩
  ·obtain ⟨c,e⟩:=NN (n:=s.heap.objs.size+1) k;refine .inr ⟨.inl k,c,e,?_⟩;have q:=x.cell y c e;rw [LZ ndP hp hu (by show scope.names.lookup y≠_;rw [k];decide)] at q;exact q
 ·exact e0.hok.fresh (Nat.le_of_lt (x.above y c (PySem.mem_of_lookup h)))
 ·unfold start;show _=N.length;rw [qfA,qeA,List.length_replicate];omega
theorem fn_of {CX:CXT}{P:Program}{w:World}{K:FZ9}{mg:Str->Option Value}{base:Heap}{k:Nat}{f:Addr}{name qual:Str}{params:Arguments}{body:List Stmt}{scope:Scope}{dV kV doc pm cdv ct oc:Value}{an od:Option Addr}
  {osl:Array (Option Value)}{N ps:List Str}{sp:Sp}(lk:K.lookup f=some ⟨oc,od,.func (qvB name qual params body scope dV kV doc pm an cdv ct),osl⟩) (hcd:PySem.W.codeIn K cdv qual=true) (S:FnScope N ps scope)
  (len:∀ vs H Q E,sp vs H Q E->vs.length=ps.length)
  (hbody:∀ (A:Around) (outer:List Env) (s:Shared) (H:Hp) (vs:List V) (Q:VK) (E:XK),Room k (A.deeper (envOfC qual scope s.heap.objs.size f cdv))->sp vs H Q E ->
   ∃ t,PSs (JG CX P w K mg base N qual scope f cdv A outer s H E) body t/\t { nx:=fun _ H'=>Q .non H',rt:=Q } (start N vs) H) :
  FnOk P w K mg base CX (k+1) f (qvB name qual params body scope dV kV doc pm an cdv ct) ps sp:=by
 refine ⟨len,fun A outer s H args us vs Q E hr e0 hb r hsp=>?_⟩;have hl:=len _ _ _ _ hsp;have KX:K.In s.heap:=e0.mod.kin.keeps fun b o e=>(e0.bs b o e).1;have lim:s.heap.NoLimit:=e0.mod.nolimit.keeps fun b o e=>(e0.bs b o e).1
 have hkind:∀ y∈ps.zip us,scope.names.lookup y.1=some .local \/ (scope.names.lookup y.1=some .cell/\((cellsFrom (s.heap.objs.size+1) scope.names []).lookup y.1).isSome=true):=fun ⟨n,v⟩ hy=>by
  rcases S.par n (List.of_mem_zip hy).1 with q|q
  ·exact .inl q
  ·exact .inr ⟨q,PySem.W.cellsFrom_some _ _ _ (.inl q)⟩
 refine codeAny_call_function hr.depth (KX _ _ lk) rfl S.co S.gen rfl (PySem.W.codeRec_of KX hcd) (hb _ _ _ _ ?_);refine wpAny_newFunctionEnv_cells S.kind hkind fun env he s1 x=>?_;subst he;refine ⟨lim.keeps x.toInCall.keep,codeAny_func ?_⟩;obtain ⟨t,ht,hq⟩:=hbody A outer s H vs Q E (hr.deeper _) hsp;have I:Inv (JG CX P w K mg base N qual scope f cdv A outer s H E) [] (start N vs) H s1:=LN S hr.hd e0 hl r x;refine wpAny_mono (ht [] s1 (start N vs) H _ I hq) (fun fl s' hs=>?_) fun e s' hs=>hs
 have fin:∀ {σ':St}{H':Hp}{v:V}{u:Value},Inv (JG CX P w K mg base N qual scope f cdv A outer s H E) [] σ' H' s'->RelV v u->Q v H'->CE outer P w H s Q u s' :=
  fun {σ' H' v u} J rv q=>⟨v,H',J.os,J.bare,J.base,J.hok,rv,q⟩
 cases fl with
 | ret u =>
  obtain ⟨v,σ',H',J,rv,q⟩:=hs;exact fin J rv q
 | next =>
  obtain ⟨σ',H',J,q⟩:=hs;exact fin (v:=V.non) (u:=Value.none) J rfl q
 | brk =>
  obtain ⟨_,_,_,q⟩:=hs;exact False.elim q
 | cont =>
  obtain ⟨_,_,_,q⟩:=hs;exact False.elim q
section
variable {X:Cx}{x:Str}{p pos:Pos}{e:Expr}{es:List Expr}{t:TA}{id T:String}{r:List V->Hp->VK->Prop}
abbrev tCB (r:List V->Hp->VK->Prop)(t:TA):TE:=fun σ H Q=>t σ H fun vs H1=>r vs H1 Q
theorem Ai (hc:Cc X (.builtin id) r)(hg:Gl X x)(hm:X.mg x=none)(hv:bootBuiltins x=some (.builtin id))(ha:PA X (e::es) t)(hn:x ≠ "__name__" := by decide)(hdb:(x == ("__debug__" : Str))=false:=by decide)
  (he:starEach (e::es) X.env=(false,eval e X.env)::starEach es X.env:=by rfl) (hpl:(backTo pos (starEach es X.env)).any (·.1)=false:=by rfl):PE X (.Call (.Name x p) (e::es) [] pos) (tCB r t):=by
 intro pins s σ H Q I h;refine wpAny_Call_Name_kw (KZ I hg hm hv ?_ hn hdb);exact PyProof.Rows.callWith_builtin1 (thn (ha pos pins s σ H _ I h) fun us s1 ⟨vs,H1,I1,r1,q1⟩=>hc pins s1 σ H1 vs us Q I1 r1 q1) he hpl
theorem Bi (hc:Cc X (.type T) r)(hg:Gl X x)(hm:X.mg x=none)(hv:bootBuiltins x=some (.type T))(ha:PA X (e::es) t)(hn:x ≠ "__name__" := by decide)(hdb:(x == ("__debug__" : Str))=false:=by decide)
  (he:starEach (e::es) X.env=(false,eval e X.env)::starEach es X.env:=by rfl) (hpl:(backTo pos (starEach es X.env)).any (·.1)=false:=by rfl):PE X (.Call (.Name x p) (e::es) [] pos) (tCB r t):=by
 intro pins s σ H Q I h;refine wpAny_Call_Name_kw (KZ I hg hm hv ?_ hn hdb);exact PyProof.Rows.callWith_type1 (thn (ha pos pins s σ H _ I h) fun us s1 ⟨vs,H1,I1,r1,q1⟩=>hc pins s1 σ H1 vs us Q I1 r1 q1) he hpl
end
end L2
namespace HT
open PySem PyProof.Rows
section
open PySem.SeqAt
open PySem.AutoSeq1 (wpAny_loadPart')
open PySem.MeetsSeq PySem.MeetsSeq2 PySem.MeetsSeq3
end
section
variable {prog:Program}{w:World}{A:Around}{E:Value->Shared->Prop}{s:Shared}
def sIx (n d:Nat):Option Int->Nat
 | none=>d
 | some v=>if v<0 then (v+(n:Int)).toNat else min v.toNat n
theorem sIx_nat (n d k:Nat):sIx n d (some (k:Int))=min k n:=by
 show (if (k:Int)<0 then ((k:Int)+(n:Int)).toNat else min (k:Int).toNat n)=min k n;rw [if_neg (by omega),Int.toNat_natCast]
end
end HT
namespace L2
open PySem PySem.Spec PyProof.Rows
abbrev TO:=St->Hp->(Option Int->Hp->Prop)->Prop
def PO (X:Cx)(e:Option Expr)(t:TO):Prop :=
 ∀ (pins:List (Addr × Obj)) (s:Shared) (σ:St) (H:Hp) (Q:Option Int->Hp->Prop),Inv X pins σ H s->t σ H Q ->
  wpAny (model X.prog X.w) X.A (evalPart e X.env) (fun u s'=>∃ o H',Inv X pins σ H' s'/\IsPart u o/\Q o H') X.xe s
abbrev PJ:TO:=fun _ H Q=>Q none H
abbrev tPart (t:TE):TO:=fun σ H Q=>t σ H fun x H1=>∃ i,x = .int i/\Q (some i) H1
theorem O7 {ns:List Int}:∀ {us:List Value},Vals (ns.map V.int) us->IntsAre us ns:=by
 induction ns with
 | nil=>intro us r;rw [List.map_nil] at r;cases r;exact .nil
 | cons n ns ih =>
  intro us r;rw [qyA] at r
  cases r with
  | cons r1 r2 =>
   obtain ⟨t,e⟩:=r1;subst e;exact .cons n t (ih r2)
section
variable {X:Cx}{e:Expr}{te:TE}{lo hi:Option Expr}{tl th:TO}{pos p2:Pos}
theorem CI:PO X none PJ:=by
 intro pins s σ H Q I h;rw [evalPart_none];exact qcA ⟨none,H,I,.none,h⟩
theorem Ba (h:PE X e te):PO X (some e) (tPart te):=by
 intro pins s σ H Q I hw;rw [evalPart_some];refine thn (h pins s σ H _ I hw) fun u s1 ⟨x,H1,I1,r1,q1⟩=>?_;obtain ⟨i,rfl,q⟩:=q1;obtain ⟨t,rfl⟩:=r1;exact ⟨some i,H1,I1,.int i t,q⟩
def SlR (X:Cx)(r:V->Option Int->Option Int->Hp->VK->Prop):Prop :=
 ∀ (pins:List (Addr × Obj)) (s:Shared) (σ:St) (H:Hp) (x:V) (v vl vu:Value) (lo hi:Option Int) (sl:Addr) (Q:VK),Inv X pins σ H s->RelV x v->s.heap.IsSliceOf sl vl vu .none->IsPart vl lo->IsPart vu hi->r x lo hi H Q ->
  ∃ T id,typeLookup (.type T) "__getitem__" = pure (some (.builtin id))/\s.TypeIs v T/\wpAny (model X.prog X.w) X.A (getItem v (.ref sl)) (EP X pins σ Q) X.xe s
abbrev tSl (r:V->Option Int->Option Int->Hp->VK->Prop)(te:TE)(tl th:TO):TE:=fun σ H Q=>te σ H fun x H1=>tl σ H1 fun l H2=>th σ H2 fun u H3=>r x l u H3 Q
theorem BW {r:V->Option Int->Option Int->Hp->VK->Prop}(hr:SlR X r)(he:PE X e te)(hl:PO X lo tl)(hu:PO X hi th):PE X (.Subscript e (.Slice lo hi none p2) pos) (tSl r te tl th):=by
 intro pins s σ H Q I h;refine Subscript_ (thn (he pins s σ H _ I h) fun v s1 ⟨x,H1,I1,r1,q1⟩=>?_);refine wpAny_Slice (thn (hl pins s1 σ H1 _ I1 q1) fun vl s2 ⟨l,H2,I2,pl,q2⟩=>thn (hu pins s2 σ H2 _ I2 q2) fun vu s3 ⟨u,H3,I3,pu,q3⟩=>?_);rw [evalPart_none];refine qcA ?_;have I4:Inv X pins σ H3 { s3 with heap:=s3.heap.push { cls:=.type "slice",data:=.fields #[vl,vu,.none] } }:=I3.kept (t':=s3.toks) fun b ob q=>qiB _ q;obtain ⟨T,id,hT,ht,hg⟩:=hr pins { s3 with heap:=s3.heap.push { cls:=.type "slice",data:=.fields #[vl,vu,.none] } } σ H3 x v vl vu l u s3.heap.objs.size Q I4 r1 (Heap.IsSliceOf.new ..) pl pu q3;show wpAny (model X.prog X.w) X.A (subscriptTail e (.Slice lo hi none p2) v (.ref s3.heap.objs.size)) (EP X pins σ Q) X.xe { s3 with heap:=s3.heap.push { cls:=.type "slice",data:=.fields #[vl,vu,.none] } };exact tail_any (ops:=[.ref s3.heap.objs.size,v]) ht hT hg (by with_unfolding_all rfl)
def O0 (xs:List V)(lo hi:Option Int):List V:=(xs.drop (HT.sIx xs.length 0 lo)).take (HT.sIx xs.length xs.length hi - HT.sIx xs.length 0 lo)
theorem JQ (xs:List V)(lo hi:Option Int):(O0 xs lo hi).length<=xs.length:=by
 unfold O0;rw [qjA,List.length_drop];omega
end
def ixN (n:Nat)(i:Int):Option Nat:=if 0<=i then (if i<n then some i.toNat else none) else if -(n:Int)<=i then some (i+n).toNat else none
def atI {α:Type}(xs:List α)(i:Int):Option α:=(ixN xs.length i).bind fun j=>xs[j]?
theorem ixN_seq {n:Nat}{i:Int}{j:Nat}(h:ixN n i=some j):seqIndex? i n=some j/\j<n/\-(n:Int)<=i/\i<n:=by
 unfold ixN at h;by_cases h0:0<=i
 ·rw [if_pos h0] at h;by_cases h1:i<n
  ·rw [if_pos h1] at h;have e:i.toNat=j:=qgB h;exact ⟨by rw [seqIndex_of h0 h1,e],by omega,by omega,h1⟩
  ·rw [if_neg h1] at h;cases h
 ·rw [if_neg h0] at h;by_cases h1:-(n:Int)<=i
  ·rw [if_pos h1] at h;have e:(i+n).toNat=j:=qgB h;exact ⟨by rw [seqIndex_neg (by omega) h1,e],by omega,h1,by omega⟩
  ·rw [if_neg h1] at h;cases h
theorem Mr {α:Type}{xs:List α}{i:Int}{v:α}(h:atI xs i=some v):∃ j,seqIndex? i xs.length=some j/\xs[j]? = some v/\j<xs.length/\-(xs.length:Int)<=i/\i<xs.length:=by
 unfold atI at h
 cases e:ixN xs.length i with
 | none=>rw [e] at h;cases h
 | some j =>
  rw [e] at h;obtain ⟨h1,h2,h3,h4⟩:=ixN_seq e;exact ⟨j,h1,h,h2,h3,h4⟩
theorem Ee {α:Type}{xs:List α}{j:Nat}{v:α}(h:xs[j]? = some v):atI xs (j:Int)=some v:=by
 have hj:j<xs.length:=(quA.mp h).1
 have e:ixN xs.length (j:Int)=some j:=by
  unfold ixN;rw [if_pos (by omega),if_pos (by omega)];simp
 unfold atI;rw [e];exact h
def Pc (b:Expr):Prop:=∀ o i,subscripted b false o i=operate [o,i] (getItem o i)
def IxR (X:Cx)(r:R2):Prop :=
 ∀ (value slice:Expr) (pins:List (Addr × Obj)) (s:Shared) (σ:St) (H:Hp) (x y:V) (v u:Value) (Q:VK),Inv X pins σ H s->RelV x v->RelV y u->r x y H Q ->
  subscripted slice false v u=operate [v,u] (getItem v u)->wpAny (model X.prog X.w) X.A (subscriptTail value slice v u) (EP X pins σ Q) X.xe s
def MtR (X:Cx)(id:String)(r:V->List V->Hp->VK->Prop):Prop :=
 ∀ (pins:List (Addr × Obj)) (s:Shared) (σ:St) (H:Hp) (x:V) (xs:List V) (v:Value) (us:List Value) (Q:VK),Inv X pins σ H s->RelV x v->Vals xs us->r x xs H Q ->
  wpAny (model X.prog X.w) X.A (call (.builtin id) (v::us)) (EP X pins σ Q) X.xe s
section
variable {X:Cx}{a b:Expr}{ta tb:TE}{pos:Pos}
theorem pe_ix {r:R2}(hr:IxR X r)(ha:PE X a ta)(hb:PE X b tb)(hs:Pc b):PE X (.Subscript a b pos) (tOp r ta tb):=by
 intro pins s σ H Q I h;exact Subscript_ (binT ha hb I h fun v u s2 x y H2 I2 rx ry q=>hr a b pins s2 σ H2 x y v u Q I2 rx ry q (hs _ _))
def rIxL (K:FZ9):R2:=fun x y H Q=>∃ p xs i v,x = .ref p/\y = .int i/\SqL K H p xs/\atI xs i=some v/\Q v H
def rIxT (K:FZ9):R2:=fun x y H Q=>∃ p xs i v,x = .ref p/\y = .int i/\SqT K H p xs/\atI xs i=some v/\Q v H
def rIxS:R2:=fun x y H Q=>∃ z i c,x = .str z/\y = .int i/\z.length<=sizeLine/\atI z.cps.toList i=some c/\Q (.str ⟨#[c]⟩) H
theorem ix_list:IxR X (rIxL X.K):=by
 intro value slice pins s σ H x y v u Q I rx ry h hs;obtain ⟨p,xs,i,z,rfl,rfl,hq,he,q⟩:=h;cases rx;obtain ⟨t,rfl⟩:=ry;obtain ⟨its,r,pl,hz⟩:=I.list hq;obtain ⟨j,h1,h2,h3,h4,h5⟩:=Mr he;obtain ⟨w,ew,rw'⟩:=r.get h2;have hl:=r.length;have hn:=J7;have fin:EP X pins σ Q w s:=⟨z,H,I,rw',q⟩;by_cases h0:0<=i
 ·have hj:i.toNat=j:=by
   rw [seqIndex_of h0 h5] at h1;exact qgB h1
  exact item_listR pl.isList h0 (by omega) (by rw [hj];simpa using ew) fin hs
 ·have hj:(i+(its.toArray.size:Int)).toNat=j:=by
   rw [seqIndex_neg (by omega) h4] at h1;rw [qrB,<- hl];exact qgB h1
  exact subscriptTail_builtinR (x:=w) pl.isList.typeIs slot_list_getitem.lookup
   (wpAny_getItem_list_neg (Q:=fun r s'=>r=w/\EP X pins σ Q r s') pl.isList (by omega) (by rw [qrB]<;>omega) (by omega) (by rw [hj];simpa using ew) ⟨rfl,fin⟩) hs
theorem ix_tup:IxR X (rIxT X.K):=by
 intro value slice pins s σ H x y v u Q I rx ry h hs;obtain ⟨p,xs,i,z,rfl,rfl,hq,he,q⟩:=h;cases rx;obtain ⟨t,rfl⟩:=ry;obtain ⟨its,r,pl,hz⟩:=I.tuple hq;obtain ⟨j,h1,h2,h3,h4,h5⟩:=Mr he;obtain ⟨w,ew,rw'⟩:=r.get h2;have hl:=r.length;have hn:=J7;have fin:EP X pins σ Q w s:=⟨z,H,I,rw',q⟩
 exact subscriptTail_builtinR (x:=w) pl.typeIs slot_tuple_getitem.lookup
  (getItem_tuple (j:=j) (Q:=fun r s'=>r=w/\EP X pins σ Q r s') pl (by omega) (by omega) (by rw [qrB,<- hl];exact h1) (by simpa using ew) ⟨rfl,fin⟩) hs
theorem ix_str:IxR X rIxS:=by
 intro value slice pins s σ H x y v u Q I rx ry h hs;obtain ⟨z,i,c,rfl,rfl,hz,he,q⟩:=h;obtain ⟨t,rfl⟩:=rx;obtain ⟨t',rfl⟩:=ry;obtain ⟨j,h1,h2,h3,h4,h5⟩:=Mr he;have hl:z.cps.toList.length=z.length:=by simp [Str.length]
 rw [hl] at h1 h4 h5;have hn:=J7
 exact tail_any (typeIs_str s z t) slot_str_getitem.lookup (getItem_str (c:=c) (by
  have e1:decide (i < -(2 ^ 63:Int))=false:=decide_eq_false (by omega);have e2:decide (i>=2 ^ 63)=false:=decide_eq_false (by omega)
  rw [e1,e2,Bool.or_false]) (by rw [h1];simpa using h2) ⟨.str ⟨#[c]⟩,H,I.tok _,⟨_,rfl⟩,q⟩) hs
theorem Mx (lo hi:Option Int)(n:Nat):(sliceBounds lo hi none n).1=((HT.sIx n 0 lo:Nat):Int)/\(sliceBounds lo hi none n).2.1=((HT.sIx n n hi:Nat):Int)/\(sliceBounds lo hi none n).2.2=1:=by
 refine ⟨?_,?_,rfl⟩
 ·cases lo with
  | none=>simp [sliceBounds,HT.sIx]
  | some i =>
   simp only [sliceBounds,HT.sIx,Option.getD_none,show (1:Int) > 0 by decide,if_true];by_cases h:i<0
   ·simp only [h,if_true]<;>omega
   ·simp only [h,if_false]<;>omega
 ·cases hi with
  | none=>simp [sliceBounds,HT.sIx]
  | some i =>
   simp only [sliceBounds,HT.sIx,Option.getD_none,show (1:Int) > 0 by decide,if_true];by_cases h:i<0
   ·simp only [h,if_true]<;>omega
   ·simp only [h,if_false]<;>omega
theorem L4 (its:List Value)(lo hi:Option Int):slicePick its.toArray lo hi none=((its.drop (HT.sIx its.length 0 lo)).take (HT.sIx its.length its.length hi - HT.sIx its.length 0 lo)).toArray:=by
 obtain ⟨h1,h2,h3⟩:=Mx lo hi its.toArray.size;unfold slicePick;rw [h1,h2,h3];simp only [sliceRange_one,pick_run,qrB]<;>rfl
def rSlL (K:FZ9):V->Option Int->Option Int->Hp->VK->Prop:=fun x lo hi H Q=>∃ a xs,x = .ref a/\SqL K H a xs/\∀ p,H p=none->Q (.ref p) (upd H p (.lst (O0 xs lo hi)))
theorem sl_list:SlR X (rSlL X.K):=by
 intro pins s σ H x v vl vu lo hi sl Q I rx hs pl pu h;obtain ⟨a,xs,rfl,hx,q⟩:=h;cases rx;obtain ⟨its,r,ht,hz⟩:=I.list hx;have hlen:=r.length;refine ⟨"list",_,slot_list_getitem.lookup,ht.isList.typeIs,?_⟩;refine wpAny_getItem_list_slice ht.isList hs pl pu .none (by simp) ?_ (by rw [qrB]<;>omega);rw [L4,<- hlen];refine ⟨.ref s.heap.objs.size,_,I.laid (t':=s.toks) (o:=.lst (O0 xs lo hi)) (fun b ob q=>qiB _ q) (qcB _) ?_,rfl,q _ (I.hok.fresh (qcB _))⟩;exact ⟨qdB (JQ xs lo hi) hz,_,0,(r.drop (HT.sIx xs.length 0 lo)).take (HT.sIx xs.length xs.length hi - HT.sIx xs.length 0 lo),qjB _ rfl⟩
def flatV:V->Bool
 | .non=>true
 | .bl _=>true
 | .int _=>true
 | .str _=>true
 | _=>false
def eqV:V->V->Bool
 | .non,.non=>true
 | .bl a,.bl b=>a == b
 | .bl a,.int b=>(if a then 1 else 0) == b
 | .int a,.bl b=>a == (if b then 1 else 0)
 | .int a,.int b=>a == b
 | .str a,.str b=>a == b
 | _,_=>false
theorem MI:Cc X (.builtin "len") (fun xs H Q=>∃ p ys,xs=[.ref p]/\(SqL X.K H p ys\/SqT X.K H p ys)/\Q (.int ys.length) H):=by
 intro pins s σ H xs us Q I r h;obtain ⟨p,ys,rfl,hq,q⟩:=h;obtain ⟨u,rfl,rx⟩:=Dh r;cases rx;have hn:=J7;rcases hq with hq|hq
 ·obtain ⟨its,r',pl,hz⟩:=I.list hq;have hlen:=r'.length;exact Calls.call_len_list pl.isList (by simp only [qrB]<;>omega) ⟨.int ys.length,H,I.tok _,⟨s.toks+1,by rw [qrB,hlen]⟩,q⟩
 ·obtain ⟨its,r',pl,hz⟩:=I.tuple hq;have hlen:=r'.length;exact len_tuple pl (by simp only [qrB]<;>omega) ⟨.int ys.length,H,I.tok _,⟨s.toks+1,by rw [qrB,hlen]⟩,q⟩
theorem Mo:Cc X (.builtin "len") (fun xs H Q=>∃ z,xs=[.str z]/\z.length<=sizeLine/\Q (.int z.length) H):=by
 intro pins s σ H xs us Q I r h;obtain ⟨z,rfl,hz,q⟩:=h;obtain ⟨u,rfl,t,rfl⟩:=Dh r;have hn:=J7;exact len_str (by omega) ⟨.int z.length,H,I.tok _,⟨_,rfl⟩,q⟩
theorem Ml:Cc X (.type "list") (fun xs H Q=>∃ p ys,xs=[.ref p]/\(SqL X.K H p ys\/SqT X.K H p ys)/\∀ l,H l=none->Q (.ref l) (upd H l (.lst ys))):=by
 intro pins s σ H xs us Q I r h;obtain ⟨p,ys,rfl,hq,q⟩:=h;obtain ⟨u,rfl,rx⟩:=Dh r;cases rx
 have fin:∀ (its:List Value),Vals ys its->ys.length<=sizeLine->∀ (h':Heap) (c':Nat),(∀ b o',s.heap.get? b=some o'->h'.get? b=some o') ->
   h'.get? s.heap.objs.size=some { cls:=.type "list",dict:=none,data:=.seq its.toArray c',slots:=#[] }->EP X pins σ Q (.ref s.heap.objs.size) { s with heap:=h' }:=fun its r' hz h' c' kp e =>
  ⟨.ref s.heap.objs.size,_,I.laid (t':=s.toks) kp (qcB _) (show ObjOk X.prog X.w _ h' _ (.lst ys) from ⟨hz,its,c',r',e⟩),rfl,q _ (I.hok.fresh (qcB _))⟩
 rcases hq with hq|hq
 ·obtain ⟨its,r',pl,hz⟩:=I.list hq;have hlen:=r'.length;obtain ⟨o,ho,hc,n,hd⟩:=pl.isList;exact call_list_seq p (.inl rfl) ho hc hd (fun h' c' kp e=>fin its r' hz h' c' kp e) (by simp only [qrB]<;>omega)
 ·obtain ⟨its,r',pl,hz⟩:=I.tuple hq;have hlen:=r'.length;obtain ⟨o,ho,hc,n,hd⟩:=pl;exact call_list_seq p (.inr rfl) ho hc hd (fun h' c' kp e=>fin its r' hz h' c' kp e) (by simp only [qrB]<;>omega)
theorem L6:Cc X (.type "tuple") (fun xs H Q=>∃ p ys,xs=[.ref p]/\((SqL X.K H p ys/\∀ l,H l=none->Q (.ref l) (upd H l (.tup ys)))\/(SqT X.K H p ys/\Q (.ref p) H))):=by
 intro pins s σ H xs us Q I r h;obtain ⟨p,ys,rfl,h⟩:=h;obtain ⟨u,rfl,rx⟩:=Dh r;cases rx;rcases h with ⟨hq,q⟩ | ⟨hq,q⟩
 ·obtain ⟨its,r',pl,hz⟩:=I.list hq;have hlen:=r'.length;refine call_tuple_list pl.isList (fun h' kp=>?_) (by simp only [qrB]<;>omega);have I1:Inv X pins σ H { s with heap:=h' }:=I.kept (t':=s.toks) kp
  have I2:Inv X pins σ (upd H h'.objs.size (.tup ys)) { s with heap:=h'.push { cls:=.type "tuple",data:=.seq its.toArray } } :=
   I1.laid (t':=s.toks) (fun b o e=>qiB _ e) (qcB _) (show ObjOk X.prog X.w _ _ _ (.tup ys) from ⟨hz,its,r',IsTup.new _ _⟩)
  exact ⟨.ref h'.objs.size,_,I2,rfl,q _ (I1.hok.fresh (qcB _))⟩
 ·obtain ⟨its,r',pl,hz⟩:=I.tuple hq;exact call_tuple_same pl ⟨.ref p,H,I,rfl,q⟩
def tyV (K:FZ9)(T:String)(x:V)(H:Hp):Prop:=match x with
 | .str _=>T = "str"
 | .int _=>T = "int"
 | .ref p=>(T = "list" /\ ∃ xs,SqL K H p xs)\/(T = "tuple" /\ ∃ o,K.lookup p=some o/\o.cls = .type "tuple" /\ o.dict=none) \/
   (T = "dict" /\ ((∃ kvs,H p=some (.dK kvs))\/∃ kvs,H p=some (.dT kvs)))\/(T = "set" /\ ∃ S n,H p=some (.set S n))
 | _=>False
theorem tyV_is {pins:List (Addr × Obj)}{σ:St}{H:Hp}{s:Shared}{T:String}{x:V}{v:Value}(I:Inv X pins σ H s)(r:RelV x v)(ty:tyV X.K T x H) :
  s.TypeIs v T/\∀ a,v = .ref a->∃ ob,s.heap.get? a=some ob/\ob.dict=none:=by
 cases x with
 | str z =>
  obtain ⟨t,rfl⟩:=r;cases (show T = "str" from ty);exact ⟨typeIs_str s z t,fun _ e=>nomatch e⟩
 | int i =>
  obtain ⟨t,rfl⟩:=r;cases (show T = "int" from ty);exact ⟨typeIs_int s i t,fun _ e=>nomatch e⟩
 | ref p =>
  cases r;rcases ty with ⟨rfl,xs,hq⟩ | ⟨rfl,o,hk,hc,hd⟩ | ⟨rfl,hk⟩ | ⟨rfl,S,n,hk⟩
  ·obtain ⟨its,_,pl,_⟩:=I.list hq;refine ⟨pl.isList.typeIs,fun a e=>?_⟩;cases e;obtain ⟨o,n,e,c,hd,_⟩:=pl;exact ⟨o,e,hd⟩
  ·refine ⟨⟨o,I.kIn p o hk,hc⟩,fun a e=>?_⟩;cases e;exact ⟨o,I.kIn _ o hk,hd⟩
  ·have z:∃ o,s.heap.get? p=some o/\o.ExactDict:=by
    rcases hk with ⟨kvs,hk⟩ | ⟨kvs,hk⟩
    ·obtain ⟨_,_,_,_,o,_,_,e,ex,_⟩:=I.hok p _ hk;exact ⟨o,e,ex⟩
    ·obtain ⟨_,_,_,_,o,_,_,e,ex,_⟩:=I.hok p _ hk;exact ⟨o,e,ex⟩
   obtain ⟨o,e,ex⟩:=z;refine ⟨⟨o,e,ex.1⟩,fun a e2=>?_⟩;cases e2;exact ⟨o,e,ex.2.1⟩
  ·obtain ⟨o,_,_,_,e,ex,_⟩:=I.hok p _ hk;refine ⟨⟨o,e,ex.1⟩,fun a e2=>?_⟩;cases e2;exact ⟨o,e,ex.2.1⟩
 | _=>exact False.elim ty
abbrev tBM (K:FZ9)(T:String)(r:V->List V->Hp->VK->Prop)(to:TE)(t:TA):TE:=fun σ H Q=>to σ H fun x H1=>tyV K T x H1/\t σ H1 fun xs H2=>r x xs H2 Q
variable {o e:Expr}{es:List Expr}{to:TE}{t:TA}{name:Str}{apos cpos:Pos}{T id:String}{r:V->List V->Hp->VK->Prop}
theorem pe_bm (pa:PlainAttrs T)(slot:Slot T name id)(hty:typeOf (.builtin id)=pure (.type "method_descriptor"))(hm:MtR X id r)(ho:PE X o to)(ha:PA X (e::es) t)
  (hbase:attributeBase o name X.env (eval o X.env)=eval o X.env:=by rfl)
  (hfew:((backTo cpos (starEach (e::es) X.env)).all (fun x=>!x.1) && (backToKw cpos (keywordEach [] X.env)).all (fun x=>x.1.isSome)
   && decide ((e::es).length+([]:List Keyword).length+(if ([]:List Keyword).isEmpty then 0 else 1)<30))=true:=by rfl)
  (hline:(apos.endLine == cpos.line)=true:=by rfl) (hs:starEach (e::es) X.env=(false,eval e X.env)::starEach es X.env:=by rfl) (hplain:(backTo cpos (starEach es X.env)).any (·.1)=false:=by rfl) :
  PE X (.Call (.Attribute o name apos) (e::es) [] cpos) (tBM X.K T r to t):=by
 intro pins s σ H Q I h;refine wpAny_Call_method_late hbase hfew hline rfl (thn (ho pins s σ H _ I h) fun v s1 ⟨x,H1,I1,r1,ty,q1⟩=>?_);obtain ⟨h1,h2⟩:=tyV_is I1 r1 ty;refine ⟨T,id,pa,slot,hty,h1,h2,?_⟩;have hA:=ha cpos pins s1 σ H1 _ I1 q1;rw [hs] at hA ⊢;refine Calls.callWith_builtin (by show (false || (backTo cpos (starEach es X.env)).any (·.1))=false;rw [hplain]<;>rfl) (Calls.evalArgs_plain ?_);exact thn hA fun us s2 ⟨vs,H2,I2,r2,q2⟩=>hm pins s2 σ H2 x vs v us Q I2 r1 r2 q2
end
def MtM (X:Cx)(id:String)(r:V->List V->Hp->VK->Prop):Prop :=
 ∀ (pins:List (Addr × Obj)) (s:Shared) (σ:St) (H:Hp) (x:V) (xs:List V) (v:Value) (us:List Value) (Q:VK),Inv X pins σ H s->RelV x v->Vals xs us->r x xs H Q ->
  wpAny (model X.prog X.w) X.A (call (.builtin id) (v::us)) (EP X pins σ Q) X.xe s
theorem Vals.one:∀ {x:V}{us:List Value},Vals [x] us->∃ u,us=[u]/\RelV x u
 | _,_,.cons r .nil=>⟨_,rfl,r⟩
theorem Vals.rep {xs:List V}{us:List Value}(h:Vals xs us):∀ k:Nat,Vals (List.replicate k xs).flatten (List.replicate k us).flatten
 | 0=>.nil
 | k+1=>by
  rw [List.replicate_succ,List.replicate_succ,List.flatten_cons,List.flatten_cons];exact Vals.append h (Vals.rep h k)
theorem Iw (its:List Value):∀ (k:Nat) (acc:List Value),
  List.foldl (fun x1 x2=>x1++x2) acc.toArray (List.replicate k its.toArray)=(acc++(List.replicate k its).flatten).toArray
 | 0,acc=>by simp
 | k+1,acc=>by
  have e:acc.toArray++its.toArray=(acc++its).toArray:=by simp
  have e2:(acc++its)++(List.replicate k its).flatten=acc++(List.replicate (k+1) its).flatten:=by
   rw [List.replicate_succ,List.flatten_cons,qaB]
  rw [<- e2,<- Iw its k (acc++its),<- e,List.replicate_succ,qcC]
section
variable {X:Cx}{pins:List (Addr × Obj)}{σ:St}{H:Hp}{s:Shared}{l b:Addr}{xs ys zs:List V}
theorem Inv.lset {its its':List Value}{n:Nat}{f:Array Value->Array Value}{t':Nat}(I:Inv X pins σ H s)(hH:H l=some (.lst xs))
  (e:s.heap.get? l=some { cls:=.type "list",data:=.seq its.toArray n }) (hf:f its.toArray=its'.toArray) (hv:Vals ys its') (hz:ys.length<=sizeLine) :
  Inv X pins σ (upd H l (.lst ys)) { s with heap:=s.heap.update l (Obj.mapSeq f),toks:=t' }:=by
 have q:=PySem.IsL.update e f;rw [hf] at q;refine I.write (x:=l) (e:=l) (by rw [hH];exact trivial) (.inl rfl) (fun b' u hb hu=>(Heap.get?_update_other s.heap (Obj.mapSeq f) (Ne.symm hb)).trans hu) ⟨_,q⟩ ?_;exact ⟨hz,its',_,hv,q⟩
theorem Inv.lnew {its:List Value}{t':Nat}(I:Inv X pins σ H s)(hv:Vals ys its)(hz:ys.length<=sizeLine) :
  Inv X pins σ (upd H s.heap.objs.size (.lst ys)) { s with heap:=s.heap.push { cls:=.type "list",data:=.seq its.toArray },toks:=t' } :=
 I.laid (fun _ _ q=>qiB _ q) (qcB _) ⟨hz,its,0,hv,qjB _ rfl⟩
theorem Inv.fresh (I:Inv X pins σ H s):H s.heap.objs.size=none:=I.hok.fresh (qcB _)
theorem Inv.lstM (I:Inv X pins σ H s)(hH:H l=some (.lst xs)):xs.length<=sizeLine/\∃ (its:List Value) (n:Nat),Vals xs its/\xs.length=its.length/\s.heap.get? l=some { cls:=.type "list",data:=.seq its.toArray n }:=by
 obtain ⟨z,its,n,r,e⟩:=I.hok l _ hH;exact ⟨z,its,n,r,r.length,e⟩
theorem Jw {n:Nat}(h:n<=sizeLine):Builtin.List.listTooLong n=false:=by
 unfold Builtin.List.listTooLong;exact decide_eq_false (by omega)
end
section
variable {X:Cx}
def Da:V->List V->Hp->VK->Prop:=fun x vs H Q=>∃ l xs y,x = .ref l/\vs=[y]/\H l=some (.lst xs)/\xs.length<sizeLine/\Q .non (upd H l (.lst (xs++[y])))
theorem Il:MtM X "list.append" Da:=by
 intro pins s σ H x vs v us Q I rx rv h;obtain ⟨l,xs,y,rfl,rfl,hH,hz,q⟩:=h;cases rx;obtain ⟨u,rfl,ru⟩:=rv.one;obtain ⟨z,its,n,r,hl,e⟩:=I.lstM hH;refine call_meets F.slot_list_append ⟨_,e,rfl⟩ F.entry_list_append (F.args_list_append_2 _ _) (PySem.list_append l its.toArray n u (by rw [qrB];omega)) ⟨e,?_⟩;refine ⟨.non,_,I.lset (its':=its++[u]) hH e (by simp) (r.append (.cons ru .nil)) ?_,rfl,q⟩;rw [qfA,qhA];omega
def PM:V->List V->Hp->VK->Prop:=fun x vs H Q=>∃ l b xs zs,x = .ref l/\vs=[.ref b]/\H l=some (.lst xs)/\H b=some (.lst zs)/\xs.length+zs.length<=sizeLine/\Q .non (upd H l (.lst (xs++zs)))
theorem Ir:MtM X "list.extend" PM:=by
 intro pins s σ H x vs v us Q I rx rv h;obtain ⟨l,b,xs,zs,rfl,rfl,hH,hB,hz,q⟩:=h;cases rx;obtain ⟨u,rfl,ru⟩:=rv.one;cases ru;obtain ⟨z,its,n,r,hl,e⟩:=I.lstM hH;obtain ⟨z2,its2,n2,r2,hl2,e2⟩:=I.lstM hB;have hsz:its.toArray.size+its2.toArray.size<=sizeLine:=by rw [qrB,qrB];omega
 have hlong:¬ (!its.toArray.isEmpty && Builtin.List.listTooLong (its.toArray.size+its2.toArray.size))=true:=by
  rw [Jw hsz,Bool.and_false];exact qqB
 refine call_meets F.slot_list_extend ⟨_,e,rfl⟩ F.entry_list_extend (F.args_list_extend_2 _ _)
  (AutoSeq1.list_extend_list_list_0 l its.toArray n b its2.toArray n2 hlong (by rw [qrB];omega) (by omega)) ⟨e,e2,?_⟩
 refine ⟨.non,_,I.lset (its':=its++its2) hH e (by simp) (r.append r2) ?_,rfl,q⟩;rw [qfA];omega
def rRep:R2:=fun x y H Q=>∃ l k xs,x = .ref l/\y = .int k/\H l=some (.lst xs)/\-(2 ^ 63)<=k/\k<2 ^ 63/\xs.length * k.toNat<=sizeLine /\
 ∀ p,H p=none->Q (.ref p) (upd H p (.lst (List.replicate k.toNat xs).flatten))
theorem MT {α:Type}(xs:List α)(k:Nat):(List.replicate k xs).flatten.length=k * xs.length:=by
 induction k with
 | zero=>simp
 | succ k ih=>rw [List.replicate_succ,List.flatten_cons,qfA,ih,Nat.succ_mul,Nat.add_comm]
theorem op_rep:OpR X (binaryOp .Mult) rRep:=by
 intro pins s σ H x y v u Q I rx ry h;obtain ⟨l,k,xs,rfl,rfl,hH,h1,h2,hz,q⟩:=h;cases rx;obtain ⟨t,rfl⟩:=ry;obtain ⟨z,its,n,r,hl,e⟩:=I.lstM hH;have hlen:its.toArray.size * k.toNat<=sizeLine:=by rw [qrB,<- hl];exact hz
 have hcap:¬ its.toArray.size * k.toNat > (2 ^ 63 - 1) / 8:=by
  have:(sizeLine:Nat)<=(2 ^ 63 - 1) / 8:=by decide
  omega
 have hfit:¬ (!Builtin.List.listFitsIndex k)=true:=by
  rw [fitsIndex_both h1 h2];exact qqB
 have hlong:¬ Builtin.List.listTooLong (its.toArray.size * k.toNat)=true:=by
  rw [Jw hlen];exact qqB
 have hnew:List.foldl (fun x1 x2=>x1++x2) #[] (List.replicate (if its.toArray.isEmpty=true then 0 else k.toNat) its.toArray)=(List.replicate k.toNat its).flatten.toArray:=by
  have f0:∀ m:Nat,List.foldl (fun x1 x2=>x1++x2) #[] (List.replicate m its.toArray)=(List.replicate m its).flatten.toArray:=fun m=>by
   have:=Iw its m [];rw [List.nil_append] at this;exact this
  rw [f0]
  cases its with
  | nil=>simp
  | cons a r'=>rw [if_neg (by simp)]
 refine wpAny_binaryOp_repeat_ref (T := "list") (U := "int") (by decide) ⟨_,e,rfl⟩ (fun s'=>typeIs_int s' k t) noFill_list_mul F.fills_int_mul F.slot_int_rmul repeat_list F.slot_int_index.lookup
  (call_meets F.slot_int_rmul (typeIs_int s k t) F.entry_int_rmul (F.args_int_rmul_2 _ _) (int___rmul___int_list k t l its.toArray n)
   ⟨e,rfl,⟨_,e,rfl⟩,call_meets F.slot_list_mul ⟨_,e,rfl⟩ F.entry_list_mul (F.args_list_mul_2 _ _) (AutoListH.list___mul___list_int_3 l its.toArray n k t hfit hcap hlong) ⟨e,?_⟩⟩)
 rw [hnew];exact ⟨.ref _,_,I.lnew (t':=s.toks) (r.rep k.toNat) (by rw [MT,Nat.mul_comm];exact hz),rfl,q _ I.fresh⟩
end
end L2
namespace Att
open PySem PySem.W PySem.Calls PyProof.Rows
theorem JZ {P:Params}{h:Heap}:∀ (ns:List Int) (vs:List Value),WellAll P h vs (ns.map WData.int)->IntsAre vs ns:=by
 intro ns
 induction ns with
 | nil =>
  intro vs w;rw [List.map_nil] at w;cases w;exact .nil
 | cons n ns ih =>
  intro vs w;rw [qyA] at w
  cases w with
  | cons a b =>
   cases a;exact .cons _ _ (ih _ b)
theorem Pm {l:OpenLaw}{n:Nat}(hn:l.most=some n){P:Params}{h:Heap}{args:List WData}{vals:List Value}
  (hpre:l.row.toRowW.claim.pre args=true) (hwl:WellAll P h vals args) :
  ∃ a vs ns,vals=[Value.ref a]/\args=[WData.list (ns.map WData.int)]/\h.get? a=some { cls:=.type "list",data:=.seq vs.toArray }/\IntsAre vs ns/\ns.length<=n:=by
 have hsh:WShape.hasAll [] args [.list .int]=true:=(pre_splitW hpre).1;have hc:l.pre.holds [] { args:=args }=true:=(pre_splitW hpre).2;obtain ⟨d,r,rfl,h1,h2⟩:=hasAllW_cons hsh;obtain rfl:=hasAllW_nil h2;obtain ⟨xs,rfl,h3⟩:=hasW_list h1;obtain ⟨ns,rfl⟩:=items_int h3
 have hlen:ns.length<=n:=by
  unfold OpenLaw.pre at hc
  have h4:(WTm.not (.lt (.lit (.int (n:Int))) (.len (.arg 0)))).holds [] { args:=[.list (ns.map .int)] }=true:=by
   have h4:=(holds_andW hc).1;rw [hn] at h4;exact h4
  have h5:=condW_of h4 (w_not (w_lt w_lit (w_len_list (w_arg rfl))));rw [qeA] at h5;refine Nat.le_of_not_lt fun q=>?_;have q':(n:Int)<((ns.length:Nat):Int):=by omega
  first
   | (rw [decide_eq_true q'] at h5;exact absurd h5 (by decide))
   | (simp at h5;omega)
 cases hwl with
 | cons w1 w2 =>
  cases w2
  cases w1 with
  | list ho hall=>exact ⟨_,_,ns,rfl,rfl,ho,JZ ns _ hall,hlen⟩
theorem Qe (l:OpenLaw)(args:List WData):l.row.toRowW.claim.post args (.bool true) args=true :=
 postW_of (r:=l.row.toRowW) (X:=(true == true))
  (show WShape.has [] (.bool true) .bool=true by first|rfl|decide|simp [WShape.has,WShape.arms,WShape.armsAll])
  (show (WTm.eq .res (.lit (.bool true))).value [] { args:=args,res:=some (.bool true),after:=args }=some (.bool (true == true)) from w_eq_bool (w_res rfl) w_lit) rfl
theorem attach_call {l:OpenLaw}{n:Nat}{q:Program}{loose:List Str}{XP:(Str->Option Value)->Heap->Prop}{YP:World->Heap->Prop}{d:DefRec}
  (hn:l.most=some n) (hdf:d.params.defaults=[])
  (call:∀ (w:World) (s₀ s₁:Shared) (mg mb:Str->Option Value) (fa:Addr) (o:Obj) (pm cd doc:Value) (a:Addr) (vs:List Value) (ns:List Int),
   Ground q loose [] XP w s₀ mg mb s₁.heap->YP w s₁.heap ->
   s₁.heap.get? fa=some o->o.data = .func (docDef d.name d.params d.body d.scope pm cd doc)->s₁.heap.CodeRec cd d.name->mg d.name=some (.ref fa) ->
   s₁.heap.get? a=some { cls:=.type "list",data:=.seq vs.toArray }->IntsAre vs ns->ns.length<=n->s₁.gens = #[] ->
   codeAny (model l.prog w) callerA (.call (.ref fa) ⟨[.ref a],[]⟩) (fun r s'=>r = .ok (.ret (.bool true))/\OldK s₁.heap s'.heap/\s'.os=s₁.os/\AllBare s'.gens) s₁) :
  WalkO q loose XP YP l.row.toRowW d [] (fun f vs=>PySem.call f vs):=by
 intro w s₀ s₁ mg mb G Y fa o pm cd doc dV kV ho hd hcd hD hmg hg args vals as hpre hlay hrd hwl hlo;obtain rfl:dV = .none:=Dflts.none hD hdf;obtain rfl:kV = .none:=Dflts.noKw hD;obtain ⟨a,vs,ns,rfl,rfl,hobj,hints,hlen⟩:=Pm hn hpre hwl;refine enter_call (codeAny_mono (call w s₀ s₁ mg mb fa o pm cd doc a vs ns G Y ho (fd_plain hd) hcd hmg hobj hints hlen hg) fun r s' hq=>?_);obtain ⟨rfl,h2,h3,h4⟩:=hq;exact ⟨.inl ⟨.bool true,.bool true,[],rfl,fun _=>rfl,.bool true,Qe l _,fun _=>⟨List.Pairwise.nil,fun _ hm=>(nomatch hm)⟩⟩,h2,h3,h4⟩
end Att
namespace L2
open PySem PySem.Spec PyProof.Rows
theorem Ik:∀ {vs:List Value}{ns:List Int},IntsAre vs ns->Vals (ns.map V.int) vs
 | _,_,.nil=>.nil
 | _,_,.cons n t h=>.cons ⟨t,rfl⟩ (Ik h)
def Only (H:Hp):Prop:=∀ b,H b=none\/∃ o xs,H b=some (.frz o (.lst xs))
theorem law_call {P:Program}{w:World}{K:FZ9}{mg mb:Str->Option Value}{CX:CXT}{k:Nat}{fa a:Addr}{fd:FuncData}{x:Str}{sp:Sp}{s₁:Shared}{vs:List Value}{ns:List Int}
  (KX:K.In s₁.heap) (hns:s₁.heap.Ns mainGlobals mg) (hb:s₁.heap.Ns builtinsNs mb) (hbb:∀ x:Str,x ≠ "__name__" -> mb x=bootBuiltins x) (hlim:s₁.heap.NoLimit) (hg:s₁.gens = #[])
  (ha:s₁.heap.get? a=some { cls:=.type "list",data:=.seq vs.toArray }) (hi:IntsAre vs ns) (hl:ns.length<=sizeLine) (hr:Room k callerA)
  (F:∀ base:Heap,K.In base->base.Ns mainGlobals mg->FnOk P w K mg base CX k fa fd [x] sp) (hbind:∀ (s:Shared) (u:Value),BindsTo s fd ⟨[u],[]⟩ [(x,u)])
  (hsp:∀ H:Hp,Only H->SqL K H a (ns.map V.int)->sp [.ref a] H (fun v _=>v = .bl true) fun _ _ _=>False)
  (hCX:∀ H e s',CX [] H s₁ (fun _ _ _=>False) e s'->False) :
  codeAny (model P w) callerA (.call (.ref fa) ⟨[.ref a],[]⟩) (fun r s'=>r = .ok (.ret (.bool true))/\OldK s₁.heap s'.heap/\s'.os=s₁.os/\AllBare s'.gens) s₁:=by
 have rv:=Ik hi;have lenV:=hi.length
 have core:∀ H:Hp,Only H->SqL K H a (ns.map V.int)->HOk P w H s₁.heap->(∀ b,H b≠none->b=a)->(H a≠none->K.lookup a=none) ->
   codeAny (model P w) callerA (.call (.ref fa) ⟨[.ref a],[]⟩) (fun r s'=>r = .ok (.ret (.bool true))/\OldK s₁.heap s'.heap/\s'.os=s₁.os/\AllBare s'.gens) s₁:=by
  intro H hO hS hok hA hK;have base_of:∀ {b:Addr}{o:Obj},s₁.heap.get? b=some o->H b=none->(MD s₁.heap H).get? b=some o:=fun e n=>hidT_get e n
  have noA:∀ {b:Addr}{o:Obj}{es:Array DictEntry}{ep:Nat},s₁.heap.get? b=some o->o.data = .dict es ep->H b=none:=fun {b o es ep} e d=>by
   cases q:H b with
   | none=>rfl
   | some u =>
    have e':b=a:=hA b (by rw [q];simp);subst e';rw [ha] at e;cases e;have d':Data.seq vs.toArray _=Data.dict es ep:=d;cases d'
  have nsK:∀ {b:Addr}{m:Str->Option Value},s₁.heap.Ns b m->(MD s₁.heap H).Ns b m:=fun {b m} ⟨o,es,ep,e,d,r⟩=>⟨o,es,ep,base_of e (noA e d),d,r⟩
  have hKb:K.In (MD s₁.heap H):=fun b o e=>base_of (KX b o e) (by
   cases q:H b with
   | none=>rfl
   | some u =>
    have e':b=a:=hA b (by rw [q];simp);subst e'
    rw [hK (by rw [q];simp)] at e;cases e)
  have hM:Mod K mg (MD s₁.heap H):=⟨hKb,nsK hns,⟨mb,nsK hb,hbb⟩,let ⟨mc,h1,h2⟩:=hlim;⟨mc,nsK h1,h2⟩⟩;have e0:Env0 P w K mg (MD s₁.heap H) callerA [] s₁ H:=⟨rfl,hM,fun b o e=>of_hidT e,Nat.le_of_eq (Qm _ _),trivial,fun b hb=>absurd (show b∈([]:List Addr) from hb) (by simp),hok,.of_eq hg⟩;refine codeAny_mono ((F _ hKb (nsK hns)).run callerA [] s₁ H ⟨[.ref a],[]⟩ [.ref a] [.ref a] _ _ hr e0 (hbind s₁ (.ref a)) (.cons rfl .nil) (hsp H hO hS)) fun r s' h=>?_
  cases r with
  | error e=>exact (hCX H e s' h).elim
  | ok fl =>
   cases fl with
   | next=>exact False.elim h
   | brk=>exact False.elim h
   | cont=>exact False.elim h
   | ret u =>
    obtain ⟨v,H',os,bare,un,hok',r',q⟩:=h;have q':v = .bl true:=q;subst q';obtain rfl:u=Value.bool true:=r';refine ⟨rfl,OldK.of_keep fun b o e=>?_,os,bare⟩
    cases q:H b with
    | none=>exact un.keep b o e q (by intro z;exact absurd (show b∈([]:List Addr) from z) (by simp)) (by simp)
    | some u =>
     rcases hO b with z | ⟨ob,xs,z⟩
     ·rw [q] at z;cases z
     ·have z2:=un.frzs b ob _ z;obtain ⟨e1,_⟩:=hok b _ z;obtain ⟨e2,_⟩:=hok' b _ z2;rw [e] at e1;cases e1;exact e2
 cases hk:K.lookup a with
 | some o =>
  have e:=KX a o hk;rw [ha] at e;cases e;refine core (fun _=>none) (fun _=>.inl rfl) (.inr ⟨_,vs.toArray,_,hk,rfl,rfl,rfl,by rw [qrB,lenV];exact hl,by simpa using rv⟩) (fun b u z=>by have z':(none:Option HO)=some u:=z;cases z') (fun b z=>absurd rfl z) fun z=>absurd rfl z
 | none =>
  refine core (fun b=>if b=a then some (.frz { cls:=.type "list",data:=.seq vs.toArray } (.lst (ns.map V.int))) else none) (fun b=>?_) (.inl (.inr ⟨{ cls:=.type "list",data:=.seq vs.toArray },if_pos rfl⟩)) (fun b u z=>?_) (fun b z=>?_) fun _=>hk
  ·by_cases hb:b=a
   ·exact .inr ⟨_,_,if_pos hb⟩
   ·exact .inl (if_neg hb)
  ·by_cases hb:b=a
   ·have z':=(if_pos hb).symm.trans z;cases z';subst hb;exact ⟨ha,by rw [qeA];exact hl,vs,_,rv,ha⟩
   ·have z':=(if_neg hb).symm.trans z;cases z'
  ·by_cases hb:b=a
   ·exact hb
   ·exact absurd (if_neg hb) z
theorem walk_of {l:PySem.W.OpenLaw}{n k:Nat}{q:Program}{loose:List Str}{XP:(Str->Option Value)->Heap->Prop}{YP:World->Heap->Prop}{d:DefRec}{K:Params->FZ9}{CX:World->CXT}{sp:World->Sp}{x:Str}
  (hn:l.most=some n) (hn2:n<=sizeLine) (hdf:d.params.defaults=[]) (hr:Room k callerA)
  (hY:∀ (w:World) (h:Heap),YP w h->(K w.params).In h)
  (F:∀ (w:World) (mg:Str->Option Value) (fa:Addr) (h:Heap),(K w.params).In h->h.Ns mainGlobals mg->mg d.name=some (.ref fa) ->
   ∃ fd:FuncData,(∀ (s:Shared) (u:Value),BindsTo s fd ⟨[u],[]⟩ [(x,u)]) /\
    ∀ base:Heap,(K w.params).In base->base.Ns mainGlobals mg->FnOk l.prog w (K w.params) mg base (CX w) k fa fd [x] (sp w))
  (hsp:∀ (w:World) (H:Hp) (a:Addr) (ns:List Int),ns.length<=n->Only H->SqL (K w.params) H a (ns.map V.int)->sp w [.ref a] H (fun v _=>v = .bl true) fun _ _ _=>False)
  (hCX:∀ (w:World) (H:Hp) (s:Shared) (e:Value) (s':Shared),CX w [] H s (fun _ _ _=>False) e s'->False) :
  PySem.W.WalkO q loose XP YP l.row.toRowW d [] (fun f vs=>PySem.call f vs):=by
 refine Att.attach_call hn hdf fun w s₀ s₁ mg mb fa o pm cd doc a vs ns G Y ho hd hcd hmg hobj hints hlen hg=>?_;have KX:=hY w _ Y;obtain ⟨fd,hb,hF⟩:=F w mg fa _ KX G.T.g hmg;exact law_call KX G.T.g G.T.b G.T.builtins G.T.nolimit hg hobj hints (qdB hlen hn2) hr hF hb (fun H hO hS=>hsp w H a ns hlen hO hS) fun H e s'=>hCX w H s₁ e s'
def Ef (s:Stmt):Arguments:=match s with
 | .FunctionDef _ a _ _ _ _ _ _ _ _=>a
 | _=>{ posonlyargs:=[],args:=[],vararg:=none,kwonlyargs:=[],kw_defaults:=[],kwarg:=none,defaults:=[] }
def CW (s:Stmt):List Stmt:=match s with
 | .FunctionDef _ _ b _ _ _ _ _ _ _=>b
 | _=>[]
def AE (s:Stmt):Scope:=match s with
 | .FunctionDef _ _ _ _ _ _ sc _ _ _=>sc
 | _=>{ kind:=.function,names:=[],isGenerator:=false,isCoroutine:=false }
abbrev CX0:CXT:=fun _ _ _ _ _ _=>False
abbrev E0:XK:=fun _ _ _=>False
theorem pass0 {X:Cx}:OM CX0 X E0:=fun _ _ _ _ _ _ _ h=>h.elim
structure Fun (K:FZ9)(x qual:Str)(st:Stmt)(f:Addr)(fd:FuncData):Prop where
 ex:∃ (oc:Value) (od:Option Addr) (kV doc pm:Value) (an:Option Addr) (cdv ct:Value) (osl:Array (Option Value)),
  fd=qvB x qual (Ef st) (CW st) (AE st) .none kV doc pm an cdv ct/\K.lookup f=some ⟨oc,od,.func fd,osl⟩/\PySem.W.codeIn K cdv qual=true
 kp:quB K (.ref f)=true
section
variable {P:Program}{w:World}{K:FZ9}{mg:Str->Option Value}{base:Heap}
theorem Fun.ok {x qual:Str}{st:Stmt}{f:Addr}{fd:FuncData}{N ps:List Str}{k:Nat}{sp:Sp}(F:Fun K x qual st f fd)(S:FnScope N ps (AE st))(len:∀ vs H Q E,sp vs H Q E->vs.length=ps.length)
  (hbody:∀ (cdv:Value) (A:Around) (outer:List Env) (s:Shared) (H:Hp) (vs:List V) (Q:VK) (E:XK),Room k (A.deeper (envOfC qual (AE st) s.heap.objs.size f cdv))->sp vs H Q E ->
   ∃ t,PSs (JG CX0 P w K mg base N qual (AE st) f cdv A outer s H E).nox (CW st) t/\t { nx:=fun _ H'=>Q .non H',rt:=Q } (start N vs) H):FnOk P w K mg base CX0 (k+1) f fd ps sp:=by
 obtain ⟨oc,od,kV,doc,pm,an,cdv,ct,osl,rfl,lk,hcd⟩:=F.ex;refine fn_of lk hcd S len fun A outer s H vs Q E hr hsp=>?_;obtain ⟨t,h,q⟩:=hbody cdv A outer s H vs Q E hr hsp;exact ⟨t,h.nox,q⟩
theorem Fun.binds {x qual:Str}{st:Stmt}{f:Addr}{fd:FuncData}{ps:List Str}(F:Fun K x qual st f fd)
  (h:∀ (kV doc pm:Value) (an:Option Addr) (cdv ct:Value) (us:List Value),us.length=ps.length->bindArgs (qvB x qual (Ef st) (CW st) (AE st) .none kV doc pm an cdv ct) ⟨us,[]⟩=pure (ps.zip us)):Binds K fd ps []:=by
 obtain ⟨oc,od,kV,doc,pm,an,cdv,ct,osl,rfl,lk,hcd⟩:=F.ex;exact .all (h kV doc pm an cdv ct)
theorem fun_mk {x qual:Str}{st:Stmt}{f:Addr}{oc:Value}{od an:Option Addr}{osl:Array (Option Value)}{kV doc pm cdv ct:Value}(l:K.lookup f=some ⟨oc,od,.func (qvB x qual (Ef st) (CW st) (AE st) .none kV doc pm an cdv ct),osl⟩)
  (c:PySem.W.codeIn K cdv qual=true) (k:quB K (.ref f)=true):Fun K x qual st f (qvB x qual (Ef st) (CW st) (AE st) .none kV doc pm an cdv ct):=⟨⟨oc,od,kV,doc,pm,an,cdv,ct,osl,rfl,l,c⟩,k⟩
end
section
variable {X:Cx}
theorem pv (i:Nat){x:Str}{pos:Pos}(hN:X.N[i]? = some x:=by rfl)(hv:Vis X.env.scope x:=by first|exact Or.inl rfl|exact Or.inr (Or.inl rfl)|exact Or.inr (Or.inr rfl))(hd:(x == ("__debug__" : Str))=false:=by decide)
  (hcd:(x == ("__classdict__" : Str))=false:=by decide):PE X (.Name x pos) (Hi i):=pe_var hN hv hd hcd
end
theorem Bc {A B:Prop}(h:B):if false=true then A else B:=by
 rw [if_neg qqB];exact h
theorem BZ {A B:Prop}(h:A):if true=true then A else B:=by
 rw [if_pos rfl];exact h
def Same (H H':Hp):Prop:=∀ b o,H b=some o->H' b=some o
theorem Same.refl (H:Hp):Same H H:=fun _ _ h=>h
theorem Same.trans {H H1 H2:Hp}(a:Same H H1)(b:Same H1 H2):Same H H2:=fun c o h=>b c o (a c o h)
theorem Same.free {H H':Hp}(e:Same H H'){l:Addr}(h:H' l=Option.none):H l=Option.none:=by
 cases q:H l with
 | none=>rfl
 | some o =>
  rw [e l o q] at h;cases h
theorem Same.seq {K:FZ9}{H H':Hp}{a:Addr}{xs:List V}(e:Same H H')(h:SqL K H a xs):SqL K H' a xs:=by
 rcases h with (h | ⟨o,h⟩)|h
 ·exact .inl (.inl (e _ _ h))
 ·exact .inl (.inr ⟨o,e _ _ h⟩)
 ·exact .inr h
section
variable {P:Program}{w:World}{H:Hp}{h:Heap}{a:Addr}
theorem rd_of {u:HO}(ok:HOk P w H h)(e:Rd H a u):ObjOk P w H h a u:=e.ok ok
theorem dk_rd {kvs:List (Key × V)}(ok:HOk P w H h)(e:Rd H a (.dK kvs)):kvs.length<=sizeLine/\(a == sysModules)=false/\∃ vs,KV kvs vs/\h.DictOf (Bh P w) a vs :=
 show ObjOk P w H h a (.dK kvs) from rd_of ok e
end
section
variable {X:Cx}{pins:List (Addr × Obj)}{σ:St}{H:Hp}{s:Shared}{a:Addr}{y v:V}{u r:Value}{o:Option V}{A:Around}{E:Value->Shared->Prop}
theorem Inv.big (I:Inv X pins σ H s):sysModules<s.heap.objs.size:=by
 have h:mainGlobals<s.heap.objs.size:=(I.mod.glob.keeps I.bk).lt;exact Nat.lt_trans (by decide) h
end
theorem dk_empty {P:Program}{w:World}{H:Hp}(h:Heap)(hb:sysModules<h.objs.size):ObjOk P w H (h.push { cls:=.type "dict",data:=.dict #[] }) h.objs.size (.dK []) :=
 ⟨qdC _,beq_eq_false_iff_ne.mpr (Ne.symm (qxB hb)),[],.nil,Heap.DictOf.new h⟩
def tDNewK:TE:=fun _ H Q=>∀ p,H p=none->Q (.ref p) (upd H p (.dK []))
section
variable {X:Cx}{pos:Pos}
theorem pe_dnewK:PE X (.Dict [] [] pos) tDNewK:=fun pins s σ H Q I h =>
 wpAny_Dict_empty ⟨.ref s.heap.objs.size,_,I.laid (a:=s.heap.objs.size) (o:=.dK []) (t':=s.toks) (fun _ _ q=>qiB _ q) (qcB _) (dk_empty s.heap I.big),rfl,h _ (I.hok.fresh (qcB _))⟩
end
theorem len_app (x y:Str):(x++y).length=x.length+y.length:=by
 show (x.cps++y.cps).size=_;rw [Array.size_append]
 rfl
theorem Py:("" : Str).cps = #[]:=by decide +kernel
theorem NB:∀ (ps:List Str) (acc:Array Nat),(ps.foldl (fun acc p=>acc++("" : Str).cps++p.cps) acc).toList=acc.toList++(ps.map (·.cps.toList)).flatten
 | [],acc=>by simp
 | p::ps,acc=>by
  rw [qcC,NB ps];simp [Py]
theorem join_cps (ys:List Str):(Txt.join "" ys).cps.toList=(ys.map (·.cps.toList)).flatten:=by
 show ((ys.drop 1).foldl (fun acc p=>acc++("" : Str).cps++p.cps) (ys.headD Str.empty).cps).toList=_;rw [NB]
 cases ys with
 | nil=>rfl
 | cons a r=>simp
theorem Lk:∀ (cs:List Nat),((cs.map fun c=>(⟨#[c]⟩:Str)).map (·.cps.toList)).flatten=cs
 | []=>rfl
 | c::cs=>by
  have:=Lk cs;simp only [qyA,List.flatten_cons];rw [this]
  rfl
theorem O1 (cs:List Nat):(Txt.join "" (cs.map fun c=>(⟨#[c]⟩:Str))).cps.toList=cs:=by
 rw [join_cps,Lk]
theorem Nw:∀ (cs:List Nat),((cs.map fun c=>(⟨#[c]⟩:Str)).map (·.length)).sum=cs.length
 | []=>rfl
 | c::cs=>by
  have:=Nw cs;simp only [qyA,List.sum_cons,this,qgA];show 1+cs.length=_;omega
theorem Pi (a b:Nat):([a] < [b]) ↔ a<b:=by
 rw [List.cons_lt_cons_iff];simp
def Gw (scope:Scope)(env:Env):List (Str × Addr) :=
 (scope.names.filterMap fun p=>if p.2 == NameKind.free then (env.cells.lookup p.1).map fun c=>(p.1,c) else none).reverse
theorem FT {env:Env}:∀ (names:List (Str × NameKind)) (acc:List (Str × Addr)),(∀ y∈names,y.2 = .free->∃ c,env.cells.lookup y.1=some c) ->
  (forIn names acc fun (x:Str × NameKind) (cs:List (Str × Addr))=>(match x with
   | (name,kind)=>if (kind == NameKind.free)=true then do
     let c <- cellOf env name
     pure (ForInStep.yield ((name,c)::cs))
    else pure (ForInStep.yield cs):Sem (ForInStep (List (Str × Addr))))) =
   pure ((names.filterMap fun p=>if p.2 == NameKind.free then (env.cells.lookup p.1).map fun c=>(p.1,c) else none).reverse++acc)
 | [],acc,_=>rfl
 | (n,k)::r,acc,h=>by
  rw [List.forIn_cons];by_cases hk:k = .free
  ·subst hk;obtain ⟨c,hc⟩:=h (n,.free) qqA rfl;have e1:cellOf env n=pure c:=by unfold cellOf;rw [hc]
   have ih:=FT r ((n,c)::acc) fun y hy=>h y (qrA _ hy);simp only [beq_self_eq_true,if_true,e1,pure_bind,List.filterMap_cons,hc,Option.map_some,List.reverse_cons,qaB,List.singleton_append];exact ih
  ·have hb:(k == NameKind.free)=false:=by simpa using hk
   have ih:=FT r acc fun y hy=>h y (qrA _ hy);simp only [hb,Bool.false_eq_true,if_false,pure_bind,List.filterMap_cons];exact ih
theorem Kx {scope:Scope}{env:Env}(h:∀ y∈scope.names,y.2 = .free->∃ c,env.cells.lookup y.1=some c):closureFor scope env=pure (Gw scope env):=by
 have e:=FT (env:=env) scope.names [] h;unfold closureFor;rw [qbB] at e;exact (congrArg (· >>= pure) e).trans (by rfl)
theorem clOf_mem {scope:Scope}{env:Env}{y:Str}{c:Addr}(h:(y,c)∈Gw scope env):(y,NameKind.free)∈scope.names/\env.cells.lookup y=some c:=by
 unfold Gw at h;obtain ⟨⟨n,k⟩,hp,e⟩:=List.mem_filterMap.mp (List.mem_reverse.mp h);by_cases hk:k = .free
 ·subst hk;simp only [beq_self_eq_true,if_true] at e
  cases hc:env.cells.lookup n with
  | none=>rw [hc] at e;cases e
  | some c' =>
   rw [hc] at e;have e':(n,c')=(y,c):=qgB e;cases e';exact ⟨hp,hc⟩
 ·have hb:(k == NameKind.free)=false:=by simpa using hk
  simp only [hb,Bool.false_eq_true,if_false] at e;cases e
theorem FI {scope:Scope}{env:Env}{y:Str}{c:Addr}(h:(Gw scope env).lookup y=some c):env.cells.lookup y=some c:=(clOf_mem (PySem.mem_of_lookup h)).2
theorem HH {α:Type}{y:Str}:∀ {l:List (Str × α)}{c:α},(y,c)∈l->∃ c',l.lookup y=some c'
 | (n,a)::r,c,h=>by
  by_cases e:y=n
  ·subst e;exact ⟨a,by simp [List.lookup_cons]⟩
  ·have hb:(y == n)=false:=by simpa using e
   rcases qmA.mp h with h|h
   ·cases h;exact absurd rfl e
   ·obtain ⟨c',h'⟩:=HH h;exact ⟨c',by simp [List.lookup_cons,hb,h']⟩
theorem N6 {scope:Scope}{env:Env}{y:Str}{c:Addr}(h1:(y,NameKind.free)∈scope.names)(h2:env.cells.lookup y=some c):(Gw scope env).lookup y=some c:=by
 have m:(y,c)∈Gw scope env:=by
  unfold Gw;exact List.mem_reverse.mpr (List.mem_filterMap.mpr ⟨(y,.free),h1,by simp [h2]⟩)
 obtain ⟨c',h'⟩:=HH m;have:=FI h';rw [h2] at this;cases this;exact h'
theorem N1 {scope:Scope}{env:Env}(hcell:∀ y∈scope.names,y.2 ≠ .cell){y:Str}(h:(relabel scope env).names.lookup y=some .cell\/(relabel scope env).names.lookup y=some .free):(y,NameKind.free)∈scope.names:=by
 have m:∃ k,(k = .cell\/k = .free)/\(y,k)∈(relabel scope env).names:=by
  rcases h with h|h
  ·exact ⟨_,.inl rfl,PySem.mem_of_lookup h⟩
  ·exact ⟨_,.inr rfl,PySem.mem_of_lookup h⟩
 obtain ⟨k,hk,hm⟩:=m;unfold relabel at hm;obtain ⟨⟨n,k'⟩,hp,e⟩:=qnA.mp hm;dsimp only at e;by_cases hf:k' = .free
 ·subst hf;split at e<;>(cases e;exact hp)
 ·have hb:(k' == NameKind.free)=false:=by simpa using hf
  rw [hb,Bool.false_and,Bool.false_and,if_neg (by decide)] at e;cases e;rcases hk with hk|hk
  ·exact absurd hk (hcell _ hp)
  ·exact absurd hk hf
def BG (X:Cx)(N:List Str)(scope:Scope)(C:Addr)(s:Shared)(H:Hp)(fp:List Addr):Cx where
 prog:=X.prog
 w:=X.w
 K:=X.K
 mg:=X.mg
 base:=X.base
 A:=X.A
 N:=N
 s₀:=s
 H₀:=H
 env:=compEnvC scope (Gw scope X.env) C X.env
 outer:=X.stack
 stack:=X.stack
 ex:=fp
 fn:=fun _=>false
 calm:=true
 pn:=[]
 xe:=fun _ _=>False
def Caps (X:Cx)(scope:Scope):List Str->List Nat->Prop
 | [],[]=>True
 | x::xs,i::is=>(X.N[i]? = some x/\(X.env.scope.names.lookup x=some .cell\/X.env.scope.names.lookup x=some .free)/\scope.names.lookup x=some .free)/\Caps X scope xs is
 | _,_=>False
theorem Caps.len {X:Cx}{scope:Scope}:∀ {xs:List Str}{is:List Nat},Caps X scope xs is->is.length=xs.length
 | [],[],_=>rfl
 | _::_,_::_,h=>congrArg (· + 1) (Caps.len h.2)
 | [],_::_,h=>h.elim
 | _::_,[],h=>h.elim
theorem Caps.at {X:Cx}{scope:Scope}:∀ {xs:List Str}{is:List Nat}{j:Nat}{x:Str},Caps X scope xs is->xs[j]? = some x->∃ i,is[j]? = some i/\X.N[i]? = some x/\(X.env.scope.names.lookup x=some .cell\/X.env.scope.names.lookup x=some .free)/\scope.names.lookup x=some .free
 | [],[],_,_,_,e=>by simp at e
 | y::_,i::_,0,x,h,e=>by
  simp at e;subst e;exact ⟨i,rfl,h.1⟩
 | _::xs,_::is,j+1,x,h,e=>by
  obtain ⟨i,h1,h2⟩:=Caps.at (j:=j) h.2 (by simpa using e);exact ⟨i,by simpa using h1,h2⟩
 | [],_::_,_,_,h,_=>h.elim
 | _::_,[],_,_,h,_=>h.elim
def C7 (cap:List Nat)(σ:St):St:=none::cap.map fun i=>(σ[i]?).join
def PTs (X:Cx)(ifs:List Expr)(t:TT):Prop :=
 ∀ (pins:List (Addr × Obj)) (s:Shared) (σ:St) (H:Hp) (Q:Bool->Hp->Prop),Inv X pins σ H s->t σ H Q ->
  wpAny (model X.prog X.w) X.A (forIn ifs true fun c r=>if r=true then do let ok <- isTrue c X.env (eval c X.env);pure (ForInStep.yield ok) else pure (ForInStep.yield r)) (TP X pins σ Q) X.xe s
def Q3:TT:=fun _ H Q=>Q true H
theorem Bb {X:Cx}:PTs X [] Q3:=fun _ _ _ H _ I h=>wpAny_tests_nil ⟨H,I,h⟩
theorem pts_one {X:Cx}{c:Expr}{t:TT}(h:PT X c t):PTs X [c] t:=fun pins s σ H Q I q=>wpAny_tests_one (h pins s σ H Q I q)
theorem Mk {prog:Program}{w:World}{A:Around}{R:Result->Shared->Prop}{s:Shared}{elt target iter:Expr}{ifs:List Expr}{scope:Scope}{pos:Pos}{it acc:Value}{env:Env}(I:Nat->Shared->Prop)
  (turn:∀ n s,I n s->wpAny (model prog w) A (pyNext it) (fun r s₁=>match r with
   | none=>R (.ok .next) s₁
   | some v=>wpAny (model prog w) A (letOwnedTupleGo target it v) (fun _ s₁'=>wpAny (model prog w) A (assign target env v) (fun _ s₂ =>
     wpAny (model prog w) A (forIn ifs true fun c r=>if r=true then do let ok <- isTrue c env (eval c env);pure (ForInStep.yield ok) else pure (ForInStep.yield r)) (fun ok s₃ =>
      if ok=true then wpAny (model prog w) A (eval elt env) (fun x s₄ =>
       wpAny (model prog w) A (call (.builtin "list.append") [acc,x]) (fun _ s₅=>∃ m,m<n/\I m s₅) (fun _ _=>False) s₄) (fun _ _=>False) s₃
      else ∃ m,m<n/\I m s₃) (fun _ _=>False) s₂) (fun _ _=>False) s₁') (fun _ _=>False) s₁) (fun _ _=>False) s)
  (n:Nat) (h:I n s) :
  codeAny (model prog w) A (.compLoop (.ListComp elt [⟨target,iter,ifs,0⟩] scope pos) 0 it acc env) R s:=by
 refine codeAny_loop rfl I (fun n s hI=>?_) n h;show wpAny _ A ((compTurn (.ListComp elt [⟨target,iter,ifs,0⟩] scope pos) 0 it acc env).onRaise (fun x=>do noteFrame x env;theTreesLotGoes x)) _ _ s;refine wpAny_noted ?_;rw [compTurn_list];refine qbA (wpAny_standAt (qbA (wpAny_mono (turn n s hI) (fun r s₁ h₁=>?_) fun _ _ h'=>h'.elim)))
 cases r with
 | none=>exact qcA h₁
 | some v =>
  refine qbA (wpAny_mono h₁ (fun _ s₁' h₁'=>?_) fun _ _ h'=>h'.elim);refine qbA (wpAny_mono h₁' (fun _ s₂ h₂=>qbA (wpAny_mono h₂ (fun ok s₃ h₃=>?_) fun _ _ h'=>h'.elim)) fun _ _ h'=>h'.elim)
  cases ok with
  | false=>exact qcA ⟨rfl,h₃⟩
  | true =>
   exact qbA (qbA (wpAny_mono h₃ (fun x s₄ h₄=>qbA (wpAny_mono h₄ (fun _ s₅ h₅=>qcA (qcA ⟨rfl,h₅⟩)) fun _ _ h'=>h'.elim)) fun _ _ h'=>h'.elim))
def M7 (cap:List Nat)(wi:TI)(tc:TT)(te:TE):TE:=fun σ H Q=>wi σ H fun J H1=>∀ p,H1 p=none ->
 ∃ W:Nat->Nat->List V->Hp->Prop,(∃ m,W 0 m [] (upd H1 p (.lst [])))/\∀ i m xs H2,W i m xs H2 ->
  (J.stop i H2/\Q (.ref p) H2)\/(J.go i H2/\∃ N:List V->Hp->Prop,(∀ xs' H',N xs' H'->∃ m',m'<m/\W (i+1) m' xs' H') /\
   ∀ x H3,J.yld i H2 x H3->tc ((C7 cap σ).set 0 (some x)) H3 fun b H5=>if b=true then te ((C7 cap σ).set 0 (some x)) H5 fun v H6=>H6 p=some (.lst xs)/\xs.length<sizeLine/\N (xs++[v]) (upd H6 p (.lst (xs++[v]))) else N xs H5)
section
variable {X:Cx}{pins:List (Addr × Obj)}{σ:St}
structure CompScope (X:Cx)(scope:Scope):Prop where
 cell:∀ y∈scope.names,y.2 ≠ .cell
 kind:scope.kind = .function
 names:∀ y∈scope.names,y.2 = .local -> scope.names.lookup y.1=some .local
 free:∀ y∈scope.names,y.2 = .free->X.env.scope.names.lookup y.1=some .cell\/X.env.scope.names.lookup y.1=some .free
theorem CompScope.clos {scope:Scope}{H:Hp}{s:Shared}(S:CompScope X scope)(I:Inv X pins σ H s):closureFor scope X.env=pure (Gw scope X.env) :=
 Kx fun y hy hf=>I.ok.has y.1 (S.free y hy hf)
theorem KR {scope:Scope}{x:Str}{cn:List Str}{cap:List Nat}{s3:Shared}{H3:Hp}{fp:List Addr}{h₁:Heap}{tk:Nat}{H2:Hp}(S:CompScope X scope)(I:Inv X pins σ H3 s3)(hc:X.calm=true)(hcap:Caps X scope cn cap)
  (f2:∀ b∈fp,Hg X pins H2 b) (lt:∀ b∈fp,b<s3.heap.objs.size) (keep:∀ b o,s3.heap.get? b=some o->h₁.get? b=some o) (hns:h₁.Ns s3.heap.objs.size fun _=>none) :
  Inv (BG X (x::cn) scope s3.heap.objs.size s3 H3 fp) [] (C7 cap σ) H3 { s3 with heap:=h₁,toks:=tk }:=by
 have noS:∀ b o,X.base.get? b=some o->b<X.s₀.heap.objs.size:=fun b o e=>qzB (qhB e) I.ok.bsz
 refine ⟨⟨I.ok.mod,S.kind,I.ok.glob,I.ok.blt,qcB _,fun y z c h1 h2=>I.ok.inj y z c (FI h1) (FI h2),fun y hy=>?_,fun y c h=>?_,fun _=>I.ok.hd hc,I.ok.frames,.inl rfl,fun b hb=>⟨qxB (lt b hb),fun y c h=>(f2 b hb).2.2.2.2.1 y c (FI h)⟩,
  I.bs,qdB I.ok.bsz I.sz,fun b o e hb=>?_,fun b hb z=>?_,I.stack,I.stkFree⟩,rfl,I.bare,Un.kept keep,⟨_,hns,fun i y v e1 e2 e3=>?_⟩,fun y c e=>?_,I.hok.fresh (qcB _),fun y c e=>I.freeC y c (FI e),fun p hp=>absurd (show p∈([]:List (Addr × Obj)) from hp) (by simp),I.hok.kept keep,?_⟩
 ·have m:=N1 S.cell hy;obtain ⟨c,hc'⟩:=I.ok.has y (S.free _ m rfl);exact ⟨c,N6 m hc'⟩
 ·cases h
 ·rcases (f2 b hb).2.2.2.1 with z|z
  ·exact I.ok.noex b o e z
  ·exact absurd (qzB (noS b o e) z) (qeB _)
 ·rcases qmA.mp (I.stkSub b z) with e|e
  ·exact (f2 b hb).2.1 e
  ·exact (f2 b hb).2.2.1 e
 ·cases i with
  | zero =>
   have e2:(some none:Option (Option V))=some (some v):=e2;cases e2
  | succ j =>
   have e1:cn[j]? = some y:=e1;obtain ⟨k,hk,hN,hkind,hfr⟩:=hcap.at e1;have e2:(cap.map fun i=>(σ[i]?).join)[j]? = some (some v):=e2;rw [qxA,hk] at e2;have e2:(σ[k]?).join=some v:=qgB e2
   have e2:σ[k]? = some (some v):=by
    cases q:σ[k]? with
    | none=>rw [q] at e2;cases e2
    | some o=>rw [q] at e2;cases o with
     | none=>cases e2
     | some v'=>have e2:some v'=some v:=e2;rw [e2]
   obtain ⟨m,hn,hl⟩:=I.loc;obtain ⟨u,r,l⟩:=hl k y v hN e2 (.inr hkind);refine ⟨u,r,?_⟩;rcases l with ⟨kl,_⟩ | ⟨_,c,hc',o,ho,hd⟩
   ·have kl:X.env.scope.names.lookup y=some .local := kl;rw [kl] at hkind;rcases hkind with z|z<;>cases z
   ·refine .inr ⟨?_,c,N6 (PySem.mem_of_lookup hfr) hc',o,keep c o ho,hd⟩;rcases e3 with z|z
    ·
     exfalso;have z:(relabel scope X.env).names.lookup y=some .local := z;have hm:=PySem.mem_of_lookup z;unfold relabel at hm;obtain ⟨⟨n,k'⟩,hp,e⟩:=qnA.mp hm;dsimp only at e
     have hl2:(y,NameKind.local)∈scope.names:=by
      split at e
      ·cases e
      ·cases e;exact hp
     have:=S.names _ hl2 rfl;rw [hfr] at this;cases this
    ·exact z
 ·obtain ⟨v,o,ho,hd⟩:=I.cell y c (FI e);exact ⟨v,o,keep c o ho,hd⟩
 ·show (C7 cap σ).length=(x::cn).length;unfold C7;rw [qgA,qeA,hcap.len,qgA]
theorem IG {scope:Scope}{N:List Str}{C:Addr}{s3 s':Shared}{H2 H3 Hf:Hp}{fp:List Addr}{pins':List (Addr × Obj)}{σ':St}(I:Inv X pins σ H3 s3)(J:Inv (BG X N scope C s3 H3 fp) pins' σ' Hf s')(f2:∀ b∈fp,Hg X pins H2 b):Inv X pins σ Hf s' :=
 I.call' (ch:=fp) J.os J.base J.hok J.bare fun b hb=>⟨(f2 b hb).2.2.2.1,(f2 b hb).2.1,(f2 b hb).2.2.2.2.1,(f2 b hb).2.2.2.2.2⟩
theorem Lw {scope:Scope}{x:Str}{px pos:Pos}{elt iter:Expr}{ifs:List Expr}{cn:List Str}{cap:List Nat}{s2:Shared}{H2:Hp}{it:Addr}{fp:List Addr}{tn:Nat->Heap->Prop}{J:It}{tc:TT}{te:TE}{Q:VK}{RR:Value->Addr->Result->Shared->Prop}{E:Value->Shared->Prop}
  (S:CompScope X scope) (I2:Inv X pins σ H2 s2) (hc:X.calm=true) (hcap:Caps X scope cn cap) (hx:scope.names.lookup x=some .local) (hnd:(x::cn).Nodup)
  (T:Turn X.prog X.w X.K (.Name x px) J fp it tn) (st2:tn 0 s2.heap) (f2:∀ b∈fp,Hg X pins H2 b)
  (body:∀ (C:Addr) (s:Shared) (H:Hp) (fp:List Addr),PTs (BG X (x::cn) scope C s H fp) ifs tc/\PE (BG X (x::cn) scope C s H fp) elt te)
  (q:∀ p,H2 p=none->∃ W:Nat->Nat->List V->Hp->Prop,(∃ m,W 0 m [] (upd H2 p (.lst [])))/\∀ i m xs H3,W i m xs H3 ->
   (J.stop i H3/\Q (.ref p) H3)\/(J.go i H3/\∃ N:List V->Hp->Prop,(∀ xs' H',N xs' H'->∃ m',m'<m/\W (i+1) m' xs' H') /\
    ∀ v H4,J.yld i H3 v H4->tc ((C7 cap σ).set 0 (some v)) H4 fun b H5=>if b=true then te ((C7 cap σ).set 0 (some v)) H5 fun v H6=>H6 p=some (.lst xs)/\xs.length<sizeLine/\N (xs++[v]) (upd H6 p (.lst (xs++[v]))) else N xs H5))
  (hRR:∀ (p C:Addr) (s3 s':Shared) (H3 Hf:Hp) (σ':St),Inv X pins σ H3 s3->s3.heap.objs.size=C->Inv (BG X (x::cn) scope C s3 H3 fp) [] σ' Hf s'->Q (.ref p) Hf->RR (.ref p) C (.ok .next) s') :
  wpAny (model X.prog X.w) X.A (newList []) (fun acc s₃=>wpAny (model X.prog X.w) X.A (newFunctionEnv scope X.env.globals (Gw scope X.env) [] X.env.qual none .none (some X.env)) (fun cenv s₄ =>
   codeAny (model X.prog X.w) X.A (.compStart (.ListComp elt [⟨.Name x px,iter,ifs,0⟩] scope pos) 0 (.ref it) acc { cenv with scope:=relabel scope X.env }) (RR acc cenv.locals) s₄) E s₃) E s2:=by
 refine wpAny_newObj_type (wpAny_newFunctionEnv S.cell (by intro y hy;simp at hy) (fun h₁ hns₁ hsb₁=>?_) S.kind);dsimp only at hns₁ hsb₁ ⊢;have hfr:H2 s2.heap.objs.size=none:=I2.hok.fresh (qcB _);obtain ⟨W,⟨m0,w0⟩,turn⟩:=q _ hfr
 have I3:Inv X pins σ (upd H2 s2.heap.objs.size (.lst [])) { s2 with heap:=s2.heap.push { cls:=.type "list",data:=.seq ([]:List Value).toArray } } :=
  I2.lnew (its:=[]) (t':=s2.toks) .nil (qdC _)
 generalize hs3:({ s2 with heap:=s2.heap.push { cls:=.type "list",data:=.seq ([]:List Value).toArray } }:Shared)=s3 at I3;have hs3h:s3.heap=s2.heap.push { cls:=.type "list",data:=.seq ([]:List Value).toArray }:=by rw [<- hs3]
 have hst3:tn 0 s3.heap:=T.keep _ _ _ st2 fun b hb o e=>by rw [hs3h];exact qiB _ e
 have ltf:∀ b∈fp,b<s3.heap.objs.size:=fun b hb=>by
  obtain ⟨o,e,_⟩:=T.obj _ _ hst3 b hb;exact qhB e
 have hC:(s2.heap.push { cls:=.type "list",dict:=none,data:=.seq ([]:List Value).toArray }).objs.size=s3.heap.objs.size:=by rw [hs3h]
 rw [hC] at hns₁ hsb₁ ⊢
 have keep:∀ b o,s3.heap.get? b=some o->h₁.get? b=some o:=fun b o e=>by
  refine hsb₁.extBut b o (qxB (qhB e)) (qiB _ ?_);rw [hs3h] at e;exact e
 have J4:Inv (BG X (x::cn) scope s3.heap.objs.size s3 (upd H2 s2.heap.objs.size (.lst [])) fp) [] (C7 cap σ) (upd H2 s2.heap.objs.size (.lst [])) { s3 with heap:=h₁,toks:=s2.toks+([]:List (Str × Value)).length } :=
  KR S I3 hc hcap f2 ltf keep hns₁
 have st4:tn 0 h₁:=T.keep _ _ _ hst3 fun b hb o e=>keep b o e
 have fr4:∀ b∈fp,(upd H2 s2.heap.objs.size (.lst [])) b=none:=fun b hb=>by
  obtain ⟨o,e,_⟩:=T.obj _ _ st2 b hb;rw [Af (qxB (qhB e))];exact (f2 b hb).1
 have hst:({ s2 with heap:=h₁,toks:=s2.toks+([]:List (Str × Value)).length }:Shared) = { s3 with heap:=h₁,toks:=s2.toks+([]:List (Str × Value)).length }:=by rw [<- hs3]
 have loop:codeAny (model X.prog X.w) X.A (.compLoop (.ListComp elt [⟨.Name x px,iter,ifs,0⟩] scope pos) 0 (.ref it) (.ref s2.heap.objs.size) (compEnvC scope (Gw scope X.env) s3.heap.objs.size X.env))
   (RR (.ref s2.heap.objs.size) s3.heap.objs.size) { s2 with heap:=h₁,toks:=s2.toks+([]:List (Str × Value)).length }:=by
  rw [hst];generalize hX':BG X (x::cn) scope s3.heap.objs.size s3 (upd H2 s2.heap.objs.size (.lst [])) fp=X' at J4
  have hfpk:∀ {Hc:Hp},(∀ b∈fp,Hc b=none)->∀ b∈fp,Hg X' [] Hc b:=fun {Hc} hn b hb=>by
   subst hX';refine ⟨hn b hb,(J4.ok.exf b hb).1,J4.ok.exfs b hb,.inl hb,(J4.ok.exf b hb).2,fun p hp=>absurd (show p∈([]:List (Addr × Obj)) from hp) (by simp)⟩
  refine Mk (fun n s'=>∃ i xs Hc,Inv X' [] (C7 cap σ) Hc s'/\tn i s'.heap/\(∀ b∈fp,Hc b=none)/\W i n xs Hc) ?_ m0 ⟨0,[],_,J4,st4,fr4,w0⟩;rintro n s5 ⟨i,xs,Hc,I5,st5,fr5,w5⟩;have B:=body s3.heap.objs.size s3 (upd H2 s2.heap.objs.size (.lst [])) fp;rcases turn i n xs Hc w5 with ⟨stop,qn⟩ | ⟨go,N,hN,step⟩
  ·subst hX';refine thn (T.done (BG X (x::cn) scope s3.heap.objs.size s3 (upd H2 s2.heap.objs.size (.lst [])) fp) rfl rfl rfl rfl i [] s5 (C7 cap σ) Hc (fun _ _=>False) I5 (hfpk fr5) st5 stop) fun r s6 ⟨hr,I6⟩=>?_;subst hr;exact hRR _ _ s3 s6 _ Hc _ I3 rfl I6 qn
  ·subst hX';refine thn (T.item (BG X (x::cn) scope s3.heap.objs.size s3 (upd H2 s2.heap.objs.size (.lst [])) fp) rfl rfl rfl rfl i [] s5 (C7 cap σ) Hc (fun _ _=>False) I5 (hfpk fr5) st5 go) fun r s6 ⟨u,hr,h6⟩=>?_;subst hr;refine thn h6 fun _ s7 ⟨v,H7,I7,r7,y7,st7,fr7⟩=>?_;have I7':=I7.pinned (hfpk fr7) (T.obj _ _ st7);have hlook:(relabel scope X.env).names.lookup x=some .local := lookup_relabel_local hx;refine wpAny_assign_Name (GK (X:=BG X (x::cn) scope s3.heap.objs.size s3 (upd H2 s2.heap.objs.size (.lst [])) fp) I7' (i:=0) hnd rfl (.inl hlook) r7 (fun s8 I8=>?_) (.inr hlook))
   have again:∀ {s9:Shared}{H9:Hp}{ys:List V},Inv (BG X (x::cn) scope s3.heap.objs.size s3 (upd H2 s2.heap.objs.size (.lst [])) fp) ([]++Ij fp s7.heap) ((C7 cap σ).set 0 (some v)) H9 s9->N ys H9 ->
     ∃ m,m<n/\∃ i xs Hc,Inv (BG X (x::cn) scope s3.heap.objs.size s3 (upd H2 s2.heap.objs.size (.lst [])) fp) [] (C7 cap σ) Hc s9/\tn i s9.heap/\(∀ b∈fp,Hc b=none)/\W i m xs Hc:=fun {s9 H9 ys} I9 n9=>by
    obtain ⟨m',hm,w9⟩:=hN ys H9 n9;refine ⟨m',hm,i+1,ys,H9,(I9.unpinned (pins:=[])).weak (by simp [C7]) (fun j w e=>?_),T.keep _ _ _ st7 fun b hb o e=>(I9.pin (b,o) (qaC _ (qaC _ (DX hb e)))).1,fun b hb=>?_,w9⟩
    ·cases j with
     | zero =>
      have e:(some none:Option (Option V))=some (some w):=e;cases e
     | succ j=>exact e
    ·obtain ⟨o,e,_⟩:=T.obj _ _ st7 b hb;exact (I9.pin (b,o) (qaC _ (qaC _ (DX hb e)))).2.1
   refine thn (B.1 _ s8 _ H7 _ I8 (step v H7 y7)) fun ok s9 ⟨H9,I9,q9⟩=>?_
   cases ok with
   | false =>
    rw [if_neg qqB] at q9 ⊢;exact again I9 q9
   | true =>
    rw [if_pos rfl] at q9 ⊢;refine thn (B.2 _ s9 _ H9 _ I9 q9) fun uy s10 ⟨y,H10,I10,r10,hp,hl,n10⟩=>?_;refine thn (Il _ s10 _ H10 (.ref s2.heap.objs.size) [y] (.ref s2.heap.objs.size) [uy] (fun _ H11=>N (xs++[y]) H11) I10 rfl (.cons r10 .nil) ⟨_,xs,y,rfl,rfl,hp,hl,n10⟩) fun _ s11 ⟨_,H11,I11,_,n11⟩=>?_;exact again I11 n11
 exact codeAny_compStart_list loop (T.self _ _ _ _ _ st4 loop)
theorem CU {scope:Scope}{x:Str}{px pos:Pos}{elt iter:Expr}{ifs:List Expr}{cn:List Str}{cap:List Nat}{wi:TI}{tc:TT}{te:TE}
  (hc:X.calm=true) (S:CompScope X scope) (hx:scope.names.lookup x=some .local) (hnd:(x::cn).Nodup) (hcap:Caps X scope cn cap) (hi:PI X (.Name x px) iter wi)
  (body:∀ (C:Addr) (s:Shared) (H:Hp) (fp:List Addr),PTs (BG X (x::cn) scope C s H fp) ifs tc/\PE (BG X (x::cn) scope C s H fp) elt te)
  (hs:∀ x,foldedSetIterable iter X.env x=pure x:=by intro _;rfl):PE X (.ListComp elt [⟨.Name x px,iter,ifs,0⟩] scope pos) (M7 cap wi tc te):=by
 intro pins s σ H Q I h;rw [eval_ListComp];refine wpAny_comprehension_free (use:=none) rfl hs (S.clos I) S.kind S.names (thn (hi pins s σ H _ I h) fun xv s1 h1=>thn h1 fun itv s2 h2=>?_);obtain ⟨it,fp,tn,J,H2,e,I2,T,st2,f2,q⟩:=h2;subst e;refine Lw (RR:=fun acc C=>compPost (model X.prog X.w) X.A X.xe none (EP X pins σ Q) acc C) S I2 hc hcap hx hnd T st2 f2 body q ?_;intro p C s3 s' H3 Hf σ' I3 hC J' qf;subst hC;have I4:=IG I3 J' f2;obtain ⟨m,hn,_⟩:=J'.loc;refine ⟨m,hn,fun h' hs'=>?_⟩;refine ⟨.ref p,Hf,?_,rfl,qf⟩;have f:=I3.fpOk (H':=Hf) (qcB _) J'.free;exact I4.turned (t':=s'.toks) (it:=s3.heap.objs.size) (fun b o hb e=>(hs'.2 b hb).trans e) f.1 f.2.1 f.2.2.2.1 f.2.2.2.2.1 f.2.2.2.2.2
theorem D1 {scope:Scope}{x y:Str}{px py pos spos:Pos}{elt iter:Expr}{ifs:List Expr}{cn:List Str}{cap:List Nat}{wi:TI}{tc:TT}{te:TE}{i:Nat}
  (hN:X.N.Nodup) (hi:X.N[i]? = some y) (hy:Loc X.env.scope y) (hc:X.calm=true) (S:CompScope X scope) (hx:scope.names.lookup x=some .local) (hnd:(x::cn).Nodup) (hcap:Caps X scope cn cap) (hit:PI X (.Name x px) iter wi)
  (body:∀ (C:Addr) (s:Shared) (H:Hp) (fp:List Addr),PTs (BG X (x::cn) scope C s H fp) ifs tc/\PE (BG X (x::cn) scope C s H fp) elt te)
  (hsw:swapsWith (.ListComp elt [⟨.Name x px,iter,ifs,0⟩] scope pos) (some (.Name y py)) spos.line X.env=pure true:=by rfl)
  (hf:X.fn y=true\/X.env.scope.names.lookup y=some .local := by first|exact .inl rfl|exact .inr rfl|assumption)
  (hs:∀ x,foldedSetIterable iter X.env x=pure x:=by intro _;rfl):PS X (.Assign [.Name y py] (.ListComp elt [⟨.Name x px,iter,ifs,0⟩] scope pos) spos) (Q9 (M7 cap wi tc te) (HM i)):=by
 intro pins s σ H D I h;rw [exec_Assign_Name_used _ _ _ _ hsw];refine qbA (wpAny_standAt (qbA ?_));show wpAny _ X.A (do let _ <- comprehension (.ListComp elt [⟨.Name x px,iter,ifs,0⟩] scope pos) scope X.env _ (newList []) false (eval iter X.env) (some (assign (.Name y py) X.env))) _ _ s
 refine qbA (wpAny_mono (wpAny_comprehension_free (use:=some (assign (.Name y py) X.env)) (Q:=fun _ s'=>SP X pins D .next s') rfl hs (S.clos I) S.kind S.names
  (thn (hit pins s σ H _ I h) fun xv s1 h1=>thn h1 fun itv s2 h2=>?_)) (fun _ s' hq=>qcA (qcA hq)) fun _ _ e=>e)
 obtain ⟨it,fp,tn,J,H2,e,I2,T,st2,f2,q⟩:=h2;subst e;refine Lw (Q:=fun v H1=>HM i v σ H1 D.nx) (RR:=fun acc C=>compPost (model X.prog X.w) X.A X.xe (some (assign (.Name y py) X.env)) (fun _ s'=>SP X pins D .next s') acc C) S I2 hc hcap hx hnd T st2 f2 body q ?_;intro p C s3 s' H3 Hf σ' I3 hC J' qf;subst hC;have I4:=IG I3 J' f2;obtain ⟨m,hn,_⟩:=J'.loc;have f:=I3.fpOk (H':=Hf) (qcB _) J'.free;show wpAny _ X.A (assign (.Name y py) X.env (.ref p)) _ _ _;refine wpAny_assign_Name (Lv (v:=V.ref p) I4 hN hi hy rfl (fun s'' I5 ch=>?_) hf);obtain ⟨a,hsb,ha⟩:=ch
 have hCa:s3.heap.objs.size≠a:=by
  rcases ha with rfl|ha
  ·exact f.2.1
  ·exact fun z=>f.2.2.2.2.1 y a ha z.symm
 refine ⟨m,hn.sameBut hsb hCa,fun h' hs'=>?_⟩;exact ⟨_,Hf,I5.turned (t':=s''.toks) (it:=s3.heap.objs.size) (fun b o hb e=>(hs'.2 b hb).trans e) f.1 f.2.1 f.2.2.2.1 f.2.2.2.2.1 f.2.2.2.2.2,qf⟩
end
theorem OS:bootBuiltins "len" = some (.builtin "len"):=by decide +kernel
theorem AU:bootBuiltins "isinstance" = some (.builtin "isinstance"):=by decide +kernel
theorem bt_min:bootBuiltins "min" = some (.builtin "min"):=by decide +kernel
theorem K9:bootBuiltins "all" = some (.builtin "all"):=by decide +kernel
theorem LU:bootBuiltins "sorted" = some (.builtin "sorted"):=by decide +kernel
theorem Gp:bootBuiltins "list" = some (.type "list"):=by decide +kernel
theorem Kk:bootBuiltins "tuple" = some (.type "tuple"):=by decide +kernel
theorem bt_int:bootBuiltins "int" = some (.type "int"):=by decide +kernel
theorem Dr:bootBuiltins "str" = some (.type "str"):=by decide +kernel
theorem bt_bool:bootBuiltins "bool" = some (.type "bool"):=by decide +kernel
theorem bt_set:bootBuiltins "set" = some (.type "set"):=by decide +kernel
theorem IJ {X:Cx}{x:Str}{i:Int}{pos:Pos}(hg:Gl X x)(h:∃ t,X.mg x=some (.int i t))(hd:(x == ("__debug__" : Str))=false:=by decide):PE X (.Name x pos) (tC (.int i)):=by
 obtain ⟨t,h⟩:=h;exact Db (u:=.int i t) hg h ⟨t,rfl⟩ hd
def Pu (T c:String):Option Bool:=if (T == c)=true then some true else if PySem.W.kitMeta c=true then (fastBuiltinMro T).map (·.contains (.type c)) else none
theorem kit_of {K:FZ9}{T c:String}{b:Bool}(h:Pu T c=some b):PySem.W.kitOne K (.type T) (.type c)=some b:=by
 unfold Pu at h;unfold PySem.W.kitOne;by_cases e:T=c
 ·subst e;rw [if_pos (by simp)] at h;rw [if_pos (by simp)];exact h
 ·rw [if_neg (by simpa using e)] at h;rw [if_neg (by intro z;exact e (by simpa using z))];exact h
structure DefOk (P:Program)(w:World)(K:FZ9)(mg:Str->Option Value)(base:Heap)(x:Str)(k:Nat)(ps:List Str)(sp:Sp):Prop where
 ex:∃ f fd,FnOk P w K mg base CX0 k f fd ps sp/\mg x=some (.ref f)/\quB K (.ref f)=true/\Binds K fd ps []
section
variable {X:Cx}{x:Str}{k j:Nat}{ps:List Str}{sp:Sp}{e:Expr}{es:List Expr}{t:TA}{p pos:Pos}
theorem AY (F:DefOk X.prog X.w X.K X.mg X.base x k ps sp)(hr:Room j X.A)(hj:k<=j)(hg:Gl X x)(ha:PA X (e::es) t)(hdb:(x == ("__debug__" : Str))=false:=by decide)
  (he:starEach (e::es) X.env=(false,eval e X.env)::starEach es X.env:=by rfl) (hpl:(backTo pos (starEach es X.env)).any (·.1)=false:=by rfl) :
  PE X (.Call (.Name x p) (e::es) [] pos) (Nu sp [] E0 t):=by
 obtain ⟨f,fd,G,m,kp,b⟩:=F.ex;exact pe_call G (hr.mono hj) hg m kp b .nil pass0 ha hdb he hpl
end
theorem def_of {P:Program}{w:World}{K:FZ9}{mg:Str->Option Value}{base:Heap}{x:Str}{st:Stmt}{f:Addr}{fd:FuncData}{k:Nat}{ps:List Str}{sp:Sp}(F:Fun K x x st f fd)(m:mg x=some (.ref f))(b:Binds K fd ps [])(G:FnOk P w K mg base CX0 k f fd ps sp):DefOk P w K mg base x k ps sp :=
 ⟨f,fd,G,m,F.kp,b⟩
theorem BV {X:Cx}{scope:Scope}(h:(scope.names.all fun p=>p.2 != .free || X.env.scope.names.lookup p.1 == some .cell || X.env.scope.names.lookup p.1 == some .free)=true) :
  ∀ y∈scope.names,y.2 = .free->X.env.scope.names.lookup y.1=some .cell\/X.env.scope.names.lookup y.1=some .free:=fun y hy hf=>by
 have:=List.all_eq_true.mp h y hy;rw [hf] at this
 simpa using this
theorem Same.new {H:Hp}{p:Addr}{o:HO}(h:H p=none):Same H (upd H p o):=fun b u e=>by rw [Af (Ay e h)];exact e
theorem Same.put {H H':Hp}{p:Addr}{o:HO}(s:Same H H')(h:H p=none):Same H (upd H' p o):=fun b u e=>by rw [Af (Ay e h)];exact s b u e
def Its (x:Str):It:=⟨fun i _=>i<x.cps.size,fun i H v H'=>H'=H/\∃ c,x.cps[i]? = some c/\v = .str ⟨#[c]⟩,fun i _=>i=x.cps.size⟩
def StrIt (it:Addr)(x:Str)(t:Tok)(i:Nat)(h:Heap):Prop:=h.IsStrIter it "str_ascii_iterator" x t i\/h.IsStrIter it "str_iterator" x t i
theorem Nd {P:Program}{w:World}{K:FZ9}{tg:Expr}(x:Str)(t:Tok)(it:Addr):Turn P w K tg (Its x) [it] it (StrIt it x t) where
 mem:=by simp
 obj:=fun i h st b hb=>by
  have e:b=it:=by simpa using hb
  subst e;rcases st with ⟨o,e,c,d⟩ | ⟨o,e,c,d⟩<;>exact ⟨o,e,fun v z=>by rw [d] at z;cases z⟩
 keep:=fun i h h' st k=>by
  rcases st with ⟨o,e,r⟩ | ⟨o,e,r⟩
  ·exact .inl ⟨o,k it (by simp) o e,r⟩
  ·exact .inr ⟨o,k it (by simp) o e,r⟩
 item:=by
  intro X hP hw hK hc i pins s σ H E I hf st hg;subst hP hw hK;obtain ⟨f0,f1,f2,f3,f4,f5⟩:=hf it (by simp);rcases st with st|st
  ·refine (Walks.strAscii (prog:=X.prog) (w:=X.w) (I.ok.hd hc) it x t).item i s _ _ hg st fun v h' tk hv st' kk=>?_;obtain ⟨c,u,hcx,rfl⟩:=hv;have I1:=I.turned (h':=h') (t':=tk) (fun b o hb e=>kk b o (by simpa using hb) e) f0 f1 f3 f4 f5;obtain ⟨o,e,hc',d⟩:=id st';exact ⟨_,rfl,Nl (s:={ s with heap:=h',toks:=tk }) e hc' d (by decide) ⟨.str ⟨#[c]⟩,H,I1,⟨u,rfl⟩,⟨rfl,c,hcx,rfl⟩,.inl st',fun b hb=>(hf b hb).1⟩⟩
  ·refine (Walks.strWide (prog:=X.prog) (w:=X.w) (I.ok.hd hc) it x t).item i s _ _ hg st fun v h' tk hv st' kk=>?_;obtain ⟨c,u,hcx,rfl⟩:=hv;have I1:=I.turned (h':=h') (t':=tk) (fun b o hb e=>kk b o (by simpa using hb) e) f0 f1 f3 f4 f5;obtain ⟨o,e,hc',d⟩:=id st';exact ⟨_,rfl,Nl (s:={ s with heap:=h',toks:=tk }) e hc' d (by decide) ⟨.str ⟨#[c]⟩,H,I1,⟨u,rfl⟩,⟨rfl,c,hcx,rfl⟩,.inr st',fun b hb=>(hf b hb).1⟩⟩
 done:=by
  intro X hP hw hK hc i pins s σ H E I hf st hg;subst hP hw hK;obtain ⟨f0,f1,f2,f3,f4,f5⟩:=hf it (by simp);have hg:i=x.cps.size:=hg;subst hg;rcases st with st|st
  ·exact (Walks.strAscii (prog:=X.prog) (w:=X.w) (I.ok.hd hc) it x t).done s _ _ st fun h' tk kk=>⟨rfl,I.turned (fun b o hb e=>kk b o (by simpa using hb) e) f0 f1 f3 f4 f5⟩
  ·exact (Walks.strWide (prog:=X.prog) (w:=X.w) (I.ok.hd hc) it x t).done s _ _ st fun h' tk kk=>⟨rfl,I.turned (fun b o hb e=>kk b o (by simpa using hb) e) f0 f1 f3 f4 f5⟩
 self:=fun _ _ _ _ _ st h=>by
  rcases st with st|st
  ·exact wpAny_pyIter_striter_ascii st h
  ·exact wpAny_pyIter_striter_wide st h
section
variable {X:Cx}{tg:Expr}
def iAny (K:FZ9)(tl:TE):TI:=fun σ H R=>tl σ H fun v H1=>match v with
 | .str x=>R (Its x) H1
 | .ref a=>((∃ xs,SqL K H1 a xs)/\R (Itl K a) H1)\/((∃ xs,SqT K H1 a xs)/\R (Itt K a) H1)
 | _=>False
theorem pi_any {l:Expr}{tl:TE}(hl:PE X l tl):PI X tg l (iAny X.K tl):=by
 intro pins s σ H R I h;refine thn (hl pins s σ H _ I h) fun v s1 ⟨x,H1,I1,r1,q1⟩=>?_
 have one:∀ b∈[s1.heap.objs.size],Hg X pins H1 b:=fun b hb=>by
  have e:b=s1.heap.objs.size:=by simpa using hb
  subst e;exact I1.fpOk (qcB _) (I1.hok.fresh (qcB _))
 cases x with
 | str z =>
  obtain ⟨t,rfl⟩:=r1;have q1:R (Its z) H1:=q1;cases ha:z.cps.all (· < 128)
  ·exact wpAny_pyIter_wide ha ⟨s1.heap.objs.size,[s1.heap.objs.size],_,_,H1,rfl,I1.kept (t':=s1.toks) fun b o e=>qiB _ e,Nd z t _,.inr ⟨_,qjB _ rfl,rfl,rfl⟩,one,q1⟩
  ·exact wpAny_pyIter_ascii ha ⟨s1.heap.objs.size,[s1.heap.objs.size],_,_,H1,rfl,I1.kept (t':=s1.toks) fun b o e=>qiB _ e,Nd z t _,.inl ⟨_,qjB _ rfl,rfl,rfl⟩,one,q1⟩
 | ref a =>
  cases r1;have q1:((∃ xs,SqL X.K H1 a xs)/\R (Itl X.K a) H1)\/((∃ xs,SqT X.K H1 a xs)/\R (Itt X.K a) H1):=q1;rcases q1 with ⟨⟨xs,hq⟩,q⟩ | ⟨⟨xs,hq⟩,q⟩
  ·obtain ⟨its,rv,p,hz⟩:=I1.list hq;exact wpAny_pyIter_list p.isList ⟨s1.heap.objs.size,[s1.heap.objs.size],_,_,H1,rfl,I1.kept (t':=s1.toks) fun b o e=>qiB _ e,Po a _,⟨_,qjB _ rfl,rfl,rfl⟩,one,q⟩
  ·obtain ⟨its,rv,p,hz⟩:=I1.tuple hq;exact wpAny_pyIter_tuple (show s1.heap.IsTuple a its.toArray from p) ⟨s1.heap.objs.size,[s1.heap.objs.size],_,_,H1,rfl,I1.kept (t':=s1.toks) fun b o e=>qiB _ e,Oj a _,⟨_,qjB _ rfl,rfl,rfl⟩,one,q⟩
 | _=>exact (show False from q1).elim
end
structure Yields (J:It)(H:Hp)(xs:List V):Prop where
 go:∀ i H',Same H H'->i<xs.length->J.go i H'
 stop:∀ H',Same H H'->J.stop xs.length H'
 yld:∀ i H' x H'',Same H H'->i<xs.length->J.yld i H' x H''->H''=H'/\xs[i]? = some x
def Dj (x:Str):List V:=x.cps.toList.map fun c=>.str ⟨#[c]⟩
theorem Kp (x:Str)(H:Hp):Yields (Its x) H (Dj x) where
 go:=fun i H' _ hi=>by
  have:(Dj x).length=x.cps.size:=by simp [Dj]
  show i<x.cps.size;omega
 stop:=fun H' _=>by
  show (Dj x).length=x.cps.size;simp [Dj]
 yld:=fun i H' v H'' _ _ y=>by
  obtain ⟨rfl,c,hc,rfl⟩:=y;refine ⟨rfl,?_⟩;simp only [Dj,qxA,Array.getElem?_toList,hc,Option.map_some]
theorem Ma (lo:Int)(n:Nat)(H:Hp):Yields (Itr lo n) H ((List.range n).map fun (i:Nat)=>V.int (lo+(i:Int))) where
 go:=fun i H' _ hi=>by
  show i<n
  simpa using hi
 stop:=fun H' _=>by
  show n<=((List.range n).map fun (i:Nat)=>V.int (lo+(i:Int))).length;simp
 yld:=fun i H' v H'' _ hi y=>by
  obtain ⟨rfl,rfl⟩:=y;rw [qeA,qiA] at hi;refine ⟨rfl,?_⟩;simp [hi]
theorem JK {K:FZ9}{a:Addr}{xs:List V}{H:Hp}(h:SqL K H a xs):Yields (Itl K a) H xs where
 go:=fun i H' s hi=>⟨xs,xs[i],s.seq h,by simp [hi]⟩
 stop:=fun H' s=>⟨xs,s.seq h,qcB _⟩
 yld:=fun i H' v H'' s _ y=>⟨y.1,y.2 xs (s.seq h)⟩
section
variable {X:Cx}
def Lj (K:FZ9):R2:=fun x y H Q=>match x,y with
 | .int i,.int j=>Q (.int (i+j)) H
 | .str a,.str b=>a.length+b.length<=sizeLine/\Q (.str (a++b)) H
 | .ref a,.ref b=>∃ xs ys,Rd H a (.lst xs)/\Rd H b (.lst ys)/\xs.length+ys.length<=sizeLine/\∀ p,H p=none->Q (.ref p) (upd H p (.lst (xs++ys)))
 | _,_=>False
theorem op_catS:OpR X (binaryOp .Add) (fun x y H Q=>∃ a b xs ys,x = .ref a/\y = .ref b/\Rd H a (.lst xs)/\Rd H b (.lst ys)/\xs.length+ys.length<=sizeLine/\∀ p,H p=none->Q (.ref p) (upd H p (.lst (xs++ys)))):=by
 intro pins s σ H x y v u Q I rx ry h;obtain ⟨l,b,xs,zs,rfl,rfl,hH,hB,hz,q⟩:=h;cases rx;cases ry;obtain ⟨z,its,n,r,e⟩:=hH.ok I.hok;obtain ⟨z2,its2,n2,r2,e2⟩:=hB.ok I.hok;have hl:=r.length;have hl2:=r2.length;refine PySem.P.add_list e e2 ?_ (by rw [qrB,qrB];omega);have ea:its.toArray++its2.toArray=(its++its2).toArray:=by simp
 rw [ea];exact ⟨.ref _,_,I.lnew (t':=s.toks) (r.append r2) (by rw [qfA];omega),rfl,q _ I.fresh⟩
theorem op_plus:OpR X (binaryOp .Add) (Lj X.K):=by
 intro pins s σ H x y v u Q I rx ry h
 cases x with
 | int i=>cases y with
  | int j=>exact op_add pins s σ H _ _ v u Q I rx ry ⟨i,j,rfl,rfl,h⟩
  | _=>exact (show False from h).elim
 | str a=>cases y with
  | str b=>exact O3 pins s σ H _ _ v u Q I rx ry ⟨a,b,rfl,rfl,h.1,h.2⟩
  | _=>exact (show False from h).elim
 | ref a=>cases y with
  | ref b =>
   obtain ⟨xs,ys,h1,h2,h3,h4⟩:=h;exact op_catS pins s σ H _ _ v u Q I rx ry ⟨a,b,xs,ys,rfl,rfl,h1,h2,h3,h4⟩
  | _=>exact (show False from h).elim
 | _=>exact (show False from h).elim
def Nx (fi:Int->Int->Bool)(fs:List Nat->List Nat->Bool):R2:=fun x y H Q=>match x,y with
 | .int i,.int j=>Q (.bl (fi i j)) H
 | .str a,.str b=>Q (.bl (fs a.cps.toList b.cps.toList)) H
 | _,_=>False
theorem Og {f:Value->Value->Sem Value}{fi:Int->Int->Bool}{fs:List Nat->List Nat->Bool}(hi:OpR X f (rI0 fun i j=>.bl (fi i j)))
  (hs:∀ (s:Shared) (a b:Str) (t u:Tok) (Q:Value->Shared->Prop),Q (.bool (fs a.cps.toList b.cps.toList)) s->wpAny (model X.prog X.w) X.A (f (.str a t) (.str b u)) Q X.xe s):OpR X f (Nx fi fs):=by
 intro pins s σ H x y v u Q I rx ry h
 cases x with
 | int i=>cases y with
  | int j=>exact hi pins s σ H _ _ v u Q I rx ry ⟨i,j,rfl,rfl,h⟩
  | _=>exact (show False from h).elim
 | str a=>cases y with
  | str b =>
   obtain ⟨t,rfl⟩:=rx;obtain ⟨t',rfl⟩:=ry;exact hs s a b t t' _ ⟨.bl _,H,I,rfl,h⟩
  | _=>exact (show False from h).elim
 | _=>exact (show False from h).elim
theorem Km:OpR X (compareOp .Lt) (Nx (fun i j=>decide (i<j)) fun a b=>decide (a<b)):=Og op_lt fun _ _ _ _ _ _ h=>lt_str h
theorem op_leU:OpR X (compareOp .LtE) (Nx (fun i j=>decide (i<=j)) fun a b=>!decide (b<a)):=Og op_le fun _ _ _ _ _ _ h=>PySem.P.le_str h
theorem Iu:OpR X (compareOp .Gt) (Nx (fun i j=>decide (j<i)) fun a b=>decide (b<a)):=Og op_gt fun _ _ _ _ _ _ h=>PySem.P.gt_str h
def rMul (K:FZ9):R2:=fun x y H Q=>match x,y with
 | .int i,.int j=>CMul i j/\Q (.int (i * j)) H
 | .ref l,.int k=>∃ xs,H l=some (.lst xs)/\-(2 ^ 63)<=k/\k<2 ^ 63/\xs.length * k.toNat<=sizeLine/\∀ p,H p=none->Q (.ref p) (upd H p (.lst (List.replicate k.toNat xs).flatten))
 | _,_=>False
theorem op_mulU:OpR X (binaryOp .Mult) (rMul X.K):=by
 intro pins s σ H x y v u Q I rx ry h
 cases x with
 | int i=>cases y with
  | int j=>exact op_mul pins s σ H _ _ v u Q I rx ry ⟨i,j,rfl,rfl,h.1,h.2⟩
  | _=>exact (show False from h).elim
 | ref l=>cases y with
  | int k =>
   obtain ⟨xs,h1,h2,h3,h4,h5⟩:=h;exact op_rep pins s σ H _ _ v u Q I rx ry ⟨l,k,xs,rfl,rfl,h1,h2,h3,h4,h5⟩
  | _=>exact (show False from h).elim
 | _=>exact (show False from h).elim
def rSl (K:FZ9):V->Option Int->Option Int->Hp->VK->Prop:=fun x lo hi H Q=>match x with
 | .str z=>z.length<=sizeLine/\Q (.str (Txt.slice z lo hi)) H
 | .ref a=>(∃ xs,SqL K H a xs/\∀ p,H p=none->Q (.ref p) (upd H p (.lst (O0 xs lo hi))))
 | _=>False
theorem sl_str:SlR X (fun x lo hi H Q=>∃ z,x = .str z/\z.length<=sizeLine/\Q (.str (Txt.slice z lo hi)) H):=by
 intro pins s σ H x v vl vu lo hi sl Q I rx hs pl pu h;obtain ⟨z,rfl,hz,q⟩:=h;obtain ⟨t,rfl⟩:=rx;refine ⟨"str",_,F.slot_str_getitem.lookup,typeIs_str _ _ _,?_⟩;have fin:∀ (t':Tok) (k:Nat),EP X pins σ Q (.str (Txt.slice z lo hi) t') { s with toks:=k }:=fun t' k=>⟨.str _,H,I.tok k,⟨t',rfl⟩,q⟩
 cases pl with
 | none=>cases pu with
  | none=>exact wpAny_getItem_str_slice (l:=none) (u:=none) (st:=none) hs rfl (post_val_or_str ⟨qdB (Txt.slice_le z _ _) hz,fin⟩)
  | int j uj=>exact wpAny_getItem_str_slice (l:=none) (u:=some (j,uj)) (st:=none) hs rfl (post_val_or_str ⟨qdB (Txt.slice_le z _ _) hz,fin⟩)
 | int i ui=>cases pu with
  | none=>exact wpAny_getItem_str_slice (l:=some (i,ui)) (u:=none) (st:=none) hs rfl (post_val_or_str ⟨qdB (Txt.slice_le z _ _) hz,fin⟩)
  | int j uj=>exact wpAny_getItem_str_slice (l:=some (i,ui)) (u:=some (j,uj)) (st:=none) hs rfl (post_val_or_str ⟨qdB (Txt.slice_le z _ _) hz,fin⟩)
theorem sl_any:SlR X (rSl X.K):=by
 intro pins s σ H x v vl vu lo hi sl Q I rx hs pl pu h
 cases x with
 | str z=>exact sl_str pins s σ H _ v vl vu lo hi sl Q I rx hs pl pu ⟨z,rfl,h.1,h.2⟩
 | ref a =>
  obtain ⟨xs,h1,h2⟩:=h;exact sl_list pins s σ H _ v vl vu lo hi sl Q I rx hs pl pu ⟨a,xs,rfl,h1,h2⟩
 | _=>exact (show False from h).elim
def rAt (K:FZ9):R2:=fun x y H Q=>match x,y with
 | .str z,.int i=>z.length<=sizeLine/\∃ c,atI z.cps.toList i=some c/\Q (.str ⟨#[c]⟩) H
 | .ref p,.int i=>(∃ xs v,SqL K H p xs/\atI xs i=some v/\Q v H)\/(∃ xs v,SqT K H p xs/\atI xs i=some v/\Q v H)
 | _,_=>False
theorem ix_any:IxR X (rAt X.K):=by
 intro value slice pins s σ H x y v u Q I rx ry q hs
 cases x with
 | str z=>cases y with
  | int i =>
   obtain ⟨hz,c,hc,q⟩:=q;exact ix_str value slice pins s σ H _ _ v u Q I rx ry ⟨z,i,c,rfl,rfl,hz,hc,q⟩ hs
  | _=>exact (show False from q).elim
 | ref p=>cases y with
  | int i =>
   rcases q with ⟨xs,w',h1,h2,h3⟩ | ⟨xs,w',h1,h2,h3⟩
   ·exact ix_list value slice pins s σ H _ _ v u Q I rx ry ⟨p,xs,i,w',rfl,rfl,h1,h2,h3⟩ hs
   ·exact ix_tup value slice pins s σ H _ _ v u Q I rx ry ⟨p,xs,i,w',rfl,rfl,h1,h2,h3⟩ hs
  | _=>exact (show False from q).elim
 | _=>exact (show False from q).elim
def O2 (K:FZ9):List V->Hp->VK->Prop:=fun vs H Q=>match vs with
 | [.str z]=>z.length<=sizeLine/\Q (.int z.length) H
 | [.ref p]=>∃ ys,(SqL K H p ys\/SqT K H p ys)/\Q (.int ys.length) H
 | _=>False
theorem QU:Cc X (.builtin "len") (O2 X.K):=by
 intro pins s σ H vs us Q I r h
 match vs,h with
 | [.str z],h=>exact Mo pins s σ H _ us Q I r ⟨z,rfl,h.1,h.2⟩
 | [.ref p],h =>
  obtain ⟨ys,h1,h2⟩:=h;exact MI pins s σ H _ us Q I r ⟨p,ys,rfl,h1,h2⟩
theorem K3 {ys:List Str}:∀ {us:List Value},Vals (ys.map V.str) us->StrsAre us ys:=by
 induction ys with
 | nil=>intro us r;rw [List.map_nil] at r;cases r;exact .nil
 | cons n ns ih =>
  intro us r;rw [qyA] at r
  cases r with
  | cons r1 r2 =>
   obtain ⟨t,e⟩:=r1;subst e;exact .cons n t (ih r2)
def rJoin (K:FZ9):V->List V->Hp->VK->Prop:=fun x vs H Q=>∃ z l ys,x = .str z/\vs=[.ref l]/\SqL K H l (ys.map V.str)/\(ys.map (·.length)).sum+ys.length * z.length<=16777216/\Q (.str (Txt.join z ys)) H
theorem mt_join:MtR X "str.join" (rJoin X.K):=by
 intro pins s σ H x vs v us Q I rx rv h;obtain ⟨z,l,ys,rfl,rfl,hl,hz,q⟩:=h;obtain ⟨t,rfl⟩:=rx;obtain ⟨u,rfl,ru⟩:=Dh rv;cases ru;obtain ⟨its,r,pl,_⟩:=I.list hl;exact join_list pl.isList (by simpa using K3 r) hz fun t' k=>⟨.str _,H,I.tok k,⟨t',rfl⟩,q⟩
end
structure EqTy (K:FZ9)(k:Nat){α:Type}[DecidableEq α](R:Hp->V->α->Prop):Prop where
 fn:∀ {X:Cx}{pins:List (Addr × Obj)}{σ:St}{H:Hp}{s:Shared}{x:V}{a b:α},X.K=K->Inv X pins σ H s->R H x a->R H x b->a=b
 eq:∀ {X:Cx}{pins:List (Addr × Obj)}{σ:St}{H:Hp}{s:Shared}{x y:V}{u v:Value}{a b:α}(A:Around),X.K=K->Inv X pins σ H s->A.units+k<cLine->RelV x u->RelV y v->R H x a->R H y b->SeqAt.EqAt A s u v (decide (a=b))
 rc:∀ {X:Cx}{pins:List (Addr × Obj)}{σ:St}{H:Hp}{s:Shared}{x y:V}{u v:Value}{a b:α}(A:Around),X.K=K->Inv X pins σ H s->A.units+k<cLine->RelV x u->RelV y v->R H x a->R H y b->SeqAt.RcAt A s u v (decide (a=b))/\SeqAt.RcNeAt A s u v (!decide (a=b))
def isStr:Hp->V->Str->Prop:=fun _ x a=>x = .str a
def isInt:Hp->V->Int->Prop:=fun _ x a=>x = .int a
def isBl:Hp->V->Bool->Prop:=fun _ x a=>x = .bl a
theorem Gr {α:Type}[DecidableEq α][BEq α][LawfulBEq α](a b:α):(a == b)=decide (a=b):=by
 by_cases h:a=b
 ·subst h;simp
 ·rw [decide_eq_false h];simpa using h
theorem eqStr {K:FZ9}:EqTy K 0 isStr where
 fn:=fun _ _ h1 h2=>by cases h1;cases h2;rfl
 eq:=fun A _ _ _ r1 r2 h1 h2=>by
  cases h1;cases h2;obtain ⟨t,rfl⟩:=r1;obtain ⟨t',rfl⟩:=r2;rw [<- Gr];exact SeqAt.EqAt.str_str _ _ _ _
 rc:=fun A _ _ _ r1 r2 h1 h2=>by
  cases h1;cases h2;obtain ⟨t,rfl⟩:=r1;obtain ⟨t',rfl⟩:=r2;rw [<- Gr];exact ⟨SeqAt.RcAt.str_str _ _ _ _,SeqAt.RcNeAt.str_str _ _ _ _⟩
theorem eqInt {K:FZ9}:EqTy K 0 isInt where
 fn:=fun _ _ h1 h2=>by cases h1;cases h2;rfl
 eq:=fun A _ _ _ r1 r2 h1 h2=>by
  cases h1;cases h2;obtain ⟨t,rfl⟩:=r1;obtain ⟨t',rfl⟩:=r2;rw [<- Gr];exact SeqAt.EqAt.int_int _ _ _ _
 rc:=fun A _ _ _ r1 r2 h1 h2=>by
  cases h1;cases h2;obtain ⟨t,rfl⟩:=r1;obtain ⟨t',rfl⟩:=r2;rw [<- Gr];exact ⟨SeqAt.RcAt.int_int _ _ _ _,SeqAt.RcNeAt.int_int _ _ _ _⟩
theorem eqBl {K:FZ9}:EqTy K 0 isBl where
 fn:=fun _ _ h1 h2=>by cases h1;cases h2;rfl
 eq:=fun A _ _ _ r1 r2 h1 h2=>by
  cases h1;cases h2;cases r1;cases r2;rw [<- Gr];exact SeqAt.EqAt.bool_bool _ _
 rc:=fun A _ _ _ r1 r2 h1 h2=>by
  cases h1;cases h2;cases r1;cases r2;rw [<- Gr];exact ⟨SeqAt.RcAt.bool_bool _ _,SeqAt.RcNeAt.bool_bool _ _⟩
theorem Paired.at' {α β:Type}{F:α->β->Prop}:∀ {l₁:List α}{l₂:List β}{i:Nat}{a:α}{b:β},Paired F l₁ l₂->l₁[i]? = some a->l₂[i]? = some b->F a b
 | _,_,_,_,_,.nil,e,_=>by simp at e
 | _,_,0,_,_,.cons h _,e1,e2=>by simp at e1 e2;subst e1;subst e2;exact h
 | _,_,i+1,_,_,.cons _ t,e1,e2=>Paired.at' (i:=i) t (by simpa using e1) (by simpa using e2)
theorem Ln {α β:Type}{F:α->β->Prop}(hf:∀ a b c,F a b->F a c->b=c):∀ {xs:List α}{as bs:List β},Paired F xs as->Paired F xs bs->as=bs
 | _,_,_,.nil,.nil=>rfl
 | _,_,_,.cons h t,.cons h' t'=>by rw [hf _ _ _ h h',Ln hf t t']
theorem all_dec {α:Type}[DecidableEq α]:∀ (as bs:List α) (hl:as.length=bs.length),((List.range as.length).all fun j=>decide (as[j]? = bs[j]?))=decide (as=bs):=by
 intro as bs hl;apply Bool.eq_iff_iff.mpr;rw [decide_eq_true_iff,List.all_eq_true];constructor
 ·intro h;apply List.ext_getElem?;intro i;by_cases hi:i<as.length
  ·exact of_decide_eq_true (h i (qsA.mpr hi))
  ·rw [List.getElem?_eq_none (by omega),List.getElem?_eq_none (by omega)]
 ·rintro rfl i _;simp
def NK (K:FZ9){α:Type}(R:Hp->V->α->Prop):Hp->V->List α->Prop:=fun H x as=>∃ l xs,x = .ref l/\SqL K H l xs/\Paired (R H) xs as
theorem OG {K:FZ9}{k:Nat}{α:Type}[DecidableEq α]{R:Hp->V->α->Prop}(E:EqTy K k R){X:Cx}{pins:List (Addr × Obj)}{σ:St}{H:Hp}{s:Shared}{A:Around}(hK:X.K=K)(I:Inv X pins σ H s)(hu:A.units+(k+1)<cLine)
  {xs ys:List V}{us vs:List Value}{as bs:List α}(rx:Vals xs us) (ry:Vals ys vs) (px:Paired (R H) xs as) (py:Paired (R H) ys bs) :
  ∀ j (h1:j<us.toArray.size) (h2:j<vs.toArray.size),SeqAt.EqAt A.in1 s us.toArray[j] vs.toArray[j] (decide (as[j]? = bs[j]?)):=by
 intro j h1 h2;have h1':j<us.length:=by simpa using h1
 have h2':j<vs.length:=by simpa using h2
 have lx:=rx.length;have ly:=ry.length;have lpx:=Paired.length px;have lpy:=Paired.length py;have ex:xs[j]? = some xs[j]:=qvA (by omega);have ey:ys[j]? = some ys[j]:=qvA (by omega);have ea:as[j]? = some as[j]:=qvA (by omega);have eb:bs[j]? = some bs[j]:=qvA (by omega);obtain ⟨u,hu',ru⟩:=rx.get ex;obtain ⟨v,hv',rv⟩:=ry.get ey
 have e1:us.toArray[j]=u:=by
  rw [qvA h1'] at hu'
  simpa using hu'
 have e2:vs.toArray[j]=v:=by
  rw [qvA h2'] at hv'
  simpa using hv'
 rw [e1,e2,ea,eb];have:=E.eq A.in1 hK I (show A.units+1+k<cLine by omega) ru rv (Paired.at' px ex ea) (Paired.at' py ey eb);have e3:decide (some as[j]=some bs[j])=decide (as[j]=bs[j]):=by simp
 rw [e3];exact this
theorem eqLst {K:FZ9}{k:Nat}{α:Type}[DecidableEq α]{R:Hp->V->α->Prop}(E:EqTy K k R):EqTy K (k+1) (NK K R):=by
 have fn:∀ {X:Cx}{pins:List (Addr × Obj)}{σ:St}{H:Hp}{s:Shared}{x:V}{a b:List α},X.K=K->Inv X pins σ H s->NK K R H x a->NK K R H x b->a=b:=by
  intro X pins σ H s x a b hK I ha hb;obtain ⟨l,xs,rfl,h1,p1⟩:=ha;obtain ⟨l',ys,e,h2,p2⟩:=hb;cases e;subst hK;have:=I.list_inj h1 h2;subst this;exact Ln (F:=R H) (fun _ _ _ p q=>E.fn rfl I p q) p1 p2
 have rc:∀ {X:Cx}{pins:List (Addr × Obj)}{σ:St}{H:Hp}{s:Shared}{x y:V}{u v:Value}{a b:List α}(A:Around),X.K=K->Inv X pins σ H s->A.units+(k+1)<cLine->RelV x u->RelV y v->NK K R H x a->NK K R H y b ->
   SeqAt.RcAt A s u v (decide (a=b))/\SeqAt.RcNeAt A s u v (!decide (a=b)):=by
  intro X pins σ H s x y u v a b A hK I hu r1 r2 ha hb;obtain ⟨l,xs,rfl,h1,p1⟩:=ha;obtain ⟨l',ys,rfl,h2,p2⟩:=hb;cases r1;cases r2;subst hK;obtain ⟨us,rx,plx,_⟩:=I.list h1;obtain ⟨vs,ry,ply,_⟩:=I.list h2;have lx:=rx.length;have ly:=ry.length;have lpx:=Paired.length p1;have lpy:=Paired.length p2;by_cases hl:a.length=b.length
  ·have hsz:us.toArray.size=vs.toArray.size:=by simp;omega
   have it:=OG E rfl I hu rx ry p1 p2
   have ed:((List.range us.toArray.size).all fun j=>decide (a[j]? = b[j]?))=decide (a=b):=by
    rw [<- all_dec a b hl,qrB,<- lx,lpx]
   rw [<- ed];exact ⟨SeqAt.RcAt.lists plx.isList ply.isList hsz (by omega) it,SeqAt.RcNeAt.lists plx.isList ply.isList hsz (by omega) it⟩
  ·have hsz:(us.toArray.size != vs.toArray.size)=true:=by simp;omega
   have ne:a≠b:=fun e=>hl (by rw [e]);rw [decide_eq_false ne];exact ⟨SeqAt.RcAt.lists_lengths plx.isList ply.isList hsz (by omega),SeqAt.RcNeAt.lists_lengths plx.isList ply.isList hsz (by omega)⟩
 refine ⟨fn,?_,rc⟩;intro X pins σ H s x y u v a b A hK I hu r1 r2 ha hb;have h:=(rc A hK I hu r1 r2 ha hb).1;obtain ⟨l,xs,rfl,h1,p1⟩:=id ha;obtain ⟨l',ys,rfl,h2,p2⟩:=id hb;cases r1;cases r2;by_cases e:l=l'
 ·subst e;have:a=b:=fn hK I ha hb;rw [decide_eq_true this];exact SeqAt.EqAt.same _
 ·exact SeqAt.EqAt.of_refs e h
def KH (K:FZ9){α β:Type}(R:Hp->V->α->Prop)(S:Hp->V->β->Prop):Hp->V->α × β->Prop:=fun H x p=>∃ t a b,x = .ref t/\SqT K H t [a,b]/\R H a p.1/\S H b p.2
theorem eqPair {K:FZ9}{k:Nat}{α β:Type}[DecidableEq α][DecidableEq β]{R:Hp->V->α->Prop}{S:Hp->V->β->Prop}(E:EqTy K k R)(G:EqTy K k S):EqTy K (k+1) (KH K R S):=by
 have fn:∀ {X:Cx}{pins:List (Addr × Obj)}{σ:St}{H:Hp}{s:Shared}{x:V}{a b:α × β},X.K=K->Inv X pins σ H s->KH K R S H x a->KH K R S H x b->a=b:=by
  intro X pins σ H s x a b hK I ha hb;obtain ⟨l,x1,x2,rfl,h1,p1,p2⟩:=ha;obtain ⟨l',y1,y2,e,h2,q1,q2⟩:=hb;cases e;subst hK;have:=I.tuple_inj h1 h2;cases this;exact Prod.ext (E.fn rfl I p1 q1) (G.fn rfl I p2 q2)
 have rc:∀ {X:Cx}{pins:List (Addr × Obj)}{σ:St}{H:Hp}{s:Shared}{x y:V}{u v:Value}{a b:α × β}(A:Around),X.K=K->Inv X pins σ H s->A.units+(k+1)<cLine->RelV x u->RelV y v->KH K R S H x a->KH K R S H y b ->
   SeqAt.RcAt A s u v (decide (a=b))/\SeqAt.RcNeAt A s u v (!decide (a=b)):=by
  intro X pins σ H s x y u v a b A hK I hu r1 r2 ha hb;obtain ⟨l,x1,x2,rfl,h1,p1,p2⟩:=ha;obtain ⟨l',y1,y2,rfl,h2,q1,q2⟩:=hb;cases r1;cases r2;subst hK;obtain ⟨us,rx,plx,_⟩:=I.tuple h1;obtain ⟨vs,ry,ply,_⟩:=I.tuple h2;obtain ⟨u1,u2,rfl,ru1,ru2⟩:=Om rx;obtain ⟨v1,v2,rfl,rv1,rv2⟩:=Om ry;have e1:=E.eq A.in1 rfl I (show A.units+1+k<cLine by omega) ru1 rv1 p1 q1;have e2:=G.eq A.in1 rfl I (show A.units+1+k<cLine by omega) ru2 rv2 p2 q2
  have it:∀ j (h1:j < [u1,u2].toArray.size) (h2:j < [v1,v2].toArray.size),SeqAt.EqAt A.in1 s [u1,u2].toArray[j] [v1,v2].toArray[j] ((fun j=>if j=0 then decide (a.1=b.1) else decide (a.2=b.2)) j):=by
   intro j h1 h2
   match j,h1 with
   | 0,_=>exact e1
   | 1,_=>exact e2
   | j+2,h=>exact absurd h (by simp)
  have ed:((List.range (min [u1,u2].toArray.size [v1,v2].toArray.size)).all (fun j=>if j=0 then decide (a.1=b.1) else decide (a.2=b.2)) && [u1,u2].toArray.size == [v1,v2].toArray.size)=decide (a=b):=by
   apply Bool.eq_iff_iff.mpr;rw [decide_eq_true_iff];constructor
   ·intro h;have h:(decide (a.1=b.1) && (decide (a.2=b.2) && true) && true)=true:=h;simp only [Bool.and_true,qeC,decide_eq_true_iff] at h;exact Prod.ext h.1 h.2
   ·rintro rfl;show (decide (a.1=a.1) && (decide (a.2=a.2) && true) && true)=true;simp
  rw [<- ed];exact ⟨SeqAt.RcAt.tuples plx ply (by omega) it,SeqAt.RcNeAt.tuples plx ply (by omega) it⟩
 refine ⟨fn,?_,rc⟩;intro X pins σ H s x y u v a b A hK I hu r1 r2 ha hb;have h:=(rc A hK I hu r1 r2 ha hb).1;obtain ⟨l,x1,x2,rfl,h1,p1,p2⟩:=id ha;obtain ⟨l',y1,y2,rfl,h2,q1,q2⟩:=id hb;cases r1;cases r2;by_cases e:l=l'
 ·subst e;have:a=b:=fn hK I ha hb;rw [decide_eq_true this];exact SeqAt.EqAt.same _
 ·exact SeqAt.EqAt.of_refs e h
section
variable {X:Cx}
theorem op_eqD {k j:Nat}{α:Type}[DecidableEq α]{R:Hp->V->α->Prop}(E:EqTy X.K k R)(hr:Room j X.A)(hk:k<=10):OpR X (compareOp .Eq) (fun x y H Q=>∃ a b,R H x a/\R H y b/\Q (.bl (decide (a=b))) H):=by
 intro pins s σ H x y v u Q I rx ry h;obtain ⟨a,b,h1,h2,q⟩:=h;exact (E.rc X.A rfl I (by have:=hr.un;omega) rx ry h1 h2).1 _ _ _ _ ⟨.bl _,H,I,rfl,q⟩
end
class Rp (α:Type) where
 rel:FZ9->Hp->V->α->Prop
 mono:∀ {K:FZ9}{H H':Hp}{v:V}{a:α},Same H H'->rel K H v a->rel K H' v a
theorem Same.rd {H H':Hp}{a:Addr}{u:HO}(s:Same H H')(h:Rd H a u):Rd H' a u:=by
 rcases h with h | ⟨o,h⟩
 ·exact .inl (s _ _ h)
 ·exact .inr ⟨o,s _ _ h⟩
theorem Same.tup {K:FZ9}{H H':Hp}{a:Addr}{xs:List V}(e:Same H H')(h:SqT K H a xs):SqT K H' a xs:=by
 rcases h with h|h
 ·exact .inl (e.rd h)
 ·exact .inr h
instance rpInt:Rp Int:=⟨fun _ _ v a=>v = .int a,fun _ h=>h⟩
instance rpBool:Rp Bool:=⟨fun _ _ v a=>v = .bl a,fun _ h=>h⟩
instance rpStr:Rp Str:=⟨fun _ _ v a=>v = .str a/\a.length<=sizeLine,fun _ h=>h⟩
instance rpUnit:Rp Unit:=⟨fun _ _ v _=>v = .non,fun _ h=>h⟩
instance rpList {α:Type}[Rp α]:Rp (List α) :=
 ⟨fun K H v as=>∃ l xs,v = .ref l/\Rd H l (.lst xs)/\xs.length<=sizeLine/\Paired (Rp.rel K H) xs as,
  fun s ⟨l,xs,e,h,z,p⟩=>⟨l,xs,e,s.rd h,z,Paired.imp' (fun _ _ r=>Rp.mono s r) p⟩⟩
instance rpPair {α β:Type}[Rp α][Rp β]:Rp (α × β) :=
 ⟨fun K H v p=>∃ t a b,v = .ref t/\SqT K H t [a,b]/\Rp.rel K H a p.1/\Rp.rel K H b p.2,
  fun s ⟨t,a,b,e,h,r1,r2⟩=>⟨t,a,b,e,s.tup h,Rp.mono s r1,Rp.mono s r2⟩⟩
structure T3 (α β γ:Type) where
 a:α
 b:β
 c:γ
 deriving DecidableEq
structure T4 (α β γ δ:Type) where
 a:α
 b:β
 c:γ
 d:δ
 deriving DecidableEq
structure Tp (α:Type) where
 l:List α
 deriving DecidableEq
instance rpT4 {α β γ δ:Type}[Rp α][Rp β][Rp γ][Rp δ]:Rp (T4 α β γ δ) :=
 ⟨fun K H v p=>∃ t a b c d,v = .ref t/\SqT K H t [a,b,c,d]/\Rp.rel K H a p.a/\Rp.rel K H b p.b/\Rp.rel K H c p.c/\Rp.rel K H d p.d,
  fun s ⟨t,a,b,c,d,e,h,r1,r2,r3,r4⟩=>⟨t,a,b,c,d,e,s.tup h,Rp.mono s r1,Rp.mono s r2,Rp.mono s r3,Rp.mono s r4⟩⟩
instance rpTp {α:Type}[Rp α]:Rp (Tp α) :=
 ⟨fun K H v as=>∃ t xs,v = .ref t/\SqT K H t xs/\xs.length<=sizeLine/\Paired (Rp.rel K H) xs as.l,
  fun s ⟨l,xs,e,h,z,p⟩=>⟨l,xs,e,s.tup h,z,Paired.imp' (fun _ _ r=>Rp.mono s r) p⟩⟩
instance rpOpt {α:Type}[Rp α]:Rp (Option α) :=
 ⟨fun K H v o=>match o with|none=>v = .non|some a=>Rp.rel K H v a,
  fun {K H H' v o} s h=>by cases o with|none=>exact h|some a=>exact Rp.mono (α:=α) s h⟩
class RpA (α:Type) where
 n:Nat
 rel:FZ9->Hp->List V->α->Prop
 mono:∀ {K:FZ9}{H H':Hp}{v:List V}{a:α},Same H H'->rel K H v a->rel K H' v a
 len:∀ {K:FZ9}{H:Hp}{v:List V}{a:α},rel K H v a->v.length=n
instance raNil:RpA Unit:=⟨0,fun _ _ vs _=>vs=[],fun _ h=>h,fun h=>by rw [h];rfl⟩
instance raCons {α β:Type}[Rp α][RpA β]:RpA (α × β) :=
 ⟨RpA.n β+1,fun K H vs p=>∃ v r,vs=v::r/\Rp.rel K H v p.1/\RpA.rel K H r p.2,
  fun s ⟨v,r,e,h1,h2⟩=>⟨v,r,e,Rp.mono s h1,RpA.mono s h2⟩,fun ⟨v,r,e,h1,h2⟩=>by rw [e,qgA,RpA.len h2]⟩
structure Ext (G H G' H':Hp):Prop where
 gg:Same G G'
 gh:Same G' H'
 hh:Same H H'
 no:∀ b,G b=none->H b≠none->G' b=none
section
variable {G H G1 H1 G2 H2 G0 H0:Hp}{p:Addr}{o:HO}
theorem Ext.refl (s:Same G H):Ext G H G H:=⟨.refl _,s,.refl _,fun _ h _=>h⟩
theorem Ext.trans (x:Ext G H G1 H1)(y:Ext G1 H1 G2 H2):Ext G H G2 H2 :=
 ⟨x.gg.trans y.gg,y.gh,x.hh.trans y.hh,fun b h1 h2=>y.no b (x.no b h1 h2) fun z=>h2 (x.hh.free z)⟩
theorem Same.both (s:Same G H):Same (upd G p o) (upd H p o):=fun b u e=>by
 by_cases hb:b=p
 ·subst hb;rw [AQ] at e ⊢;exact e
 ·rw [Af hb] at e ⊢;exact s b u e
theorem Ext.new (s:Same G H)(h:H p=none):Ext G H (upd G p o) (upd H p o) :=
 ⟨Same.new (s.free h),s.both,Same.new h,fun b h1 h2=>by
  have hb:b≠p:=fun z=>h2 (by rw [z];exact h);rw [Af hb]
  exact h1⟩
theorem Ext.own (s:Same G H)(h:H p=none):Ext G H G (upd H p o):=⟨.refl _,s.trans (Same.new h),Same.new h,fun _ h _=>h⟩
theorem Ext.put (x:Ext G0 H0 G H)(h0:H0 p=none)(hg:G p=none):Ext G0 H0 G (upd H p o):=⟨x.gg,x.gh.put hg,x.hh.put h0,x.no⟩
theorem Ext.frz (x:Ext G0 H0 G H)(h0:H0 p=none)(hg:G p=none)(hh:H p=some o):Ext G0 H0 (upd G p o) H :=
 ⟨x.gg.trans (Same.new hg),fun b u e=>by
  by_cases hb:b=p
  ·subst hb;rw [AQ] at e;rw [hh];exact e
  ·rw [Af hb] at e
   exact x.gh b u e,x.hh,fun b h1 h2=>by
  have hb:b≠p:=fun z=>h2 (by rw [z];exact h0);rw [Af hb]
  exact x.no b h1 h2⟩
end
section
variable {K:FZ9}{σ:St}{G:Hp}
def EV (K:FZ9){α:Type}[Rp α](te:TE)(σ:St)(G:Hp)(m:Option α):Prop :=
 ∀ G1,Same G G1->∀ a,m=some a->∀ H,Same G1 H->∀ Q:VK,(∀ v G2 H2,Ext G1 H G2 H2->Rp.rel K G2 v a->Q v H2)->te σ H Q
def TV (t:TT)(σ:St)(G:Hp)(m:Option Bool):Prop :=
 ∀ G1,Same G G1->∀ a,m=some a->∀ H,Same G1 H->∀ Q:Bool->Hp->Prop,(∀ G2 H2,Ext G1 H G2 H2->Q a H2)->t σ H Q
def AV (K:FZ9){α:Type}[RpA α](t:TA)(σ:St)(G:Hp)(m:Option α):Prop :=
 ∀ G1,Same G G1->∀ a,m=some a->∀ H,Same G1 H->∀ Q:List V->Hp->Prop,(∀ vs G2 H2,Ext G1 H G2 H2->RpA.rel K G2 vs a->Q vs H2)->t σ H Q
def LV (K:FZ9){α:Type}[Rp α](t:TA)(σ:St)(G:Hp)(n:Nat)(m:Option (List α)):Prop :=
 ∀ G1,Same G G1->∀ a,m=some a->∀ H,Same G1 H->∀ Q:List V->Hp->Prop,(∀ vs G2 H2,Ext G1 H G2 H2->vs.length=n->Paired (Rp.rel K G2) vs a->Q vs H2)->t σ H Q
def OV (t:TO)(σ:St)(G:Hp)(m:Option (Option Int)):Prop :=
 ∀ G1,Same G G1->∀ a,m=some a->∀ H,Same G1 H->∀ Q:Option Int->Hp->Prop,(∀ G2 H2,Ext G1 H G2 H2->Q a H2)->t σ H Q
def FV (K:FZ9){α:Type}[Rp α](te:TE)(σ:St)(G:Hp)(m:Option (List α)):Prop :=
 ∀ G1,Same G G1->∀ a,m=some a->∀ H,Same G1 H->∀ Q:VK,(∀ p vs G2 H2,Ext G1 H G2 H2->H p=none->G2 p=none->H2 p=some (.lst vs)->vs.length<=sizeLine->Paired (Rp.rel K G2) vs a->Q (.ref p) H2)->te σ H Q
section
variable {α β γ δ:Type}[Rp α][Rp β][Rp γ][Rp δ]{ta tb tc td:TE}{ma:Option α}{mb:Option β}{mc:Option γ}
theorem EV.run {te:TE}{H:Hp}{a:α}{Q:VK}{m:Option α}(e:EV K te σ G m)(hm:m=some a)(s:Same G H)(k:∀ v G2 H2,Ext G H G2 H2->Rp.rel K G2 v a->Q v H2):te σ H Q:=e G (.refl G) a hm H s Q k
theorem TV.run {t:TT}{H:Hp}{a:Bool}{Q:Bool->Hp->Prop}{m:Option Bool}(e:TV t σ G m)(hm:m=some a)(s:Same G H)(k:∀ G2 H2,Ext G H G2 H2->Q a H2):t σ H Q:=e G (.refl G) a hm H s Q k
theorem EV.of {te:TE}{m m':Option α}(e:EV K te σ G m)(h:m=m'):EV K te σ G m':=h ▸ e
theorem FV.ev {te:TE}{m:Option (List α)}(e:FV K te σ G m):EV K te σ G m:=by
 intro G1 s1 a ha H sH Q k;refine e G1 s1 a ha H sH Q fun p vs G2 H2 x h0 hg hh hz hp=>?_;exact k _ _ _ (x.frz h0 hg hh) ⟨p,vs,rfl,.inl AQ,hz,Paired.imp' (fun _ _ r=>Rp.mono (Same.new hg) r) hp⟩
theorem ev_var {i:Nat}{v:V}{a:α}(h:σ[i]? = some (some v))(r:Rp.rel K G v a):EV K (Hi i) σ G (some a):=fun G1 s a' e H sH Q k=>by
 cases e;exact ⟨v,h,k v G1 H (.refl sH) (Rp.mono s r)⟩
theorem ev_c {v:V}{a:α}(h:∀ G,Rp.rel K G v a):EV K (tC v) σ G (some a):=fun G1 s a' e H sH Q k=>by
 cases e;exact k v G1 H (.refl sH) (h _)
theorem Ag {i:Int}:EV K (tC (.int i)) σ G (some i):=ev_c fun _=>rfl
theorem Gv {b:Bool}:EV K (tC (.bl b)) σ G (some b):=ev_c fun _=>rfl
theorem B5 {x:Str}(h:x.length<=sizeLine:=by decide +kernel):EV K (tC (.str x)) σ G (some x):=ev_c fun _=>⟨rfl,h⟩
theorem MW:EV K (tC .non) σ G (some ()):=ev_c fun _=>rfl
theorem Jm:EV K (tC .non) σ G (some (none:Option α)):=ev_c fun _=>rfl
theorem MX {te:TE}{m:Option α}(e:EV K te σ G m):EV K te σ G (m.bind fun a=>some (some a)):=by
 clear 7;obtain ⟨a,ha,hc⟩:=qaA.mp hc;cases hc;exact e G1 s1 a ha H sH Q k
theorem By {r:R2}{f:α->β->Option γ}
  (h:∀ {G H:Hp}{v u:V}{a:α}{b:β}{c:γ},Same G H->Rp.rel K G v a->Rp.rel K G u b->f a b=some c->∀ {Q:VK},(∀ w G2 H2,Ext G H G2 H2->Rp.rel K G2 w c->Q w H2)->r v u H Q)
  (ea:EV K ta σ G ma) (eb:EV K tb σ G mb):EV K (tOp r ta tb) σ G (ma.bind fun a=>mb.bind fun b=>f a b):=by
 clear 7;obtain ⟨a,ha,hc⟩:=qaA.mp hc;obtain ⟨b,hb,hc⟩:=qaA.mp hc;clear 8 ea a ha;refine eb G2 (s1.trans x2.gg) b hb H2 x2.gh _ fun u G3 H3 x3 r3=>?_;exact h x3.gh (Rp.mono x3.gg r2) r3 hc fun w G4 H4 x4 r4=>k w G4 H4 ((x2.trans x3).trans x4) r4
theorem ev_un {r:V->Hp->VK->Prop}{f:α->Option γ}
  (h:∀ {G H:Hp}{v:V}{a:α}{c:γ},Same G H->Rp.rel K G v a->f a=some c->∀ {Q:VK},(∀ w G2 H2,Ext G H G2 H2->Rp.rel K G2 w c->Q w H2)->r v H Q)
  (ea:EV K ta σ G ma):EV K (tUn r ta) σ G (ma.bind fun a=>f a):=by
 clear 7;obtain ⟨a,ha,hc⟩:=qaA.mp hc;clear 8 ea a ha;exact h x2.gh r2 hc fun w G4 H4 x4 r4=>k w G4 H4 (x2.trans x4) r4
instance decMul (i j:Int):Decidable (CMul i j):=by unfold CMul;infer_instance
instance decDiv (i j:Int):Decidable (OX i j):=by unfold OX;infer_instance
def LC (a b:Int):Option Int:=if CMul a b then some (a * b) else none
def divO (a b:Int):Option Int:=if OX a b then some (a / b) else none
def JX (a b:Int):Option Int:=if 0<b then some (a % b) else none
theorem B2 {p:Prop}[Decidable p]{α:Type}{a c:α}(h:(if p then some a else none)=some c):p/\a=c:=by
 by_cases hp:p
 ·rw [if_pos hp] at h;exact ⟨hp,qgB h⟩
 ·rw [if_neg hp] at h;cases h
section
variable {ia ib:Option Int}
theorem BS (ea:EV K ta σ G ia)(eb:EV K tb σ G ib):EV K (tOp (Lj K) ta tb) σ G (ia.bind fun a=>ib.bind fun b=>some (a+b)) :=
 By (fun s ra rb e Q k=>by cases ra;cases rb;cases e;exact k _ _ _ (.refl s) rfl) ea eb
theorem ME (ea:EV K ta σ G ia)(eb:EV K tb σ G ib):EV K (tOp (rMul K) ta tb) σ G (ia.bind fun a=>ib.bind fun b=>LC a b) :=
 By (fun s ra rb e Q k=>by cases ra;cases rb;obtain ⟨h,rfl⟩:=B2 e;exact ⟨h,k _ _ _ (.refl s) rfl⟩) ea eb
theorem GQ (ea:EV K ta σ G ia)(eb:EV K tb σ G ib):EV K (tOp (rI (fun _ j=>0<j) fun i j=>.int (i % j)) ta tb) σ G (ia.bind fun a=>ib.bind fun b=>JX a b) :=
 By (fun s ra rb e Q k=>by cases ra;cases rb;obtain ⟨h,rfl⟩:=B2 e;exact ⟨_,_,rfl,rfl,h,k _ _ _ (.refl s) rfl⟩) ea eb
theorem ev_div (ea:EV K ta σ G ia)(eb:EV K tb σ G ib):EV K (tOp (rI OX fun i j=>.int (i / j)) ta tb) σ G (ia.bind fun a=>ib.bind fun b=>divO a b) :=
 By (fun s ra rb e Q k=>by cases ra;cases rb;obtain ⟨h,rfl⟩:=B2 e;exact ⟨_,_,rfl,rfl,h,k _ _ _ (.refl s) rfl⟩) ea eb
theorem ev_neg (ea:EV K ta σ G ia):EV K (tUn (rU fun i=>.int (-i)) ta) σ G (ia.bind fun a=>some (-a)) :=
 ev_un (fun s ra e Q k=>by cases ra;cases e;exact ⟨_,rfl,k _ _ _ (.refl s) rfl⟩) ea
theorem GI {p:Int->Int->Bool}{q:List Nat->List Nat->Bool}(ea:EV K ta σ G ia)(eb:EV K tb σ G ib):EV K (tOp (Nx p q) ta tb) σ G (ia.bind fun a=>ib.bind fun b=>some (p a b)) :=
 By (fun s ra rb e Q k=>by cases ra;cases rb;cases e;exact k _ _ _ (.refl s) rfl) ea eb
theorem Bp (ea:EV K ta σ G ia)(eb:EV K tb σ G ib):EV K (tOp rEq ta tb) σ G (ia.bind fun a=>ib.bind fun b=>some (decide (a=b))) :=
 By (fun s ra rb e Q k=>by cases ra;cases rb;cases e;exact ⟨rfl,k _ _ _ (.refl s) (by show V.bl _=V.bl _;congr 1;simp)⟩) ea eb
theorem ev_neI (ea:EV K ta σ G ia)(eb:EV K tb σ G ib):EV K (tOp rNe ta tb) σ G (ia.bind fun a=>ib.bind fun b=>some (!decide (a=b))) :=
 By (fun s ra rb e Q k=>by cases ra;cases rb;cases e;exact ⟨rfl,k _ _ _ (.refl s) (by show V.bl _=V.bl _;congr 1;simp)⟩) ea eb
end
section
variable {ba bb:Option Bool}
theorem ev_not (ea:EV K ta σ G ba):EV K (tNotV ta) σ G (ba.bind fun a=>some (!a)):=by
 clear 7;obtain ⟨a,ha,hc⟩:=qaA.mp hc;cases hc;clear 8 ea a ha;cases r2;exact ⟨_,rfl,k _ _ _ x2 rfl⟩
theorem GV (ea:EV K ta σ G ba)(eb:EV K tb σ G bb):EV K (tAndV ta tb) σ G (ba.bind fun a=>cond a bb (some false)):=by
 clear 7;obtain ⟨a,ha,hc⟩:=qaA.mp hc;clear 8 ea a ha;cases r2;refine ⟨_,rfl,?_⟩
 cases a with
 | false=>cases hc;exact Bc (k _ _ _ x2 rfl)
 | true=>exact BZ (eb G2 (s1.trans x2.gg) c hc H2 x2.gh _ fun u G3 H3 x3 r3=>k _ _ _ (x2.trans x3) r3)
theorem JC {tt:TT}{m1 m2:Option α}(et:TV tt σ G ba)(ea:EV K ta σ G m1)(eb:EV K tb σ G m2):EV K (tIf tt ta tb) σ G (ba.bind fun a=>cond a m1 m2):=by
 clear 7;obtain ⟨a,ha,hc⟩:=qaA.mp hc;refine et G1 s1 a ha H sH _ fun G2 H2 x2=>?_
 cases a with
 | true=>exact BZ (ea G2 (s1.trans x2.gg) c hc H2 x2.gh _ fun u G3 H3 x3 r3=>k _ _ _ (x2.trans x3) r3)
 | false=>exact Bc (eb G2 (s1.trans x2.gg) c hc H2 x2.gh _ fun u G3 H3 x3 r3=>k _ _ _ (x2.trans x3) r3)
theorem AI (ea:EV K ta σ G ba):TV (tTest ta) σ G ba:=by
 clear 7;clear 8 ea c hc;cases r2;exact ⟨_,rfl,k _ _ x2⟩
theorem Cw {t:TT}(ea:TV t σ G ba):TV (tNot t) σ G (ba.bind fun a=>some (!a)):=by
 clear 7;obtain ⟨a,ha,hc⟩:=qaA.mp hc;cases hc;exact ea G1 s1 a ha H sH _ fun G2 H2 x2=>k _ _ x2
theorem Mu {t u:TT}(ea:TV t σ G ba)(eb:TV u σ G bb):TV (tAnd t u) σ G (ba.bind fun a=>cond a bb (some false)):=by
 clear 7;obtain ⟨a,ha,hc⟩:=qaA.mp hc;refine ea G1 s1 a ha H sH _ fun G2 H2 x2=>?_
 cases a with
 | false=>cases hc;exact Bc (k _ _ x2)
 | true=>exact BZ (eb G2 (s1.trans x2.gg) c hc H2 x2.gh _ fun G3 H3 x3=>k _ _ (x2.trans x3))
theorem EC {t u:TT}(ea:TV t σ G ba)(eb:TV u σ G bb):TV (tOr t u) σ G (ba.bind fun a=>cond a (some true) bb):=by
 clear 7;obtain ⟨a,ha,hc⟩:=qaA.mp hc;refine ea G1 s1 a ha H sH _ fun G2 H2 x2=>?_
 cases a with
 | true=>cases hc;exact BZ (k _ _ x2)
 | false=>exact Bc (eb G2 (s1.trans x2.gg) c hc H2 x2.gh _ fun G3 H3 x3=>k _ _ (x2.trans x3))
theorem tv_tru {f:α->Bool}(h:∀ {G:Hp}{v:V}{a:α},Rp.rel K G v a->TruV K v G (f a))(mn:∀ {G H:Hp}{v:V}{k:Bool},Same G H->TruV K v G k->TruV K v H k)(ea:EV K ta σ G ma) :
  TV (fun σ H Q=>ta σ H fun x H'=>∃ k,TruV K x H' k/\Q k H') σ G (ma.bind fun a=>some (f a)):=by
 clear 7;obtain ⟨a,ha,hc⟩:=qaA.mp hc;cases hc;clear 8 ea a ha;exact ⟨_,mn x2.gh (h r2),k _ _ x2⟩
end
end
end
section
variable {K:FZ9}{σ:St}{G:Hp}{α β γ δ:Type}[Rp α][Rp β][Rp γ][Rp δ]{ta tb tc td:TE}{ma:Option α}{mb:Option β}{mc:Option γ}{md:Option δ}
section
variable {sa sb:Option Str}{ia ib:Option Int}
def Hd (a b:Str):Option Str:=if a.length+b.length<=sizeLine then some (a++b) else none
theorem Cu (ea:EV K ta σ G sa)(eb:EV K tb σ G sb):EV K (tOp (Lj K) ta tb) σ G (sa.bind fun a=>sb.bind fun b=>Hd a b) :=
 By (fun s ra rb e Q k=>by
  obtain ⟨rfl,z1⟩:=ra;obtain ⟨rfl,z2⟩:=rb;obtain ⟨h,rfl⟩:=B2 e
  exact ⟨h,k _ _ _ (.refl s) ⟨rfl,by rw [len_app];exact h⟩⟩) ea eb
theorem MF {p:Int->Int->Bool}{q:List Nat->List Nat->Bool}(ea:EV K ta σ G sa)(eb:EV K tb σ G sb):EV K (tOp (Nx p q) ta tb) σ G (sa.bind fun a=>sb.bind fun b=>some (q a.cps.toList b.cps.toList)) :=
 By (fun s ra rb e Q k=>by obtain ⟨rfl,z1⟩:=ra;obtain ⟨rfl,z2⟩:=rb;cases e;exact k _ _ _ (.refl s) rfl) ea eb
theorem DQ (ea:EV K ta σ G sa)(eb:EV K tb σ G sb):EV K (tOp rEq ta tb) σ G (sa.bind fun a=>sb.bind fun b=>some (decide (a=b))) :=
 By (fun s ra rb e Q k=>by obtain ⟨rfl,z1⟩:=ra;obtain ⟨rfl,z2⟩:=rb;cases e;exact ⟨rfl,k _ _ _ (.refl s) (by show V.bl _=V.bl _;congr 1;simp)⟩) ea eb
theorem N2 (ea:EV K ta σ G sa)(eb:EV K tb σ G sb):EV K (tOp rNe ta tb) σ G (sa.bind fun a=>sb.bind fun b=>some (!decide (a=b))) :=
 By (fun s ra rb e Q k=>by obtain ⟨rfl,z1⟩:=ra;obtain ⟨rfl,z2⟩:=rb;cases e;exact ⟨rfl,k _ _ _ (.refl s) (by show V.bl _=V.bl _;congr 1;simp)⟩) ea eb
def inS (a b:Str):Bool:=!(Builtin.Str.occurrences b a 0 b.length 1).isEmpty
theorem ev_inS (ea:EV K ta σ G sa)(eb:EV K tb σ G sb):EV K (tOp (fun x y H Q=>∃ i j,x = .str i/\y = .str j/\Q (.bl (!(Builtin.Str.occurrences j i 0 j.length 1).isEmpty)) H) ta tb) σ G (sa.bind fun a=>sb.bind fun b=>some (inS a b)) :=
 By (fun s ra rb e Q k=>by obtain ⟨rfl,z1⟩:=ra;obtain ⟨rfl,z2⟩:=rb;cases e;exact ⟨_,_,rfl,rfl,k _ _ _ (.refl s) rfl⟩) ea eb
theorem QS (ea:EV K ta σ G sa)(eb:EV K tb σ G sb):EV K (tOp (fun x y H Q=>∃ i j,x = .str i/\y = .str j/\Q (.bl (!(!(Builtin.Str.occurrences j i 0 j.length 1).isEmpty))) H) ta tb) σ G (sa.bind fun a=>sb.bind fun b=>some (!inS a b)) :=
 By (fun s ra rb e Q k=>by obtain ⟨rfl,z1⟩:=ra;obtain ⟨rfl,z2⟩:=rb;cases e;exact ⟨_,_,rfl,rfl,k _ _ _ (.refl s) rfl⟩) ea eb
theorem OO (ea:EV K ta σ G sa)(eb:EV K tb σ G ib):EV K (tOp (rAt K) ta tb) σ G (sa.bind fun a=>ib.bind fun i=>(atI a.cps.toList i).bind fun c=>some (⟨#[c]⟩:Str)) :=
 By (fun s ra rb e Q k=>by
  obtain ⟨rfl,z1⟩:=ra;cases rb;obtain ⟨c,hc,e⟩:=qaA.mp e;cases e
  exact ⟨z1,c,hc,k _ _ _ (.refl s) ⟨rfl,by show 1<=sizeLine;decide⟩⟩) ea eb
end
theorem Fc {R:V->α->Prop}{xs:List V}{as:List α}{i:Int}{a:α}(p:Paired R xs as)(h:atI as i=some a):∃ v,atI xs i=some v/\R v a:=by
 have hl:=Paired.length p;unfold atI at h ⊢;obtain ⟨j,hj,h⟩:=qaA.mp h;rw [hl,hj]
 have hlt:j<xs.length:=by
  have:=(quA.mp h).1;omega
 exact ⟨xs[j],qvA hlt,Paired.at' p (qvA hlt) h⟩
theorem Paired.app {α β:Type}{F:α->β->Prop}:∀ {l1 l2:List α}{m1 m2:List β},Paired F l1 m1->Paired F l2 m2->Paired F (l1++l2) (m1++m2)
 | _,_,_,_,.nil,h=>h
 | _,_,_,_,.cons r t,h=>.cons r (Paired.app t h)
theorem Paired.tk {α β:Type}{F:α->β->Prop}:∀ (n:Nat) {l:List α}{m:List β},Paired F l m->Paired F (l.take n) (m.take n)
 | 0,_,_,_=>by simpa using .nil
 | n+1,_,_,.nil=>by simpa using .nil
 | n+1,_,_,.cons r t=>.cons r (Paired.tk n t)
theorem Paired.dp {α β:Type}{F:α->β->Prop}:∀ (n:Nat) {l:List α}{m:List β},Paired F l m->Paired F (l.drop n) (m.drop n)
 | 0,_,_,h=>h
 | n+1,_,_,.nil=>by simpa using .nil
 | n+1,_,_,.cons r t=>Paired.dp n t
theorem Paired.rep {α β:Type}{F:α->β->Prop}{l:List α}{m:List β}(h:Paired F l m):∀ n:Nat,Paired F (List.replicate n l).flatten (List.replicate n m).flatten
 | 0=>.nil
 | n+1=>by
  rw [List.replicate_succ,List.replicate_succ,List.flatten_cons,List.flatten_cons];exact Paired.app h (Paired.rep h n)
section
variable {la lb:Option (List α)}{ia ib:Option Int}
theorem Du (ea:EV K ta σ G la)(eb:EV K tb σ G ib):EV K (tOp (rAt K) ta tb) σ G (la.bind fun a=>ib.bind fun i=>atI a i) :=
 By (fun s ra rb e Q k=>by
  obtain ⟨l,xs,rfl,h,z,p⟩:=ra;cases rb;obtain ⟨v,hv,r⟩:=Fc p e
  exact .inl ⟨xs,v,.inl (s.rd h),hv,k _ _ _ (.refl s) r⟩) ea eb
theorem Gi {τ:Type}[Rp τ]{mt:Option τ}{i:Int}{f:τ->α}(h:∀ {G:Hp}{v:V}{p:τ},Rp.rel K G v p->∃ t xs w,v = .ref t/\SqT K G t xs/\atI xs i=some w/\Rp.rel K G w (f p))(ea:EV K ta σ G mt) :
  EV K (tOp (rAt K) ta (tC (.int i))) σ G (mt.bind fun p=>some (f p)):=by
 clear 7;obtain ⟨a,ha,hc⟩:=qaA.mp hc;cases hc;clear 8 ea a ha;obtain ⟨t,xs,w,rfl,ht,hw,r⟩:=h r2;exact .inr ⟨xs,w,x2.gh.tup ht,hw,k _ _ _ x2 r⟩
theorem ev_fst {mt:Option (α × β)}(ea:EV K ta σ G mt):EV K (tOp (rAt K) ta (tC (.int 0))) σ G (mt.bind fun p=>some p.1) :=
 Gi (τ:=α × β) (fun ⟨t,a,b,e,h,r1,r2⟩=>⟨t,_,a,e,h,rfl,r1⟩) ea
theorem ev_snd {mt:Option (α × β)}(ea:EV K ta σ G mt):EV K (tOp (rAt K) ta (tC (.int 1))) σ G (mt.bind fun p=>some p.2) :=
 Gi (τ:=α × β) (fun ⟨t,a,b,e,h,r1,r2⟩=>⟨t,_,b,e,h,rfl,r2⟩) ea
theorem ev_p41 {mt:Option (T4 α β γ δ)}(ea:EV K ta σ G mt):EV K (tOp (rAt K) ta (tC (.int 0))) σ G (mt.bind fun p=>some p.a) :=
 Gi (τ:=T4 α β γ δ) (fun ⟨t,a,b,c,d,e,h,r1,r2,r3,r4⟩=>⟨t,_,a,e,h,rfl,r1⟩) ea
theorem ev_p42 {mt:Option (T4 α β γ δ)}(ea:EV K ta σ G mt):EV K (tOp (rAt K) ta (tC (.int 1))) σ G (mt.bind fun p=>some p.b) :=
 Gi (τ:=T4 α β γ δ) (fun ⟨t,a,b,c,d,e,h,r1,r2,r3,r4⟩=>⟨t,_,b,e,h,rfl,r2⟩) ea
theorem ev_p43 {mt:Option (T4 α β γ δ)}(ea:EV K ta σ G mt):EV K (tOp (rAt K) ta (tC (.int 2))) σ G (mt.bind fun p=>some p.c) :=
 Gi (τ:=T4 α β γ δ) (fun ⟨t,a,b,c,d,e,h,r1,r2,r3,r4⟩=>⟨t,_,c,e,h,rfl,r3⟩) ea
theorem ev_p44 {mt:Option (T4 α β γ δ)}(ea:EV K ta σ G mt):EV K (tOp (rAt K) ta (tC (.int 3))) σ G (mt.bind fun p=>some p.d) :=
 Gi (τ:=T4 α β γ δ) (fun ⟨t,a,b,c,d,e,h,r1,r2,r3,r4⟩=>⟨t,_,d,e,h,rfl,r4⟩) ea
theorem JT {H:Hp}{Q:VK}{as:List α}{G1:Hp}(s:Same G1 H){vs:List V}(hz:vs.length<=sizeLine)(hp:Paired (Rp.rel K G1) vs as)
  (k:∀ p vs G2 H2,Ext G1 H G2 H2->H p=none->G2 p=none->H2 p=some (.lst vs)->vs.length<=sizeLine->Paired (Rp.rel K G2) vs as->Q (.ref p) H2):∀ p,H p=none->Q (.ref p) (upd H p (.lst vs)) :=
 fun p h=>k p vs G1 _ (.own s h) h (s.free h) AQ hz hp
theorem FV.mono {H H' G1 G2:Hp}{as:List α}{Q:VK}(x:Ext G1 H G2 H')
  (k:∀ p vs G3 H3,Ext G1 H G3 H3->H p=none->G3 p=none->H3 p=some (.lst vs)->vs.length<=sizeLine->Paired (Rp.rel K G3) vs as->Q (.ref p) H3) :
  ∀ p vs G3 H3,Ext G2 H' G3 H3->H' p=none->G3 p=none->H3 p=some (.lst vs)->vs.length<=sizeLine->Paired (Rp.rel K G3) vs as->Q (.ref p) H3 :=
 fun p vs G3 H3 y h0=>k p vs G3 H3 (x.trans y) (x.hh.free h0)
def EB {α:Type}(a b:List α):Option (List α):=if a.length+b.length<=sizeLine then some (a++b) else none
theorem D4 (ea:EV K ta σ G la)(eb:EV K tb σ G lb):FV K (tOp (Lj K) ta tb) σ G (la.bind fun a=>lb.bind fun b=>EB a b):=by
 clear 7;obtain ⟨a,ha,hc⟩:=qaA.mp hc;obtain ⟨b,hb,hc⟩:=qaA.mp hc;obtain ⟨hl,rfl⟩:=B2 hc;clear 8 ea a ha;refine eb G2 (s1.trans x2.gg) b hb H2 x2.gh _ fun u G3 H3 x3 r3=>?_;obtain ⟨l1,xs,rfl,h1,z1,p1⟩:=Rp.mono x3.gg r2;obtain ⟨l2,ys,rfl,h2,z2,p2⟩:=r3;have e1:=Paired.length p1;have e2:=Paired.length p2;have hz:(xs++ys).length<=sizeLine:=by rw [qfA];omega
 exact ⟨xs,ys,x3.gh.rd h1,x3.gh.rd h2,by rw [qfA] at hz;exact hz,JT x3.gh hz (Paired.app p1 p2) (FV.mono (x2.trans x3) k)⟩
def E3 {α:Type}(xs:List α)(lo hi:Option Int):List α:=(xs.drop (HT.sIx xs.length 0 lo)).take (HT.sIx xs.length xs.length hi - HT.sIx xs.length 0 lo)
theorem Paired.cut {α:Type}{R:V->α->Prop}{xs:List V}{as:List α}(p:Paired R xs as)(lo hi:Option Int):Paired R (O0 xs lo hi) (E3 as lo hi):=by
 unfold O0 E3;rw [Paired.length p];exact Paired.tk _ (Paired.dp _ p)
section
variable {t1 t2:TO}{m1 m2:Option (Option Int)}
theorem Bz:OV PJ σ G (some none):=fun G1 s1 a ha H sH Q k=>by
 cases ha;exact k _ _ (.refl sH)
theorem BL (ea:EV K ta σ G ia):OV (tPart ta) σ G (ia.bind fun i=>some (some i)):=by
 clear 7;obtain ⟨a,ha,hc⟩:=qaA.mp hc;cases hc;clear 8 ea a ha;cases r2;exact ⟨_,rfl,k _ _ x2⟩
theorem C1 (ea:EV K ta σ G la)(e1:OV t1 σ G m1)(e2:OV t2 σ G m2):FV K (tSl (rSl K) ta t1 t2) σ G (la.bind fun a=>m1.bind fun lo=>m2.bind fun hi=>some (E3 a lo hi)):=by
 clear 7;obtain ⟨a,ha,hc⟩:=qaA.mp hc;obtain ⟨lo,hlo,hc⟩:=qaA.mp hc;obtain ⟨hi,hhi,hc⟩:=qaA.mp hc;cases hc;clear 8 ea a ha;refine e1 G2 (s1.trans x2.gg) lo hlo H2 x2.gh _ fun G3 H3 x3=>?_;refine e2 G3 (s1.trans (x2.trans x3).gg) hi hhi H3 x3.gh _ fun G4 H4 x4=>?_;obtain ⟨l,xs,rfl,h,z,p⟩:=Rp.mono (x3.trans x4).gg r2;exact ⟨xs,.inl (x4.gh.rd h),JT x4.gh (qdB (JQ _ _ _) z) (Paired.cut p lo hi) (FV.mono ((x2.trans x3).trans x4) k)⟩
theorem E6 {sa:Option Str}(ea:EV K ta σ G sa)(e1:OV t1 σ G m1)(e2:OV t2 σ G m2):EV K (tSl (rSl K) ta t1 t2) σ G (sa.bind fun a=>m1.bind fun lo=>m2.bind fun hi=>some (Txt.slice a lo hi)):=by
 clear 7;obtain ⟨a,ha,hc⟩:=qaA.mp hc;obtain ⟨lo,hlo,hc⟩:=qaA.mp hc;obtain ⟨hi,hhi,hc⟩:=qaA.mp hc;cases hc;clear 8 ea a ha;refine e1 G2 (s1.trans x2.gg) lo hlo H2 x2.gh _ fun G3 H3 x3=>?_;refine e2 G3 (s1.trans (x2.trans x3).gg) hi hhi H3 x3.gh _ fun G4 H4 x4=>?_;obtain ⟨rfl,z⟩:=r2;exact ⟨z,k _ _ _ ((x2.trans x3).trans x4) ⟨rfl,qdB (Txt.slice_le _ _ _) z⟩⟩
end
end
section
variable {t:TA}{n:Nat}{ml:Option (List α)}
theorem C4:LV K Bm σ G 0 (some ([]:List α)):=fun G1 s1 a ha H sH Q k=>by
 cases ha;exact k _ _ _ (.refl sH) rfl .nil
theorem AW (ea:EV K ta σ G ma)(er:LV K t σ G n ml):LV K (Am ta t) σ G (n+1) (ma.bind fun a=>ml.bind fun r=>some (a::r)):=by
 clear 7;obtain ⟨a,ha,hc⟩:=qaA.mp hc;obtain ⟨r,hr,hc⟩:=qaA.mp hc;cases hc;clear 8 ea a ha;refine er G2 (s1.trans x2.gg) r hr H2 x2.gh _ fun vs G3 H3 x3 hl hp=>?_;exact k _ _ _ (x2.trans x3) (by rw [qgA,hl]) (.cons (Rp.mono x3.gg r2) hp)
theorem C8 (e:LV K t σ G n ml)(hn:n<=sizeLine:=by decide):FV K (QF t) σ G ml:=by
 clear 7;refine e G1 s1 c hc H sH _ fun vs G2 H2 x2 hl hp=>?_;exact ⟨by omega,JT x2.gh (by omega) hp (FV.mono x2 k)⟩
theorem ev_tupL (e:LV K t σ G n ml)(hn:n<=sizeLine:=by decide):EV K (tTup t) σ G (ml.bind fun l=>some (Tp.mk l)):=by
 clear 7;obtain ⟨l,hl,hc⟩:=qaA.mp hc;cases hc;refine e G1 s1 l hl H sH _ fun vs G2 H2 x2 hl hp=>⟨by omega,fun p h=>?_⟩;exact k _ _ _ (x2.trans (.new x2.gh h)) ⟨p,vs,rfl,SqT.of AQ,by omega,Paired.imp' (fun _ _ r=>Rp.mono (Same.new (x2.gh.free h)) r) hp⟩
theorem Os (ea:EV K ta σ G ma)(eb:EV K tb σ G mb):EV K (tTup (Am ta (Am tb Bm))) σ G (ma.bind fun a=>mb.bind fun b=>some (a,b)):=by
 clear 7;obtain ⟨a,ha,hc⟩:=qaA.mp hc;obtain ⟨b,hb,hc⟩:=qaA.mp hc;cases hc;clear 8 ea a ha;refine eb G2 (s1.trans x2.gg) b hb H2 x2.gh _ fun u G3 H3 x3 r3=>⟨by show 2<=sizeLine;decide,fun p h=>?_⟩;have s:=Same.new (o:=.tup [v,u]) (x3.gh.free h);exact k _ _ _ ((x2.trans x3).trans (.new x3.gh h)) ⟨p,v,u,rfl,SqT.of AQ,Rp.mono (x3.gg.trans s) r2,Rp.mono s r3⟩
theorem ev_tup4 (ea:EV K ta σ G ma)(eb:EV K tb σ G mb)(ec:EV K tc σ G mc)(ed:EV K td σ G md):EV K (tTup (Am ta (Am tb (Am tc (Am td Bm))))) σ G (ma.bind fun a=>mb.bind fun b=>mc.bind fun c=>md.bind fun d=>some (T4.mk a b c d)):=by
 clear 7;obtain ⟨a,ha,hc⟩:=qaA.mp hc;obtain ⟨b,hb,hc⟩:=qaA.mp hc;obtain ⟨c',hc',hc⟩:=qaA.mp hc;obtain ⟨d,hd,hc⟩:=qaA.mp hc;cases hc;clear 8 ea a ha;refine eb G2 (s1.trans x2.gg) b hb H2 x2.gh _ fun u G3 H3 x3 r3=>?_;refine ec G3 (s1.trans (x2.trans x3).gg) c' hc' H3 x3.gh _ fun w G4 H4 x4 r4=>?_;refine ed G4 (s1.trans ((x2.trans x3).trans x4).gg) d hd H4 x4.gh _ fun y G5 H5 x5 r5=>⟨by show 4<=sizeLine;decide,fun p h=>?_⟩;have s:=Same.new (o:=.tup [v,u,w,y]) (x5.gh.free h);exact k _ _ _ ((((x2.trans x3).trans x4).trans x5).trans (.new x5.gh h)) ⟨p,v,u,w,y,rfl,SqT.of AQ,Rp.mono (((x3.trans x4).trans x5).gg.trans s) r2,Rp.mono ((x4.trans x5).gg.trans s) r3,Rp.mono (x5.gg.trans s) r4,Rp.mono s r5⟩
end
section
variable {t:TA}{A B:Type}[RpA A][RpA B]{mA:Option A}
theorem av_nil:AV K Bm σ G (some ()):=fun G1 s1 a ha H sH Q k=>by
 cases ha;exact k _ _ _ (.refl sH) rfl
theorem av_cons (ea:EV K ta σ G ma)(er:AV K t σ G mA):AV K (Am ta t) σ G (ma.bind fun a=>mA.bind fun r=>some (a,r)):=by
 clear 7;obtain ⟨a,ha,hc⟩:=qaA.mp hc;obtain ⟨r,hr,hc⟩:=qaA.mp hc;cases hc;clear 8 ea a ha;refine er G2 (s1.trans x2.gg) r hr H2 x2.gh _ fun vs G3 H3 x3 hp=>?_;exact k _ _ _ (x2.trans x3) ⟨v,vs,rfl,Rp.mono x3.gg r2,hp⟩
def spM (K:FZ9){A:Type}{ρ:Type}[RpA A][Rp ρ](m:A->Option ρ):Sp:=fun vs H Q _ =>
 ∃ G a r,Same G H/\RpA.rel K G vs a/\m a=some r/\∀ v G2 H2,Ext G H G2 H2->Rp.rel K G2 v r->Q v H2
theorem MM {A:Type}{ρ:Type}[RpA A][Rp ρ]{m:A->Option ρ}{vs:List V}{H:Hp}{Q:VK}{E:XK}(h:spM K m vs H Q E):vs.length=RpA.n A:=by
 obtain ⟨G,a,r,_,h,_⟩:=h;exact RpA.len h
theorem He {la:Option (List α)}(ea:EV K ta σ G la):EV K (tCB (O2 K) (Am ta Bm)) σ G (la.bind fun a=>some (a.length:Int)):=by
 clear 7;obtain ⟨a,ha,hc⟩:=qaA.mp hc;cases hc;clear 8 ea a ha;obtain ⟨l,xs,rfl,h,z,p⟩:=r2;exact ⟨xs,.inl (.inl (x2.gh.rd h)),by rw [Paired.length p];exact k _ _ _ x2 rfl⟩
theorem Oz {sa:Option Str}(ea:EV K ta σ G sa):EV K (tCB (O2 K) (Am ta Bm)) σ G (sa.bind fun a=>some (a.length:Int)):=by
 clear 7;obtain ⟨a,ha,hc⟩:=qaA.mp hc;cases hc;clear 8 ea a ha;obtain ⟨rfl,z⟩:=r2;exact ⟨z,k _ _ _ x2 rfl⟩
theorem ev_min {ia ib:Option Int}(ea:EV K ta σ G ia)(eb:EV K tb σ G ib):EV K (tCB (fun xs H Q=>∃ i j,xs=[.int i,.int j]/\Q (.int (if j<i then j else i)) H) (Am ta (Am tb Bm))) σ G (ia.bind fun a=>ib.bind fun b=>some (if b<a then b else a)):=by
 clear 7;obtain ⟨a,ha,hc⟩:=qaA.mp hc;obtain ⟨b,hb,hc⟩:=qaA.mp hc;cases hc;clear 8 ea a ha;refine eb G2 (s1.trans x2.gg) b hb H2 x2.gh _ fun u G3 H3 x3 r3=>?_;cases r2;cases r3;exact ⟨_,_,rfl,k _ _ _ (x2.trans x3) rfl⟩
theorem Ow {la:Option (List α)}(ea:EV K ta σ G la):FV K (tCB (fun xs H Q=>∃ p ys,xs=[.ref p]/\(SqL K H p ys\/SqT K H p ys)/\∀ l,H l=none->Q (.ref l) (upd H l (.lst ys))) (Am ta Bm)) σ G la:=by
 intro G1 s1 a ha H sH Q k;clear 8 ea a ha;obtain ⟨l,xs,rfl,h,z,p⟩:=r2;exact ⟨l,xs,rfl,.inl (.inl (x2.gh.rd h)),JT x2.gh z p (FV.mono x2 k)⟩
end
inductive TyS (K:FZ9)(H:Hp):V->String->Prop where
 | non:TyS K H .non "NoneType"
 | bl (x:Bool):TyS K H (.bl x) "bool"
 | int (i:Int):TyS K H (.int i) "int"
 | str (x:Str):TyS K H (.str x) "str"
 | lst {a:Addr}{xs:List V}(e:SqL K H a xs):TyS K H (.ref a) "list"
 | tup {a:Addr}{xs:List V}(e:SqT K H a xs):TyS K H (.ref a) "tuple"
 | dK {a:Addr}{kvs:List (Key × V)}(e:Rd H a (.dK kvs)):TyS K H (.ref a) "dict"
 | dT {a:Addr}{kvs:List (List Key × V)}(e:Rd H a (.dT kvs)):TyS K H (.ref a) "dict"
def PQ (K:FZ9):List V->Hp->VK->Prop:=fun vs H Q=>∃ x t T b,vs=[x,.ty T]/\TyS K H x t/\Pu t T=some b/\Q (.bl b) H
theorem Qj {X:Cx}:Cc X (.builtin "isinstance") (PQ X.K):=by
 intro pins s σ H vs us Q I r h;obtain ⟨x,t,T,b,rfl,ty,e,q⟩:=h;obtain ⟨u,w',rfl,rx,r2⟩:=Om r;obtain rfl:w'=Value.type T:=r2;have e:=kit_of (K:=X.K) e;have fin:∀ tk,EP X pins σ Q (.bool b) { s with toks:=tk }:=fun tk=>⟨.bl b,H,I.tok tk,rfl,q⟩
 cases ty with
 | non=>cases (show u=Value.none from rx);exact PySem.W.kia_one PySem.W.kitx_none I.kIn True.intro e (fun z=>nomatch z) fin
 | bl y=>cases (show u=Value.bool y from rx);exact PySem.W.kia_one PySem.W.kitx_bool I.kIn True.intro e (fun z=>nomatch z) fin
 | int i=>obtain ⟨t,q'⟩:=(show ∃ t,u=Value.int i t from rx);cases q';exact PySem.W.kia_one PySem.W.kitx_int I.kIn True.intro e (fun z=>nomatch z) fin
 | str y=>obtain ⟨t,q'⟩:=(show ∃ t,u=Value.str y t from rx);cases q';exact PySem.W.kia_one PySem.W.kitx_str I.kIn True.intro e (fun z=>nomatch z) fin
 | @lst a xs ea =>
  cases (show u=Value.ref a from rx);obtain ⟨its,_,pl,_⟩:=I.list ea;obtain ⟨o,n,h1,h2,_⟩:=pl;exact PySem.W.kia_one PySem.W.kitx_list I.kIn ⟨o,h1,h2⟩ e (fun z=>nomatch z) fin
 | @tup a xs ea =>
  cases (show u=Value.ref a from rx);obtain ⟨its,_,pl,_⟩:=I.tuple ea;obtain ⟨o,h1,h2,_⟩:=pl;exact PySem.W.kia_one PySem.W.kitx_tuple I.kIn ⟨o,h1,h2⟩ e (fun z=>nomatch z) fin
 | @dK a kvs ea =>
  cases (show u=Value.ref a from rx);obtain ⟨_,_,vs,_,p⟩:=ea.ok I.hok;obtain ⟨o,es,ep,h1,h2,_⟩:=p;exact PySem.W.kia_one PySem.W.kitx_dict I.kIn ⟨o,h1,h2.1⟩ e (fun z=>nomatch z) fin
 | @dT a kvs ea =>
  cases (show u=Value.ref a from rx);obtain ⟨_,_,xs,_,o,es,ep,h1,h2,_⟩:=ea.ok I.hok;exact PySem.W.kia_one PySem.W.kitx_dict I.kIn ⟨o,h1,h2.1⟩ e (fun z=>nomatch z) fin
class RpT (α:Type) [Rp α] where
 tn:String
 ty:∀ {K:FZ9}{H:Hp}{v:V}{a:α},Rp.rel K H v a->TyS K H v tn
instance rtStr:RpT Str:=⟨"str",fun h=>by obtain ⟨rfl,_⟩:=h;exact .str _⟩
theorem TyS.mono {H H':Hp}{v:V}{t:String}(s:Same H H')(h:TyS K H v t):TyS K H' v t:=by
 cases h with
 | non=>exact .non
 | bl=>exact .bl _
 | int=>exact .int _
 | str=>exact .str _
 | lst e=>exact .lst (s.seq e)
 | tup e=>exact .tup (s.tup e)
 | dK e=>exact .dK (s.rd e)
 | dT e=>exact .dT (s.rd e)
theorem ev_inst [RpT α]{T:String}{b:Bool}(h:Pu (RpT.tn α) T=some b)(ea:EV K ta σ G ma):EV K (tCB (PQ K) (Am ta (Am (tC (.ty T)) Bm))) σ G (ma.bind fun _=>some b):=by
 clear 7;obtain ⟨a,ha,hc⟩:=qaA.mp hc;cases hc;clear 8 ea a ha;exact ⟨_,_,_,_,rfl,(RpT.ty r2).mono x2.gh,h,k _ _ _ x2 rfl⟩
theorem EqTy.imp {k:Nat}{α:Type}[DecidableEq α]{R R':Hp->V->α->Prop}(E:EqTy K k R)(h:∀ H v a,R' H v a->R H v a):EqTy K k R' :=
 ⟨fun hK I a b=>E.fn hK I (h _ _ _ a) (h _ _ _ b),fun A hK I hu r1 r2 a b=>E.eq A hK I hu r1 r2 (h _ _ _ a) (h _ _ _ b),fun A hK I hu r1 r2 a b=>E.rc A hK I hu r1 r2 (h _ _ _ a) (h _ _ _ b)⟩
class RpE (α:Type) [Rp α] [DecidableEq α] where
 k:Nat
 ty:∀ K:FZ9,EqTy K k (Rp.rel (α:=α) K)
instance reInt:RpE Int:=⟨0,fun _=>eqInt⟩
instance reBool:RpE Bool:=⟨0,fun _=>eqBl⟩
instance reList {α:Type}[Rp α][DecidableEq α][RpE α]:RpE (List α):=⟨RpE.k α+1,fun K=>(eqLst (RpE.ty K)).imp fun _ _ _ ⟨l,xs,e,h,_,p⟩=>⟨l,xs,e,.inl h,p⟩⟩
theorem EqTy.up {k j:Nat}{α:Type}[DecidableEq α]{R:Hp->V->α->Prop}(E:EqTy K k R)(h:k<=j):EqTy K j R :=
 ⟨fun hK I a b=>E.fn hK I a b,fun A hK I hu r1 r2 a b=>E.eq A hK I (by omega) r1 r2 a b,fun A hK I hu r1 r2 a b=>E.rc A hK I (by omega) r1 r2 a b⟩
instance rePair {α β:Type}[Rp α][DecidableEq α][RpE α][Rp β][DecidableEq β][RpE β]:RpE (α × β) :=
 ⟨max (RpE.k α) (RpE.k β)+1,fun K=>(eqPair ((RpE.ty (α:=α) K).up (Nat.le_max_left _ _)) ((RpE.ty (α:=β) K).up (Nat.le_max_right _ _)))⟩
section
variable {α:Type}[Rp α][DecidableEq α]{m1 m2:Option α}
def rEqD (K:FZ9)(α:Type)[Rp α][DecidableEq α]:R2:=fun x y H Q=>∃ a b:α,Rp.rel K H x a/\Rp.rel K H y b/\Q (.bl (decide (a=b))) H
theorem op_eqM {X:Cx}{j:Nat}(α:Type)[Rp α][DecidableEq α][RpE α](hr:Room j X.A)(hk:RpE.k α<=10):OpR X (compareOp .Eq) (rEqD X.K α):=op_eqD (RpE.ty X.K) hr hk
theorem ev_eq (ea:EV K ta σ G m1)(eb:EV K tb σ G m2):EV K (tOp (rEqD K α) ta tb) σ G (m1.bind fun a=>m2.bind fun b=>some (decide (a=b))) :=
 By (fun s ra rb e Q k=>by cases e;exact ⟨_,_,Rp.mono s ra,Rp.mono s rb,k _ _ _ (.refl s) rfl⟩) ea eb
end
end
inductive Fl (S ρ:Type) where
 | nx (s:S)
 | bk (s:S)
 | rt (r:ρ)
def CK {α S ρ:Type}(f:α->S->Option (Fl S ρ)):List α->S->Option (Fl S ρ)
 | [],s=>some (.nx s)
 | a::as,s=>(f a s).bind fun fl=>match fl with
  | .nx s'=>CK f as s'
  | .bk s'=>some (.nx s')
  | .rt r=>some (.rt r)
def FJ {α β:Type}(fc:α->Option Bool)(fe:α->Option β):List α->Option (List β)
 | []=>some []
 | a::r=>(fc a).bind fun b=>cond b ((fe a).bind fun y=>(FJ fc fe r).bind fun ys=>some (y::ys)) (FJ fc fe r)
def Bt {α β:Type}(fe:α->Option β):List α->Option (List β)
 | []=>some []
 | a::r=>(fe a).bind fun y=>(Bt fe r).bind fun ys=>some (y::ys)
theorem Jq {α β:Type}(fe:α->Option β):∀ as,FJ (fun _=>some true) fe as=Bt fe as
 | []=>rfl
 | a::r=>by
  show ((fe a).bind fun y=>(FJ (fun _=>some true) fe r).bind fun ys=>some (y::ys))=_;rw [Jq fe r]
  rfl
def Jd (lo hi:Int):Option (List Int):=if (-(2 ^ 62)<=lo/\lo<2 ^ 62/\-(2 ^ 62)<=hi/\hi<2 ^ 62)/\(hi - lo).toNat<=sizeLine then some ((List.range (hi - lo).toNat).map fun (i:Nat)=>lo+(i:Int)) else none
section
variable {K:FZ9}{σ:St}{G:Hp}{α β γ δ:Type}[Rp α][Rp β][Rp γ][Rp δ]{ta tb tc td:TE}{ma:Option α}{mb:Option β}{mc:Option γ}{md:Option δ}
def IW (K:FZ9){α:Type}[Rp α](wi:TI)(σ:St)(G:Hp)(m:Option (List α)):Prop :=
 ∀ G1,Same G G1->∀ a,m=some a->∀ H,Same G1 H->∀ R:It->Hp->Prop,(∀ J vs G2 H2,Ext G1 H G2 H2->Yields J G2 vs->vs.length<=sizeLine->Paired (Rp.rel K G2) vs a->R J H2)->wi σ H R
theorem OI {a:Addr}{xs:List V}{H:Hp}(h:SqT K H a xs):Yields (Itt K a) H xs where
 go:=fun i H' s hi=>⟨xs,xs[i],s.tup h,by simp [hi]⟩
 stop:=fun H' s=>⟨xs,s.tup h,qcB _⟩
 yld:=fun i H' v H'' s _ y=>⟨y.1,y.2 xs (s.tup h)⟩
theorem Bu {la:Option (List α)}(ea:EV K ta σ G la):IW K (iAny K ta) σ G la:=by
 intro G1 s1 a ha H sH R k;clear 8 ea a ha;obtain ⟨l,xs,rfl,h,z,p⟩:=r2;exact .inl ⟨⟨xs,.inl (x2.gh.rd h)⟩,k _ xs G2 H2 x2 (JK (.inl h)) z p⟩
def EK (x:Str):List Str:=x.cps.toList.map fun c=>(⟨#[c]⟩:Str)
theorem IV (x:Str)(H:Hp):Paired (Rp.rel K H) (Dj x) (EK x):=by
 unfold Dj EK
 induction x.cps.toList with
 | nil=>exact .nil
 | cons c r ih=>exact .cons ⟨rfl,by show 1<=sizeLine;decide⟩ ih
theorem O9 {sa:Option Str}(ea:EV K ta σ G sa):IW K (iAny K ta) σ G (sa.bind fun a=>some (EK a)):=by
 intro G1 s1 a ha H sH R k;obtain ⟨b,hb,ha⟩:=qaA.mp ha;cases ha;clear 8 ea b hb;obtain ⟨rfl,z⟩:=r2;exact k _ (Dj b) G2 H2 x2 (Kp b G2) (by unfold Dj;rw [qeA];exact z) (IV b G2)
theorem JP (H:Hp)(f:Nat->Int):∀ l:List Nat,Paired (Rp.rel K H) (l.map fun i=>V.int (f i)) (l.map fun i=>f i)
 | []=>.nil
 | a::r=>.cons rfl (JP H f r)
theorem Ec {ia:Option Int}(ea:EV K ta σ G ia):IW K (iRng1 (Am ta Bm)) σ G (ia.bind fun j=>Jd 0 j):=by
 intro G1 s1 a ha H sH R k;obtain ⟨j,hj,ha⟩:=qaA.mp ha;obtain ⟨⟨hb,hz⟩,rfl⟩:=B2 ha;clear 8 ea j hj;cases r2;refine ⟨j,rfl,hb.2.2.1,hb.2.2.2,?_⟩;have e:(j - 0).toNat=j.toNat:=by omega
 rw [e] at hz k;exact k (Itr 0 j.toNat) _ G2 H2 x2 (Ma 0 j.toNat G2) (by rw [qeA,qiA];exact hz) (JP G2 (fun i=>(0:Int)+(i:Int)) _)
theorem tv_yes:TV Q3 σ G (some true):=fun G1 s1 a ha H sH Q k=>by
 cases ha;exact k _ _ (.refl sH)
theorem Paired.getR {F:V->α->Prop}:∀ {xs:List V}{as:List α}{i:Nat}{v:V},Paired F xs as->xs[i]? = some v->∃ a,as[i]? = some a/\F v a
 | _,_,_,_,.nil,e=>by simp at e
 | _,_,0,_,.cons r _,e=>by simp at e;subst e;exact ⟨_,rfl,r⟩
 | _,_,i+1,_,.cons _ t,e=>Paired.getR (i:=i) t (by simpa using e)
theorem Op {cap:List Nat}{wi:TI}{tt:TT}{te:TE}{mi:Option (List α)}{fc:α->Option Bool}{fe:α->Option β}(ei:IW K wi σ G mi)
  (hb:∀ (x:V) (a:α) (G1:Hp),Same G G1->Rp.rel K G1 x a->TV tt ((C7 cap σ).set 0 (some x)) G1 (fc a)/\EV K te ((C7 cap σ).set 0 (some x)) G1 (fe a)) :
  FV K (M7 cap wi tt te) σ G (mi.bind fun as=>FJ fc fe as):=by
 clear 7;obtain ⟨as,has,hc⟩:=qaA.mp hc;refine ei G1 s1 as has H sH _ fun J vs Ga Ha xa Y hz pr p hp=>?_;have hla:=Paired.length pr
 refine ⟨fun i m ys H2=>m=vs.length - i/\i<=vs.length/\∃ G2 bs cs,Ext Ga Ha G2 H2/\G2 p=none/\H2 p=some (.lst ys)/\ys.length<=i/\Paired (Rp.rel K G2) ys bs/\FJ fc fe (as.drop i)=some cs/\c=bs++cs,
  ⟨vs.length,by simp,qdC _,Ga,[],c,.own xa.gh hp,xa.gh.free hp,AQ,qcB _,.nil,hc,rfl⟩,?_⟩
 rintro i m ys H2 ⟨rfl,hi,G2,bs,cs,x2,hg,hh,hy,hpr,hcs,rfl⟩;by_cases hlt:i<vs.length
 ·refine .inr ⟨Y.go i _ (x2.gg.trans x2.gh) hlt,fun ys' H'=>∃ G2 bs' cs',Ext Ga Ha G2 H'/\G2 p=none/\H' p=some (.lst ys')/\ys'.length<=i+1/\Paired (Rp.rel K G2) ys' bs'/\FJ fc fe (as.drop (i+1))=some cs'/\bs++cs=bs'++cs',
   fun ys' H' ⟨G3,bs',cs',h⟩=>⟨vs.length - (i+1),by omega,rfl,hlt,G3,bs',cs',h⟩,fun x H3 y=>?_⟩
  obtain ⟨rfl,hx⟩:=Y.yld i _ x H3 (x2.gg.trans x2.gh) hlt y;obtain ⟨a,hai,ra⟩:=Paired.getR pr hx
  have hd:as.drop i=a::as.drop (i+1):=by
   obtain ⟨h1,h2⟩:=quA.mp hai;rw [List.drop_eq_getElem_cons h1,h2]
  rw [hd] at hcs;obtain ⟨b,hbb,hcs⟩:=qaA.mp hcs;have B:=hb x a G2 (s1.trans (xa.gg.trans x2.gg)) (Rp.mono x2.gg ra);refine B.1 G2 (.refl _) b hbb _ x2.gh _ fun G5 H5 x5=>?_;have hp5:H5 p=some (.lst ys):=x5.hh _ _ hh;have hg5:G5 p=none:=x5.no p hg (by rw [hh];exact fun z=>nomatch z)
  cases b with
  | false =>
   rw [if_neg qqB];exact ⟨G5,bs,cs,x2.trans x5,hg5,hp5,by omega,Paired.imp' (fun _ _ r=>Rp.mono x5.gg r) hpr,hcs,rfl⟩
  | true =>
   rw [if_pos rfl];obtain ⟨z,hze,hcs⟩:=qaA.mp hcs;obtain ⟨cs',hcs',hcs⟩:=qaA.mp hcs;cases hcs;refine B.2 G5 x5.gg z hze H5 x5.gh _ fun v G6 H6 x6 r6=>?_;have hp6:H6 p=some (.lst ys):=x6.hh _ _ hp5;have hg6:G6 p=none:=x6.no p hg5 (by rw [hp5];exact fun z=>nomatch z);refine ⟨hp6,by omega,G6,bs++[z],cs',((x2.trans x5).trans x6).put hp hg6,hg6,AQ,?_,Paired.app (Paired.imp' (fun _ _ r=>Rp.mono (x5.trans x6).gg r) hpr) (.cons r6 .nil),hcs',by simp⟩;rw [qfA,qhA];omega
 ·have e:i=vs.length:=by omega
  subst e;have hd:as.drop vs.length=[]:=List.drop_eq_nil_of_le (by omega);rw [hd] at hcs;cases hcs;refine .inl ⟨Y.stop _ (x2.gg.trans x2.gh),?_⟩;rw [qbB] at k;exact k p ys G2 H2 (xa.trans x2) (xa.hh.free hp) hg hh (by omega) hpr
theorem CD {cap:List Nat}{wi:TI}{te:TE}{mi:Option (List α)}{fe:α->Option β}(ei:IW K wi σ G mi)
  (hb:∀ (x:V) (a:α) (G1:Hp),Same G G1->Rp.rel K G1 x a->EV K te ((C7 cap σ).set 0 (some x)) G1 (fe a)) :
  FV K (M7 cap wi Q3 te) σ G (mi.bind fun as=>Bt fe as):=by
 have h:=Op (tt:=Q3) (fc:=fun _=>some true) ei fun x a G1 s r=>⟨tv_yes,hb x a G1 s r⟩;have e:(fun as=>FJ (fun _=>some true) fe as)=fun as=>Bt fe as:=funext (Jq fe);rw [e] at h;exact h
def D8 (z:Str)(ys:List Str):Option Str:=if (ys.map (·.length)).sum+ys.length * z.length<=16777216 then some (Txt.join z ys) else none
theorem JV {H:Hp}:∀ {xs:List V}{ys:List Str},Paired (Rp.rel K H) xs ys->xs=ys.map V.str
 | _,_,.nil=>rfl
 | _,_,.cons r t=>by
  obtain ⟨rfl,_⟩:=r;rw [JV t]
  rfl
theorem P2 (z:Str):∀ (ps:List Str) (acc:Array Nat),(ps.foldl (fun acc p=>acc++z.cps++p.cps) acc).size=acc.size+(ps.map (·.length)).sum+ps.length * z.length
 | [],acc=>by simp
 | p::ps,acc=>by
  rw [qcC,P2 z ps];simp only [Array.size_append,qyA,List.sum_cons,qgA,Nat.succ_mul];have:p.cps.size=p.length:=rfl;have:z.cps.size=z.length:=rfl;omega
theorem join_len (z:Str)(ys:List Str):(Txt.join z ys).length<=(ys.map (·.length)).sum+ys.length * z.length:=by
 show ((ys.drop 1).foldl (fun acc p=>acc++z.cps++p.cps) (ys.headD Str.empty).cps).size<=_;rw [P2]
 cases ys with
 | nil=>simp;rfl
 | cons a r =>
  simp only [List.headD_cons,List.drop_succ_cons,List.drop_zero,qyA,List.sum_cons,qgA,Nat.succ_mul];have:a.cps.size=a.length:=rfl;omega
theorem Dc {sa:Option Str}{lb:Option (List Str)}(ea:EV K ta σ G sa)(eb:EV K tb σ G lb):EV K (tBM K "str" (rJoin K) ta (Am tb Bm)) σ G (sa.bind fun z=>lb.bind fun ys=>D8 z ys):=by
 clear 7;obtain ⟨a,ha,hc⟩:=qaA.mp hc;obtain ⟨b,hb,hc⟩:=qaA.mp hc;obtain ⟨hz,rfl⟩:=B2 hc;clear 8 ea a ha;obtain ⟨rfl,za⟩:=r2;refine ⟨rfl,?_⟩;refine eb G2 (s1.trans x2.gg) b hb H2 x2.gh _ fun u G3 H3 x3 r3=>?_;obtain ⟨l,xs,rfl,h,z,p⟩:=r3;obtain rfl:=JV p;exact ⟨a,l,b,rfl,rfl,.inl (x3.gh.rd h),hz,k _ _ _ (x2.trans x3) ⟨rfl,qdB (join_len _ _) (by rw [qkB];exact hz)⟩⟩
def repL {α:Type}(a:List α)(k:Int):Option (List α):=if (-(2 ^ 63)<=k/\k<2 ^ 63)/\a.length * k.toNat<=sizeLine then some (List.replicate k.toNat a).flatten else none
end
section
variable {K:FZ9}{σ:St}{G H:Hp}{α β:Type}[Rp α][Rp β]{te:TE}{tt:TT}{t u rest:TS}{D:Ends}{i:Nat}{a:α}{m:Option α}
theorem Ab (e:EV K te σ G m)(hm:m=some a)(s:Same G H)(k:∀ v G2 H2,Ext G H G2 H2->Rp.rel K G2 v a->rest D (σ.set i (some v)) H2):EE (Q9 te (HM i)) rest D σ H:=e.run hm s k
theorem AR (e:EV K te σ G m)(hm:m=some a)(s:Same G H)(k:∀ v G2 H2,Ext G H G2 H2->Rp.rel K G2 v a->D.rt v H2):EE (tRet te) rest D σ H:=e.run hm s k
theorem B1 {b:Bool}{m:Option Bool}(e:TV tt σ G m)(hm:m=some b)(s:Same G H)(k:∀ G2 H2,Ext G H G2 H2->if b=true then t { D with nx:=rest D } σ H2 else u { D with nx:=rest D } σ H2) :
  EE (Jt tt t u) rest D σ H:=e.run hm s k
theorem EY (Pv:St->Hp->Prop)(h:∀ nx:St->Hp->Prop,(∀ σ' H',Pv σ' H'->nx σ' H')->EE t CZ { D with nx:=nx } σ H)(key:∀ σ' H',Pv σ' H'->rest D σ' H'):EE t rest D σ H:=h (rest D) key
structure LoopOb (K:FZ9){α S ρ:Type}[Rp α](RR:ρ->V->Hp->Hp->Prop)(f:α->S->Option (Fl S ρ))(g:TG)(tb:TS)(D:Ends)(σ:St)(G2 H2:Hp)(as:List α)(s0:S)(res:Fl S ρ)(RS:S->St->Hp->Hp->Prop):Prop where
 start:RS s0 σ G2 H2
 keep:∀ s σ' G' H',RS s σ' G' H'->Same G2 G'/\Same G' H'
 step:∀ (x:V) (a:α) (s:S) (σ1:St) (G1 H1:Hp) (fl:Fl S ρ),a∈as->RS s σ1 G1 H1->Rp.rel K G1 x a->f a s=some fl->∀ D':Ends,(∀ s' σ' G' H',fl = .nx s'->RS s' σ' G' H'->D'.nx σ' H')->(∀ s' σ' G' H',fl = .nx s'->RS s' σ' G' H'->D'.ct σ' H') ->
  (∀ s' σ' G' H',fl = .bk s'->RS s' σ' G' H'->D'.bk σ' H')->(∀ r v G' H',fl = .rt r->RR r v G' H'->D'.rt v H')->g x σ1 H1 fun σ2 H2=>tb D' σ2 H2
 nxt:∀ s σ' G' H',res = .nx s->RS s σ' G' H'->D.nx σ' H'
 rtn:∀ r v G' H',res = .rt r->RR r v G' H'->D.rt v H'
theorem Dn {S ρ:Type}{RR:ρ->V->Hp->Hp->Prop}{f:α->S->Option (Fl S ρ)}{wi:TI}{g:TG}{tb:TS}{mi:Option (List α)}{as:List α}{s0:S}{res:Fl S ρ}(ei:IW K wi σ G mi)(hm:mi=some as)(hf:CK f as s0=some res)(sg:Same G H)
  (k:∀ G2 H2,Ext G H G2 H2->∃ RS,LoopOb K RR f g tb { D with nx:=rest D } σ G2 H2 as s0 res RS):EE (tFor wi g tb) rest D σ H:=by
 refine ei G (.refl G) as hm H sg _ fun J vs G2 H2 x2 Y hz pr=>?_;obtain ⟨RS,L⟩:=k G2 H2 x2;have hla:=Paired.length pr;refine ⟨fun i m σ' H'=>m=vs.length - i/\i<=vs.length/\∃ s G',RS s σ' G' H'/\CK f (as.drop i) s=some res,⟨vs.length,by simp,qdC _,s0,G2,L.start,hf⟩,?_⟩;rintro i m σ' H' ⟨rfl,hi,s,G',rs,hfo⟩;obtain ⟨k1,k2⟩:=L.keep _ _ _ _ rs;by_cases hlt:i<vs.length
 ·refine .inr ⟨Y.go i _ (k1.trans k2) hlt,fun σ'' H''=>∃ s' G'',RS s' σ'' G'' H''/\CK f (as.drop (i+1)) s'=some res,fun σ'' H'' ⟨s',G'',h⟩=>⟨vs.length - (i+1),by omega,rfl,hlt,s',G'',h⟩,fun x H3 y=>?_⟩;obtain ⟨rfl,hx⟩:=Y.yld i _ x H3 (k1.trans k2) hlt y;obtain ⟨a,hai,ra⟩:=Paired.getR pr hx
  have hd:as.drop i=a::as.drop (i+1):=by
   obtain ⟨h1,h2⟩:=quA.mp hai;rw [List.drop_eq_getElem_cons h1,h2]
  rw [hd] at hfo;obtain ⟨fl,hfl,hfo⟩:=qaA.mp hfo;refine L.step x a s σ' G' _ fl (qtA hai) rs (Rp.mono k1 ra) hfl _ ?_ ?_ ?_ ?_
  ·intro s' σ'' G'' H'' e r;subst e;exact ⟨s',G'',r,hfo⟩
  ·intro s' σ'' G'' H'' e r;subst e;exact ⟨s',G'',r,hfo⟩
  ·intro s' σ'' G'' H'' e r;subst e;exact L.nxt s' σ'' G'' H'' (qgB hfo).symm r
  ·intro r v G'' H'' e rl;subst e;exact L.rtn r v G'' H'' (qgB hfo).symm rl
 ·have e:i=vs.length:=by omega
  subst e;have hd:as.drop vs.length=[]:=List.drop_eq_nil_of_le (by omega);rw [hd] at hfo;exact .inl ⟨Y.stop _ (k1.trans k2),L.nxt s σ' G' H' (qgB hfo).symm rs⟩
end
structure Own (K:FZ9){α:Type}[Rp α](G H:Hp)(v:V)(p:Addr)(vs:List V)(as:List α):Prop where
 v:v = .ref p
 g:G p=none
 h:H p=some (.lst vs)
 z:vs.length<=sizeLine
 p:Paired (Rp.rel K G) vs as
section
variable {K:FZ9}{σ:St}{G H G1 H1 G0 H0:Hp}{α β:Type}[Rp α][Rp β]{te ti:TE}{tt:TT}{t u rest:TS}{D:Ends}{i:Nat}{a:α}{m:Option α}{as:List α}{v:V}{p q:Addr}{vs:List V}
theorem Own.ext (o:Own K G H v p vs as)(x:Ext G H G1 H1):Own K G1 H1 v p vs as :=
 ⟨o.v,x.no p o.g (by rw [o.h];exact fun z=>nomatch z),x.hh _ _ o.h,o.z,Paired.imp' (fun _ _ r=>Rp.mono x.gg r) o.p⟩
theorem Own.put {ho:HO}(o:Own K G H v p vs as)(h:p≠q):Own K G (upd H q ho) v p vs as:=⟨o.v,o.g,by rw [Af h];exact o.h,o.z,o.p⟩
theorem Own.tell (o:Own K G H v p vs as):Rp.rel K (upd G p (.lst vs)) v as:=⟨p,vs,o.v,.inl AQ,o.z,Paired.imp' (fun _ _ r=>Rp.mono (Same.new o.g) r) o.p⟩
theorem Own.same (o:Own K G H v p vs as)(s:Same G H):Same (upd G p (.lst vs)) H:=fun b x e=>by
 by_cases hb:b=p
 ·subst hb;rw [AQ] at e;rw [o.h];exact e
 ·rw [Af hb] at e;exact s b x e
theorem Js {m:Option (List α)}{as:List α}(e:FV K te σ G m)(hm:m=some as)(s:Same G H)(k:∀ p vs G2 H2,Ext G H G2 H2->H p=none->Own K G2 H2 (.ref p) p vs as->rest D (σ.set i (some (.ref p))) H2):EE (Q9 te (HM i)) rest D σ H :=
 e G (.refl G) as hm H s _ fun p vs G2 H2 x h0 hg hh hz hp=>k p vs G2 H2 x h0 ⟨rfl,hg,hh,hz,hp⟩
def Ce {α:Type}(as:List α)(a:α):Option (List α):=if as.length<sizeLine then some (as++[a]) else none
theorem DT {as':List α}(hσ:σ[i]? = some (some v))(o:Own K G H v p vs as)(e:EV K te σ G m)(hm:m=some a)(hp:Ce as a=some as')(s:Same G H)
  (k:∀ G2 H2 w,Ext G H G2 H2->Own K G2 (upd H2 p (.lst (vs++[w]))) v p (vs++[w]) as'->rest D σ (upd H2 p (.lst (vs++[w])))):EE (Ft (tBM K "list" Da (Hi i) (Am te Bm))) rest D σ H:=by
 obtain ⟨hl,rfl⟩:=B2 hp;have hlen:=Paired.length o.p;obtain ⟨rfl,og,oh,oz,op⟩:=o;refine ⟨_,hσ,.inl ⟨rfl,_,SqL.of oh⟩,?_⟩;refine e.run hm s fun w G2 H2 x r=>?_;refine ⟨p,vs,w,rfl,rfl,x.hh _ _ oh,by omega,?_⟩;refine k G2 H2 w x ⟨rfl,x.no p og (by rw [oh];exact fun z=>nomatch z),AQ,?_,Paired.app (Paired.imp' (fun _ _ r=>Rp.mono x.gg r) op) (.cons r .nil)⟩;rw [qfA,qhA];omega
structure TupK (H H':Hp):Prop where
 rd:∀ b xs,Rd H b (.tup xs)->Rd H' b (.tup xs)
 eq:∀ b xs,H b=some (.tup xs)->H' b=some (.tup xs)
class Imm (α:Type) [Rp α]:Prop where
 im:∀ {K:FZ9}{H H':Hp}{v:V}{a:α},TupK H H'->Rp.rel K H v a->Rp.rel K H' v a
def del (G:Hp)(p:Addr):Hp:=fun b=>if b=p then none else G b
theorem OF {G:Hp}{p b:Addr}(h:b≠p):del G p b=G b:=by unfold del;rw [if_neg h]
theorem NA {G:Hp}{p:Addr}:del G p p=none:=by unfold del;rw [if_pos rfl]
theorem Ext.del {ho:HO}{G2 H2:Hp}(hg:G p=none)(x:Ext (upd G p ho) H G2 H2):Ext G H (L2.del G2 p) H2 :=
 ⟨fun b o e=>by
  have hb:b≠p:=Ay e hg;rw [OF hb]
  exact x.gg b o (by rw [Af hb];exact e),fun b o e=>by
  by_cases hb:b=p
  ·subst hb;rw [NA] at e;cases e
  ·rw [OF hb] at e
   exact x.gh b o e,x.hh,fun b h1 h2=>by
  by_cases hb:b=p
  ·subst hb;exact NA
  ·rw [OF hb]
   exact x.no b (by rw [Af hb];exact h1) h2⟩
theorem TV.runB {mb:Option Bool}{b:Bool}{Q:Bool->Hp->Prop}(o:Own K G H v p vs as)(e:TV tt σ (upd G p (.lst vs)) mb)(hm:mb=some b)(s:Same G H)(k:∀ G2 H2,Ext G H G2 H2->Q b H2):tt σ H Q :=
 e.run hm (o.same s) fun G2 H2 x=>k (del G2 p) H2 (x.del o.g)
end
section
variable {K:FZ9}{σ:St}{G:Hp}
theorem BN {ρ A0:Type}[Rp ρ][Rp A0]{t0:TE}{m0:Option A0}{m:A0 × Unit->Option ρ}(e0:EV K t0 σ G m0):EV K (Nu (spM K m) [] E0 (Am t0 Bm)) σ G (m0.bind fun a0=>m (a0,())):=by
 clear 7;obtain ⟨a0,ha0,hc⟩:=qaA.mp hc;refine e0 G1 s1 a0 ha0 H sH _ fun v0 G2 H2 x0 r0=>?_;have y0:=x0;exact ⟨G2,_,c,y0.gh,⟨v0,_,rfl,r0,rfl⟩,hc,fun v G9 H9 x9 r9=>k v G9 H9 (y0.trans x9) r9⟩
theorem Ap {ρ A0 A1:Type}[Rp ρ][Rp A0][Rp A1]{t0 t1:TE}{m0:Option A0}{m1:Option A1}{m:A0 × A1 × Unit->Option ρ}(e0:EV K t0 σ G m0)(e1:EV K t1 σ G m1):EV K (Nu (spM K m) [] E0 (Am t0 (Am t1 Bm))) σ G (m0.bind fun a0=>m1.bind fun a1=>m (a0,a1,())):=by
 clear 7;obtain ⟨a0,ha0,hc⟩:=qaA.mp hc;obtain ⟨a1,ha1,hc⟩:=qaA.mp hc;refine e0 G1 s1 a0 ha0 H sH _ fun v0 G2 H2 x0 r0=>?_;have y0:=x0;refine e1 G2 (s1.trans y0.gg) a1 ha1 H2 y0.gh _ fun v1 G3 H3 x1 r1=>?_;have y1:=y0.trans x1;exact ⟨G3,_,c,y1.gh,⟨v0,_,rfl,(Rp.mono x1.gg r0),⟨v1,_,rfl,r1,rfl⟩⟩,hc,fun v G9 H9 x9 r9=>k v G9 H9 (y1.trans x9) r9⟩
section
variable {ta tb:TE}{a b:Bool}{tt tu:TT}{mb:Option Bool}
theorem TV.of {m m':Option Bool}(e:TV tt σ G m)(h:m=m'):TV tt σ G m':=h ▸ e
theorem tv_andP (ea:TV tt σ G (some a))(eb:TV tu σ G (some b)):TV (tAnd tt tu) σ G (some (a && b)):=(Mu ea eb).of (by cases a<;>rfl)
theorem TruV.mono {G H:Hp}{v:V}{k:Bool}(s:Same G H)(h:TruV K v G k):TruV K v H k:=by
 cases v with
 | ref p =>
  rcases h with ⟨xs,hx,e⟩ | ⟨xs,hx,e⟩ | ⟨kvs,hx,e⟩
  ·exact .inl ⟨xs,s.seq hx,e⟩
  ·exact .inr (.inl ⟨xs,s.tup hx,e⟩)
  ·exact .inr (.inr ⟨kvs,s _ _ hx,e⟩)
 | _=>exact h
theorem GA {mb:Option Bool}(ea:EV K ta σ G mb):TV (fun σ H Q=>ta σ H fun x H'=>∃ k,TruV K x H' k/\Q k H') σ G mb:=by
 have h:=tv_tru (K:=K) (f:=fun (a:Bool)=>a) (fun {G v a}(r:Rp.rel K G v a)=>by cases r;exact rfl) (fun s=>TruV.mono s) ea;refine h.of ?_;cases mb<;>rfl
end
theorem cT {α:Type}{A B:Option α}{r:Option α}(h:cond true A B=r):A=r:=h
theorem cF {α:Type}{A B:Option α}{r:Option α}(h:cond false A B=r):B=r:=h
theorem Cg {i:Nat}{x:V}{σ:St}{H:Hp}{tb:TS}{D:Ends}(h:tb D (σ.set i (some x)) H):HM i x σ H fun σ2 H2=>tb D σ2 H2:=h
end
section
variable {K:FZ9}{σ:St}{G H:Hp}{α β γ:Type}[Rp α][Rp β][Rp γ]{ta tb te:TE}{ia ib:Option Int}{c:Int}{rest t u:TS}{D:Ends}{i j:Nat}{tt:TT}
theorem IE (ea:EV K ta σ G ia)(hc:-(2 ^ 64)<c/\c<2 ^ 64:=by decide):EV K (tOp (rMul K) ta (tC (.int c))) σ G (ia.bind fun a=>some (a * c)):=by
 have h:=ME ea (Ag (K:=K) (σ:=σ) (G:=G) (i:=c))
 have e:(ia.bind fun a=>(some c).bind fun b=>LC a b)=ia.bind fun a=>some (a * c):=by
  congr 1;funext a
  show LC a c=_;unfold LC;rw [if_pos (.inr hc)]
 exact h.of e
theorem PY (eb:EV K tb σ G ib)(hc:-(2 ^ 64)<c/\c<2 ^ 64:=by decide):EV K (tOp (rMul K) (tC (.int c)) tb) σ G (ib.bind fun b=>some (c * b)):=by
 have h:=ME (Ag (K:=K) (σ:=σ) (G:=G) (i:=c)) eb
 have e:((some c).bind fun a=>ib.bind fun b=>LC a b)=ib.bind fun b=>some (c * b):=by
  show (ib.bind fun b=>LC c b)=_
  congr 1;funext b
  unfold LC;rw [if_pos (.inl hc)]
 exact h.of e
theorem B7 (ea:EV K ta σ G ia)(hc:0<c:=by decide):EV K (tOp (rI (fun _ j=>0<j) fun i j=>.int (i % j)) ta (tC (.int c))) σ G (ia.bind fun a=>some (a % c)):=by
 have h:=GQ ea (Ag (K:=K) (σ:=σ) (G:=G) (i:=c))
 have e:(ia.bind fun a=>(some c).bind fun b=>JX a b)=ia.bind fun a=>some (a % c):=by
  congr 1;funext a
  show JX a c=_;unfold JX;rw [if_pos hc]
 exact h.of e
theorem CV (ea:EV K ta σ G ia)(hc:0<c/\c<1073741824:=by decide):EV K (tOp (rI OX fun i j=>.int (i / j)) ta (tC (.int c))) σ G (ia.bind fun a=>some (a / c)):=by
 have h:=ev_div ea (Ag (K:=K) (σ:=σ) (G:=G) (i:=c))
 have e:(ia.bind fun a=>(some c).bind fun b=>divO a b)=ia.bind fun a=>some (a / c):=by
  congr 1;funext a
  show divO a c=_;unfold divO;rw [if_pos (show OX a c from hc)]
 exact h.of e
structure Scr where
 l:List Int
instance rpScr:Rp Scr:=⟨fun K H v a=>∃ l,v = .ref l/\SqL K H l (a.l.map V.int),fun s ⟨l,e,h⟩=>⟨l,e,s.seq h⟩⟩
theorem Mh {ma:Option Scr}(ea:EV K ta σ G ma):EV K (tCB (O2 K) (Am ta Bm)) σ G (ma.bind fun a=>some (a.l.length:Int)):=by
 clear 7;obtain ⟨a,ha,hc⟩:=qaA.mp hc;cases hc;clear 8 ea a ha;obtain ⟨l,rfl,h⟩:=r2;exact ⟨_,.inl (x2.gh.seq h),by rw [qeA];exact k _ _ _ x2 rfl⟩
theorem Pb {H:Hp}:∀ ns:List Int,Paired (Rp.rel K H) (ns.map V.int) ns
 | []=>.nil
 | _::r=>.cons rfl (Pb r)
theorem ev_atX {ma:Option Scr}(ea:EV K ta σ G ma)(eb:EV K tb σ G ib):EV K (tOp (rAt K) ta tb) σ G (ma.bind fun a=>ib.bind fun i=>atI a.l i) :=
 By (fun s ra rb e Q k=>by
  obtain ⟨l,rfl,h⟩:=ra;cases rb;obtain ⟨v,hv,r⟩:=Fc (Pb (K:=K) _) e
  exact .inl ⟨_,v,s.seq h,hv,k _ _ _ (.refl s) r⟩) ea eb
theorem op_repR {X:Cx}:OpR X (binaryOp .Mult) (fun x y H Q=>∃ l k xs,x = .ref l/\y = .int k/\Rd H l (.lst xs)/\-(2 ^ 63)<=k/\k<2 ^ 63/\xs.length * k.toNat<=sizeLine/\∀ p,H p=none->Q (.ref p) (upd H p (.lst (List.replicate k.toNat xs).flatten))):=by
 intro pins s σ H x y v u Q I rx ry h;obtain ⟨l,k,xs,rfl,rfl,hH,h1,h2,hz,q⟩:=h;cases rx;obtain ⟨t,rfl⟩:=ry;obtain ⟨z,its,n,r,e⟩:=hH.ok I.hok;have hl:=r.length;have hlen:its.toArray.size * k.toNat<=sizeLine:=by rw [qrB,<- hl];exact hz
 have hcap:¬ its.toArray.size * k.toNat > (2 ^ 63 - 1) / 8:=by
  have:(sizeLine:Nat)<=(2 ^ 63 - 1) / 8:=by decide
  omega
 have hfit:¬ (!Builtin.List.listFitsIndex k)=true:=by
  rw [fitsIndex_both h1 h2];exact qqB
 have hlong:¬ Builtin.List.listTooLong (its.toArray.size * k.toNat)=true:=by
  rw [Jw hlen];exact qqB
 have hnew:List.foldl (fun x1 x2=>x1++x2) #[] (List.replicate (if its.toArray.isEmpty=true then 0 else k.toNat) its.toArray)=(List.replicate k.toNat its).flatten.toArray:=by
  have f0:∀ m:Nat,List.foldl (fun x1 x2=>x1++x2) #[] (List.replicate m its.toArray)=(List.replicate m its).flatten.toArray:=fun m=>by
   have:=Iw its m [];rw [List.nil_append] at this;exact this
  rw [f0]
  cases its with
  | nil=>simp
  | cons a r'=>rw [if_neg (by simp)]
 refine wpAny_binaryOp_repeat_ref (T := "list") (U := "int") (by decide) ⟨_,e,rfl⟩ (fun s'=>typeIs_int s' k t) noFill_list_mul F.fills_int_mul F.slot_int_rmul repeat_list F.slot_int_index.lookup
  (call_meets F.slot_int_rmul (typeIs_int s k t) F.entry_int_rmul (F.args_int_rmul_2 _ _) (int___rmul___int_list k t l its.toArray n)
   ⟨e,rfl,⟨_,e,rfl⟩,call_meets F.slot_list_mul ⟨_,e,rfl⟩ F.entry_list_mul (F.args_list_mul_2 _ _) (AutoListH.list___mul___list_int_3 l its.toArray n k t hfit hcap hlong) ⟨e,?_⟩⟩)
 rw [hnew];exact ⟨.ref _,_,I.lnew (t':=s.toks) (r.rep k.toNat) (by rw [MT,Nat.mul_comm];exact hz),rfl,q _ I.fresh⟩
theorem fv_rep {la:Option (List α)}(ea:EV K ta σ G la)(eb:EV K tb σ G ib) :
  FV K (tOp (fun x y H Q=>∃ l k xs,x = .ref l/\y = .int k/\Rd H l (.lst xs)/\-(2 ^ 63)<=k/\k<2 ^ 63/\xs.length * k.toNat<=sizeLine/\∀ p,H p=none->Q (.ref p) (upd H p (.lst (List.replicate k.toNat xs).flatten))) ta tb) σ G (la.bind fun a=>ib.bind fun b=>repL a b):=by
 clear 7;obtain ⟨a,ha,hc⟩:=qaA.mp hc;obtain ⟨b,hb,hc⟩:=qaA.mp hc;obtain ⟨⟨hl,hz⟩,rfl⟩:=B2 hc;clear 8 ea a ha;refine eb G2 (s1.trans x2.gg) b hb H2 x2.gh _ fun u G3 H3 x3 r3=>?_;obtain ⟨l1,xs,rfl,h1,z1,p1⟩:=Rp.mono x3.gg r2;cases r3;have e1:=Paired.length p1;rw [<- e1] at hz;exact ⟨l1,b,xs,rfl,rfl,x3.gh.rd h1,hl.1,hl.2,hz,JT x3.gh (by rw [MT,Nat.mul_comm];exact hz) (Paired.rep p1 _) (FV.mono (x2.trans x3) k)⟩
theorem sv_ifB {b:Bool}{m:Option Bool}{v:V}{p:Addr}{vs:List V}{as:List β}(o:Own K G H v p vs as)(e:TV tt σ (upd G p (.lst vs)) m)(hm:m=some b)(s:Same G H)(k:∀ G2 H2,Ext G H G2 H2->if b=true then t { D with nx:=rest D } σ H2 else u { D with nx:=rest D } σ H2) :
  EE (Jt tt t u) rest D σ H:=TV.runB o e hm s k
end
section
variable {K:FZ9}{σ:St}{G H G1 H1 G0 H0:Hp}{α β γ:Type}[Rp α][Rp β][Rp γ]{ta tb te ti:TE}{tt:TT}{t u rest:TS}{D:Ends}{i j:Nat}{v:V}{p q r:Addr}{vs ws:List V}{a:List α × List β}
def two (G:Hp)(p q:Addr)(vs ws:List V):Hp:=upd (upd G p (.lst vs)) q (.lst ws)
end
section
variable {X:Cx}{K:FZ9}
theorem op_plusK (h:X.K=K):OpR X (binaryOp .Add) (Lj K):=h ▸ op_plus
theorem Dz (h:X.K=K):OpR X (binaryOp .Mult) (rMul K):=h ▸ op_mulU
theorem Bv (h:X.K=K):SlR X (rSl K):=h ▸ sl_any
theorem ix_anyK (h:X.K=K):IxR X (rAt K):=h ▸ ix_any
theorem QQ (h:X.K=K):Cc X (.builtin "len") (O2 K):=h ▸ QU
theorem Bl (h:X.K=K):Cc X (.builtin "isinstance") (PQ K):=h ▸ Qj
theorem Cp (h:X.K=K):MtR X "str.join" (rJoin K):=h ▸ mt_join
theorem op_eqK {j:Nat}(h:X.K=K)(α:Type)[Rp α][DecidableEq α][RpE α](hr:Room j X.A)(hk:RpE.k α<=10):OpR X (compareOp .Eq) (rEqD K α):=h ▸ op_eqM α hr hk
theorem KM (h:X.K=K):Cc X (.type "list") (fun xs H Q=>∃ p ys,xs=[.ref p]/\(SqL K H p ys\/SqT K H p ys)/\∀ l,H l=none->Q (.ref l) (upd H l (.lst ys))):=h ▸ Ml
theorem B6 {tg l:Expr}{tl:TE}(h:X.K=K)(hl:PE X l tl):PI X tg l (iAny K tl):=h ▸ pi_any hl
theorem Ps {a:Expr}{ta:TE}(h:X.K=K)(ha:PE X a ta)(he:∀ whole,isTrue a X.env whole=(do let v <- whole;standAt a.pos;holding [v] (truthy v))) :
  PT X a (fun σ H Q=>ta σ H fun x H'=>∃ k,TruV K x H' k/\Q k H'):=h ▸ pt_truth ha he
section
variable {o e:Expr}{es:List Expr}{to:TE}{t:TA}{name:Str}{apos cpos:Pos}{T id:String}{r:V->List V->Hp->VK->Prop}
theorem CC (h:X.K=K)(pa:PlainAttrs T)(slot:Slot T name id)(hty:typeOf (.builtin id)=pure (.type "method_descriptor"))(hm:MtR X id r)(ho:PE X o to)(ha:PA X (e::es) t)
  (hbase:attributeBase o name X.env (eval o X.env)=eval o X.env:=by rfl)
  (hfew:((backTo cpos (starEach (e::es) X.env)).all (fun x=>!x.1) && (backToKw cpos (keywordEach [] X.env)).all (fun x=>x.1.isSome)
   && decide ((e::es).length+([]:List Keyword).length+(if ([]:List Keyword).isEmpty then 0 else 1)<30))=true:=by rfl)
  (hline:(apos.endLine == cpos.line)=true:=by rfl) (hs:starEach (e::es) X.env=(false,eval e X.env)::starEach es X.env:=by rfl) (hplain:(backTo cpos (starEach es X.env)).any (·.1)=false:=by rfl) :
  PE X (.Call (.Attribute o name apos) (e::es) [] cpos) (tBM K T r to t):=h ▸ pe_bm pa slot hty hm ho ha hbase hfew hline hs hplain
end
end
theorem FK {f:St->Hp->Prop}{rt:VK}{bk ct:St->Hp->Prop}{σ:St}{H:Hp}(h:f σ H):({ nx:=f,rt:=rt,bk:=bk,ct:=ct }:Ends).nx σ H:=h
section
variable {K:FZ9}{σ:St}{G H:Hp}{α β γ:Type}[Rp α][Rp β][Rp γ]{ta tb te:TE}{rest t u:TS}{D:Ends}{i j:Nat}
def extO {α:Type}(as bs:List α):Option (List α):=if as.length+bs.length<=sizeLine then some (as++bs) else none
theorem JH {ml:Option (List α)}{as bs as':List α}{v:V}{p:Addr}{vs:List V}(hσ:σ[i]? = some (some v))(o:Own K G H v p vs as)(e:FV K te σ G ml)(hm:ml=some bs)(hp:extO as bs=some as')(s:Same G H)
  (k:∀ G2 H2 ws,Ext G H G2 H2->Own K G2 (upd H2 p (.lst (vs++ws))) v p (vs++ws) as'->rest D σ (upd H2 p (.lst (vs++ws)))):EE (Ft (tBM K "list" PM (Hi i) (Am te Bm))) rest D σ H:=by
 obtain ⟨hl,rfl⟩:=B2 hp;have hlen:=Paired.length o.p;obtain ⟨rfl,og,oh,oz,op⟩:=o;refine ⟨_,hσ,.inl ⟨rfl,_,SqL.of oh⟩,?_⟩;refine e G (.refl G) bs hm H s _ fun q ws G2 H2 x h0 hg hh hz hpr=>?_;have hlw:=Paired.length hpr;refine ⟨p,q,vs,ws,rfl,rfl,x.hh _ _ oh,hh,by omega,?_⟩;refine k G2 H2 ws x ⟨rfl,x.no p og (by rw [oh];exact fun z=>nomatch z),AQ,?_,Paired.app (Paired.imp' (fun _ _ r=>Rp.mono x.gg r) op) hpr⟩;rw [qfA];omega
end
inductive D where
 | non
 | bl (b:Bool)
 | int (i:Int)
 | str (x:Str)
 | lst (l:List D)
 | tup (l:List D)
 | dic
 | emp
mutual
inductive RelD (K:FZ9)(H:Hp):V->D->Prop where
 | non:RelD K H .non .non
 | bl (b:Bool):RelD K H (.bl b) (.bl b)
 | int (i:Int):RelD K H (.int i) (.int i)
 | str (x:Str) (z:x.length<=sizeLine):RelD K H (.str x) (.str x)
 | lst {a:Addr}{xs:List V}{ds:List D}(h:Rd H a (.lst xs)) (z:xs.length<=sizeLine) (r:RelDs K H xs ds):RelD K H (.ref a) (.lst ds)
 | tup {a:Addr}{xs:List V}{ds:List D}(h:SqT K H a xs) (z:xs.length<=sizeLine) (r:RelDs K H xs ds):RelD K H (.ref a) (.tup ds)
 | dK {a:Addr}{kvs:List (Key × V)}(h:Rd H a (.dK kvs)):RelD K H (.ref a) .dic
 | eK {a:Addr}(h:Rd H a (.dK [])):RelD K H (.ref a) .emp
inductive RelDs (K:FZ9)(H:Hp):List V->List D->Prop where
 | nil:RelDs K H [] []
 | cons {x:V}{d:D}{xs:List V}{ds:List D}(h:RelD K H x d) (t:RelDs K H xs ds):RelDs K H (x::xs) (d::ds)
end
mutual
theorem RelD.mono {K:FZ9}{H H':Hp}(s:Same H H'):∀ {v:V}{d:D},RelD K H v d->RelD K H' v d
 | _,_,.non=>.non
 | _,_,.bl b=>.bl b
 | _,_,.int i=>.int i
 | _,_,.str x z=>.str x z
 | _,_,.lst h z r=>.lst (s.rd h) z (RelDs.mono s r)
 | _,_,.tup h z r=>.tup (s.tup h) z (RelDs.mono s r)
 | _,_,.dK h=>.dK (s.rd h)
 | _,_,.eK h=>.eK (s.rd h)
theorem RelDs.mono {K:FZ9}{H H':Hp}(s:Same H H'):∀ {v:List V}{d:List D},RelDs K H v d->RelDs K H' v d
 | _,_,.nil=>.nil
 | _,_,.cons h t=>.cons (RelD.mono s h) (RelDs.mono s t)
end
instance rpD:Rp D:=⟨RelD,fun s h=>RelD.mono s h⟩
theorem IA {K:FZ9}{H:Hp}:∀ {xs:List V}{ds:List D},Paired (Rp.rel K H) xs ds->RelDs K H xs ds
 | _,_,.nil=>.nil
 | _,_,.cons h t=>.cons h (IA t)
theorem Bs {K:FZ9}{H:Hp}:∀ {xs:List V}{ds:List D},RelDs K H xs ds->Paired (Rp.rel K H) xs ds
 | _,_,.nil=>.nil
 | _,_,.cons h t=>.cons h (Bs t)
class ToD (α:Type) [Rp α] where
 to:α->D
 rel:∀ {K:FZ9}{H:Hp}{v:V}{a:α},Rp.rel K H v a->RelD K H v (to a)
theorem toDs {K:FZ9}{H:Hp}{α:Type}[Rp α][ToD α]:∀ {xs:List V}{as:List α},Paired (Rp.rel K H) xs as->Paired (Rp.rel (α:=D) K H) xs (as.map ToD.to)
 | _,_,.nil=>.nil
 | _,_,.cons h t=>.cons (ToD.rel h) (toDs t)
instance tdD:ToD D:=⟨id,fun h=>h⟩
instance tdInt:ToD Int:=⟨.int,fun h=>by cases h;exact .int _⟩
instance tdBool:ToD Bool:=⟨.bl,fun h=>by cases h;exact .bl _⟩
instance tdStr:ToD Str:=⟨.str,fun h=>by obtain ⟨rfl,z⟩:=h;exact .str _ z⟩
instance tdUnit:ToD Unit:=⟨fun _=>.non,fun h=>by cases h;exact .non⟩
instance tdList {α:Type}[Rp α][ToD α]:ToD (List α):=⟨fun l=>.lst (l.map ToD.to),fun ⟨l,xs,e,h,z,p⟩=>by subst e;exact .lst h z (IA (toDs p))⟩
instance tdTp {α:Type}[Rp α][ToD α]:ToD (Tp α):=⟨fun l=>.tup (l.l.map ToD.to),fun ⟨l,xs,e,h,z,p⟩=>by subst e;exact .tup h z (IA (toDs p))⟩
instance tdPair {α β:Type}[Rp α][ToD α][Rp β][ToD β]:ToD (α × β):=⟨fun p=>.tup [ToD.to p.1,ToD.to p.2],fun ⟨t,x,y,e,h,r1,r2⟩=>by subst e;exact .tup h (by show 2<=sizeLine;decide) (.cons (ToD.rel r1) (.cons (ToD.rel r2) .nil))⟩
def Dv:D->Option Str
 | .str x=>some x
 | _=>none
def Le:D->Option (List D)
 | .lst l=>some l
 | _=>none
def dk:D->String
 | .non => "NoneType"
 | .bl _ => "bool"
 | .int _ => "int"
 | .str _ => "str"
 | .lst _ => "list"
 | .tup _ => "tuple"
 | .dic => "dict"
 | .emp => "dict"
def isK (T:String)(d:D):Bool:=dk d == T || (T == "int" && dk d == "bool")
def DO:D->Option Int
 | .str x=>some (x.length:Int)
 | .lst l=>some (l.length:Int)
 | .tup l=>some (l.length:Int)
 | _=>none
def atD:D->Int->Option D
 | .lst l,i=>atI l i
 | .tup l,i=>atI l i
 | .str x,i=>(atI x.cps.toList i).bind fun c=>some (.str ⟨#[c]⟩)
 | _,_=>none
def Df:D->Option (List D)
 | .lst l=>some l
 | .tup l=>some l
 | .str x=>some ((EK x).map D.str)
 | _=>none
section
variable {K:FZ9}{σ:St}{G:Hp}{α β:Type}[Rp α][Rp β]{ta tb te:TE}{md:Option D}
theorem B3 [ToD α]{m:Option α}(e:EV K te σ G m):EV K te σ G (m.bind fun a=>some (ToD.to a)):=by
 clear 7;obtain ⟨a,ha,hc⟩:=qaA.mp hc;cases hc;exact e G1 s1 a ha H sH Q fun v G2 H2 x r=>k v G2 H2 x (ToD.rel r)
theorem DJ (e:EV K te σ G md):EV K te σ G (md.bind fun d=>Dv d):=by
 clear 7;obtain ⟨d,hd,hc⟩:=qaA.mp hc;refine e G1 s1 d hd H sH Q fun v G2 H2 x r=>?_
 cases d with
 | str y =>
  cases hc
  cases r with
  | str _ z=>exact k _ _ _ x ⟨rfl,z⟩
 | _=>cases hc
theorem RelD.ty {H:Hp}{v:V}{d:D}(r:RelD K H v d):TyS K H v (dk d):=by
 cases r with
 | non=>exact .non
 | bl=>exact .bl _
 | int=>exact .int _
 | str=>exact .str _
 | lst h=>exact .lst (.inl h)
 | tup h=>exact .tup h
 | dK h=>exact .dK h
 | eK h=>exact .dK h
theorem kit_all:∀ n∈["NoneType","bool","int","str","list","tuple","dict"],∀ T∈["str","list","tuple","bool","int","dict"],Pu n T=some (n == T || (T == "int" && n == "bool")):=by decide +kernel
theorem isK_ok {T:String}(hT:T∈["str","list","tuple","bool","int","dict"])(d:D):Pu (dk d) T=some (isK T d):=by
 unfold isK;exact kit_all (dk d) (by cases d<;>simp [dk]) T hT
theorem Cd {T:String}(hT:T∈["str","list","tuple","bool","int","dict"])(ea:EV K ta σ G md):EV K (tCB (PQ K) (Am ta (Am (tC (.ty T)) Bm))) σ G (md.bind fun d=>some (isK T d)):=by
 clear 7;obtain ⟨a,ha,hc⟩:=qaA.mp hc;cases hc;clear 8 ea a ha;exact ⟨_,_,_,_,rfl,(RelD.ty r2).mono x2.gh,isK_ok hT a,k _ _ _ x2 rfl⟩
theorem RelDs.len {H:Hp}{xs:List V}{ds:List D}(r:RelDs K H xs ds):xs.length=ds.length:=Paired.length (Bs r)
theorem DN (ea:EV K ta σ G md):EV K (tCB (O2 K) (Am ta Bm)) σ G (md.bind fun d=>DO d):=by
 clear 7;obtain ⟨a,ha,hc⟩:=qaA.mp hc;clear 8 ea a ha
 cases r2 with
 | str x z=>cases hc;exact ⟨z,k _ _ _ x2 rfl⟩
 | lst h z r=>cases hc;exact ⟨_,.inl (.inl (x2.gh.rd h)),by rw [r.len];exact k _ _ _ x2 rfl⟩
 | tup h z r=>cases hc;exact ⟨_,.inr (x2.gh.tup h),by rw [r.len];exact k _ _ _ x2 rfl⟩
 | _=>cases hc
theorem Iq {ib:Option Int}(ea:EV K ta σ G md)(eb:EV K tb σ G ib):EV K (tOp (rAt K) ta tb) σ G (md.bind fun d=>ib.bind fun i=>atD d i) :=
 By (fun s ra rb e Q k=>by
  cases rb
  cases ra with
  | str x z =>
   obtain ⟨c,hc,e⟩:=qaA.mp e;cases e;exact ⟨z,c,hc,k _ _ _ (.refl s) (.str _ (by show 1<=sizeLine;decide))⟩
  | lst h z r =>
   obtain ⟨v,hv,r⟩:=Fc (Bs r) e;exact .inl ⟨_,v,.inl (s.rd h),hv,k _ _ _ (.refl s) r⟩
  | tup h z r =>
   obtain ⟨v,hv,r⟩:=Fc (Bs r) e;exact .inr ⟨_,v,s.tup h,hv,k _ _ _ (.refl s) r⟩
  | _=>cases e) ea eb
theorem JA (ea:EV K ta σ G md):IW K (iAny K ta) σ G (md.bind fun d=>Df d):=by
 intro G1 s1 a ha H sH R k;obtain ⟨b,hb,ha⟩:=qaA.mp ha;clear 8 ea b hb
 cases r2 with
 | str x z =>
  cases ha;exact k _ (Dj x) G2 H2 x2 (Kp x G2) (by unfold Dj;rw [qeA];exact z) (toDs (IV x G2))
 | lst h z r=>cases ha;exact .inl ⟨⟨_,.inl (x2.gh.rd h)⟩,k _ _ G2 H2 x2 (JK (.inl h)) z (Bs r)⟩
 | tup h z r=>cases ha;exact .inr ⟨⟨_,x2.gh.tup h⟩,k _ _ G2 H2 x2 (OI h) z (Bs r)⟩
 | _=>cases ha
theorem QA {X:Cx}(h:X.K=K):Cc X (.type "tuple") (fun xs H Q=>∃ p ys,xs=[.ref p]/\((SqL K H p ys/\∀ l,H l=none->Q (.ref l) (upd H l (.tup ys)))\/(SqT K H p ys/\Q (.ref p) H))):=h ▸ L6
theorem ev_tuple {la:Option (List α)}(ea:EV K ta σ G la):EV K (tCB (fun xs H Q=>∃ p ys,xs=[.ref p]/\((SqL K H p ys/\∀ l,H l=none->Q (.ref l) (upd H l (.tup ys)))\/(SqT K H p ys/\Q (.ref p) H))) (Am ta Bm)) σ G (la.bind fun a=>some (Tp.mk a)):=by
 clear 7;obtain ⟨a,ha,hc⟩:=qaA.mp hc;cases hc;clear 8 ea a ha;obtain ⟨l,xs,rfl,h,z,p⟩:=r2;refine ⟨l,xs,rfl,.inl ⟨.inl (x2.gh.rd h),fun q hq=>?_⟩⟩;exact k _ _ _ (x2.trans (.new x2.gh hq)) ⟨q,xs,rfl,SqT.of AQ,z,Paired.imp' (fun _ _ r=>Rp.mono (Same.new (x2.gh.free hq)) r) p⟩
theorem ev_dnewE:EV K tDNewK σ G (some D.emp):=by
 clear 7;cases hc;exact fun p hp=>k _ _ _ (.new sH hp) (.eK (.inl AQ))
end
section
variable {K:FZ9}{σ:St}{G:Hp}{ta:TE}
def rAllB (K:FZ9):List V->Hp->VK->Prop:=fun vs H Q=>∃ (l:Addr) (bs:List Bool),vs=[.ref l]/\SqL K H l (bs.map V.bl)/\Q (.bl (bs.all id)) H
theorem bools_at {bs:List Bool}{its:List Value}(r:Vals (bs.map V.bl) its){i:Nat}{v:Value}(h:its.toArray[i]? = some v):v = .bool (bs.getD i true):=by
 have h:its[i]? = some v:=by simpa using h
 have hl:=r.length;rw [qeA] at hl;obtain ⟨hi,_⟩:=quA.mp h
 have e:(bs.map V.bl)[i]? = some (V.bl (bs.getD i true)):=by
  have:i<bs.length:=by omega
  simp [this]
 obtain ⟨u,hu,ru⟩:=r.get e;rw [h] at hu;cases hu;exact ru
theorem FO {X:Cx}(hc:X.calm=true)(h:X.K=K):Cc X (.builtin "all") (rAllB K):=by
 subst h;intro pins s σ H vs us Q I r h;obtain ⟨l,bs,rfl,hl,q⟩:=h;obtain ⟨u,rfl,ru⟩:=Dh r;cases ru;obtain ⟨its,rv,pl,_⟩:=I.list hl;have hL:=pl.isList;have hlt:l<s.heap.objs.size:=by obtain ⟨_,e,_⟩:=hL;exact qhB e
 have hlen:=rv.length;rw [qeA] at hlen;refine call_all_walk (wpAny_pyIter_list hL ?_);refine ⟨_,_,_,_,_,_,fun i=>bs.getD i true,rfl,Walks.list (A:=X.A.in1) (I.ok.hd hc) _ l (qxB hlt) its.toArray,⟨⟨_,qjB _ rfl,rfl,rfl⟩,hL.push _⟩,?_,fun h' tk hk=>?_⟩
 ·intro i v s' Q' E' hP hQ;rw [bools_at rv hP];exact wpAny_truthy_bool hQ
 ·have e:(List.range its.toArray.size).all (fun i=>bs.getD i true)=bs.all id:=by
   rw [qrB,<- hlen];apply Bool.eq_iff_iff.mpr;rw [List.all_eq_true,List.all_eq_true];constructor
   ·intro hh b hb;obtain ⟨i,hi⟩:=List.mem_iff_getElem?.mp hb;have hi2:=(quA.mp hi).1;have:=hh i (qsA.mpr hi2);rw [List.getD_eq_getElem?_getD,hi] at this;exact this
   ·intro hh i hi;have hi2:=qsA.mp hi;have:=hh bs[i] (List.getElem_mem hi2);rw [List.getD_eq_getElem?_getD,qvA hi2];exact this
  rw [e];refine ⟨.bl _,H,I.kept fun b o eb=>?_,rfl,q⟩;refine hk b o (fun hm=>?_) (qiB _ eb);have:b=s.heap.objs.size:=by simpa using hm
  exact absurd (this ▸ qhB eb) (qeB _)
theorem Hu {H:Hp}:∀ {xs:List V}{ys:List Bool},Paired (Rp.rel K H) xs ys->xs=ys.map V.bl
 | _,_,.nil=>rfl
 | _,_,.cons r t=>by
  cases r;rw [Hu t]
  rfl
theorem KP {lb:Option (List Bool)}(ea:EV K ta σ G lb):EV K (tCB (rAllB K) (Am ta Bm)) σ G (lb.bind fun bs=>some (bs.all id)):=by
 clear 7;obtain ⟨a,ha,hc⟩:=qaA.mp hc;cases hc;clear 8 ea a ha;obtain ⟨l,xs,rfl,h,z,p⟩:=r2;obtain rfl:=Hu p;exact ⟨l,a,rfl,.inl (x2.gh.rd h),k _ _ _ x2 rfl⟩
end
def OK {α:Type}(m:Option α)(P:α->Prop):Prop:=∃ a,m=some a/\P a
section
variable {α β S ρ:Type}{m:Option α}{P Q:α->Prop}{R:β->Prop}
theorem OK.mono (h:OK m P)(k:∀ a,P a->Q a):OK m Q:=let ⟨a,e,p⟩:=h;⟨a,e,k a p⟩
theorem A9 {a:α}(h:P a):OK (some a) P:=⟨a,rfl,h⟩
theorem AC {f:α->Option β}(h:OK m fun a=>OK (f a) R):OK (m.bind f) R:=by
 obtain ⟨a,rfl,h⟩:=h;exact h
theorem C9 {f:α->Option β}(h:OK m P)(k:∀ a,P a->OK (f a) R):OK (m.bind f) R:=AC (h.mono k)
theorem AM {b:Bool}{x y:Option α}(h1:b=true->OK x P)(h2:b=false->OK y P):OK (cond b x y) P:=by
 cases b with
 | true=>exact h1 rfl
 | false=>exact h2 rfl
theorem OK.eq {a:α}(h:OK m fun b=>b=a):m=some a:=by obtain ⟨b,e,rfl⟩:=h;exact e
theorem OK.of {a:α}(e:m=some a)(h:P a):OK m P:=⟨a,e,h⟩
theorem AA {α β:Type}(a:α)(f:α->Option β):(some a).bind f=f a:=by rw [Option.bind_some]
theorem Aa {α:Type}(m:Option α):(m.bind fun x=>some x)=m:=by cases m<;>rfl
theorem HU {a b:Int}{P:Int->Prop}(hb:0<b)(h:P (a % b)):OK (JX a b) P:=⟨_,if_pos hb,h⟩
theorem ok_mul {a b:Int}{P:Int->Prop}(hb:CMul a b)(h:P (a * b)):OK (LC a b) P:=⟨_,if_pos hb,h⟩
theorem Fj {a b:Str}{P:Str->Prop}(hb:a.length+b.length<=sizeLine)(h:P (a++b)):OK (Hd a b) P:=⟨_,if_pos hb,h⟩
theorem Jj {a b:List α}{P:List α->Prop}(hb:a.length+b.length<=sizeLine)(h:P (a++b)):OK (EB a b) P:=⟨_,if_pos hb,h⟩
theorem PF {a:List α}{b:α}{P:List α->Prop}(hb:a.length<sizeLine)(h:P (a++[b])):OK (Ce a b) P:=⟨_,if_pos hb,h⟩
theorem Hj {lo hi:Int}{n:Nat}{P:List Int->Prop}(hn:hi - lo=n)(h0:-1000000000<=lo/\lo<=1000000000)(h1:n<=sizeLine)(h:P ((List.range n).map fun (i:Nat)=>lo+(i:Int))):OK (Jd lo hi) P:=by
 have hs:sizeLine=16777216:=qkB;have e:(hi - lo).toNat=n:=by omega
 refine ⟨_,if_pos ⟨⟨by omega,by omega,by omega,by omega⟩,by omega⟩,?_⟩;rw [e];exact h
theorem Lr {a:List α}{i:Int}(h0:0<=i)(h1:i<a.length)(h:∀ x,a[i.toNat]? = some x->P x):OK (atI a i) P:=by
 obtain ⟨k,rfl⟩:=qnB h0;have hk:k<a.length:=by omega
 refine ⟨a[k],Ee (by simp [hk]),h _ ?_⟩;rw [Int.toNat_natCast];simp [hk]
theorem Ke {f:α->S->Option (Fl S ρ)}{as:List α}{s0:S}(I:Nat->S->Prop)(J:S->Prop)(R:ρ->Prop){P:Fl S ρ->Prop}(h0:I 0 s0)
  (hs:∀ (i:Nat) a s,as[i]? = some a->I i s->OK (f a s) fun fl=>match fl with | .nx s'=>I (i+1) s' | .bk s'=>J s' | .rt r=>R r)
  (hn:∀ s,I as.length s->P (.nx s)) (hj:∀ s,J s->P (.nx s)) (hr:∀ r,R r->P (.rt r)):OK (CK f as s0) P:=by
 have key:∀ (n i:Nat) (s:S),n=as.length - i->i<=as.length->I i s->OK (CK f (as.drop i) s) P:=by
  intro n
  induction n with
  | zero =>
   intro i s hn0 hi hI;have e:i=as.length:=by omega
   subst e;rw [List.drop_length];exact A9 (hn s hI)
  | succ n ih =>
   intro i s hn0 hi hI;have hlt:i<as.length:=by omega
   rw [List.drop_eq_getElem_cons hlt];obtain ⟨fl,e,h⟩:=hs i as[i] s (by simp [hlt]) hI;show OK ((f as[i] s).bind _) P;rw [e]
   cases fl with
   | nx s'=>exact ih (i+1) s' (by omega) hlt h
   | bk s'=>exact A9 (hj s' h)
   | rt r=>exact A9 (hr r h)
 exact key as.length 0 s0 (by omega) (qdC _) h0
theorem Gq {f:α->S->Option (Fl S ρ)}{as:List α}{s0:S}(I:Nat->S->Prop){P:Fl S ρ->Prop}(h0:I 0 s0)
  (hs:∀ (i:Nat) a s,as[i]? = some a->I i s->OK (f a s) fun fl=>∃ s',fl = .nx s'/\I (i+1) s') (hn:∀ s,I as.length s->P (.nx s)):OK (CK f as s0) P :=
 Ke I (fun _=>False) (fun _=>False) h0 (fun i a s ha hI=>(hs i a s ha hI).mono fun fl ⟨s',e,h⟩=>by subst e;exact h) hn (fun _ h=>h.elim) fun _ h=>h.elim
theorem Es {f:α->Option β}{g:α->β}{P:List β->Prop}:∀ {as:List α},(∀ a∈as,f a=some (g a))->P (as.map g)->OK (Bt f as) P:=by
 intro as
 have key:∀ as:List α,(∀ a∈as,f a=some (g a))->Bt f as=some (as.map g):=by
  intro as
  induction as with
  | nil=>intro _;rfl
  | cons a r ih =>
   intro h;show ((f a).bind fun y=>(Bt f r).bind fun ys=>some (y::ys))=_;rw [h a qqA,ih fun x hx=>h x (qrA _ hx)]
   rfl
 exact fun h p=>⟨_,key as h,p⟩
theorem Ji {f:α->Option β}{R:α->β->Prop}{P:List β->Prop}:∀ {as:List α},(∀ a∈as,OK (f a) (R a))->(∀ bs:List β,bs.length=as.length->(∀ b∈bs,∃ a∈as,R a b)->(∀ (i:Nat) a b,as[i]? = some a->bs[i]? = some b->R a b)->P bs)->OK (Bt f as) P:=by
 intro as
 have key:∀ as:List α,(∀ a∈as,OK (f a) (R a))->OK (Bt f as) fun bs=>bs.length=as.length/\(∀ b∈bs,∃ a∈as,R a b)/\∀ (i:Nat) a b,as[i]? = some a->bs[i]? = some b->R a b:=by
  intro as
  induction as with
  | nil=>intro _;exact A9 ⟨rfl,fun b h=>by simp at h,fun i a b h=>by simp at h⟩
  | cons a r ih =>
   intro h;refine C9 (h a qqA) fun y hy=>C9 (ih fun x hx=>h x (qrA _ hx)) fun ys ⟨h1,h2,h3⟩=>A9 ⟨by simp [h1],?_,?_⟩
   ·intro b hb;rcases qmA.mp hb with e|e
    ·subst e;exact ⟨a,qqA,hy⟩
    ·obtain ⟨x,hx,hr⟩:=h2 b e;exact ⟨x,qrA _ hx,hr⟩
   ·intro i x b hx hb
    cases i with
    | zero=>simp at hx hb;subst hx;subst hb;exact hy
    | succ i=>exact h3 i x b (by simpa using hx) (by simpa using hb)
 exact fun h p=>(key as h).mono fun bs ⟨h1,h2,h3⟩=>p bs h1 h2 h3
theorem PL {fc:α->Option Bool}{fe:α->Option β}{c:α->Bool}{g:α->β}{P:List β->Prop}{as:List α}(hc:∀ a∈as,fc a=some (c a))(he:∀ a∈as,c a=true->fe a=some (g a))(p:P ((as.filter c).map g)):OK (FJ fc fe as) P:=by
 have key:∀ as:List α,(∀ a∈as,fc a=some (c a))->(∀ a∈as,c a=true->fe a=some (g a))->FJ fc fe as=some ((as.filter c).map g):=by
  intro as
  induction as with
  | nil=>intro _ _;rfl
  | cons a r ih =>
   intro h1 h2;have i:=ih (fun x hx=>h1 x (qrA _ hx)) fun x hx=>h2 x (qrA _ hx);show ((fc a).bind fun b=>cond b ((fe a).bind fun y=>(FJ fc fe r).bind fun ys=>some (y::ys)) (FJ fc fe r))=_;rw [h1 a qqA,i]
   cases hb:c a with
   | true =>
    show ((fe a).bind fun y=>_)=_;rw [h2 a qqA hb];simp [hb]
   | false=>simp [hb]
 exact ⟨_,key as hc he,p⟩
end
end L2
namespace Lasso
variable {α β:Type}
end Lasso
namespace Lasso
variable {α:Type}[DecidableEq α]
end Lasso
namespace L2
open PySem PySem.Spec PyProof.Rows
section
variable {K:FZ9}{σ:St}{G H G1 H1 G0 H0:Hp}{α β:Type}[Rp α][Rp β]{te ti:TE}{tt:TT}{t u rest:TS}{D:Ends}{i j:Nat}{a:α}{m:Option α}{as:List α}{v:V}{p q:Addr}{vs:List V}
def era (H:Hp)(C:List Addr):Hp:=fun a=>if a∈C then none else H a
theorem Kr {C:List Addr}{b:Addr}(h:b∈C):era H C b=none:=if_pos h
theorem Mv {C:List Addr}{b:Addr}(h:b ∉ C):era H C b=H b:=if_neg h
theorem era_same {C:List Addr}:Same (era H C) H:=fun b o e=>by
 by_cases h:b∈C
 ·rw [Kr h] at e;cases e
 ·rw [Mv h] at e;exact e
theorem Ext.begin {C:List Addr}(s:Same G H):Ext G (era H C) G H:=⟨.refl _,s,era_same,fun _ h _=>h⟩
theorem Ext.past {C:List Addr}(x:Ext G0 H0 G H)(h0:∀ b∈C,H0 b=none)(y:Ext G (era H C) G1 H1):Ext G0 H0 G1 H1:=by
 refine ⟨x.gg.trans y.gg,y.gh,fun b o e=>?_,fun b g h=>?_⟩
 ·have hb:b ∉ C:=fun hc=>by
   rw [h0 b hc] at e;cases e
  exact y.hh b o (by rw [Mv hb];exact x.hh b o e)
 ·have hb:b ∉ C:=fun hc=>h (h0 b hc);refine y.no b (x.no b g h) ?_;rw [Mv hb]
  cases e:H0 b with
  | none=>exact absurd e h
  | some o =>
   rw [x.hh b o e];exact fun z=>nomatch z
end
inductive Nt where
 | txt (x:Str)
 | tup (l:List Nt)
 | int (n:Int)
mutual
def Nt.dec:(a b:Nt)->Decidable (a=b)
 | .txt x,.txt y=>if h:x=y then .isTrue (by rw [h]) else .isFalse fun e=>h (by cases e;rfl)
 | .txt _,.tup _=>.isFalse fun e=>by cases e
 | .tup _,.txt _=>.isFalse fun e=>by cases e
 | .int m,.int n=>if h:m=n then .isTrue (by rw [h]) else .isFalse fun e=>h (by cases e;rfl)
 | .int _,.txt _=>.isFalse fun e=>by cases e
 | .int _,.tup _=>.isFalse fun e=>by cases e
 | .txt _,.int _=>.isFalse fun e=>by cases e
 | .tup _,.int _=>.isFalse fun e=>by cases e
 | .tup l,.tup m=>match Nt.decs l m with
  | .isTrue h=>.isTrue (by rw [h])
  | .isFalse h=>.isFalse fun e=>h (by cases e;rfl)
def Nt.decs:(l m:List Nt)->Decidable (l=m)
 | [],[]=>.isTrue rfl
 | [],_::_=>.isFalse fun e=>by cases e
 | _::_,[]=>.isFalse fun e=>by cases e
 | a::l,b::m=>match Nt.dec a b with
  | .isFalse h=>.isFalse fun e=>h (by cases e;rfl)
  | .isTrue h=>match Nt.decs l m with
   | .isTrue h2=>.isTrue (by rw [h,h2])
   | .isFalse h2=>.isFalse fun e=>h2 (by cases e;rfl)
end
mutual
def Nt.dep:Nt->Nat
 | .txt _=>0
 | .int _=>0
 | .tup l=>Nt.deps l+1
def Nt.deps:List Nt->Nat
 | []=>0
 | a::l=>max (Nt.dep a) (Nt.deps l)
end
mutual
inductive RelN (K:FZ9)(H:Hp):V->Nt->Prop where
 | txt (x:Str) (z:x.length<=sizeLine):RelN K H (.str x) (.txt x)
 | int (n:Int):RelN K H (.int n) (.int n)
 | tup {a:Addr}{xs:List V}{ds:List Nt}(h:SqT K H a xs) (z:xs.length<=sizeLine) (r:RelNs K H xs ds) (l:ds[0]? = some (.txt "lamp")->H a=some (.tup xs)):RelN K H (.ref a) (.tup ds)
inductive RelNs (K:FZ9)(H:Hp):List V->List Nt->Prop where
 | nil:RelNs K H [] []
 | cons {x:V}{d:Nt}{xs:List V}{ds:List Nt}(h:RelN K H x d) (t:RelNs K H xs ds):RelNs K H (x::xs) (d::ds)
end
mutual
theorem RelN.mono {K:FZ9}{H H':Hp}(s:Same H H'):∀ {v:V}{d:Nt},RelN K H v d->RelN K H' v d
 | _,_,.txt x z=>.txt x z
 | _,_,.int n=>.int n
 | _,_,.tup h z r l=>.tup (s.tup h) z (RelNs.mono s r) fun e=>s _ _ (l e)
theorem RelNs.mono {K:FZ9}{H H':Hp}(s:Same H H'):∀ {v:List V}{d:List Nt},RelNs K H v d->RelNs K H' v d
 | _,_,.nil=>.nil
 | _,_,.cons h t=>.cons (RelN.mono s h) (RelNs.mono s t)
end
instance rpN:Rp Nt:=⟨RelN,fun s h=>RelN.mono s h⟩
theorem SqT.keep {K:FZ9}{H H':Hp}{a:Addr}{xs:List V}(s:TupK H H')(h:SqT K H a xs):SqT K H' a xs:=by
 rcases h with h|h
 ·exact .inl (s.rd _ _ h)
 ·exact .inr h
mutual
theorem RelN.keep {K:FZ9}{H H':Hp}(s:TupK H H'):∀ {v:V}{d:Nt},RelN K H v d->RelN K H' v d
 | _,_,.txt x z=>.txt x z
 | _,_,.int n=>.int n
 | _,_,.tup h z r l=>.tup (SqT.keep s h) z (RelNs.keep s r) fun e=>s.eq _ _ (l e)
theorem RelNs.keep {K:FZ9}{H H':Hp}(s:TupK H H'):∀ {v:List V}{d:List Nt},RelNs K H v d->RelNs K H' v d
 | _,_,.nil=>.nil
 | _,_,.cons h t=>.cons (RelN.keep s h) (RelNs.keep s t)
end
instance imN:Imm Nt:=⟨fun s h=>RelN.keep s h⟩
section
variable {K:FZ9}{σ:St}{G:Hp}{α:Type}[Rp α]{ta tb tc te:TE}{t1 t2:TO}{ia ib ic:Option Int}{m1 m2:Option (Option Int)}
theorem ev_chain {p p':Int->Int->Bool}{q q':List Nat->List Nat->Bool}(ea:EV K ta σ G ia)(eb:EV K tb σ G ib)(ec:EV K tc σ G ic) :
  EV K (tChain (Nx p q) (Nx p' q') ta tb tc) σ G (ia.bind fun a=>ib.bind fun b=>cond (p a b) (ic.bind fun c=>some (p' b c)) (some false)):=by
 intro G1 s1 r hr H sH Q k;obtain ⟨a,ha,hr⟩:=qaA.mp hr;obtain ⟨b,hb,hr⟩:=qaA.mp hr;clear 8 ea a ha;refine eb G2 (s1.trans x2.gg) b hb H2 x2.gh _ fun u G3 H3 x3 r3=>?_;cases r2;cases r3;refine ⟨p a b,rfl,?_⟩
 cases hp:p a b with
 | false =>
  rw [hp] at hr;cases hr;rw [if_neg qqB];exact k _ _ _ (x2.trans x3) rfl
 | true =>
  rw [hp] at hr;obtain ⟨c,hc,hr⟩:=qaA.mp (cT hr);cases hr;rw [if_pos rfl];refine ec G3 (s1.trans (x2.trans x3).gg) c hc H3 x3.gh _ fun w G4 H4 x4 r4=>?_;cases r4;exact k _ _ _ ((x2.trans x3).trans x4) rfl
class Flat (α:Type) [Rp α] [DecidableEq α]:Prop where
 fl:∀ {K:FZ9}{H:Hp}{v:V}{a:α},Rp.rel K H v a->flatV v=true
 eq:∀ {K:FZ9}{H H':Hp}{v u:V}{a b:α},Rp.rel K H v a->Rp.rel K H' u b->eqV v u=decide (a=b)
end
mutual
def Nt.toD:Nt->D
 | .txt x=>.str x
 | .int n=>.int n
 | .tup l=>.tup (Nt.toDs l)
def Nt.toDs:List Nt->List D
 | []=>[]
 | a::l=>Nt.toD a::Nt.toDs l
end
mutual
theorem RelN.toD {K:FZ9}{H:Hp}:∀ {v:V}{a:Nt},RelN K H v a->RelD K H v a.toD
 | _,_,.txt x z=>by unfold Nt.toD;exact .str x z
 | _,_,.int n=>by unfold Nt.toD;exact .int n
 | _,_,.tup h z r _=>by unfold Nt.toD;exact .tup h z (RelNs.toD r)
theorem RelNs.toD {K:FZ9}{H:Hp}:∀ {xs:List V}{l:List Nt},RelNs K H xs l->RelDs K H xs (Nt.toDs l)
 | _,_,.nil=>by unfold Nt.toDs;exact .nil
 | _,_,.cons h t=>by unfold Nt.toDs;exact .cons (RelN.toD h) (RelNs.toD t)
end
instance tdN:ToD Nt:=⟨Nt.toD,fun h=>RelN.toD h⟩
class NoN (α:Type) [Rp α]:Prop where
 no_non:∀ {K:FZ9}{H:Hp}{x:V}{a:α},Rp.rel K H x a->x ≠ .non
 ne:∀ {K:FZ9}{X:Cx}{pins:List (Addr × Obj)}{σ:St}{H:Hp}{s:Shared}{x:V}{u:Value}{a:α}(A:Around),X.K=K->Inv X pins σ H s->A.units<cLine->RelV x u->Rp.rel K H x a ->
  (SeqAt.EqAt A s .none u false/\SeqAt.RcAt A s .none u false/\SeqAt.RcNeAt A s .none u true)/\SeqAt.EqAt A s u .none false/\SeqAt.RcAt A s u .none false/\SeqAt.RcNeAt A s u .none true
instance nnInt:NoN Int:=⟨fun h=>(by cases h;exact fun z=>(nomatch z)),fun A hK I hu r h=>by
 cases h;obtain ⟨t,rfl⟩:=r
 exact ⟨⟨SeqAt.EqAt.none_int _ _,SeqAt.RcAt.none_int _ _,SeqAt.RcNeAt.none_int _ _⟩,SeqAt.EqAt.int_none _ _,SeqAt.RcAt.int_none _ _,SeqAt.RcNeAt.int_none _ _⟩⟩
theorem eqOpt {K:FZ9}{k:Nat}{α:Type}[Rp α][DecidableEq α][NoN α](E:EqTy K k (Rp.rel (α:=α) K)):EqTy K k (Rp.rel (α:=Option α) K) where
 fn:=by
  intro X pins σ H s x a b hK I ha hb
  cases a with
  | none =>
   cases b with
   | none=>rfl
   | some b =>
    have ha:x = .non:=ha;subst ha;exact absurd rfl (NoN.no_non (α:=α) hb)
  | some a =>
   cases b with
   | none =>
    have hb:x = .non:=hb;subst hb;exact absurd rfl (NoN.no_non (α:=α) ha)
   | some b=>exact congrArg some (E.fn hK I ha hb)
 eq:=by
  intro X pins σ H s x y u v a b A hK I hu r1 r2 ha hb
  cases a with
  | none =>
   have ha:x = .non:=ha;subst ha;cases r1
   cases b with
   | none =>
    have hb:y = .non:=hb;subst hb;cases r2;exact SeqAt.EqAt.same _
   | some b=>exact (NoN.ne (α:=α) A hK I (by omega) r2 hb).1.1
  | some a =>
   cases b with
   | none =>
    have hb:y = .non:=hb;subst hb;cases r2;exact (NoN.ne (α:=α) A hK I (by omega) r1 ha).2.1
   | some b =>
    have:=E.eq A hK I hu r1 r2 ha hb;have e3:decide (some a=some b)=decide (a=b):=by simp
    rw [e3];exact this
 rc:=by
  intro X pins σ H s x y u v a b A hK I hu r1 r2 ha hb
  cases a with
  | none =>
   have ha:x = .non:=ha;subst ha;cases r1
   cases b with
   | none =>
    have hb:y = .non:=hb;subst hb;cases r2;exact ⟨SeqAt.RcAt.none_none,SeqAt.RcNeAt.none_none⟩
   | some b=>exact (NoN.ne (α:=α) A hK I (by omega) r2 hb).1.2
  | some a =>
   cases b with
   | none =>
    have hb:y = .non:=hb;subst hb;cases r2;exact (NoN.ne (α:=α) A hK I (by omega) r1 ha).2.2
   | some b =>
    have:=E.rc A hK I hu r1 r2 ha hb;have e3:decide (some a=some b)=decide (a=b):=by simp
    rw [e3];exact this
instance reOpt {α:Type}[Rp α][DecidableEq α][RpE α][NoN α]:RpE (Option α):=⟨RpE.k α,fun K=>eqOpt (RpE.ty K)⟩
class Fix (α:Type) [Rp α]:Prop where
 fx:∀ {K:FZ9}{G G':Hp}{v:V}{a:α},Rp.rel K G v a->Rp.rel K G' v a
end L2
namespace L3
open PySem
end L3
namespace L2
open PySem PySem.Spec PyProof.Rows
inductive SI where
 | s (x:Str)
 | i (n:Int)
 deriving DecidableEq
def Pl (K:FZ9)(α:Type)[Rp α][DecidableEq α](neg:Bool):R2:=fun x y H Q=>∃ p xs a as,y = .ref p/\SqL K H p xs/\Rp.rel (α:=α) K H x a/\Paired (Rp.rel (α:=α) K H) xs as/\Q (.bl (if neg then !decide (a∈as) else decide (a∈as))) H
open Classical in
def eqW {α:Type}[Rp α](K:FZ9)(H:Hp)(a:α)(u:Value):Bool:=decide (∃ y,RelV y u/\Rp.rel K H y a)
theorem eqW_of {α:Type}[Rp α][DecidableEq α][RpE α]{X:Cx}{pins:List (Addr × Obj)}{σ:St}{H:Hp}{s:Shared}(I:Inv X pins σ H s){a b:α}{y:V}{u:Value}(r:RelV y u)(h:Rp.rel X.K H y b):eqW X.K H a u=decide (b=a):=by
 unfold eqW
 classical
 by_cases e:b=a
 ·subst e;rw [decide_eq_true rfl,decide_eq_true];exact ⟨y,r,h⟩
 ·rw [decide_eq_false e,decide_eq_false];rintro ⟨z,rz,hz⟩;have:=RelV.inj r rz;subst this;exact e ((RpE.ty X.K).fn rfl I h hz)
theorem Md {α:Type}[Rp α][DecidableEq α][RpE α]{X:Cx}{pins:List (Addr × Obj)}{σ:St}{H:Hp}{s:Shared}(I:Inv X pins σ H s){a:α}:∀ {xs:List V}{us:List Value}{as:List α},Vals xs us->Paired (Rp.rel X.K H) xs as->us.any (eqW X.K H a)=decide (a∈as)
 | _,_,_,.nil,.nil=>by simp
 | y::xs,u::us,b::as,.cons r t,.cons h p=>by
  rw [List.any_cons,eqW_of I r h,Md I t p];by_cases e:b=a
  ·subst e;simp
  ·rw [decide_eq_false e,Bool.false_or]
   exact decide_eq_decide.mpr ⟨fun m=>qrA _ m,fun m=>by
    rcases qmA.mp m with rfl|m
    ·exact absurd rfl e
    ·exact m⟩
theorem MP {α:Type}[Rp α][DecidableEq α][RpE α]{X:Cx}{A:Around}{pins:List (Addr × Obj)}{σ:St}{H:Hp}{s:Shared}(I:Inv X pins σ H s)(hA:A.units+RpE.k α<cLine){a:α}{x:V}{v:Value}(rx:RelV x v)(hx:Rp.rel X.K H x a):∀ {xs:List V}{us:List Value}{as:List α},Vals xs us->Paired (Rp.rel X.K H) xs as->∀ u∈us,SeqAt.EqAt A s u v (eqW X.K H a u)
 | _,_,_,.nil,.nil=>fun u hu=>by cases hu
 | y::xs,u::us,b::as,.cons r t,.cons h p=>fun u' hu=>by
  rcases qmA.mp hu with rfl|hu
  ·rw [eqW_of I r h];exact (RpE.ty X.K).eq A rfl I hA r rx h hx
  ·exact MP I hA rx hx t p u' hu
theorem op_inE {X:Cx}{K:FZ9}{j:Nat}(hK:X.K=K)(α:Type)[Rp α][DecidableEq α][RpE α](hr:Room j X.A)(hk:RpE.k α<=40):OpR X (compareOp .In) (Pl K α false):=by
 subst hK;intro pins s σ H x y v u Q I rx ry h;obtain ⟨p,xs,a,as,rfl,hq,hx,pr,q⟩:=h;cases ry;obtain ⟨its,r,pl,hz⟩:=I.list hq;refine SeqAt.in_listAt (eqW X.K H a) pl.isList (fun w hw=>MP I (by have:=hr.un;rw [Around.in1_units];omega) rx hx r pr w (by simpa using hw)) ⟨.bl _,H,I,rfl,?_⟩;rw [show its.toArray.any (eqW X.K H a)=its.any (eqW X.K H a) by simp,Md I r pr];exact q
theorem Pn {X:Cx}{K:FZ9}{j:Nat}(hK:X.K=K)(α:Type)[Rp α][DecidableEq α][RpE α](hr:Room j X.A)(hk:RpE.k α<=40):OpR X (compareOp .NotIn) (Pl K α true):=by
 subst hK;intro pins s σ H x y v u Q I rx ry h;obtain ⟨p,xs,a,as,rfl,hq,hx,pr,q⟩:=h;cases ry;obtain ⟨its,r,pl,hz⟩:=I.list hq;refine SeqAt.notIn_listAt (eqW X.K H a) pl.isList (fun w hw=>MP I (by have:=hr.un;rw [Around.in1_units];omega) rx hx r pr w (by simpa using hw)) ⟨.bl _,H,I,rfl,?_⟩;rw [show its.toArray.any (eqW X.K H a)=its.any (eqW X.K H a) by simp,Md I r pr];exact q
section
variable {K:FZ9}{σ:St}{G H:Hp}{ta tb te td ti:TE}{α:Type}[Rp α]
theorem ev_inE [DecidableEq α]{ma:Option α}{ml:Option (List α)}(ea:EV K ta σ G ma)(eb:EV K tb σ G ml):EV K (tOp (Pl K α false) ta tb) σ G (ma.bind fun a=>ml.bind fun l=>some (decide (a∈l))) :=
 By (fun {G' H' x y a b c} s ra rb e Q k=>by
  cases e;obtain ⟨l,xs,rfl,h,z,p⟩:=rb
  exact ⟨l,xs,a,b,rfl,.inl (s.rd h),Rp.mono s ra,Paired.imp' (fun _ _ r=>Rp.mono s r) p,k _ _ _ (.refl s) rfl⟩) ea eb
theorem QC [DecidableEq α]{ma:Option α}{ml:Option (List α)}(ea:EV K ta σ G ma)(eb:EV K tb σ G ml):EV K (tOp (Pl K α true) ta tb) σ G (ma.bind fun a=>ml.bind fun l=>some (!decide (a∈l))) :=
 By (fun {G' H' x y a b c} s ra rb e Q k=>by
  cases e;obtain ⟨l,xs,rfl,h,z,p⟩:=rb
  exact ⟨l,xs,a,b,rfl,.inl (s.rd h),Rp.mono s ra,Paired.imp' (fun _ _ r=>Rp.mono s r) p,k _ _ _ (.refl s) rfl⟩) ea eb
end
theorem Fd {K:FZ9}{H:Hp}:∀ {xs:List V}{ns:List Int},Paired (Rp.rel K H) xs ns->xs=ns.map V.int
 | _,_,.nil=>rfl
 | _,_,.cons h t=>by
  cases h;rw [qyA,Fd t]
structure Mp (α:Type) where
 l:List (Int × α)
section
variable {K:FZ9}{σ:St}{G H:Hp}{ta tb te:TE}{rest:TS}{D:Ends}{i:Nat}{v:V}{p:Addr}{vs:List V}
theorem IB {G:Hp}:∀ {xs:List V}{ys:List Str},Paired (Rp.rel K G) xs ys->xs=ys.map V.str
 | _,_,.nil=>rfl
 | _,_,.cons h t=>by
  obtain ⟨rfl,_⟩:=h;rw [qyA,IB t]
end
def leS (a b:Str):Bool:=!decide (b.cps.toList<a.cps.toList)
theorem leS_iff {a b:Str}:leS a b=true ↔ a.cps.toList<=b.cps.toList:=by
 unfold leS;rw [Bool.not_eq_true',decide_eq_false_iff_not];exact List.not_lt
theorem J0 (a b c:Str)(h1:leS a b=true)(h2:leS b c=true):leS a c=true:=leS_iff.mpr (List.le_trans (leS_iff.mp h1) (leS_iff.mp h2))
theorem Lx (a b:Str):(leS a b || leS b a)=true:=by
 rw [Bool.or_eq_true,leS_iff,leS_iff];exact List.le_total _ _
theorem N8 {a b:Str}(h1:leS a b=true)(h2:leS b a=true):a=b:=by
 have:=List.le_antisymm (leS_iff.mp h1) (leS_iff.mp h2);cases a;cases b
 congr 1
 exact Array.toList_inj.mp this
def Kb (ys:List Str):List Str:=ys.mergeSort leS
theorem EA (ys:List Str):(Kb ys).Perm ys:=List.mergeSort_perm ys leS
theorem M6:∀ (p:Str) (l:List Str),risingS p l=true->(p::l).Pairwise fun a b=>leS a b=true
 | p,[],_=>by simp
 | p,x::r,h=>by
  have h:(!ltCps x.cps.toList p.cps.toList && risingS x r)=true:=h;rw [qeC,ltCps_eq] at h;have h1:leS p x=true:=h.1;have ih:=M6 x r h.2;refine List.pairwise_cons.mpr ⟨fun y hy=>?_,ih⟩;rcases qmA.mp hy with rfl|hy
  ·exact h1
  ·exact J0 _ _ _ h1 (List.rel_of_pairwise_cons ih hy)
theorem sortS_of {ss ss':List Str}(hp:ss'.Perm ss)(hs:sortedS ss'=true):ss'=Kb ss:=by
 have pw:ss'.Pairwise fun a b=>leS a b=true:=by
  cases ss' with
  | nil=>exact .nil
  | cons x r=>exact M6 x r hs
 exact List.Perm.eq_of_pairwise (fun a b _ _ h1 h2=>N8 h1 h2) pw (List.pairwise_mergeSort J0 Lx ss) (hp.trans (EA ss).symm)
def P9 (ys:List Str):Option (List Str):=if ys.length<64 then some (Kb ys) else none
theorem Lf:∀ {vs:List Value}{ss:List Str},StrsAre vs ss->Vals (ss.map V.str) vs
 | _,_,.nil=>.nil
 | _,_,.cons x t r=>.cons ⟨t,rfl⟩ (Lf r)
def rSortS (K:FZ9):List V->Hp->VK->Prop:=fun vs H Q=>∃ (l:Addr) (ys:List Str),vs=[.ref l]/\SqL K H l (ys.map V.str)/\ys.length<64/\∀ p,H p=none->Q (.ref p) (upd H p (.lst ((Kb ys).map V.str)))
theorem MC {X:Cx}{K:FZ9}(h:X.K=K):Cc X (.builtin "sorted") (rSortS K):=by
 subst h;intro pins s σ H vs us Q I r h;obtain ⟨l,ys,rfl,hl,h64,q⟩:=h;obtain ⟨u,rfl,ru⟩:=Dh r;cases ru;obtain ⟨its,rv,pl,_⟩:=I.list hl;have hlen:=rv.length;rw [qeA] at hlen;refine sorted_strs pl.isList (K3 rv) (by omega) fun out ss' a1 a2 a3=>?_;have e:=sortS_of a2 a3;subst e;obtain ⟨n,he⟩:=sortedAll_at s.heap its out;refine ⟨.ref (s.heap.objs.size+1),_,I.laid (a:=s.heap.objs.size+1) (t':=s.toks) (o:=.lst ((Kb ys).map V.str)) (fun b ob q=>sortedAll_old q) (Nat.le_succ _) ?_,rfl,q _ (I.hok.fresh (Nat.le_succ _))⟩;refine ⟨?_,out.toList,n,Lf a1,he⟩;rw [qeA,(EA ys).length_eq,qkB];omega
theorem Kn {K:FZ9}{G:Hp}:∀ {xs:List V}{ys:List Str},Paired (Rp.rel K G) xs ys->∀ y∈ys,y.length<=sizeLine
 | _,_,.nil=>fun y hy=>by cases hy
 | _,_,.cons h t=>fun y hy=>by
  rcases qmA.mp hy with rfl|hy
  ·exact h.2
  ·exact Kn t y hy
section
variable {K:FZ9}{σ:St}{G:Hp}{ta:TE}
theorem fv_sortS {la:Option (List Str)}(ea:EV K ta σ G la):FV K (tCB (rSortS K) (Am ta Bm)) σ G (la.bind fun ys=>P9 ys):=by
 clear 7;obtain ⟨a,ha,hc⟩:=qaA.mp hc;obtain ⟨h64,rfl⟩:=B2 hc;clear 8 ea a ha;obtain ⟨l,xs,rfl,h,z,p⟩:=r2;have e:=IB p;subst e;refine ⟨l,a,rfl,.inl (x2.gh.rd h),h64,?_⟩;refine JT x2.gh ?_ ?_ (FV.mono x2 k)
 ·rw [qeA,(EA a).length_eq,qkB];omega
 ·have hl:∀ y∈a,y.length<=sizeLine:=fun y hy=>by
   have:=Kn p y hy;exact this
  have:∀ zs:List Str,(∀ y∈zs,y.length<=sizeLine)->Paired (Rp.rel K G2) (zs.map V.str) zs:=fun zs=>by
   induction zs with
   | nil=>intro _;exact .nil
   | cons y zs ih=>intro h;exact .cons ⟨rfl,h y qqA⟩ (ih fun w hw=>h w (qrA _ hw))
  exact this _ fun y hy=>hl y ((EA a).mem_iff.mp hy)
end
def Ris (xs:Array Nat):Prop:=∀ i j,i<j->(hj:j<xs.size)->xs.getD i 0<xs.getD j 0
theorem below_go (xs:Array Nat)(j:Nat)(hr:Ris xs):∀ fuel lo hi,lo<=hi->hi<=xs.size->hi - lo<=fuel->(∀ i,i<lo->xs.getD i 0<j)->(∀ i,hi<=i->i<xs.size->j<=xs.getD i 0) ->
  (SetTable.below.go xs j fuel lo hi<=xs.size/\(∀ i,i<SetTable.below.go xs j fuel lo hi->xs.getD i 0<j)/\∀ i,SetTable.below.go xs j fuel lo hi<=i->i<xs.size->j<=xs.getD i 0):=by
 intro fuel
 induction fuel with
 | zero =>
  intro lo hi h1 h2 h3 h4 h5;have e:lo=hi:=by omega
  subst e;exact ⟨h2,h4,h5⟩
 | succ fuel ih =>
  intro lo hi h1 h2 h3 h4 h5;unfold SetTable.below.go;by_cases hlt:lo<hi
  ·rw [if_pos hlt];dsimp only;have hm1:lo<=(lo+hi) / 2:=by omega
   have hm2:(lo+hi) / 2<hi:=by omega
   generalize (lo+hi) / 2=mid at hm1 hm2 ⊢;have hms:mid<xs.size:=by omega
   have e1:xs.getD mid j=xs.getD mid 0:=by simp [Array.getD,hms]
   rw [e1]
   have mono:∀ a b,a<=b->b<xs.size->xs.getD a 0<=xs.getD b 0:=fun a b hab hb=>by
    rcases Nat.lt_or_eq_of_le hab with h|h
    ·exact Nat.le_of_lt (hr a b h hb)
    ·rw [h];exact qcB _
   by_cases hc:xs.getD mid 0<j
   ·rw [if_pos hc];refine ih (mid+1) hi (by omega) h2 (by omega) (fun i hi'=>?_) h5;exact Nat.lt_of_le_of_lt (mono i mid (by omega) hms) hc
   ·rw [if_neg hc];refine ih lo mid hm1 (by omega) (by omega) h4 fun i hi' hs=>?_;exact qdB (Nat.le_of_not_lt hc) (mono mid i hi' hs)
  ·rw [if_neg hlt];have e:lo=hi:=by omega
   subst e;exact ⟨h2,h4,h5⟩
theorem Ny {xs:Array Nat}(hr:Ris xs)(j:Nat):SetTable.below xs j<=xs.size/\(∀ i,i<SetTable.below xs j->xs.getD i 0<j)/\∀ i,SetTable.below xs j<=i->i<xs.size->j<=xs.getD i 0 :=
 below_go xs j hr xs.size 0 xs.size (qdC _) (qcB _) (qcB _) (fun i h=>absurd h (Nat.not_lt_zero _)) fun i h h'=>absurd h' (Nat.not_lt.mpr h)
theorem FA {xs:Array Nat}(hr:Ris xs){j p:Nat}(hp:p<=xs.size)(h1:∀ i,i<p->xs.getD i 0<j)(h2:∀ i,p<=i->i<xs.size->j<=xs.getD i 0):SetTable.below xs j=p:=by
 obtain ⟨a,b,c⟩:=Ny hr j;rcases Nat.lt_trichotomy (SetTable.below xs j) p with h|h|h
 ·have:=c _ (qcB _) (by omega);have:=h1 _ h;omega
 ·exact h
 ·have:=b _ h;have:=h2 p (qcB _) (by omega);omega
theorem Ig {xs:Array Nat}(h:xs.toList.Pairwise (· < ·)):Ris xs:=fun i j hij hj=>by
 have:=List.pairwise_iff_getElem.mp h i j (by simpa using Nat.lt_trans hij hj) (by simpa using hj) hij
 simpa [Array.getD,hj,Nat.lt_trans hij hj] using this
theorem Pw {xs:Array Nat}(h:Ris xs):xs.toList.Pairwise (· < ·):=by
 rw [List.pairwise_iff_getElem];intro i j hi hj hij;have hi':i<xs.size:=by simpa using hi
 have hj':j<xs.size:=by simpa using hj
 have:=h i j hij hj'
 simpa [Array.getD,hj',hi'] using this
theorem KA {xs:Array Nat}(hr:Ris xs){j:Nat}(hn:xs[SetTable.below xs j]?≠some j):Ris (SetTable.insertAt xs (SetTable.below xs j) j):=by
 apply Ig;rw [SetTable.toList_insertAt];obtain ⟨a,b,c⟩:=Ny hr j;have pw:=Pw hr;generalize hp:SetTable.below xs j=p at a b c hn
 have hA:∀ x∈xs.toList.take p,x<j:=fun x hx=>by
  obtain ⟨i,hi,rfl⟩:=List.mem_iff_getElem.mp hx;rw [qjA] at hi;have h1:i<p:=by omega
  have h2:i<xs.size:=by rw [qwB] at hi;omega
  have:=b i h1;rw [List.getElem_take]
  simpa [Array.getD,h2] using this
 have hB:∀ x∈xs.toList.drop p,j<x:=fun x hx=>by
  obtain ⟨i,hi,rfl⟩:=List.mem_iff_getElem.mp hx;rw [List.length_drop,qwB] at hi;have h2:p+i<xs.size:=by omega
  have hp2:p<xs.size:=by omega
  have h3:=c (p+i) (Nat.le_add_right _ _) h2;rw [List.getElem_drop]
  have h4:xs.getD (p+i) 0≠j:=fun e=>by
   have h5:=c p (qcB _) hp2
   have h6:xs.getD p 0<=xs.getD (p+i) 0:=by
    cases i with
    | zero=>exact qcB _
    | succ i=>exact Nat.le_of_lt (hr p (p+(i+1)) (by omega) h2)
   have h7:xs.getD p 0=j:=by omega
   apply hn;simp only [Array.getD,hp2,dite_true] at h7;rw [Array.getElem?_eq_getElem hp2];exact congrArg some h7
  simp only [Array.getD,h2,dite_true] at h3 h4;have e:xs.toList[p+i]'(by simpa using h2)=xs[p+i]:=by simp
  rw [e];have h3':j<=xs[p+i]:=by simpa using h3
  have h4':xs[p+i]≠j:=by simpa using h4
  omega
 rw [List.pairwise_append];refine ⟨pw.take,List.pairwise_cons.mpr ⟨hB,pw.drop⟩,fun x hx y hy=>?_⟩;have h1:=hA x hx;rcases qmA.mp hy with rfl|hy
 ·exact h1
 ·exact Nat.lt_trans h1 (hB y hy)
structure RT (t:SetTable):Prop where
 ris:Ris t.place
 dum:t.dummies = #[]
theorem FM (j:Nat):SetTable.has #[] j=false:=by
 unfold SetTable.has;simp
theorem Nv {t:SetTable}(hd:t.dummies = #[])(f:Nat->Int)(h:Int):∀ fuel p j d,p.dummy=none->SetTable.probe.go t f h fuel p=some (.empty j d)->d=none/\t.place[SetTable.below t.place j]?≠some j:=by
 intro fuel
 induction fuel with
 | zero=>intro p j d _ e;cases e
 | succ fuel ih =>
  intro p j d hp e;unfold SetTable.probe.go at e
  have hadv:(t.advance p).dummy=none:=by
   unfold SetTable.advance;split
   ·exact hp
   ·exact hp
  cases hs:t.slot p.j with
  | empty =>
   rw [hs] at e;dsimp only at e;cases e;refine ⟨hp,fun hc=>?_⟩;unfold SetTable.slot at hs;dsimp only at hs;rw [hc] at hs;simp at hs
  | dummy =>
   unfold SetTable.slot at hs;dsimp only at hs;rw [hd,FM] at hs;split at hs<;>simp at hs
  | live i =>
   rw [hs] at e;dsimp only at e;split at e
   ·cases e
   ·exact ih _ _ _ hadv e
theorem NM {t:SetTable}(hd:t.dummies = #[]){h:Int}{j:Nat}{b:Bool}(e:t.freeSlot h=some (j,b)):b=false/\t.place[SetTable.below t.place j]?≠some j:=by
 unfold SetTable.freeSlot at e
 cases hp:t.probe (fun _=>h+1) h (t.probeStart h) with
 | none=>rw [hp] at e;cases e
 | some m =>
  rw [hp] at e
  cases m with
  | candidate _ _ _=>cases e
  | empty j' d =>
   obtain ⟨rfl,h2⟩:=Nv hd _ _ _ _ _ _ rfl hp;simp only [Option.getD_none,Option.isSome_none,Option.some.injEq,Prod.mk.injEq] at e;obtain ⟨rfl,rfl⟩:=e;exact ⟨rfl,h2⟩
theorem FZ (t:SetTable)(n:Nat):RT (t.standIn n):=⟨Ig (by show (Array.range n).toList.Pairwise _;rw [Array.toList_range];exact List.pairwise_lt_range),rfl⟩
theorem MK {t:SetTable}(h:RT t)(n:Nat):RT (t.orStandIn n):=by
 unfold SetTable.orStandIn;split
 ·exact h
 ·exact FZ t n
theorem LA (t:SetTable)(n:Nat):(t.orStandIn n).led=t.led:=by
 unfold SetTable.orStandIn;split<;>rfl
theorem Q6 {t:SetTable}(ht:RT t)(es:Array (Int × Value))(h:Int)(x:Value):RT (layNew t es h x).2.1/\(layNew t es h x).2.1.led=t.led:=by
 unfold layNew;split
 ·rename_i slot wd e;obtain ⟨_,h2⟩:=NM ht.dum e;refine ⟨MK ⟨?_,?_⟩ _,LA _ _⟩
  ·exact KA ht.ris h2
  ·show (if SetTable.has t.dummies slot then _ else t.dummies) = #[];rw [ht.dum,FM]
   rfl
 ·exact ⟨FZ _ _,rfl⟩
theorem IC {β:Type}(f:Nat->Option β):∀ l:List Nat,l.Pairwise (· < ·)->((l.filterMap fun j=>(f j).map (j,·)).map (·.1)).Pairwise (· < ·)
 | [],_=>.nil
 | a::l,h=>by
  have ih:=IC f l h.tail
  cases hf:f a with
  | none=>rw [List.filterMap_cons_none (by rw [hf];rfl)];exact ih
  | some b =>
   rw [List.filterMap_cons_some (b:=(a,b)) (by rw [hf];rfl),qyA];refine List.pairwise_cons.mpr ⟨fun y hy=>?_,ih⟩;obtain ⟨⟨j,c⟩,hq,rfl⟩:=qnA.mp hy;obtain ⟨j',hj',e⟩:=List.mem_filterMap.mp hq
   cases hf':f j' with
   | none=>rw [hf'] at e;cases e
   | some c' =>
    rw [hf'] at e;cases e;exact List.rel_of_pairwise_cons h hj'
theorem Mm {mask finger moves:Nat}{led plain:Bool}{hs:Array Int}{t:SetTable}{o:Array Nat}(e:SetTable.laid mask finger moves led plain hs=some (t,o)):RT t/\t.led=led/\t.plain=plain/\t.mask=mask:=by
 unfold SetTable.laid at e
 cases hl:SetTable.layClean mask hs with
 | none=>rw [hl] at e;cases e
 | some ow =>
  rw [hl] at e;simp only [Option.pure_def,Option.bind_eq_bind,Option.bind_some,Option.some.injEq,Prod.mk.injEq] at e;obtain ⟨rfl,rfl⟩:=e;refine ⟨⟨Ig ?_,rfl⟩,rfl,rfl,rfl⟩;exact IC (fun j=>ow.getD j none) _ List.pairwise_lt_range
theorem N5 (t:SetTable)(ht:RT t)(es:Array (Int × Value))(wanted:Nat):RT (relayAll t es wanted).2.1/\(relayAll t es wanted).2.1.led=t.led:=by
 unfold relayAll;split
 ·rename_i t' order e;dsimp only;split
  ·unfold SetTable.relaid at e;obtain ⟨a,b,_⟩:=Mm e;exact ⟨a,b⟩
  ·exact ⟨FZ _ _,rfl⟩
 ·exact ⟨FZ _ _,rfl⟩
def byT (w:World):Bool:=w.params.followText "set-order"
def Ent (w:World)(e:Int × Value)(k:Key):Prop:=E9 k e.2=true/\e.1=N7 w k
theorem Nf {k:Key}{v:Value}(h:E9 k v=true):v.scannable=true:=by
 rcases Br h with ⟨i,t,rfl,rfl⟩ | ⟨x,t,rfl,rfl⟩<;>rfl
structure SObj (w:World)(o:Obj)(es:Array (Int × Value))(ep:Nat)(t:SetTable)(ks:List Key):Prop where
 exact':o.ExactSet
 data:o.data = .set es ep t
 ent:Paired (Ent w) es.toList ks
 few:ks.length<scanBound
 fit:t.fits es.size=true
 rt:RT t
 led:t.led = !byT w
def SetIs (w:World)(h:Heap)(a:Addr)(ks:List Key):Prop:=∃ o es ep t,h.get? a=some o/\SObj w o es ep t ks
theorem EU {α β:Type}{F:α->β->Prop}:∀ {l₁:List α}{l₂:List β},Paired F l₁ l₂->l₁.length=l₂.length
 | _,_,.nil=>rfl
 | _,_,.cons _ t=>congrArg (· + 1) (EU t)
theorem SObj.size {w:World}{o es ep t ks}(S:SObj w o es ep t ks):es.size=ks.length:=by
 have:=EU S.ent
 rwa [qwB] at this
theorem SObj.elems {prog:Program}{w:World}{o es ep t ks}(S:SObj w o es ep t ks):ElemsOf (Bh prog w) es.toList:=by
 have:∀ {l:List (Int × Value)}{ks:List Key},Paired (Ent w) l ks->ElemsOf (Bh prog w) l:=by
  intro l ks p
  induction p with
  | nil=>intro e he;cases he
  | cons hd _ ih =>
   intro e he;rcases qmA.mp he with rfl|he
   ·exact ⟨⟨_,hd.1,hd.2⟩,Nf hd.1⟩
   ·exact ih e he
 exact this S.ent
theorem JN {α β:Type}{F:α->β->Prop}{l l':List α}(hp:l'.Perm l):∀ {m:List β},Paired F l m->∃ m',m'.Perm m/\Paired F l' m':=by
 have:=hp.symm;clear hp
 induction this with
 | nil=>intro m p;exact ⟨m,.rfl,p⟩
 | cons x _ ih =>
  intro m p
  cases p with
  | cons h t =>
   obtain ⟨m',e,q⟩:=ih t;exact ⟨_,e.cons _,.cons h q⟩
 | swap x y l =>
  intro m p
  cases p with
  | cons h t=>cases t with
   | cons h2 t2=>exact ⟨_,List.Perm.swap _ _ _,.cons h2 (.cons h t2)⟩
 | trans _ _ ih1 ih2 =>
  intro m p;obtain ⟨m1,e1,q1⟩:=ih1 p;obtain ⟨m2,e2,q2⟩:=ih2 q1;exact ⟨m2,e2.trans e1,q2⟩
theorem NC {w:World}{k:Key}:∀ {l:List (Int × Value)}{ks:List Key},Paired (Ent w) l ks->((∃ e∈l,E9 k e.2=true) ↔ k∈ks)
 | _,_,.nil=>by simp
 | _,_,.cons (a:=e) (b:=k') h t=>by
  have ih:=NC (k:=k) t;have hk:E9 k e.2=true ↔ k=k':=⟨fun q=>(Bh default w).inj _ _ _ q h.1,fun q=>q ▸ h.1⟩;constructor
  ·rintro ⟨x,hx,q⟩;rcases qmA.mp hx with rfl|hx
   ·exact qmA.mpr (.inl (hk.mp q))
   ·exact qmA.mpr (.inr (ih.mp ⟨x,hx,q⟩))
  ·intro hm;rcases qmA.mp hm with rfl|hm
   ·exact ⟨e,qqA,h.1⟩
   ·obtain ⟨x,hx,q⟩:=ih.mpr hm;exact ⟨x,qrA _ hx,q⟩
def HA (ks:List Key)(k:Key):List Key:=if ks.any (fun y=>decide (y=k)) then ks else ks++[k]
theorem any_mem {ks:List Key}{k:Key}:ks.any (fun y=>decide (y=k))=true ↔ k∈ks:=by
 rw [List.any_eq_true];exact ⟨fun ⟨y,hy,e⟩=>(of_decide_eq_true e) ▸ hy,fun h=>⟨k,h,decide_eq_true rfl⟩⟩
theorem Mi {ks:List Key}{k:Key}(h:k∈ks):HA ks k=ks:=by unfold HA;rw [if_pos (any_mem.mpr h)]
theorem Jp {ks:List Key}{k:Key}(h:k ∉ ks):HA ks k=ks++[k]:=by unfold HA;rw [if_neg (fun q=>h (any_mem.mp q))]
theorem MU {t:SetTable}(h:RT t):RT { t with plain:=false }:=⟨h.ris,h.dum⟩
section
variable {prog:Program}{w:World}{A:Around}{E:Value->Shared->Prop}{s:Shared}
theorem Gm {a:Addr}{o:Obj}{es:Array (Int × Value)}{ep:Nat}{t:SetTable}{es':Array (Int × Value)}{t':SetTable}(ho:s.heap.get? a=some o)(hd:o.data = .set es ep t) :
  (s.heap.update a (Obj.putSet es' t')).get? a=some { o with data:=.set es' (ep+1) t' }:=by
 have:=Heap.get?_update_self (Obj.putSet es' t') ho (by rw [putSet_of es' t' hd];rfl)
 rwa [putSet_of es' t' hd] at this
theorem Nh {n:Nat}(h:n<scanBound):n<=sizeLine:=fits_of_scanBound h
theorem NZ {g:Bool->Sem Unit}(hg:∀ (b:Bool) (s₁:Shared) (Q':Unit->Shared->Prop),Q' () s₁->wpAny (model prog w) A (g b) Q' E s₁)
  {a:Addr}{o:Obj}{es:Array (Int × Value)}{ep:Nat}{t:SetTable}(gA:s.heap.get? a=some o) (xA:o.ExactSet) (dA:o.data = .set es ep t)
  {es1:Array (Int × Value)}{t2:SetTable}{ks:List Key}(p1:Paired (Ent w) es1.toList ks) (f1:ks.length<scanBound) (ft:t2.fits es1.size=true) (r2:RT t2) (l2:t2.led = !byT w) {wd:Bool}{R:Option Bool->Shared->Prop}
  (h:∀ h' ks',Heap.SameBut a s.heap h'->SetIs w h' a ks'->ks'.Perm ks->R (some true) { s with heap:=h' }) :
  wpAny (model prog w) A (do
    storeSet a es1 t2
    if (!wd && t2.tooFull)=true then do
      g (relayAll t2 es1 (SetTable.grown es1.size)).2.2;storeSet a (relayAll t2 es1 (SetTable.grown es1.size)).1 (relayAll t2 es1 (SetTable.grown es1.size)).2.1
      pure (some true)
     else pure (some true)) R E s:=by
 have z1:es1.size=ks.length:=by have:=EU p1;rwa [qwB] at this
 refine qbA (wpAny_storeSet_of gA dA ?_ (Nh (by rw [z1];exact f1)));have g1:=Gm (es':=es1) (t':=t2) gA dA;have b1:=Heap.SameBut.update s.heap a (Obj.putSet es1 t2);split
 ·have hp:=relayAll_perm t2 es1 (SetTable.grown es1.size);have hfr:=relayAll_fits t2 es1 (SetTable.grown es1.size);obtain ⟨hrt,hld⟩:=N5 t2 r2 es1 (SetTable.grown es1.size);generalize relayAll t2 es1 (SetTable.grown es1.size)=Rl at hp hfr hrt hld ⊢;obtain ⟨es2,t3,gave2⟩:=Rl;dsimp only at hp hfr hrt hld ⊢;obtain ⟨ks',e',p2⟩:=JN hp p1;have f2:ks'.length<scanBound:=by rw [e'.length_eq];exact f1
  have z2:es2.size=ks'.length:=by have:=EU p2;rwa [qwB] at this
  refine qbA (hg _ _ _ (qbA (wpAny_storeSet_of (o:={ o with data:=.set es1 (ep+1) t2 }) g1 rfl ?_ (Nh (by rw [z2];exact f2)))));have g2:=Gm (s:={ s with heap:=s.heap.update a (Obj.putSet es1 t2) }) (es':=es2) (t':=t3) g1 rfl;exact qcA (h _ ks' (b1.trans (Heap.SameBut.update _ a _)) ⟨_,es2,_,t3,g2,⟨xA,rfl,p2,f2,hfr,hrt,hld.trans l2⟩⟩ e')
 ·exact qcA (h _ ks b1 ⟨_,es1,_,t2,g1,⟨xA,rfl,p1,f1,ft,r2,l2⟩⟩ .rfl)
theorem add_ok {a:Addr}{ks:List Key}{k:Key}{x:Value}{Q:Bool->Shared->Prop}(hk:E9 k x=true)(hS:SetIs w s.heap a ks)(hroom:ks.length+1<scanBound)
  (h:∀ h' ks',Heap.SameBut a s.heap h'->SetIs w h' a ks'->ks'.Perm (HA ks k)->∀ b,Q b { s with heap:=h' }) :
  wpAny (model prog w) A (setAddHashed a x (N7 w k)) Q E s:=by
 obtain ⟨o,es,ep,t,gA,S⟩:=hS;have hel:=S.elems (prog:=prog);have hsz:=S.size;have hsc:=Nf hk;unfold setAddHashed setAddHashedIn;refine qdA (qbA (qbC gA S.data S.fit ?_));dsimp only;rw [byScan_of hsc (by rw [hsz];exact S.few) hel];simp only [↓reduceIte];unfold setAddByScan;refine qbA (qbA (wpAny_rule (qbA (wpAny_setScan_of (knd:=Bh prog w) (k:=k) hk gA S.data S.fit hel ?_))));have hf:=NC (k:=k) S.ent
 cases hr:List.findIdx? (fun e=>(Bh prog w).is k e.2) es.toList with
 | some j =>
  dsimp only;obtain ⟨hj,hpj,_⟩:=List.findIdx?_eq_some_iff_getElem.mp hr;have hm:k∈ks:=hf.mp ⟨es.toList[j],List.getElem_mem hj,hpj⟩;refine qcA (qcA ?_);have e:s = { s with heap:=s.heap }:=by cases s;rfl
  have q:=h s.heap ks (Heap.SameBut.refl a s.heap) ⟨o,es,ep,t,gA,S⟩ (by rw [Mi hm]) false;rw [<- e] at q;exact q
 | none =>
  dsimp only
  have hm:k ∉ ks:=fun hm=>by
   obtain ⟨e,he,q⟩:=hf.mpr hm;have:=List.findIdx?_eq_none_iff.mp hr e he;have q':(Bh prog w).is k e.2=true:=q;rw [q'] at this;exact Bool.noConfusion this
  have hgw:∀ (b:Bool) {s₁:Shared}{Q':Unit->Shared->Prop},Q' () s₁->wpAny (model prog w) A (match b with|true=>rule "set.scan.the-table-gave-way" | false=>pure ()) Q' E s₁:=by
   intro b s₁ Q' hq;cases b
   ·exact qcA hq
   ·exact wpAny_rule hq
  have hperm:=layNew_perm t es (N7 w k) x;have hfits:=layNew_fits t es (N7 w k) x;obtain ⟨hrt,hld⟩:=Q6 S.rt es (N7 w k) x;generalize hL:layNew t es (N7 w k) x=L at hperm hfits hrt hld;obtain ⟨es1,t1,wd,gave⟩:=L;dsimp only at hperm hfits hrt hld ⊢;rw [Array.toList_push] at hperm;obtain ⟨ks1,e1,p1⟩:=JN hperm (S.ent.snoc (b:=k) (show Ent w (N7 w k,x) k from ⟨hk,rfl⟩));have f1:ks1.length<scanBound:=by rw [e1.length_eq,qfA];exact hroom
  have fin:∀ (h':Heap) (ks':List Key),Heap.SameBut a s.heap h'->SetIs w h' a ks'->ks'.Perm ks1->Q true { s with heap:=h' }:=fun h' ks' b1 b2 b3=>h h' ks' b1 b2 (by rw [Jp hm];exact b3.trans e1) true;refine qbA (hgw _ ?_);split
  ·refine qbA ?_;rw [hashByValue_scannable 8 hsc];refine qcA (NZ (fun b s₁ Q' hq=>by cases b<;>first|exact qcA hq|exact wpAny_rule hq) gA S.exact' S.data p1 f1 ?_ ?_ ?_ fun h' ks' b1 b2 b3=>?_)
   ·split
    ·exact hfits
    ·exact SetTable.fits_plain_off hfits
   ·split
    ·exact hrt
    ·exact MU hrt
   ·split
    ·exact hld.trans S.led
    ·exact hld.trans S.led
   ·exact qcA (fin h' ks' b1 b2 b3)
  ·refine qbA (qcA ?_);simp only [↓reduceIte];refine NZ (fun b s₁ Q' hq=>by cases b<;>first|exact qcA hq|exact wpAny_rule hq) gA S.exact' S.data p1 f1 hfits hrt (hld.trans S.led) fun h' ks' b1 b2 b3=>?_;exact qcA (fin h' ks' b1 b2 b3)
end
def IH (ks:List Key):List Key:=ks.foldl HA []
theorem QH {a b:List Key}(h:a.Perm b)(k:Key):(HA a k).Perm (HA b k):=by
 by_cases hk:k∈b
 ·rw [Mi hk,Mi (h.mem_iff.mpr hk)];exact h
 ·rw [Jp hk,Jp (fun q=>hk (h.mem_iff.mp q))];exact h.append_right _
theorem addK_len (a:List Key)(k:Key):(HA a k).length<=a.length+1:=by
 unfold HA;split
 ·exact Nat.le_succ _
 ·rw [qfA];exact qcB _
theorem Qd (ks:List Key):∀ a:List Key,(ks.foldl HA a).length<=a.length+ks.length:=by
 induction ks with
 | nil=>intro a;exact qcB _
 | cons k ks ih =>
  intro a;have h1:=ih (HA a k);have h2:=addK_len a k;rw [qcC,qgA];omega
theorem dedK_len (ks:List Key):(IH ks).length<=ks.length:=by
 have:=Qd ks [];rw [List.length_nil] at this;unfold IH;omega
theorem Pp (ks:List Key)(k:Key):IH (ks++[k])=HA (IH ks) k:=by
 unfold IH;rw [List.foldl_append]
 rfl
def SetP (w:World)(h:Heap)(a:Addr)(ks:List Key):Prop:=∃ ks',SetIs w h a ks'/\ks'.Perm ks
theorem SetIs.at {w:World}{h h':Heap}{a:Addr}{ks:List Key}(x:SetIs w h a ks)(k:∀ o,h.get? a=some o->h'.get? a=some o):SetIs w h' a ks:=by
 obtain ⟨o,es,ep,t,g,S⟩:=x;exact ⟨o,es,ep,t,k _ g,S⟩
theorem SetP.at {w:World}{h h':Heap}{a:Addr}{ks:List Key}(x:SetP w h a ks)(k:∀ o,h.get? a=some o->h'.get? a=some o):SetP w h' a ks:=by
 obtain ⟨ks',g,e⟩:=x;exact ⟨ks',g.at k,e⟩
def BC (w:World):Obj:={ cls:=.type "set",dict:=none,data:=.set #[] 0 (.fresh 0 0 (!byT w)) }
theorem fresh_is {w:World}{h:Heap}{a:Addr}(g:h.get? a=some (BC w)):SetIs w h a [] :=
 ⟨_,#[],0,_,g,⟨⟨rfl,rfl,rfl⟩,rfl,.nil,by decide,rfl,⟨fun i j _ hj=>absurd hj (Nat.not_lt_zero _),rfl⟩,rfl⟩⟩
section
variable {prog:Program}{w:World}{A:Around}{R:Result->Shared->Prop}{I:Addr}{fp wr:List Addr}{G:Array GenState->Array GenState->Prop}{n:Nat}{P:Nat->Value->Prop}{St:Nat->Shared->Prop}
theorem upd_loop (W:WalksS prog w A.in1 I fp wr G n P St)(S:Addr)(nS:S ∉ fp)(val:List Key)(hn:val.length=n)(hv:∀ i v,P i v->∃ k,val[i]? = some k/\E9 k v=true)(hb:n+1<scanBound) :
  ∀ (k i:Nat) (s:Shared),n - i=k->i<=n->St i s->SetP w s.heap S (IH (val.take i)) ->
   (∀ s',Moved (S::wr) G s s'->SetP w s'.heap S (IH val)->R (.ok (.ret .none)) s') ->
   codeAny (model prog w) A (.builtin "set.update.loop" ⟨[.ref S,.ref I],[]⟩) R s:=by
 have nW:S ∉ wr:=fun h=>nS (W.sub _ h);have up:∀ b∈wr,b∈S::wr:=fun b hb=>qrA _ hb;intro k
 induction k with
 | zero =>
  intro i s e1 e2 st hS hR;have ei:i=n:=by omega
  subst ei;refine codeAny_builtin PyProof.Rows.F.entry_set_update_loop ?_;rw [Around.under_plainId PyProof.Rows.F.plain_set_update_loop _];show wpAny _ A.in1 (pyNext (.ref I) >>= _) _ _ s;refine qbA (W.done s _ _ st fun s' hm=>?_);show wpAny _ A.in1 (ret Value.none) _ _ s';refine qcA (hR s' (hm.mono up) ?_);rw [List.take_of_length_le (Nat.le_of_eq hn)] at hS;exact hS.at fun o e=>hm.heap S _ nW e
 | succ k ih =>
  intro i s e1 e2 st hS hR;have hlt:i<n:=by omega
  refine codeAny_builtin PyProof.Rows.F.entry_set_update_loop ?_;rw [Around.under_plainId PyProof.Rows.F.plain_set_update_loop _];show wpAny _ A.in1 (pyNext (.ref I) >>= _) _ _ s;refine qbA (W.item i s _ _ hlt st fun v s' hP st' hm=>?_);obtain ⟨kk,hkk,hi⟩:=hv i v hP;obtain ⟨ks',hS',ep⟩:SetP w s'.heap S (IH (val.take i)):=hS.at fun o e=>hm.heap S _ nW e;show wpAny _ A.in1 (holding [v] (setAdd S v) >>= _) _ _ s';refine qbA (qdA ?_);unfold setAdd;refine qdA (qbA ((Bh prog w).pyHash (k:=kk) hi ?_))
  have hl:ks'.length<=i:=by
   rw [ep.length_eq];exact qdB (dedK_len _) (by rw [qjA];exact Nat.min_le_left _ _)
  refine add_ok (s:={ s' with toks:=s'.toks+1 }) hi hS' (by omega) fun h' ks2 hsb hS2 e2' b=>?_
  have hnext:SetP w h' S (IH (val.take (i+1))):=by
   refine ⟨ks2,hS2,?_⟩;rw [List.take_add_one,hkk];show ks2.Perm (IH (val.take i++[kk]));rw [Pp];exact e2'.trans (QH ep kk)
  refine qcA ⟨plainId_quiet PyProof.Rows.F.plain_set_update_loop _,ih (i+1) _ (by omega) hlt (W.frame _ s' _ _ st' (Nat.le_succ _) fun b hb o e=>?_) hnext fun s'' hm'' hS''=>?_⟩
  ·exact (hsb.2 b (fun h:b=S=>nS (by rw [<- h];exact hb))).trans e
  ·refine hR s'' (Moved.trans W.gtrans ((hm.mono up).then_heap (Nat.le_succ _) fun b o hb e=>?_) hm'') hS'';exact (hsb.2 b (fun h:b=S=>hb (by rw [h];exact qqA))).trans e
end
def Src (prog:Program)(w:World)(x:Value)(h0:Heap)(n:Nat)(P:Nat->Value->Prop):Prop :=
 ∀ s₁:Shared,(∀ b o,h0.get? b=some o->s₁.heap.get? b=some o)->∃ (oI:Obj) (fp:List Addr) (St:Nat->Heap->Prop),oI.isFreed=false/\(∀ b∈fp,b=s₁.heap.objs.size\/b<h0.objs.size)/\St 0 (s₁.heap.push oI) /\
  (∀ (A':Around) (Q:Value->Shared->Prop) (E:Value->Shared->Prop),A'.handled=none->Q (.ref s₁.heap.objs.size) { s₁ with heap:=s₁.heap.push oI }->wpAny (model prog w) A' (pyIter x) Q E s₁) /\
  ∀ A':Around,A'.handled=none->Walks prog w A' s₁.heap.objs.size fp [s₁.heap.objs.size] n P St
section
variable {prog:Program}{w:World}{A:Around}{E:Value->Shared->Prop}{s:Shared}
theorem N4 {l:Addr}{items:Array Value}(hl:s.heap.IsList l items):Src prog w (.ref l) s.heap items.size (fun i v=>items[i]? = some v):=fun s₁ hk=>by
 have hl1:s₁.heap.IsList l items:=hl.at fun o e=>hk _ _ e;obtain ⟨o0,ho0,_⟩:=hl;have ne:l≠s₁.heap.objs.size:=qxB (qhB (hk _ _ ho0));refine ⟨{ cls:=.type "list_iterator",data:=.fields #[.ref l,.int 0 0] },[s₁.heap.objs.size,l],_,rfl,fun b hb=>?_,?_,fun A' Q E' hh q=>wpAny_pyIter_list hl1 q,fun A' hh=>Walks.list hh _ l ne items⟩
 ·rcases qmA.mp hb with e|e
  ·exact .inl e
  ·rw [qpA.mp e];exact .inr (qhB ho0)
 ·exact ⟨⟨_,qjB _ rfl,rfl,rfl⟩,hl1.push _⟩
theorem Ht (a:Value){Q₁:Value->Shared->Prop}(h:Q₁ (.ref s.heap.objs.size) { s with heap:=s.heap.push (BC w) }) :
  codeAny (model prog w) A (.call (.builtin "set.__new__") ⟨[.type "set",a],[]⟩) (wants Q₁ E) s:=by
 refine codeAny_of_tree ?_;show wpAny _ A.in1 (checkBuiltinCall "set.__new__" ⟨[.type "set",a],[]⟩ >>= fun _=>again (.builtin "set.__new__" ⟨[.type "set",a],[]⟩)) _ _ s;refine qbA (wpAny_of_eq (PySem.F.newCall_set_1 a) (qcA ⟨plainId_quiet F.plain_set_new _,codeAny_builtin F.entry_set_new ?_⟩));rw [Around.under_plainId F.plain_set_new _];unfold Builtin.«set.__new__» Builtin.Frozenset.newClass;have hsub:=sub_set_self;obtain ⟨hp,g,d,tk,os⟩:=s;dsimp only
 wp_walk
 refine wpAny_askSetting (qcA ?_);dsimp only;simp only [newObj];exact qbA (wpAny_alloc (qcA (qcA h)))
end
section
variable {prog:Program}{w:World}{A:Around}{E:Value->Shared->Prop}{s:Shared}
theorem Mn {x:Value}{T:String}{n:Nat}{P:Nat->Value->Prop}{val:List Key}{Q:Value->Shared->Prop}(hh:A.handled=none)(hx:Src prog w x s.heap n P)
  (tx:∀ s₁:Shared,(∀ b o,s.heap.get? b=some o->s₁.heap.get? b=some o)->s₁.TypeIs x T) (n1:isSubtype (.type T) (.type "set")=pure false) (n2:isSubtype (.type T) (.type "frozenset")=pure false) (n3:(Value.type T == Value.type "dict")=false)
  (hn:val.length=n) (hv:∀ i v,P i v->∃ k,val[i]? = some k/\E9 k v=true) (hb:n+1<scanBound)
  (h:∀ (h':Heap) (tk:Nat),SetP w h' s.heap.objs.size (IH val)->(∀ b o,s.heap.get? b=some o->h'.get? b=some o)->Q (.ref s.heap.objs.size) { s with heap:=h',toks:=tk }) :
  wpAny (model prog w) A (call (.type "set") [x]) Q E s:=by
 obtain ⟨c,tl,hmro⟩:=F.called_set.mro;have hmade:=F.called_set.made;have hsub:=F.called_set.sub;refine wpAny_call (codeAny_of_tree ?_);show wpAny _ _ (callAny (.type "set") _) _ _ _;refine qcA ⟨Code.quiet_builtin _ (by decide +kernel),codeAny_builtin F.entry_type_call ?_⟩;rw [Around.under_plain (weight_type_call_type "set" [x] []) rfl];have h1:=F.called_set.notType;have h2:=F.called_set.canCreate;have hct:=PySem.F.typeCall_set_1 x
 repeat (any_goals (first|assumption|wp_step))
 refine codeAny_mono (Ht x (E:=E) (Q₁:=fun obj s₁=>obj = .ref s.heap.objs.size/\s₁ = { s with heap:=s.heap.push (BC w) }) ⟨rfl,rfl⟩) fun r s₁ hr=>?_
 cases r with
 | error e=>exact hr
 | ok fl=>cases fl with
  | ret obj =>
   obtain ⟨rfl,rfl⟩:=hr;have gS:(s.heap.push (BC w)).get? s.heap.objs.size=some (BC w):=qjB _ rfl;have hT:Shared.TypeIs { s with heap:=s.heap.push (BC w) } (.ref s.heap.objs.size) "set" := ⟨_,gS,rfl⟩;have hli:=F.called_set.init.lookup;have hbi:=F.called_set.init.bind (.ref s.heap.objs.size)
   repeat (any_goals (first|assumption|wp_step))
   refine codeAny_mono (codeAny_call_builtin (R:=wants (fun r s₂=>r = .none/\∃ h' tk,s₂ = { s with heap:=h',toks:=tk }/\SetP w h' s.heap.objs.size (IH val)/\(∀ b o,s.heap.get? b=some o->h'.get? b=some o)) E) F.called_set.init.plain F.entry_set_init (check_set_init_1 hT ?_)) fun r₂ s₂ hr₂=>?_
   ·obtain ⟨hp,g,d,tk0,os⟩:=s;dsimp only at *;have kp:∀ b o,hp.get? b=some o->(hp.push (BC w)).get? b=some o:=fun b o e=>qiB _ e;have hTx:Shared.TypeIs { heap:=hp.push (BC w),gens:=g,drawn:=d,toks:=tk0,os:=os } x T:=tx _ kp;unfold Builtin.«set.__init__» noKeywords Builtin.Frozenset.updateFrom;generalize hPI:pyIter=PI;unfold BC at *
    wp_walk
    subst hPI;obtain ⟨oI,fp,St,hf,hfp,st0,hit,hW⟩:=hx { heap:=hp.push (BC w),gens:=g,drawn:=d,toks:=tk0,os:=os } kp;refine hit _ _ _ (by simp [hh]) (qbA (wpAny_runValue ?_));have eS:(hp.push (BC w)).objs.size=hp.objs.size+1:=size_push' _ _
    have nS:hp.objs.size ∉ fp:=fun hm=>by
     rcases hfp _ hm with e|e
     ·rw [eS] at e;exact absurd e (qxB (Nat.lt_succ_self _))
     ·exact qeB _ e
    refine upd_loop (hW _ (by simp [hh])).toS hp.objs.size nS val hn hv hb n 0 _ rfl (qdC _) st0 ?_ fun s' hm hS'=>?_
    ·exact ⟨[],fresh_is (qiB _ gS),.rfl⟩
    ·obtain ⟨h',g',d',tk',os'⟩:=s';obtain rfl:g'=g:=hm.gens;obtain rfl:d'=d:=hm.drawn;obtain rfl:os'=os:=hm.os;refine qcA ?_;show wpAny _ _ (ret Value.none) _ _ _;refine qcA ⟨rfl,h',tk',rfl,hS',fun b o e=>?_⟩;have lb:b<hp.objs.size:=qhB e;refine hm.heap b o (fun hmem=>?_) (qiB _ (kp b o e));rcases qmA.mp hmem with q|q
     ·exact absurd q (qxB lb)
     ·have q:=qpA.mp q;rw [eS] at q;exact absurd q (qxB (Nat.lt_succ_of_lt lb))
   ·cases r₂ with
    | error e=>exact hr₂
    | ok fl₂=>cases fl₂ with
     | ret r =>
      obtain ⟨rfl,h',tk,rfl,hS',hk'⟩:=hr₂
      repeat (any_goals (first|assumption|wp_step))
      exact h _ _ hS' hk'
     | _=>exact hr₂.elim
  | _=>exact hr.elim
end
def SetO (w:World)(p:Addr)(ks:List Key):HO:=.ext fun h=>SetP w h p ks
theorem setO_ok {P:Program}{w:World}{H:Hp}{h:Heap}{p:Addr}{ks:List Key}(x:SetP w h p ks):ObjOk P w H h p (SetO w p ks):=by
 refine ⟨x,?_,fun h1 h2 a b=>a.at b⟩;obtain ⟨_,⟨o,_,_,_,g,_⟩,_⟩:=x;exact ⟨o,g⟩
theorem setO_get {P:Program}{w:World}{H:Hp}{h:Heap}{p:Addr}{ks:List Key}(x:HOk P w H h)(e:H p=some (SetO w p ks)):SetP w h p ks:=(x p _ e).1
section
variable {X:Cx}{pins:List (Addr × Obj)}{σ:List (Option V)}{H:Hp}{s s':Shared}
theorem Inv.same (I:Inv X pins σ H s)(e1:s'.heap=s.heap)(e2:s'.gens=s.gens)(e3:s'.os=s.os):Inv X pins σ H s':=by
 obtain ⟨h,g,d,t,o⟩:=s;obtain ⟨h',g',d',t',o'⟩:=s';dsimp only at e1 e2 e3;subst e1;subst e2;subst e3;exact ⟨I.ok,I.os,I.bare,I.base,I.loc,I.cell,I.free,I.freeC,I.pin,I.hok,I.len⟩
theorem Inv.laid' {a:Addr}{o:HO}(I:Inv X pins σ H s)(k:∀ b u,s.heap.get? b=some u->s'.heap.get? b=some u)(hp:s.heap.objs.size<=a)(new:ObjOk X.prog X.w (upd H a o) s'.heap a o)(e2:s'.gens=s.gens)(e3:s'.os=s.os) :
  Inv X pins σ (upd H a o) s':=(I.laid (t':=s.toks) k hp new).same rfl e2 e3
end
theorem rel_key:∀ {k:Key}{u:Value},RelV (kV k) u->E9 k u=true
 | .inl i,u,h=>by obtain ⟨t,rfl⟩:=h;exact Iz i t
 | .inr x,u,h=>by obtain ⟨t,rfl⟩:=h;exact Qb x t
theorem vals_key {ks:List Key}:∀ {us:List Value},Vals (ks.map kV) us->∀ (i:Nat) (v:Value),us[i]? = some v->∃ k,ks[i]? = some k/\E9 k v=true:=by
 induction ks with
 | nil=>intro us r i v e;cases r;cases e
 | cons k ks ih =>
  intro us r i v e;rw [qyA] at r
  cases r with
  | cons h t=>cases i with
   | zero =>
    cases e;exact ⟨k,rfl,rel_key h⟩
   | succ i=>exact ih t i v e
def rSetK (w:World)(K:FZ9):List V->Hp->VK->Prop:=fun vs H Q=>∃ (l:Addr) (ks:List Key),vs=[.ref l]/\SqL K H l (ks.map kV)/\ks.length<4000/\∀ p,H p=none->Q (.ref p) (upd H p (SetO w p (IH ks)))
theorem QD {X:Cx}{w:World}{K:FZ9}(hc:X.calm=true)(hw:X.w=w)(hK:X.K=K):Cc X (.type "set") (rSetK w K):=by
 subst hK;subst hw;intro pins s σ H vs us Q I r h;obtain ⟨l,ks,rfl,hl,hz,q⟩:=h;obtain ⟨u,rfl,ru⟩:=Dh r;cases ru;obtain ⟨its,rv,pl,_⟩:=I.list hl;have hlen:=rv.length;rw [qeA] at hlen;have il:=pl.isList;refine Mn (val:=ks) (T := "list") (I.ok.hd hc) (N4 il) (fun s1 k=>(il.at fun o e=>k _ _ e).typeIs) PySem.F.sub_list_set PySem.F.sub_list_frozenset (by decide) ?_ (fun i v e=>vals_key rv i v (by rw [List.getElem?_toArray] at e;exact e)) ?_ fun h' tk hS hk=>?_
 ·rw [qrB];exact hlen
 ·rw [qrB,<- hlen];unfold scanBound;omega
 ·exact ⟨.ref s.heap.objs.size,_,I.laid' (s':={ s with heap:=h',toks:=tk }) (fun b o e=>hk b o e) (qcB _) (setO_ok hS) rfl rfl,rfl,q _ (I.hok.fresh (qcB _))⟩
def leZ (a b:Int):Bool:=decide (a<=b)
def JO (ys:List Int):List Int:=ys.mergeSort leZ
theorem sortZ_of {ss ss':List Int}(hp:ss'.Perm ss)(hs:ss'.Pairwise (· <= ·)):ss'=JO ss:=by
 refine List.Perm.eq_of_pairwise (le:=fun a b=>leZ a b=true) (fun a b _ _ h1 h2=>Int.le_antisymm (of_decide_eq_true h1) (of_decide_eq_true h2)) (hs.imp fun h=>decide_eq_true h) (List.pairwise_mergeSort (le:=leZ) (fun a b c h1 h2=>decide_eq_true (Int.le_trans (of_decide_eq_true h1) (of_decide_eq_true h2))) (fun a b=>?_) ss) (hp.trans (List.mergeSort_perm ss leZ).symm);unfold leZ;rcases Int.le_total a b with h|h<;>simp [h]
def J6 {α:Type}[DecidableEq α](ks:List α)(k:α):List α:=if ks.any (fun y=>decide (y=k)) then ks else ks++[k]
def Ja {α:Type}[DecidableEq α](ks:List α):List α:=ks.foldl J6 []
theorem addA_map {α:Type}[DecidableEq α]{f:α->Key}(hf:∀ a b,f a=f b->a=b)(ks:List α)(k:α):HA (ks.map f) (f k)=(J6 ks k).map f:=by
 have e:(ks.map f).any (fun y=>decide (y=f k))=ks.any (fun y=>decide (y=k)):=by
  rw [List.any_map]
  congr 1
  funext y
  show decide (f y=f k)=decide (y=k);by_cases h:y=k
  ·rw [h,decide_eq_true rfl,decide_eq_true rfl]
  ·rw [decide_eq_false h,decide_eq_false (fun q=>h (hf _ _ q))]
 unfold HA J6;rw [e];split
 ·rfl
 ·rw [qzA];rfl
theorem dedA_map {α:Type}[DecidableEq α]{f:α->Key}(hf:∀ a b,f a=f b->a=b)(ks:List α):IH (ks.map f)=(Ja ks).map f:=by
 have:∀ (ks acc:List α),(ks.map f).foldl HA (acc.map f)=(ks.foldl J6 acc).map f:=by
  intro ks
  induction ks with
  | nil=>intro acc;rfl
  | cons k ks ih=>intro acc;rw [qyA,qcC,qcC,addA_map hf,ih]
 exact this ks []
theorem inl_inj (a b:Int)(h:(Sum.inl a:Key)=Sum.inl b):a=b:=Sum.inl.inj h
theorem mem_addA {α:Type}[DecidableEq α]{ks:List α}{k x:α}:x∈J6 ks k ↔ x∈ks\/x=k:=by
 unfold J6;split
 ·rename_i h;obtain ⟨y,hy,e⟩:=List.any_eq_true.mp h;have e:=of_decide_eq_true e;constructor
  ·exact .inl
  ·rintro (h|rfl)
   ·exact h
   ·exact e ▸ hy
 ·rw [qkA,qpA]
theorem mem_dedA {α:Type}[DecidableEq α]{ks:List α}{x:α}:x∈Ja ks ↔ x∈ks:=by
 have:∀ (ks acc:List α),x∈ks.foldl J6 acc ↔ x∈acc\/x∈ks:=by
  intro ks
  induction ks with
  | nil=>intro acc;simp
  | cons k ks ih=>intro acc;rw [qcC,ih,mem_addA,qmA,or_assoc]
 rw [Ja,this];simp
theorem K4 {α:Type}[DecidableEq α](ks:List α):(Ja ks).Nodup:=by
 have:∀ (ks acc:List α),acc.Nodup->(ks.foldl J6 acc).Nodup:=by
  intro ks
  induction ks with
  | nil=>intro acc h;exact h
  | cons k ks ih =>
   intro acc h;rw [qcC];refine ih _ ?_;unfold J6;split
   ·exact h
   ·rename_i hn;refine List.nodup_append.mpr ⟨h,by simp,fun a ha b hb e=>hn ?_⟩;rw [qpA] at hb;exact List.any_eq_true.mpr ⟨a,ha,decide_eq_true (e.trans hb)⟩
 exact this ks [] List.nodup_nil
def lcg:Nat->Nat->Nat
 | 0,x=>x
 | n+1,x=>lcg n (5 * x+1)
def KG:Nat->Nat
 | 0=>0
 | n+1=>KG n+5 ^ n
theorem N3:∀ n x,lcg n x=5 ^ n * x+KG n
 | 0,x=>by simp [lcg,KG]
 | n+1,x=>by
  rw [lcg,N3 n,KG,Nat.pow_succ]
  grind
theorem Ov:∀ m n x,lcg (m+n) x=lcg n (lcg m x)
 | 0,n,x=>by rw [Nat.zero_add];rfl
 | m+1,n,x=>by
  have e:m+1+n=(m+n)+1:=by omega
  rw [e,lcg,lcg,Ov m n]
theorem NQ (m:Nat):∀ n,KG (m+n)=KG m+5 ^ m * KG n
 | 0=>by simp [KG]
 | n+1=>by
  rw [<- Nat.add_assoc,KG,KG,NQ m n,Nat.pow_add]
  grind
theorem pow5:∀ k:Nat,(∃ d,5 ^ (2 ^ k)=1+4 * 2 ^ k * d)/\∃ e,KG (2 ^ k)=2 ^ k+2 * 2 ^ k * e
 | 0=>⟨⟨1,rfl⟩,⟨0,rfl⟩⟩
 | k+1=>by
  obtain ⟨⟨d,hd⟩,⟨e,he⟩⟩:=pow5 k;have e2:2 ^ (k+1)=2 ^ k+2 ^ k:=by rw [Nat.pow_succ];omega
  refine ⟨⟨d+2 * 2 ^ k * d * d,?_⟩,⟨e+2 ^ k * d+2 * e * 2 ^ k * d,?_⟩⟩
  ·rw [e2,Nat.pow_add,hd];generalize 2 ^ k=q
   grind
  ·rw [e2,NQ,hd,he];generalize 2 ^ k=q
   grind
theorem lcg_turn (k x:Nat):∃ c,lcg (2 ^ k) x=x+2 ^ k+2 * 2 ^ k * c:=by
 obtain ⟨⟨d,hd⟩,⟨e,he⟩⟩:=pow5 k;refine ⟨2 * d * x+e,?_⟩;rw [N3,hd,he];generalize 2 ^ k=q
 grind
theorem Ly:∀ k x j:Nat,∃ n,n<2 ^ k/\lcg n x % 2 ^ k=j % 2 ^ k
 | 0,x,j=>⟨0,by simp,by simp [Nat.mod_one]⟩
 | k+1,x,j=>by
  obtain ⟨n,hn,e⟩:=Ly k x j;have e2:2 ^ (k+1)=2 ^ k * 2:=Nat.pow_succ 2 k;have hq:0<2 ^ k:=Nat.two_pow_pos k;obtain ⟨c,hc⟩:=lcg_turn k (lcg n x);generalize hy:lcg n x=y at e hc;generalize 2 ^ k=q at e2 hq hn e hc;have hM:∀ z,z % (q * 2)=z % q+q * (z / q % 2):=fun z=>Nat.mod_mul
  have h2:(y+q+2 * q * c) % (q * 2)=(y+q) % (q * 2):=by
   rw [show y+q+2 * q * c=y+q+q * 2 * c by rw [Nat.mul_comm 2 q],Nat.add_mul_mod_self_left]
  have hdiv:(y+q) / q=y / q+1:=Nat.add_div_right y hq;have hmod:(y+q) % q=y % q:=Nat.add_mod_right y q;rw [e2];by_cases hc2:y / q % 2=j / q % 2
  ·exact ⟨n,by omega,by rw [hy,hM,hM,e,hc2]⟩
  ·refine ⟨n+q,by omega,?_⟩;have:∀ u:Nat,lcg (n+q) x=u->u % (q * 2)=j % (q * 2)->lcg (n+q) x % (q * 2)=j % (q * 2):=fun u h1 h3=>by rw [h1];exact h3
   rw [Ov,hy,hc,h2,hM,hM,hmod,hdiv,e];have:(y / q+1) % 2=j / q % 2:=by omega
   rw [this]
def DB (mask:Nat):Nat->Nat × Nat->Nat × Nat
 | 0,p=>p
 | n+1,p=>DB mask n (SetTable.leap mask p.1 p.2)
theorem LL (mask:Nat):∀ m n p,DB mask (m+n) p=DB mask n (DB mask m p)
 | 0,n,p=>by rw [Nat.zero_add];rfl
 | m+1,n,p=>by
  have e:m+1+n=(m+n)+1:=by omega
  rw [e,DB,DB,LL mask m n]
theorem LM (mask:Nat):∀ n p,(DB mask n p).2=p.2 / 32 ^ n
 | 0,p=>by simp [DB]
 | n+1,p=>by
  rw [DB,LM mask n];show p.2 / 32 / 32 ^ n=_;rw [Nat.div_div_eq_div_mul,Nat.pow_succ,Nat.mul_comm]
theorem IU {mask:Nat}:∀ n p,p.1<mask+1->(DB mask n p).1<mask+1
 | 0,p,h=>h
 | n+1,p,h=>by
  rw [DB];exact IU n _ (Nat.mod_lt _ (Nat.succ_pos _))
theorem LW {mask:Nat}:∀ n i,i<mask+1->(DB mask n (i,0)).1=lcg n i % (mask+1)
 | 0,i,h=>(Nat.mod_eq_of_lt h).symm
 | n+1,i,h=>by
  rw [DB,lcg];have e:SetTable.leap mask i 0=((i * 5+1) % (mask+1),0):=by unfold SetTable.leap;simp
  show (DB mask n (SetTable.leap mask i 0)).1=_;rw [e,LW n _ (Nat.mod_lt _ (Nat.succ_pos _))];rw [N3,N3,Nat.add_mod,Nat.mul_mod,Nat.mod_mod,<- Nat.mul_mod,<- Nat.add_mod,Nat.mul_comm i 5]
theorem JW {mask k:Nat}(hm:mask+1=2 ^ k){i p j:Nat}(hi:i<mask+1)(hp:p<2 ^ 64)(hj:j<mask+1):∃ n,n<mask+15/\(DB mask n (i,p)).1=j:=by
 have h0:(DB mask 13 (i,p)).2=0:=by
  rw [LM];exact Nat.div_eq_of_lt (qzB hp (by decide))
 have h1:=IU (mask:=mask) 13 (i,p) hi;generalize hx:DB mask 13 (i,p)=x at h0 h1;obtain ⟨a,b⟩:=x;dsimp only at h0 h1;subst h0;obtain ⟨n,hn,e⟩:=Ly k a j;refine ⟨13+n,by omega,?_⟩;rw [LL,hx,LW n a h1,hm,e,<- hm];exact Nat.mod_eq_of_lt hj
theorem Oe (mask:Nat)(owner:Array (Option Nat)):∀ n fuel i p,n<fuel->(owner.getD (DB mask n (i,p)).1 (some 0)).isNone=true->∃ j,SetTable.layClean.free mask owner fuel i p=some j/\(owner.getD j (some 0)).isNone=true:=by
 intro n
 induction n with
 | zero =>
  intro fuel i p h e;obtain ⟨fuel,rfl⟩:∃ f,fuel=f+1:=⟨fuel - 1,by omega⟩;unfold SetTable.layClean.free
  cases hf:(List.range (SetTable.runEnd mask i+1 - i)).find? fun k=>(owner.getD (i+k) (some 0)).isNone with
  | some k=>exact ⟨i+k,rfl,by have:=List.find?_some hf;exact this⟩
  | none =>
   have h0:0∈List.range (SetTable.runEnd mask i+1 - i):=by
    rw [qsA];unfold SetTable.runEnd;split<;>omega
   have:=List.find?_eq_none.mp hf 0 h0;rw [Nat.add_zero] at this;exact absurd e this
 | succ n ih =>
  intro fuel i p h e;obtain ⟨fuel,rfl⟩:∃ f,fuel=f+1:=⟨fuel - 1,by omega⟩;unfold SetTable.layClean.free
  cases hf:(List.range (SetTable.runEnd mask i+1 - i)).find? fun k=>(owner.getD (i+k) (some 0)).isNone with
  | some k=>exact ⟨i+k,rfl,by have:=List.find?_some hf;exact this⟩
  | none =>
   dsimp only;rw [DB] at e;exact ih fuel _ _ (by omega) e
theorem Pg (h:Int):SetTable.bits h<2 ^ 64:=by
 unfold SetTable.bits;have h1:=qoB h (show (2 ^ 64:Int)≠0 by decide);have h2:=qpB h (show (0:Int)<2 ^ 64 by decide);omega
structure LaidTo (mask n:Nat)(ow:Array (Option Nat)):Prop where
 size:ow.size=mask+1
 perm:(ow.toList.filterMap id).Perm (List.range n)
theorem fm_set:∀ (l:List (Option Nat)) (j k:Nat) (h:j<l.length),l[j]=none->((l.set j (some k)).filterMap id).Perm (k::l.filterMap id):=by
 intro l
 induction l with
 | nil=>intro j k h;exact absurd h (Nat.not_lt_zero _)
 | cons x l ih =>
  intro j k h e
  cases j with
  | zero =>
   have e:x=none:=e;subst e;exact .rfl
  | succ j =>
   have q:=ih j k (by simpa using h) (by simpa using e);rw [List.set_cons_succ]
   cases x with
   | none=>exact q
   | some y =>
    show (y::(l.set j (some k)).filterMap id).Perm (k::y::l.filterMap id);exact (q.cons y).trans (List.Perm.swap _ _ _)
theorem fm_len:∀ l:List (Option Nat),(l.filterMap id).length<l.length->∃ j,∃ h:j<l.length,l[j]=none:=by
 intro l
 induction l with
 | nil=>intro h;exact absurd h (Nat.not_lt_zero _)
 | cons x l ih =>
  intro h
  cases x with
  | none=>exact ⟨0,Nat.succ_pos _,rfl⟩
  | some y =>
   obtain ⟨j,hj,e⟩:=ih (by
    have h:(y::l.filterMap id).length<(some y::l).length:=h;simp only [qgA] at h
    omega)
   exact ⟨j+1,by simpa using hj,e⟩
theorem lay_go {mask k:Nat}(hm:mask+1=2 ^ k):∀ (hs:List Int) (ow:Array (Option Nat)) (n:Nat),LaidTo mask n ow->n+hs.length<=mask ->
  ∃ ow',(hs.foldl (init:=some (ow,n)) fun acc h=>do
   let (owner,k) <- acc
   let j <- SetTable.layClean.free mask owner (SetTable.turns mask) (SetTable.bits h % (mask+1)) (SetTable.bits h)
   pure (owner.setIfInBounds j (some k),k+1))=some (ow',n+hs.length)/\LaidTo mask (n+hs.length) ow':=by
 intro hs
 induction hs with
 | nil=>intro ow n L _;exact ⟨ow,rfl,L⟩
 | cons h hs ih =>
  intro ow n L hn;rw [qgA] at hn;have hlen:(ow.toList.filterMap id).length=n:=by rw [L.perm.length_eq,qiA]
  obtain ⟨j0,hj0,e0⟩:=fm_len ow.toList (by rw [hlen,qwB,L.size];omega);rw [qwB] at hj0;have e0':ow.getD j0 (some 0)=none:=by simp only [Array.getD,hj0,dite_true];simpa using e0
  obtain ⟨m,hm1,hm2⟩:=JW hm (i:=SetTable.bits h % (mask+1)) (p:=SetTable.bits h) (j:=j0) (Nat.mod_lt _ (Nat.succ_pos _)) (Pg h) (by rw [<- L.size];exact hj0);obtain ⟨j,hf,hj⟩:=Oe mask ow m (SetTable.turns mask) (SetTable.bits h % (mask+1)) (SetTable.bits h) hm1 (by rw [hm2,e0'];rfl)
  have hjl:j<ow.size:=by
   rcases Nat.lt_or_ge j ow.size with q|q
   ·exact q
   ·have:ow.getD j (some 0)=some 0:=by simp [Array.getD,Nat.not_lt.mpr q]
    rw [this] at hj;cases hj
  have hjn:ow.toList[j]'(by simpa using hjl)=none:=by
   have:ow.getD j (some 0)=ow[j]:=by simp [Array.getD,hjl]
   rw [this,Option.isNone_iff_eq_none] at hj
   simpa using hj
  have L':LaidTo mask (n+1) (ow.setIfInBounds j (some n)):=by
   refine ⟨by rw [Array.size_setIfInBounds];exact L.size,?_⟩;rw [Array.toList_setIfInBounds];refine (fm_set _ j n (by simpa using hjl) hjn).trans ((L.perm.cons n).trans ?_);rw [List.range_succ];exact (List.perm_append_singleton n _).symm
  obtain ⟨ow',e1,e2⟩:=ih _ (n+1) L' (by omega);refine ⟨ow',?_,?_⟩
  ·rw [qcC];simp only [Option.bind_eq_bind,Option.bind_some,hf,Option.pure_def] at e1 ⊢;rw [e1,qgA]
   congr 2
   omega
  ·rw [qgA,show n+(hs.length+1)=n+1+hs.length by omega];exact e2
theorem lay_ok {mask k:Nat}(hm:mask+1=2 ^ k)(hs:Array Int)(hn:hs.size<=mask):∃ ow,SetTable.layClean mask hs=some ow/\LaidTo mask hs.size ow:=by
 have L0:LaidTo mask 0 (Array.replicate (mask+1) none):=by
  refine ⟨Array.size_replicate,?_⟩;rw [Array.toList_replicate]
  have:∀ n,(List.replicate n (none:Option Nat)).filterMap id=[]:=fun n=>by
   induction n with
   | zero=>rfl
   | succ n ih=>rw [List.replicate_succ,List.filterMap_cons_none rfl,ih]
  rw [this];exact .rfl
 obtain ⟨ow,e1,e2⟩:=lay_go hm hs.toList _ 0 L0 (by rw [qwB];omega);rw [Nat.zero_add,qwB] at e1 e2;refine ⟨ow,?_,e2⟩;unfold SetTable.layClean;rw [<- Array.foldl_toList];rw [e1]
 rfl
theorem P7 {mask k finger moves:Nat}{led plain:Bool}(hm:mask+1=2 ^ k)(hs:Array Int)(hn:hs.size<=mask) :
  ∃ t order,SetTable.laid mask finger moves led plain hs=some (t,order)/\order.toList.Perm (List.range hs.size)/\t.place.size=hs.size:=by
 obtain ⟨ow,e,L⟩:=lay_ok hm hs hn
 have hl:∀ (l:List (Option Nat)) (d:Nat) (f:Nat->Option Nat),(∀ i,i<l.length->f (d+i)=l.getD i none)->(((List.range' d l.length).filterMap fun j=>(f j).map (j,·)).map (·.2))=l.filterMap id:=by
  intro l
  induction l with
  | nil=>intro d f _;rfl
  | cons x l ih =>
   intro d f hf;rw [qgA,List.range'_succ];have h0:=hf 0 (Nat.succ_pos _);rw [Nat.add_zero] at h0;have h0:f d=x:=h0
   have ih':=ih (d+1) f fun i hi=>by
    have:=hf (i+1) (by rw [qgA];omega);rw [show d+1+i=d+(i+1) by omega,this]
    rfl
   cases x with
   | none=>rw [List.filterMap_cons_none (by rw [h0];rfl),ih'];rfl
   | some y=>rw [List.filterMap_cons_some (b:=(d,y)) (by rw [h0];rfl),qyA,ih'];rfl
 have e2:(((List.range (mask+1)).filterMap fun j=>(ow.getD j none).map (j,·)).map (·.2))=ow.toList.filterMap id:=by
  have:=hl ow.toList 0 (fun j=>ow.getD j none) fun i hi=>by
   rw [Nat.zero_add];simp [Array.getD,List.getD];split<;>simp_all
  rw [qwB,L.size] at this;rw [<- this,List.range_eq_range']
 refine ⟨_,_,by unfold SetTable.laid;rw [e];rfl,?_,?_⟩
 ·show (((List.range (mask+1)).filterMap fun j=>(ow.getD j none).map (j,·)).map (·.2)).Perm _;rw [e2];exact L.perm
 ·show ((((List.range (mask+1)).filterMap fun j=>(ow.getD j none).map (j,·)).map (·.1)).toArray).size=_;rw [qrB,qeA];have:=congrArg List.length e2;rw [qeA,L.perm.length_eq,qiA] at this;exact this
theorem LG:∀ fuel (size n:Nat),(∃ k,size=2 ^ k)->0<size->n<size * 2 ^ fuel->(∃ k,SetTable.sizeAbove.go n fuel size=2 ^ k)/\n<SetTable.sizeAbove.go n fuel size:=by
 intro fuel
 induction fuel with
 | zero=>intro size n h _ hn;exact ⟨h,by show n<size;simpa using hn⟩
 | succ fuel ih =>
  intro size n h hp hn;unfold SetTable.sizeAbove.go;split
  ·obtain ⟨k,rfl⟩:=h;exact ih _ _ ⟨k+1,by rw [Nat.pow_succ]⟩ (by omega) (by rw [Nat.pow_succ] at hn;rw [Nat.mul_assoc,Nat.mul_comm 2];exact hn)
  ·rename_i q;exact ⟨h,by omega⟩
theorem OD {n:Nat}(h:n<2 ^ 60):(∃ k,SetTable.sizeAbove n=2 ^ k)/\n<SetTable.sizeAbove n :=
 LG 64 8 n ⟨3,rfl⟩ (by decide) (qzB h (by decide))
theorem dedA_len {α:Type}[DecidableEq α](ks:List α):(Ja ks).length<=ks.length:=by
 have:∀ (ks acc:List α),(ks.foldl J6 acc).length<=acc.length+ks.length:=by
  intro ks
  induction ks with
  | nil=>intro acc;exact qcB _
  | cons k ks ih =>
   intro acc;have h1:=ih (J6 acc k)
   have h2:(J6 acc k).length<=acc.length+1:=by
    unfold J6;split
    ·exact Nat.le_succ _
    ·rw [qfA];exact qcB _
   rw [qcC,qgA];omega
 have:=this ks [];rw [List.length_nil] at this;unfold Ja;omega
section
variable {K:FZ9}{σ:St}{G:Hp}{ta tb:TE}{w:World}
theorem QL (a:List Int):a.map V.int=(a.map (Sum.inl:Int->Key)).map kV:=by rw [List.map_map];rfl
theorem No {G2:Hp}:∀ zs:List Int,Paired (Rp.rel K G2) (zs.map V.int) zs
 | []=>.nil
 | z::zs=>.cons rfl (No zs)
theorem LP (ys:List Int):(JO ys).length=ys.length:=(List.mergeSort_perm ys leZ).length_eq
end
structure MpS (α:Type) where
 l:List (Str × α)
end L2
namespace HT
open PySem PySem.Spec PyProof.Rows
end HT
namespace L2
open PySem PySem.Spec PyProof.Rows
def sortRO (ys:List Int):Option (List Int):=if ys.length<64 then some (JO ys).reverse else none
def tSortR (K:FZ9)(ta:TA):TE:=fun σ H Q=>ta σ H fun us H1=>∃ (l:Addr) (ns:List Int),us=[.ref l]/\SqL K H1 l (ns.map V.int)/\ns.length<64/\∀ p,H1 p=none->Q (.ref p) (upd H1 p (.lst ((JO ns).reverse.map V.int)))
theorem sortR_of {ns ns':List Int}(hp:ns'.Perm ns)(ho:Ordered true ns'):ns'=(JO ns).reverse:=by
 have h1:ns'.reverse.Pairwise (· <= ·):=List.pairwise_reverse.mpr (by unfold Ordered at ho;simpa using ho);have h2:=sortZ_of (ss:=ns) (ss':=ns'.reverse) ((List.reverse_perm ns').trans hp) h1;rw [<- h2,List.reverse_reverse]
theorem pe_sortR {X:Cx}{K:FZ9}{a:Expr}{ta:TA}{p pos cp kp:Pos}(hK:X.K=K)(hg:Gl X "sorted")(hm:X.mg "sorted" = none)(ha:PA X [a] ta)
  (hs:starEach [a] X.env=[(false,eval a X.env)]:=by rfl) :
  PE X (.Call (.Name "sorted" p) [a] [⟨some "reverse",.Constant (.bool true) 0 cp,kp⟩] pos) (tSortR K ta):=by
 subst hK;intro pins s σ H R I h;refine wpAny_Call_Name_kw (KZ I hg hm LU ?_);refine PyProof.Rows.callWith_kw (thn (ha pos pins s σ H _ I h) fun us s1 ⟨vs,H1,I1,r1,q1⟩=>?_) (by rw [hs];rfl) (by rw [hs];rfl);refine PyProof.Rows.kwAll_cons (thn (De (b:=true) pins s1 σ H1 (fun v H'=>v = .bl true/\H'=H1) I1 ⟨rfl,rfl⟩) fun u s2 ⟨x,H2,I2,r2,e1,e2⟩=>?_);subst e1 e2;cases r2;refine PyProof.Rows.kwAll_nil ?_;obtain ⟨l,ns,e,hq,hl,q⟩:=q1;subst e;obtain ⟨u1,rfl,ru⟩:=Dh r1;cases ru;obtain ⟨its,r,pl,_⟩:=I2.list hq;have hlen:=r.length;rw [qeA] at hlen;refine sorted_ints_rev (b:=true) pl.isList (O7 r) (by omega) fun out ns' a1 a2 a3=>?_;have e:=sortR_of a2 a3;subst e;obtain ⟨c,hc⟩:=sortedAll_at s2.heap its out;refine ⟨.ref (s2.heap.objs.size+1),_,I2.laid (t':=s2.toks) (o:=.lst ((JO ns).reverse.map V.int)) (fun b o e=>sortedAll_old e) (Nat.le_succ _) ⟨?_,out.toList,c,Ik a1,by simpa using hc⟩,rfl,q _ (I2.hok.fresh (Nat.le_succ _))⟩;rw [qeA,List.length_reverse,LP,qkB];omega
section
variable {K:FZ9}{σ:St}{G H:Hp}{ta tb te:TE}{rest:TS}{D:Ends}{i:Nat}{v:V}{p:Addr}{vs:List V}{β:Type}[Rp β]
theorem fv_sortR {la:Option (List Int)}(ea:EV K ta σ G la):FV K (tSortR K (Am ta Bm)) σ G (la.bind fun ys=>sortRO ys):=by
 clear 7;obtain ⟨a,ha,hc⟩:=qaA.mp hc;obtain ⟨hl,rfl⟩:=B2 hc;clear 8 ea a ha;obtain ⟨l,xs,rfl,h,z,p⟩:=r2;have e:=Fd p;subst e;refine ⟨l,a,rfl,.inl (x2.gh.rd h),hl,JT x2.gh ?_ (No _) (FV.mono x2 k)⟩;rw [qeA,List.length_reverse,LP,qkB];omega
end
def memE {α:Type}[DecidableEq α](a:α)(l:List α):Bool:=decide (a∈l)
section
variable {K:FZ9}{σ:St}{G:Hp}{α:Type}[Rp α][DecidableEq α]{ta tb:TE}{ma:Option α}{ml:Option (List α)}
theorem ev_inEm (ea:EV K ta σ G ma)(eb:EV K tb σ G ml):EV K (tOp (Pl K α false) ta tb) σ G (ma.bind fun a=>ml.bind fun l=>some (memE a l)):=ev_inE ea eb
theorem OY (ea:EV K ta σ G ma)(eb:EV K tb σ G ml):EV K (tOp (Pl K α true) ta tb) σ G (ma.bind fun a=>ml.bind fun l=>some (!memE a l)):=QC ea eb
end
theorem se_int {i:Int}{j:Nat}{p:Pos}{es:List Expr}{env:Env}:starEach (.Constant (.int i) j p::es) env=(false,eval (.Constant (.int i) j p) env)::starEach es env:=by
 rw [starEach];intro _ _ h;cases h
section
variable {X:Cx}{es:List Expr}{t:TA}{te:TE}{p:Pos}
theorem pa_cI {i:Int}{j:Nat}(hr:PA X es t):PA X (.Constant (.int i) j p::es) (Am (tC (.int i)) t):=A2 A8 hr se_int
end
structure Rk where
 l:List SI
section
variable {κ:PyProof.Rows.KeyKind}
def ky (κ:PyProof.Rows.KeyKind)(p:Keyed):κ.α:=(κ.keyOf p.1).getD κ.dflt
variable {prog:Program}{w:World}{A:Around}{E:Value->Shared->Prop}{s:Shared}
end
section
variable {κ:PyProof.Rows.KeyKind}
def kl (κ:PyProof.Rows.KeyKind)(x y:Keyed):Prop:=κ.kle (ky κ x) (ky κ y)
end
def sg (st:SortSt)(g:Nat):SortSt:=SortSt.mk' (kindOf st) (arrOf st) (pendingOf st) g (failedOf st)
end L2
set_option maxHeartbeats 2000000
namespace L2
open PySem PySem.Spec PyProof.Rows
end L2
set_option maxHeartbeats 2000000
namespace L2
open PySem PySem.Spec PyProof.Rows
end L2
set_option maxHeartbeats 2000000
namespace L2
open PySem PySem.Spec PyProof.Rows
end L2
set_option maxHeartbeats 2000000
namespace L2
open PySem PySem.Spec PyProof.Rows
end L2
set_option maxHeartbeats 2000000
namespace L2
open PySem PySem.Spec PyProof.Rows
end L2
set_option maxHeartbeats 2000000
namespace L2
open PySem PySem.Spec PyProof.Rows
end L2
set_option maxHeartbeats 2000000
namespace L2
open PySem PySem.Spec PyProof.Rows
end L2
set_option maxHeartbeats 2000000
namespace L2
open PySem PySem.Spec PyProof.Rows
section
variable {κ:PyProof.Rows.KeyKind}{prog:Program}{w:World}{A:Around}{E:Value->Shared->Prop}{s:Shared}
abbrev mk (X:Array Keyed)(p:Array (Nat × Nat × Nat))(g:Nat):SortSt:=SortSt.mk' oneType' X p g none
end
end L2
set_option maxHeartbeats 2000000
namespace L2
open PySem PySem.Spec PyProof.Rows
end L2
set_option maxHeartbeats 2000000
namespace L2
open PySem PySem.Spec PyProof.Rows
structure MpR (α:Type) where
 l:List (Rk × α)
class RpC (γ:Type) [Rp γ] where
 P:FZ9->Hp->HO->γ->Prop
 mono:∀ {K:FZ9}{G G':Hp}{ho:HO}{a:γ},Same G G'->P K G ho a->P K G' ho a
 rel:∀ {K:FZ9}{G:Hp}{ho:HO}{a:γ}{q:Addr},P K G ho a->G q=some ho->Rp.rel K G (.ref q) a
def Pf (w:World):List V->Hp->VK->Prop:=fun vs H Q=>∃ (l:Addr) (ks:List Key),vs=[.ref l]/\H l=some (SetO w l ks)/\ks.length<4000/\Q (.int ks.length) H
theorem Nb {X:Cx}{w:World}(hw:X.w=w):Cc X (.builtin "len") (Pf w):=by
 subst hw;intro pins s σ H vs us Q I r h;obtain ⟨l,ks,rfl,hl,hz,q⟩:=h;obtain ⟨u,rfl,ru⟩:=Dh r;cases ru;obtain ⟨ks',⟨o,es,ep,t,g,S⟩,pm⟩:=setO_get I.hok hl;have e:es.size=ks.length:=S.size.trans pm.length_eq;refine call_len_set g S.exact' S.data S.fit (by omega) ⟨.int ks.length,H,I.tok _,⟨s.toks+1,by rw [e]⟩,q⟩
def MG (ys:List Int):Option Int:=if ys.length<4000 then some ((Ja ys).length:Int) else none
section
variable {K:FZ9}{σ:St}{G:Hp}{ta:TE}{w:World}
theorem QK {la:Option (List Int)}(ea:EV K ta σ G la):EV K (tCB (Pf w) (Am (tCB (rSetK w K) (Am ta Bm)) Bm)) σ G (la.bind fun ys=>MG ys):=by
 clear 7;obtain ⟨a,ha,hc⟩:=qaA.mp hc;obtain ⟨h4,rfl⟩:=B2 hc;have hl:=dedA_len a;clear 8 ea a ha;obtain ⟨l,xs,rfl,h,z,p⟩:=r2;have e:=Fd p;subst e;refine ⟨l,a.map Sum.inl,rfl,?_,by rw [qeA];exact h4,fun q hq=>?_⟩
 ·rw [<- QL];exact .inl (x2.gh.rd h)
 ·rw [dedA_map inl_inj];refine ⟨q,(Ja a).map Sum.inl,rfl,AQ,by rw [qeA];omega,?_⟩;have x3:Ext G2 H2 G2 (upd H2 q (SetO w q ((Ja a).map Sum.inl))):=.own x2.gh hq;rw [qeA];exact k _ _ _ (x2.trans x3) rfl
end
section
variable {K:FZ9}{σ:St}{G H:Hp}{α:Type}[Rp α]{te ti ta:TE}{rest:TS}{D:Ends}{i:Nat}{v:V}{p:Addr}{vs:List V}{as:List α}{w:World}
instance tdT4 {α β γ δ:Type}[Rp α][ToD α][Rp β][ToD β][Rp γ][ToD γ][Rp δ][ToD δ]:ToD (T4 α β γ δ):=⟨fun p=>.tup [ToD.to p.a,ToD.to p.b,ToD.to p.c,ToD.to p.d],fun ⟨t,x,y,z,u,e,h,r1,r2,r3,r4⟩=>by
 subst e
 exact .tup h (by show 4<=sizeLine;decide) (IA (.cons (ToD.rel r1) (.cons (ToD.rel r2) (.cons (ToD.rel r3) (.cons (ToD.rel r4) .nil)))))⟩
instance tdOpt {α:Type}[Rp α][ToD α]:ToD (Option α):=⟨fun a=>match a with|none=>.non|some a=>ToD.to a,fun {K H v a} h=>by
 cases a with
 | none=>cases h;exact .non
 | some a=>exact ToD.rel (α:=α) h⟩
end
def Im:D->Option Int
 | .int i=>some i
 | _=>none
section
variable {K:FZ9}{σ:St}{G H:Hp}{α β γ δ:Type}[Rp α][Rp β][Rp γ][Rp δ]{ta te:TE}
theorem Ll {md:Option D}(e:EV K te σ G md):EV K te σ G (md.bind fun d=>Im d):=by
 clear 7;obtain ⟨d,hd,hc⟩:=qaA.mp hc;refine e G1 s1 d hd H sH Q fun v G2 H2 x r=>k v G2 H2 x ?_
 cases d with
 | int i =>
  have e:=qgB (show some i=some c from hc);subst e;cases (show RelD K G2 v (.int i) from r);exact rfl
 | _=>exact nomatch hc
end
structure MpRF (α:Type) where
 l:List (Rk × α)
def F6:D->Bool
 | .non=>true
 | _=>false
section
variable {K:FZ9}{σ:St}{G H:Hp}{ta:TE}
theorem nonD {v:V}{d:D}(r:RelD K G v d):decide (v = .non)=F6 d:=by cases r<;>rfl
theorem Ox {md:Option D}(ea:EV K ta σ G md):EV K (tOp (fun x y H Q=>y = .non/\Q (.bl (decide (x = .non))) H) ta (tC .non)) σ G (md.bind fun d=>some (F6 d)):=by
 clear 7;obtain ⟨a,ha,hc⟩:=qaA.mp hc;cases hc;refine ea G1 s1 a ha H sH _ fun v G2 H2 x2 r2=>⟨rfl,k _ _ _ x2 ?_⟩;rw [nonD r2];exact rfl
end
structure DIn (K:FZ9)(mg:Str->Option Value)(x:Str)(st:Stmt):Prop where
 ex:∃ f fd,mg x=some (.ref f)/\Fun K x x st f fd
def BnO (x:Str)(st:Stmt)(ps:List Str):Prop:=∀ (kV doc pm:Value) (an:Option Addr) (cdv ct:Value) (us:List Value),us.length=ps.length->bindArgs (qvB x x (Ef st) (CW st) (AE st) .none kV doc pm an cdv ct) ⟨us,[]⟩=pure (ps.zip us)
abbrev Nn (K:FZ9)(x:Str):Prop:=qsB K mainGlobals x=some none
theorem scm {N ps:List Str}{sc:Scope}(a:sc.kind = .function:=by rfl)(b:sc.isCoroutine=false:=by rfl)(c:sc.isGenerator=false:=by rfl)(d:N.Nodup:=by decide +kernel)(e:N.take ps.length=ps:=by rfl)(f:∀ x∈ps,sc.names.lookup x=some .local \/ sc.names.lookup x=some .cell:=by decide +kernel)(g:∀ y∈sc.names,y.2 ≠ .free:=by decide +kernel):FnScope N ps sc:=⟨a,b,c,d,e,f,g⟩
theorem din {K:FZ9}{h:Heap}{mg:Str->Option Value}{x:Str}{st:Stmt}{f:Addr}{oc:Value}{od an:Option Addr}{osl:Array (Option Value)}{kV doc pm cdv ct:Value}(X:K.In h)(G:h.Ns mainGlobals mg)(a:qsB K mainGlobals x=some (some (.ref f)))
  (l:K.lookup f=some ⟨oc,od,.func (qvB x x (Ef st) (CW st) (AE st) .none kV doc pm an cdv ct),osl⟩) (c:PySem.W.codeIn K cdv x=true) (k:quB K (.ref f)=true):DIn K mg x st:=⟨f,_,qtB X G a,fun_mk l c k⟩
section
variable {P:Program}{w:World}{K:FZ9}{mg:Str->Option Value}{base:Heap}{x:Str}{st:Stmt}{N ps:List Str}{k:Nat}{sp:Sp}{ρ:Type}[Rp ρ]
theorem DIn.ok (Z:DIn K mg x st)(S:FnScope N ps (AE st))(b:BnO x st ps)(len:∀ vs H Q E,sp vs H Q E->vs.length=ps.length)
  (hbody:∀ (f:Addr) (cdv:Value) (A:Around) (outer:List Env) (s:Shared) (H:Hp) (vs:List V) (Q:VK) (E:XK),Room k (A.deeper (envOfC x (AE st) s.heap.objs.size f cdv))->sp vs H Q E ->
   ∃ t,PSs (JG CX0 P w K mg base N x (AE st) f cdv A outer s H E).nox (CW st) t/\t { nx:=fun _ H'=>Q .non H',rt:=Q } (start N vs) H):DefOk P w K mg base x (k+1) ps sp:=by
 obtain ⟨f,fd,a,F⟩:=Z.ex;exact def_of F a (F.binds b) (F.ok S len fun cdv A outer s H vs Q E hr h=>hbody f cdv A outer s H vs Q E hr h)
theorem bn1 {p0:Str}(h:∀ (kV doc pm:Value) (an:Option Addr) (cdv ct:Value) (a0:Value),bindArgs (qvB x x (Ef st) (CW st) (AE st) .none kV doc pm an cdv ct) ⟨[a0],[]⟩=pure (List.zip [p0] [a0]):=by intros;rfl):BnO x st [p0]:=fun kV doc pm an cdv ct us hl=>match us,hl with | [a0],_=>h kV doc pm an cdv ct a0
theorem DIn.okM1 {α0:Type}[Rp α0]{p0:Str}{m:α0->Option ρ}(Z:DIn K mg x st)(S:FnScope N [p0] (AE st))
  (hbody:∀ (f:Addr) (cdv:Value) (A:Around) (outer:List Env) (s:Shared) (H:Hp) (Q:VK) (E:XK),Room k (A.deeper (envOfC x (AE st) s.heap.objs.size f cdv))->∀ G a0 res v0,Ext G H G H->Rp.rel K G v0 a0->m a0=some res->(∀ v G2 H2,Ext G H G2 H2->Rp.rel K G2 v res->Q v H2) ->
   ∃ t,PSs (JG CX0 P w K mg base N x (AE st) f cdv A outer s H E).nox (CW st) t/\t { nx:=fun _ H'=>Q .non H',rt:=Q } (start N [v0]) H)
  (b:BnO x st [p0]:=by exact bn1):DefOk P w K mg base x (k+1) [p0] (spM K fun x:α0 × Unit=>m x.1) :=
 Z.ok S b (fun vs H Q E h=>(MM h).trans rfl) fun f cdv A outer s H vs Q E hr h=>by
  obtain ⟨G,⟨a0,⟨⟩⟩,res,sg,⟨v0,_,rfl,r0,rfl⟩,hm,q⟩:=h;exact hbody f cdv A outer s H Q E hr G a0 res v0 (Ext.refl sg) r0 hm q
theorem bn2 {p0 p1:Str}(h:∀ (kV doc pm:Value) (an:Option Addr) (cdv ct:Value) (a0 a1:Value),bindArgs (qvB x x (Ef st) (CW st) (AE st) .none kV doc pm an cdv ct) ⟨[a0,a1],[]⟩=pure (List.zip [p0,p1] [a0,a1]):=by intros;rfl):BnO x st [p0,p1]:=fun kV doc pm an cdv ct us hl=>match us,hl with | [a0,a1],_=>h kV doc pm an cdv ct a0 a1
theorem DIn.okM2 {α0 α1:Type}[Rp α0][Rp α1]{p0 p1:Str}{m:α0->α1->Option ρ}(Z:DIn K mg x st)(S:FnScope N [p0,p1] (AE st))
  (hbody:∀ (f:Addr) (cdv:Value) (A:Around) (outer:List Env) (s:Shared) (H:Hp) (Q:VK) (E:XK),Room k (A.deeper (envOfC x (AE st) s.heap.objs.size f cdv))->∀ G a0 a1 res v0 v1,Ext G H G H->Rp.rel K G v0 a0->Rp.rel K G v1 a1->m a0 a1=some res->(∀ v G2 H2,Ext G H G2 H2->Rp.rel K G2 v res->Q v H2) ->
   ∃ t,PSs (JG CX0 P w K mg base N x (AE st) f cdv A outer s H E).nox (CW st) t/\t { nx:=fun _ H'=>Q .non H',rt:=Q } (start N [v0,v1]) H)
  (b:BnO x st [p0,p1]:=by exact bn2):DefOk P w K mg base x (k+1) [p0,p1] (spM K fun x:α0 × α1 × Unit=>m x.1 x.2.1) :=
 Z.ok S b (fun vs H Q E h=>(MM h).trans rfl) fun f cdv A outer s H vs Q E hr h=>by
  obtain ⟨G,⟨a0,a1,⟨⟩⟩,res,sg,⟨v0,_,rfl,r0,⟨v1,_,rfl,r1,rfl⟩⟩,hm,q⟩:=h;exact hbody f cdv A outer s H Q E hr G a0 a1 res v0 v1 (Ext.refl sg) r0 r1 hm q
end
section
variable {X:Cx}{K:FZ9}{N ps:List Str}{sc:Scope}{i:Nat}{x:Str}{e a b:Expr}{te ta tb:TE}{pos pos':Pos}{σ:St}{G:Hp}{α:Type}[Rp α]{v:V}{c:α}
theorem AO (S:FnScope N ps sc)(he:PE X e te)(hN:X.N=N:=by rfl)(hi:X.N[i]? = some x:=by rfl)(hx:Loc X.env.scope x:=by first|exact Or.inl rfl|exact Or.inr rfl)(hs:swapsWith e (some (.Name x pos')) pos.line X.env=pure false:=by rfl)(hf:X.fn x=true\/X.env.scope.names.lookup x=some .local := by first|exact .inl rfl|exact .inr rfl|assumption) :
  PS X (.Assign [.Name x pos'] e pos) (Q9 te (HM i)):=MQ (hN ▸ S.nd) hi hx he hs hf
theorem CB (S:FnScope N ps sc)(hN:X.N=N:=by rfl)(hi:X.N[i]? = some x:=by rfl)(hx:Loc X.env.scope x:=by first|exact Or.inl rfl|exact Or.inr rfl)(hf:X.fn x=true\/X.env.scope.names.lookup x=some .local := by first|exact .inl rfl|exact .inr rfl|assumption):PG X (.Name x pos) (HM i):=pg_name (hN ▸ S.nd) hi hx hf
theorem Au (K:FZ9)(ha:PE X a ta)(hb:PE X b tb)(hs:Pc b:=by exact fun _ _=>rfl)(h:X.K=K:=by rfl):PE X (.Subscript a b pos) (tOp (rAt K) ta tb):=pe_ix (ix_anyK h) ha hb hs
theorem AG (K:FZ9)(ha:PE X a ta)(hb:PE X b tb)(h:X.K=K:=by rfl):PE X (.BinOp a .Add b pos) (tOp (Lj K) ta tb):=An (op_plusK h) ha hb
theorem BM (K:FZ9)(hm:X.mg "len" = none)(ha:PE X e te)(hg:Gl X "len" := by rfl)(h:X.K=K:=by rfl)(he:starEach [e] X.env=(false,eval e X.env)::starEach [] X.env:=by rfl):PE X (.Call (.Name "len" pos') [e] [] pos) (tCB (O2 K) (Am te Bm)):=Ai (QQ h) hg hm OS (A2 ha A5 he) (by decide) (by decide) he rfl
theorem BI (K:FZ9)(ha:PE X a ta)(he:∀ whole,isTrue a X.env whole=(do let v <- whole;standAt a.pos;holding [v] (truthy v)):=by exact fun _=>rfl)(h:X.K=K:=by rfl):PT X a (fun σ H Q=>ta σ H fun x H'=>∃ k,TruV K x H' k/\Q k H'):=Ps h ha he
theorem Bk (K:FZ9)(ha:PE X a ta)(hb:PE X e te)(h:X.K=K:=by rfl)(hbase:attributeBase a "append" X.env (eval a X.env)=eval a X.env:=by rfl)
  (hfew:((backTo pos (starEach [e] X.env)).all (fun x=>!x.1) && (backToKw pos (keywordEach [] X.env)).all (fun x=>x.1.isSome) && decide ([e].length+([]:List Keyword).length+(if ([]:List Keyword).isEmpty then 0 else 1)<30))=true:=by rfl)
  (hline:(pos'.endLine == pos.line)=true:=by rfl) (hs:starEach [e] X.env=(false,eval e X.env)::starEach [] X.env:=by rfl) (hplain:(backTo pos (starEach [] X.env)).any (·.1)=false:=by rfl) :
  PE X (.Call (.Attribute a "append" pos') [e] [] pos) (tBM K "list" Da ta (Am te Bm)):=CC h PySem.F.plainAttrs_list PySem.F.slot_list_append PySem.F.type_list_append Il ha (A2 hb A5 hs) hbase hfew hline hs hplain
theorem Fy (S:FnScope N ps sc):N.Nodup:=S.nd
theorem A6 (r:Rp.rel K G v c)(h:σ[i]? = some (some v):=by rfl):EV K (Hi i) σ G (some c):=ev_var h r
end
def GW (a b:Int):Int:=reduceHash (Builtin.Tuple.tupleHashOf [hashInt a,hashInt b])
def Lo (b:SetTable × Array Int)(h:Int):Option (SetTable × Array Int) :=
 if b.2.size<1000/\b.1.gaveWay=false then
  match b.1.probe (fun i=>(b.2[i]?).getD 0) h (b.1.probeStart h) with
  | some (.empty j none) =>
   let t1:=(b.1.put j).1
   let h1:=SetTable.insertAt b.2 (b.1.put j).2 h
   if t1.fits h1.size=true/\h1.size=b.2.size+1 then
    if t1.tooFull=true then
     match t1.relaid h1 (SetTable.grown (b.2.size+1)) with
     | some (t2,od) =>
      let h2:=od.filterMap (h1[·]?)
      if h2.size=h1.size/\t2.fits h2.size=true/\SetTable.sizeAbove (SetTable.grown (b.2.size+1))<=100000 then some (t2,h2) else none
     | none=>none
    else some (t1,h1)
   else none
  | _=>none
 else none
def SetQ (h:Heap)(a:Addr)(b:SetTable × Array Int):Prop :=
 ∃ o es ep,h.get? a=some o/\o.ExactSet/\o.data = .set es ep b.1/\es.map (·.1)=b.2/\b.1.fits es.size=true
theorem SetQ.at {h h':Heap}{a:Addr}{b:SetTable × Array Int}(x:SetQ h a b)(k:∀ o,h.get? a=some o->h'.get? a=some o):SetQ h' a b:=by
 obtain ⟨o,es,ep,g,S⟩:=x;exact ⟨o,es,ep,k _ g,S⟩
theorem SetQ.size {h:Heap}{a:Addr}{b:SetTable × Array Int}(x:SetQ h a b):∃ o es ep,h.get? a=some o/\o.ExactSet/\o.data = .set es ep b.1/\b.1.fits es.size=true/\es.size=b.2.size:=by
 obtain ⟨o,es,ep,g,e,d,m,f⟩:=x;exact ⟨o,es,ep,g,e,d,f,by rw [<- m,Array.size_map]⟩
theorem MB {α β:Type}(f:α->β)(xs:Array α)(p:Nat)(x:α):(SetTable.insertAt xs p x).map f=SetTable.insertAt (xs.map f) p (f x):=by
 unfold SetTable.insertAt;simp [Array.map_append,Array.map_push,Array.map_extract]
theorem filterMap_map {α β:Type}(f:α->β)(es:Array α)(od:Array Nat):(od.filterMap (es[·]?)).map f=od.filterMap ((es.map f)[·]?):=by
 rw [Array.map_filterMap]
 congr 1
 funext i
 simp
section
variable {prog:Program}{w:World}{A:Around}{E:Value->Shared->Prop}{s:Shared}
def IsP (h:Heap)(a:Addr)(x y:Int):Prop:=∃ o n t u,h.get? a=some o/\o.cls = .type "tuple" /\ o.data = .seq #[.int x t,.int y u] n
theorem IsP.key {h:Heap}{a:Addr}{x y:Int}(k:IsP h a x y):IsTupleKey (Bh prog w) h [.inl x,.inl y] a:=by
 obtain ⟨o,n,t,u,g,c,d⟩:=k;exact ⟨o,_,n,g,c,d,.cons (Iz x t) (.cons (Iz y u) .nil)⟩
theorem hbv {a:Addr}{x y:Int}{Q:Bool->Shared->Prop}(k:IsP s.heap a x y)(h:Q true s):wpAny (model prog w) A (hashByValue 8 (.ref a)) Q E s:=by
 have hT:=(k.key (prog:=prog) (w:=w)).typeIs;obtain ⟨o,n,t,u,g,c,d⟩:=k;unfold hashByValue;refine qbA (wpAny_specialOf hT F.slot_tuple_hash.lookup ?_);dsimp only;refine qbA (wpAny_seqItems g d ?_);refine qbA ?_;rw [<- Array.forIn_toList];show wpAny _ _ (forIn [Value.int x t,Value.int y u] _ _) _ _ _;simp only [List.forIn_cons,List.forIn_nil,hashByValue,pure_bind,Bool.not_true,Bool.false_eq_true,if_false];exact qcA (qcA h)
end
def tb0 (led:Bool):SetTable × Array Int:=(.fresh 0 0 led,#[])
theorem IsP.at {h h':Heap}{a:Addr}{x y:Int}(k:IsP h a x y)(q:∀ o,h.get? a=some o->h'.get? a=some o):IsP h' a x y:=by
 obtain ⟨o,n,t,u,g,c,d⟩:=k;exact ⟨o,n,t,u,q _ g,c,d⟩
def Prs (P:Nat->Value->Prop)(ps:List (Int × Int))(no:List Addr)(h:Heap):Prop:=∀ i v,P i v->∃ c p,v = .ref c/\ps[i]? = some p/\c ∉ no/\IsP h c p.1 p.2
theorem Prs.at {P:Nat->Value->Prop}{ps:List (Int × Int)}{no:List Addr}{h h':Heap}(k:Prs P ps no h)(q:∀ a o,a ∉ no->h.get? a=some o->h'.get? a=some o):Prs P ps no h':=fun i v e=>by
 obtain ⟨c,p,e1,e2,e3,e4⟩:=k i v e;exact ⟨c,p,e1,e2,e3,e4.at fun o=>q c o e3⟩
def NT (p:Addr)(b:SetTable × Array Int):HO:=.ext fun h=>SetQ h p b
theorem setQO_ok {P:Program}{w:World}{H:Hp}{h:Heap}{p:Addr}{b:SetTable × Array Int}(x:SetQ h p b):ObjOk P w H h p (NT p b):=by
 refine ⟨x,?_,fun h1 h2 a b=>a.at b⟩;obtain ⟨o,_,_,g,_⟩:=x;exact ⟨o,g⟩
theorem Qc {P:Program}{w:World}{H:Hp}{h:Heap}{p:Addr}{b:SetTable × Array Int}(x:HOk P w H h)(e:H p=some (NT p b)):SetQ h p b:=(x p _ e).1
def PrV (K:FZ9)(H:Hp)(v:V)(p:Int × Int):Prop:=∃ t,v = .ref t/\SqT K H t [.int p.1,.int p.2]
theorem prs_of {X:Cx}{pins:List (Addr × Obj)}{s:Shared}{σ:St}{H:Hp}(I:Inv X pins σ H s):∀ {xs:List V}{ps:List (Int × Int)}{us:List Value},Paired (PrV X.K H) xs ps->Vals xs us->Prs (fun i v=>us[i]? = some v) ps [] s.heap
 | _,_,_,.nil,.nil=>fun i v e=>by cases e
 | _,_,_,.cons h t,.cons r rs=>fun i v e=>by
  cases i with
  | zero =>
   cases e;obtain ⟨a,rfl,q⟩:=h;cases r;obtain ⟨its,rv,it,_⟩:=I.tuple q;obtain ⟨o,g,c,n,d⟩:=it
   cases rv with
   | cons r1 rv=>cases rv with
    | cons r2 rv =>
     cases rv;obtain ⟨t1,rfl⟩:=r1;obtain ⟨t2,rfl⟩:=r2;exact ⟨a,_,rfl,rfl,by simp,o,n,t1,t2,g,c,d⟩
  | succ i=>exact prs_of I t rs i v e
def rLenQ:List V->Hp->VK->Prop:=fun vs H Q=>∃ (l:Addr) (b:SetTable × Array Int),vs=[.ref l]/\H l=some (NT l b)/\b.2.size<4000/\Q (.int b.2.size) H
theorem QI {X:Cx}:Cc X (.builtin "len") rLenQ:=by
 intro pins s σ H vs us Q I r h;obtain ⟨l,b,rfl,hl,hz,q⟩:=h;obtain ⟨u,rfl,ru⟩:=Dh r;cases ru;obtain ⟨o,es,ep,g,ex,d,f,e⟩:=(Qc I.hok hl).size;refine call_len_set g ex d f (by omega) ⟨.int b.2.size,H,I.tok _,⟨s.toks+1,by rw [e]⟩,q⟩
theorem hu60 {A:Around}{k:Nat}(hr:Room k A):A.units+60<cLine:=by have:=hr.units;omega
section
variable {K:FZ9}{σ:St}{G:Hp}{ta:TE}{w:World}
theorem prV_of {H:Hp}:∀ {xs:List V}{ps:List (Int × Int)},Paired (Rp.rel K H) xs ps->Paired (PrV K H) xs ps
 | _,_,.nil=>.nil
 | _,_,.cons ⟨t,a,b,e,h,r1,r2⟩ p=>.cons ⟨t,e,by cases r1;cases r2;exact h⟩ (prV_of p)
end
def New1 (B G:Hp)(v:V)(n:Nat):Prop:=∃ l xs,v = .ref l/\B l=none/\G l=some (.lst xs)/\xs.length=n
def NewT (K:FZ9)(B G:Hp)(v:V)(vs:List (V × Nat)):Prop:=∃ t,v = .ref t/\SqT K G t (vs.map (·.1))/\∀ u∈vs,New1 B G u.1 u.2
def n4 {α β γ δ:Type}(a:T4 (List α) (List β) (List γ) (List δ))(x y z u:V):List (V × Nat):=[(x,a.a.length),(y,a.b.length),(z,a.c.length),(u,a.d.length)]
theorem FU {α:Type}[DecidableEq α]:∀ {l m:List α},l.Nodup->(∀ x∈l,x∈m)->l.length<=m.length
 | [],_,_,_=>qdC _
 | a::l,m,nd,h=>by
  have ⟨h1,h2⟩:=List.nodup_cons.mp nd
  have:=FU (l:=l) (m:=m.erase a) h2 fun x hx=>by
   have ne:x≠a:=fun e=>h1 (e ▸ hx);exact (List.mem_erase_of_ne ne).mpr (h x (qrA _ hx))
  have hm:a∈m:=h a (qqA ..);rw [List.length_erase_of_mem hm] at this;have:=List.length_pos_of_mem hm;rw [qgA];omega
theorem Pz {t:SetTable}(hd:t.dummies = #[]){j:Nat}(h:j ∉ t.place.toList):t.slot j = .empty:=by
 unfold SetTable.slot;dsimp only;rw [if_neg (fun q=>?_),hd,FM]
 ·rfl
 ·have q:=eq_of_beq q;exact h (qtA (by rw [<- Array.getElem?_toList] at q;exact q))
theorem HY {t:SetTable}(hd:t.dummies = #[])(j:Nat):t.slot j = .empty\/∃ i,t.slot j = .live i/\i<t.place.size:=by
 unfold SetTable.slot;dsimp only;split
 ·rename_i q;have q:=eq_of_beq q;exact .inr ⟨_,rfl,(Array.getElem?_eq_some_iff.mp q).1⟩
 ·rw [hd,FM];exact .inl rfl
def hdP (mask:Nat)(q:Nat × Nat):SetTable.Probe:={ j:=q.1,more:=SetTable.runEnd mask q.1 - q.1,i:=q.1,perturb:=q.2,dummy:=none }
theorem run_le (mask i:Nat):SetTable.runEnd mask i - i<=9:=by
 unfold SetTable.runEnd;split<;>omega
section
variable {t:SetTable}{f:Nat->Int}{h:Int}
theorem go_run (hd:t.dummies = #[])(hf:∀ i,i<t.place.size->f i≠h):∀ (m fuel:Nat) (p:SetTable.Probe),p.more=m->p.dummy=none ->
  (∃ j,SetTable.probe.go t f h (fuel+m+1) p=some (.empty j none))\/SetTable.probe.go t f h (fuel+m+1) p=SetTable.probe.go t f h fuel (hdP t.mask (SetTable.leap t.mask p.i p.perturb)):=by
 intro m
 induction m with
 | zero =>
  intro fuel p e1 e2;rcases HY hd p.j with s | ⟨i,s,hi⟩
  ·refine .inl ⟨p.j,?_⟩;rw [SetTable.probe.go,s,e2]
  ·refine .inr ?_;rw [SetTable.probe.go,s];dsimp only;rw [if_neg (by simpa using hf i hi)];unfold SetTable.advance;rw [if_neg (by omega)];rw [e2]
   rfl
 | succ m ih =>
  intro fuel p e1 e2;rcases HY hd p.j with s | ⟨i,s,hi⟩
  ·refine .inl ⟨p.j,?_⟩;rw [SetTable.probe.go,s,e2]
  ·have e:SetTable.probe.go t f h (fuel+(m+1)+1) p=SetTable.probe.go t f h (fuel+m+1) { p with j:=p.j+1,more:=p.more - 1 }:=by
    rw [SetTable.probe.go,s];dsimp only;rw [if_neg (by simpa using hf i hi)];unfold SetTable.advance;rw [if_pos (by omega)]
    rfl
   rw [e];exact ih fuel { p with j:=p.j+1,more:=p.more - 1 } (by show p.more - 1=m;omega) e2
theorem go_leaps (hd:t.dummies = #[])(hf:∀ i,i<t.place.size->f i≠h):∀ (n fuel:Nat) (q:Nat × Nat),10 * n<fuel->t.slot (DB t.mask n q).1 = .empty->∃ j,SetTable.probe.go t f h fuel (hdP t.mask q)=some (.empty j none):=by
 intro n
 induction n with
 | zero =>
  intro fuel q hl hs;obtain ⟨fuel,rfl⟩:∃ g,fuel=g+1:=⟨fuel - 1,by omega⟩;have hs:t.slot (hdP t.mask q).j = .empty:=hs;refine ⟨q.1,?_⟩;rw [SetTable.probe.go,hs]
  rfl
 | succ n ih =>
  intro fuel q hl hs;have hr:=run_le t.mask q.1;obtain ⟨g,rfl⟩:∃ g,fuel=g+(SetTable.runEnd t.mask q.1 - q.1)+1:=⟨fuel - (SetTable.runEnd t.mask q.1 - q.1) - 1,by omega⟩;rcases go_run hd hf (SetTable.runEnd t.mask q.1 - q.1) g (hdP t.mask q) rfl rfl with e|e
  ·exact e
  ·rw [e];exact ih g _ (by omega) hs
theorem probe_ok (hd:t.dummies = #[])(hf:∀ i,i<t.place.size->f i≠h){k:Nat}(hm:t.mask+1=2 ^ k)(hz:t.place.size<=t.mask):∃ j,t.probe f h (t.probeStart h)=some (.empty j none):=by
 obtain ⟨j,hj,nj⟩:∃ j,j<t.mask+1/\j ∉ t.place.toList:=by
  apply Classical.byContradiction;intro q;have sub:List.range (t.mask+1) ⊆ t.place.toList:=fun x hx=>Classical.byContradiction fun nx=>q ⟨x,qsA.mp hx,nx⟩;have:=FU (List.nodup_range (n:=t.mask+1)) sub;rw [qiA,qwB] at this;omega
 obtain ⟨n,hn,e⟩:=JW hm (i:=SetTable.bits h % (t.mask+1)) (p:=SetTable.bits h) (j:=j) (Nat.mod_lt _ (Nat.succ_pos _)) (Pg h) hj;exact go_leaps hd hf n (10 * SetTable.turns t.mask) (SetTable.bits h % (t.mask+1),SetTable.bits h) (by unfold SetTable.turns;omega) (by rw [e];exact Pz hd nj)
structure TbI (b:SetTable × Array Int):Prop where
 rt:b.1.dummies = #[]
 pw:∃ k,b.1.mask+1=2 ^ k/\1<=k
 sz:b.1.place.size=b.2.size
 few:b.2.size * 5<b.1.mask * 3
theorem ND {α:Type}(xs:Array α){p:Nat}(x:α)(hp:p<=xs.size):(SetTable.insertAt xs p x).size=xs.size+1:=by
 unfold SetTable.insertAt;rw [Array.size_append,Array.size_push,Array.size_extract,Array.size_extract];omega
theorem Jn {α:Type}{xs:Array α}{p:Nat}{x y:α}(h:y∈(SetTable.insertAt xs p x).toList):y=x\/y∈xs.toList:=by
 unfold SetTable.insertAt at h;rw [Array.toList_append,Array.toList_push,qaB] at h;rcases qkA.mp h with h|h
 ·rw [Array.toList_extract] at h;exact .inr (List.mem_of_mem_drop (List.mem_of_mem_take h))
 ·rcases qmA.mp h with h|h
  ·exact .inl h
  ·rw [Array.toList_extract] at h;exact .inr (List.mem_of_mem_drop (List.mem_of_mem_take h))
theorem Na (xs:Array Nat)(j:Nat):SetTable.below xs j<=xs.size:=by
 unfold SetTable.below
 have:∀ fuel lo hi,lo<=hi->hi<=xs.size->SetTable.below.go xs j fuel lo hi<=xs.size:=by
  intro fuel
  induction fuel with
  | zero=>intro lo hi h1 h2;unfold SetTable.below.go;omega
  | succ fuel ih =>
   intro lo hi h1 h2;unfold SetTable.below.go;split
   ·dsimp only;split
    ·exact ih _ _ (by omega) h2
    ·exact ih _ _ (by omega) (by omega)
   ·omega
 exact this _ _ _ (qdC _) (qcB _)
theorem above_le {n:Nat}:SetTable.sizeAbove n<=2 * n+8:=by
 have:∀ fuel size,size<=2 * n+8->SetTable.sizeAbove.go n fuel size<=2 * n+8:=by
  intro fuel
  induction fuel with
  | zero=>intro size h;exact h
  | succ fuel ih =>
   intro size h;unfold SetTable.sizeAbove.go;split
   ·exact ih _ (by omega)
   ·exact h
 exact this 64 8 (by omega)
theorem NU {b:SetTable × Array Int}{h:Int}(T:TbI b)(hn:h ∉ b.2.toList)(hz:b.2.size<1000):∃ c,Lo b h=some c/\TbI c/\c.2.size=b.2.size+1/\∀ y∈c.2.toList,y=h\/y∈b.2.toList:=by
 obtain ⟨t,hs⟩:=b;obtain ⟨rt,⟨k,hm,hk⟩,sz,few⟩:=T;dsimp only at *
 have hg:t.gaveWay=false:=by
  obtain ⟨k,rfl⟩:∃ q,k=q+1:=⟨k - 1,by omega⟩;rw [Nat.pow_succ] at hm;unfold SetTable.gaveWay;have:t.mask % 2=1:=by omega
  rw [this]
  rfl
 obtain ⟨j,hj⟩:=probe_ok (t:=t) (f:=fun i=>(hs[i]?).getD 0) (h:=h) rt (fun i hi e=>hn (by
  rw [sz] at hi;rw [Array.getElem?_eq_getElem hi] at e;have e:hs[i]=h:=e;rw [<- e]
  exact Array.getElem_mem_toList hi)) hm (by omega)
 have hp:(t.put j).2<=t.place.size:=Na _ _;have z1:(SetTable.insertAt hs (t.put j).2 h).size=hs.size+1:=ND hs h (by rw [<- sz];exact hp);have z2:(t.put j).1.place.size=t.place.size+1:=ND t.place j hp
 have dm:(t.put j).1.dummies = #[]:=by
  show (if SetTable.has t.dummies j then _ else t.dummies)=_;rw [rt,FM]
  rfl
 have hmk:(t.put j).1.mask=t.mask:=rfl
 have hfit:(t.put j).1.fits (SetTable.insertAt hs (t.put j).2 h).size=true:=by
  unfold SetTable.fits SetTable.fill;rw [dm,z1,z2,sz,hmk];simp;omega
 unfold Lo;dsimp only;rw [if_pos ⟨hz,hg⟩,hj];dsimp only;rw [if_pos ⟨hfit,z1⟩];by_cases tf:(t.put j).1.tooFull=true
 ·rw [if_pos tf]
  have gr:SetTable.grown (hs.size+1)=4 * (hs.size+1):=by
   unfold SetTable.grown;rw [if_neg (by omega),Nat.mul_comm]
  obtain ⟨⟨k2,hk2⟩,lt2⟩:=OD (n:=SetTable.grown (hs.size+1)) (qzB (m:=100000) (by rw [gr];omega) (by decide));have ab:=above_le (n:=SetTable.grown (hs.size+1));have hk1:SetTable.sizeAbove (SetTable.grown (hs.size+1)) - 1+1=2 ^ k2:=by omega
  obtain ⟨t2,od,e1,e2,e3⟩:=P7 (mask:=SetTable.sizeAbove (SetTable.grown (hs.size+1)) - 1) (finger:=(t.put j).1.finger) (moves:=(t.put j).1.movedTo (SetTable.sizeAbove (SetTable.grown (hs.size+1)) - 1)) (led:=(t.put j).1.led) (plain:=(t.put j).1.plain) hk1 (SetTable.insertAt hs (t.put j).2 h) (by rw [z1];omega);have e1':(t.put j).1.relaid (SetTable.insertAt hs (t.put j).2 h) (SetTable.grown (hs.size+1))=some (t2,od):=e1;obtain ⟨q1,q2,q3,q4⟩:=Mm e1;rw [e1'];dsimp only;generalize hH:SetTable.insertAt hs (t.put j).2 h=H1 at *
  have r1:(od.filterMap (H1[·]?)).toList.Perm H1.toList:=by
   rw [Array.toList_filterMap];exact (e2.filterMap _).trans (by rw [filterMap_getElem?_range])
  have r2:(od.filterMap (H1[·]?)).size=H1.size:=by rw [<- qwB,r1.length_eq,qwB]
  have k2p:1<=k2:=by
   rcases Nat.eq_zero_or_pos k2 with z|z
   ·rw [z] at hk2;omega
   ·exact z
  have f2:t2.fits (od.filterMap (H1[·]?)).size=true:=by
   unfold SetTable.fits SetTable.fill;rw [q1.dum,e3,r2,q4];simp;omega
  rw [if_pos ⟨r2,f2,by omega⟩];refine ⟨_,rfl,⟨q1.dum,⟨k2,by rw [q4];exact hk1,k2p⟩,by rw [e3];exact r2.symm,?_⟩,by show (od.filterMap (H1[·]?)).size=_;rw [r2];exact z1,fun y hy=>?_⟩
  ·show (od.filterMap (H1[·]?)).size * 5<t2.mask * 3;rw [r2,z1,q4];omega
  ·have:=r1.mem_iff.mp hy;rw [<- hH] at this;exact Jn this
 ·rw [if_neg tf];refine ⟨_,rfl,⟨dm,⟨k,hm,hk⟩,by show (t.put j).1.place.size=_;rw [z2,z1,sz],?_⟩,z1,fun y hy=>Jn hy⟩
  have tf:¬ (t.mask * 3<=((t.put j).1.place.size+(t.put j).1.dummies.size) * 5):=by
   intro q;apply tf;unfold SetTable.tooFull SetTable.fill;exact decide_eq_true q
  rw [dm,z2] at tf;show (SetTable.insertAt hs (t.put j).2 h).size * 5<t.mask * 3;rw [z1];have:(#[]:Array Nat).size=0:=rfl;omega
def Sm (p:Int × Int):Prop:=0<=p.1/\p.1<8/\0<=p.2/\p.2<8
theorem QN:((List.range 8).all fun a=>(List.range 8).all fun b=>(List.range 8).all fun c=>(List.range 8).all fun d=>!(GW ((a:Nat):Int) ((b:Nat):Int) == GW ((c:Nat):Int) ((d:Nat):Int)) || (a == c && b == d))=true:=by decide +kernel
theorem QY (a:Nat)(ha:a<8)(b:Nat)(hb:b<8)(c:Nat)(hc:c<8)(d:Nat)(hd:d<8)(e:GW (a:Int) (b:Int)=GW (c:Int) (d:Int)):a=c/\b=d:=by
 have h:=List.all_eq_true.mp (List.all_eq_true.mp (List.all_eq_true.mp (List.all_eq_true.mp QN a (qsA.mpr ha)) b (qsA.mpr hb)) c (qsA.mpr hc)) d (qsA.mpr hd);rw [e,beq_self_eq_true] at h
 simpa using h
theorem LH {p q:Int × Int}(hp:Sm p)(hq:Sm q)(e:GW p.1 p.2=GW q.1 q.2):p=q:=by
 obtain ⟨a,b⟩:=p;obtain ⟨c,d⟩:=q;obtain ⟨a0,a1,b0,b1⟩:=hp;obtain ⟨c0,c1,d0,d1⟩:=hq;dsimp only at *;obtain ⟨a,rfl⟩:=qnB a0;obtain ⟨b,rfl⟩:=qnB b0;obtain ⟨c,rfl⟩:=qnB c0;obtain ⟨d,rfl⟩:=qnB d0;obtain ⟨rfl,rfl⟩:=QY a (by omega) b (by omega) c (by omega) d (by omega) e
 rfl
end
open Builtin Builtin.Str
section
variable {prog:Program}{w:World}{A:Around}{E:Value->Shared->Prop}{s:Shared}{x y:Str}{t u:Tok}{Q:Value->Shared->Prop}
theorem QO (hy:(y.length == 0)=false)
  (hq:∀ (l:List (Str × Tok)) (tk:Nat),l.map (·.1)=Txt.split x y->Q (.ref s.heap.objs.size) { s with toks:=tk,heap:=s.heap.push { cls:=.type "list",data:=.seq (strValues l).toArray } })
  (hsz:x.length<=sizeLine) (hsz2:(partsBetween x (occurrences x y 0 x.length (x.length+1)) y.length).length<=sizeLine) :
  wpAny (model prog w) A (call (.builtin "str.split") [.str x t,.str y u]) Q E s:=by
 cases h1:(decide (x.length<y.length) || decide (strKind x<strKind y))
 ·cases hf:(occurrences x y 0 x.length (x.length+1)).isEmpty
  ·refine call_meets PySem.F.slot_str_split (typeIs_str _ _ _) PySem.F.entry_str_split (PySem.F.args_str_split_2 _ _) (meets_str_split_sep x y t u h1 hy hf hsz hsz2) ?_;show wants Q E _ { s with toks:=_,heap:=s.heap.push { cls:=.type "list",data:=.seq (strsFrom s.toks (partsBetween x (occurrences x y 0 x.length (x.length+1)) y.length)).toArray } };rw [strsFrom_eq];exact hq (numbered s.toks _) _ ((numbered_texts _ _).trans ((if_neg (ne_true_of_eq_false h1)).trans (if_neg (ne_true_of_eq_false hf))).symm)
  ·exact call_meets PySem.F.slot_str_split (typeIs_str _ _ _) PySem.F.entry_str_split (PySem.F.args_str_split_2 _ _) (meets_str_split_not_found x y t u h1 hy hf)
    (hq [(x,t)] s.toks ((if_neg (ne_true_of_eq_false h1)).trans (if_pos hf)).symm)
 ·exact call_meets PySem.F.slot_str_split (typeIs_str _ _ _) PySem.F.entry_str_split (PySem.F.args_str_split_2 _ _) (meets_str_split_cannot_occur x y t u h1)
   (hq [(x,t)] s.toks (if_pos h1).symm)
end
def FD (x y:Str):Option (List Str) :=
 if y.length≠0/\x.length<=sizeLine/\(partsBetween x (occurrences x y 0 x.length (x.length+1)) y.length).length<=sizeLine/\(Txt.split x y).length<=sizeLine/\((Txt.split x y).all fun z=>decide (z.length<=sizeLine))=true then some (Txt.split x y) else none
def rSplit:V->List V->Hp->VK->Prop:=fun v vs H Q=>∃ x y zs,v = .str x/\vs=[.str y]/\FD x y=some zs/\∀ p,H p=none->Q (.ref p) (upd H p (.lst (zs.map V.str)))
theorem M4:∀ {l:List (Str × Tok)},Vals ((l.map (·.1)).map V.str) (strValues l)
 | []=>.nil
 | p::l=>.cons ⟨p.2,rfl⟩ M4
theorem GD {X:Cx}:MtR X "str.split" rSplit:=by
 intro pins s σ H v vs v' us Q I rx rv h;obtain ⟨x,y,zs,rfl,rfl,hz,q⟩:=h;obtain ⟨t,rfl⟩:=rx;obtain ⟨u,rfl,ru⟩:=Dh rv;obtain ⟨t2,rfl⟩:=ru;obtain ⟨⟨h1,h2,h3,h4,h5⟩,rfl⟩:=B2 hz;refine QO (by simpa using h1) (fun l tk e=>?_) h2 h3;refine ⟨.ref s.heap.objs.size,_,I.laid (a:=s.heap.objs.size) (t':=tk) (o:=.lst ((Txt.split x y).map V.str)) (fun b ob q=>qiB _ q) (qcB _) ?_,rfl,q _ (I.hok.fresh (qcB _))⟩;refine ⟨by rw [qeA];exact h4,strValues l,0,?_,qjB _ rfl⟩;rw [<- e];exact M4
section
variable {K:FZ9}{σ:St}{G:Hp}{ta tb:TE}
theorem GF {ma mb:Option Str}(ea:EV K ta σ G ma)(eb:EV K tb σ G mb):FV K (tBM K "str" rSplit ta (Am tb Bm)) σ G (ma.bind fun a=>mb.bind fun b=>FD a b):=by
 clear 7;obtain ⟨a,ha,hc⟩:=qaA.mp hc;obtain ⟨b,hb,hc⟩:=qaA.mp hc;obtain ⟨⟨h1,h2,h3,h4,h5⟩,e⟩:=B2 (show FD a b=some c from hc);clear 8 ea a ha;obtain ⟨rfl,z2⟩:=r2;refine ⟨rfl,eb G2 (s1.trans x2.gg) b hb H2 x2.gh _ fun u G3 H3 x3 r3=>?_⟩;obtain ⟨rfl,z3⟩:=r3;refine ⟨a,b,c,rfl,rfl,hc,?_⟩;refine JT (x2.trans x3).gh ?_ ?_ (FV.mono (x2.trans x3) k)
 ·rw [qeA,<- e];exact h4
 ·have:∀ l:List Str,(∀ z∈l,z.length<=sizeLine)->Paired (Rp.rel K G3) (l.map V.str) l:=by
   intro l
   induction l with
   | nil=>intro _;exact .nil
   | cons z l ih=>intro h;exact .cons ⟨rfl,h z qqA⟩ (ih fun w hw=>h w (qrA _ hw))
  refine this c fun z hz=>?_;rw [<- e] at hz;exact of_decide_eq_true (List.all_eq_true.mp h5 z hz)
end
def Cq (i:Int):Option Str:=if -1000000<i/\i<1000000 then some (Str.ofString (toString i)) else none
def rStrI:List V->Hp->VK->Prop:=fun vs H Q=>∃ i z,vs=[.int i]/\Cq i=some z/\Q (.str z) H
theorem D7 {X:Cx}:Cc X (.type "str") rStrI:=by
 intro pins s σ H vs us Q I r h;obtain ⟨i,z,rfl,hz,q⟩:=h;obtain ⟨u,rfl,ru⟩:=Dh r;obtain ⟨t,rfl⟩:=ru;obtain ⟨⟨h1,h2⟩,rfl⟩:=B2 hz;refine str_of_int_fit (N:=1000000) (by split<;>omega) (by decide) fun _=>⟨.str _,H,I.tok _,⟨_,rfl⟩,q⟩
section
variable {K:FZ9}{σ:St}{G:Hp}{ta:TE}
theorem ET {ma:Option Int}(ea:EV K ta σ G ma):EV K (tCB rStrI (Am ta Bm)) σ G (ma.bind fun a=>Cq a):=by
 clear 7;obtain ⟨a,ha,hc⟩:=qaA.mp hc;obtain ⟨⟨h1,h2⟩,e⟩:=B2 (show Cq a=some c from hc);clear 8 ea a ha;cases r2;refine ⟨a,c,rfl,hc,k _ _ _ x2 ⟨rfl,?_⟩⟩;have:=len_str_of_int a;rw [<- e];have hs:sizeLine=16777216:=qkB;omega
end
theorem pe_globS {X:Cx}{x z:Str}{pos:Pos}(hg:Gl X x)(h:∃ t,X.mg x=some (.str z t))(hd:(x == ("__debug__" : Str))=false:=by decide):PE X (.Name x pos) (tC (.str z)):=by
 obtain ⟨t,h⟩:=h;exact Db (u:=.str z t) hg h ⟨t,rfl⟩ hd
end L2
namespace PySem
open Sem (wp)
end PySem
namespace L2
open PySem PySem.Spec PyProof.Rows
structure OwnQ (K:FZ9){α β γ δ:Type}[Rp α][Rp β][Rp γ][Rp δ](G H:Hp)(v:V)(p0 p1 p2 p3:Addr)(a:T4 (List α) (List β) (List γ) (List δ)):Prop where
 t:∃ t,v = .ref t/\G t=some (.tup [.ref p0,.ref p1,.ref p2,.ref p3])
 o0:∃ vs,Own K G H (.ref p0) p0 vs a.a
 o1:∃ vs,Own K G H (.ref p1) p1 vs a.b
 o2:∃ vs,Own K G H (.ref p2) p2 vs a.c
 o3:∃ vs,Own K G H (.ref p3) p3 vs a.d
 nd:[p0,p1,p2,p3].Nodup
section
variable {K:FZ9}{σ:St}{G H G1 H1:Hp}{α β γ δ:Type}[Rp α][Rp β][Rp γ][Rp δ]{te:TE}{rest:TS}{D:Ends}{i:Nat}{v:V}{p0 p1 p2 p3:Addr}{a:T4 (List α) (List β) (List γ) (List δ)}
theorem OwnQ.ext (o:OwnQ K G H v p0 p1 p2 p3 a)(x:Ext G H G1 H1):OwnQ K G1 H1 v p0 p1 p2 p3 a:=by
 obtain ⟨⟨t,e,g⟩,⟨_,a0⟩,⟨_,a1⟩,⟨_,a2⟩,⟨_,a3⟩,nd⟩:=o;exact ⟨⟨t,e,x.gg _ _ g⟩,⟨_,a0.ext x⟩,⟨_,a1.ext x⟩,⟨_,a2.ext x⟩,⟨_,a3.ext x⟩,nd⟩
theorem PC {x:α}{l:List α}{m:Option α}(hσ:σ[i]? = some (some v))(o:OwnQ K G H v p0 p1 p2 p3 a)(e:EV K te σ G m)(hm:m=some x)(hp:Ce a.a x=some l)(s:Same G H)
  (k:∀ G2 H1 H2,Ext G H G2 H1->(∀ b,b≠p0->H2 b=H1 b)->OwnQ K G2 H2 v p0 p1 p2 p3 (T4.mk l a.b a.c a.d)->rest D σ H2):EE (Ft (tBM K "list" Da (tOp (rAt K) (Hi i) (tC (.int 0))) (Am te Bm))) rest D σ H:=by
 obtain ⟨hl,rfl⟩:=B2 hp;obtain ⟨⟨t,rfl,g⟩,⟨vs,a0⟩,_,_,_,nd⟩:=id o;have hlen:=Paired.length a0.p;refine ⟨_,hσ,.inr ⟨_,.ref p0,SqT.of (s _ _ g),rfl,.inl ⟨rfl,_,SqL.of a0.h⟩,e.run hm s fun w G2 H2 y r=>?_⟩⟩;refine ⟨p0,vs,w,rfl,rfl,y.hh _ _ a0.h,by omega,?_⟩;obtain ⟨⟨t',e',g'⟩,⟨vs',b0⟩,⟨_,b1⟩,⟨_,b2⟩,⟨_,b3⟩,_⟩:=o.ext y;have ee:vs'=vs:=by have:=b0.h.symm.trans (y.hh _ _ a0.h);cases this;rfl
 subst ee;simp only [List.nodup_cons,qmA,qyB,or_false,not_or] at nd;refine k G2 H2 _ y (fun b hb=>Af hb) ⟨⟨t',e',g'⟩,⟨vs'++[w],rfl,b0.g,AQ,?_,Paired.app b0.p (.cons r .nil)⟩,⟨_,b1.put (Ne.symm nd.1.1)⟩,⟨_,b2.put (Ne.symm nd.1.2.1)⟩,⟨_,b3.put (Ne.symm nd.1.2.2)⟩,o.nd⟩;rw [qfA,qhA];omega
theorem Pd {x:β}{l:List β}{m:Option β}(hσ:σ[i]? = some (some v))(o:OwnQ K G H v p0 p1 p2 p3 a)(e:EV K te σ G m)(hm:m=some x)(hp:Ce a.b x=some l)(s:Same G H)
  (k:∀ G2 H1 H2,Ext G H G2 H1->(∀ b,b≠p1->H2 b=H1 b)->OwnQ K G2 H2 v p0 p1 p2 p3 (T4.mk a.a l a.c a.d)->rest D σ H2):EE (Ft (tBM K "list" Da (tOp (rAt K) (Hi i) (tC (.int 1))) (Am te Bm))) rest D σ H:=by
 obtain ⟨hl,rfl⟩:=B2 hp;obtain ⟨⟨t,rfl,g⟩,_,⟨vs,a0⟩,_,_,nd⟩:=id o;have hlen:=Paired.length a0.p;refine ⟨_,hσ,.inr ⟨_,.ref p1,SqT.of (s _ _ g),rfl,.inl ⟨rfl,_,SqL.of a0.h⟩,e.run hm s fun w G2 H2 y r=>?_⟩⟩;refine ⟨p1,vs,w,rfl,rfl,y.hh _ _ a0.h,by omega,?_⟩;obtain ⟨⟨t',e',g'⟩,⟨_,b0⟩,⟨vs',b1⟩,⟨_,b2⟩,⟨_,b3⟩,_⟩:=o.ext y;have ee:vs'=vs:=by have:=b1.h.symm.trans (y.hh _ _ a0.h);cases this;rfl
 subst ee;simp only [List.nodup_cons,qmA,qyB,or_false,not_or] at nd;refine k G2 H2 _ y (fun b hb=>Af hb) ⟨⟨t',e',g'⟩,⟨_,b0.put (nd.1.1)⟩,⟨vs'++[w],rfl,b1.g,AQ,?_,Paired.app b1.p (.cons r .nil)⟩,⟨_,b2.put (Ne.symm nd.2.1.1)⟩,⟨_,b3.put (Ne.symm nd.2.1.2)⟩,o.nd⟩;rw [qfA,qhA];omega
theorem P5 {x:γ}{l:List γ}{m:Option γ}(hσ:σ[i]? = some (some v))(o:OwnQ K G H v p0 p1 p2 p3 a)(e:EV K te σ G m)(hm:m=some x)(hp:Ce a.c x=some l)(s:Same G H)
  (k:∀ G2 H1 H2,Ext G H G2 H1->(∀ b,b≠p2->H2 b=H1 b)->OwnQ K G2 H2 v p0 p1 p2 p3 (T4.mk a.a a.b l a.d)->rest D σ H2):EE (Ft (tBM K "list" Da (tOp (rAt K) (Hi i) (tC (.int 2))) (Am te Bm))) rest D σ H:=by
 obtain ⟨hl,rfl⟩:=B2 hp;obtain ⟨⟨t,rfl,g⟩,_,_,⟨vs,a0⟩,_,nd⟩:=id o;have hlen:=Paired.length a0.p;refine ⟨_,hσ,.inr ⟨_,.ref p2,SqT.of (s _ _ g),rfl,.inl ⟨rfl,_,SqL.of a0.h⟩,e.run hm s fun w G2 H2 y r=>?_⟩⟩;refine ⟨p2,vs,w,rfl,rfl,y.hh _ _ a0.h,by omega,?_⟩;obtain ⟨⟨t',e',g'⟩,⟨_,b0⟩,⟨_,b1⟩,⟨vs',b2⟩,⟨_,b3⟩,_⟩:=o.ext y;have ee:vs'=vs:=by have:=b2.h.symm.trans (y.hh _ _ a0.h);cases this;rfl
 subst ee;simp only [List.nodup_cons,qmA,qyB,or_false,not_or] at nd;refine k G2 H2 _ y (fun b hb=>Af hb) ⟨⟨t',e',g'⟩,⟨_,b0.put (nd.1.2.1)⟩,⟨_,b1.put (nd.2.1.1)⟩,⟨vs'++[w],rfl,b2.g,AQ,?_,Paired.app b2.p (.cons r .nil)⟩,⟨_,b3.put (Ne.symm nd.2.2.1)⟩,o.nd⟩;rw [qfA,qhA];omega
theorem P4 {x:δ}{l:List δ}{m:Option δ}(hσ:σ[i]? = some (some v))(o:OwnQ K G H v p0 p1 p2 p3 a)(e:EV K te σ G m)(hm:m=some x)(hp:Ce a.d x=some l)(s:Same G H)
  (k:∀ G2 H1 H2,Ext G H G2 H1->(∀ b,b≠p3->H2 b=H1 b)->OwnQ K G2 H2 v p0 p1 p2 p3 (T4.mk a.a a.b a.c l)->rest D σ H2):EE (Ft (tBM K "list" Da (tOp (rAt K) (Hi i) (tC (.int 3))) (Am te Bm))) rest D σ H:=by
 obtain ⟨hl,rfl⟩:=B2 hp;obtain ⟨⟨t,rfl,g⟩,_,_,_,⟨vs,a0⟩,nd⟩:=id o;have hlen:=Paired.length a0.p;refine ⟨_,hσ,.inr ⟨_,.ref p3,SqT.of (s _ _ g),rfl,.inl ⟨rfl,_,SqL.of a0.h⟩,e.run hm s fun w G2 H2 y r=>?_⟩⟩;refine ⟨p3,vs,w,rfl,rfl,y.hh _ _ a0.h,by omega,?_⟩;obtain ⟨⟨t',e',g'⟩,⟨_,b0⟩,⟨_,b1⟩,⟨_,b2⟩,⟨vs',b3⟩,_⟩:=o.ext y;have ee:vs'=vs:=by have:=b3.h.symm.trans (y.hh _ _ a0.h);cases this;rfl
 subst ee;simp only [List.nodup_cons,qmA,qyB,or_false,not_or] at nd;refine k G2 H2 _ y (fun b hb=>Af hb) ⟨⟨t',e',g'⟩,⟨_,b0.put (nd.1.2.2)⟩,⟨_,b1.put (nd.2.1.2)⟩,⟨_,b2.put (nd.2.2.1)⟩,⟨vs'++[w],rfl,b3.g,AQ,?_,Paired.app b3.p (.cons r .nil)⟩,o.nd⟩;rw [qfA,qhA];omega
theorem Oo (s:Same G H)(k:∀ v p0 p1 p2 p3 G2 H2,Ext G H G2 H2->H p0=none->H p1=none->H p2=none->H p3=none->OwnQ K G2 H2 v p0 p1 p2 p3 (T4.mk ([]:List α) ([]:List β) ([]:List γ) ([]:List δ))->rest D (σ.set i (some v)) H2) :
  EE (Q9 (tTup (Am (QF Bm) (Am (QF Bm) (Am (QF Bm) (Am (QF Bm) Bm))))) (HM i)) rest D σ H:=by
 refine ⟨qdC _,fun p0 h0=>⟨qdC _,fun p1 h1=>⟨qdC _,fun p2 h2=>⟨qdC _,fun p3 h3=>⟨by show 4<=sizeLine;decide,fun t ht=>?_⟩⟩⟩⟩⟩;have x0:Ext G H G (upd H p0 (.lst [])):=.own s h0;have x1:=Ext.own (o:=.lst []) x0.gh h1;have x2:=Ext.own (o:=.lst []) x1.gh h2;have x3:=Ext.own (o:=.lst []) x2.gh h3;have x4:=Ext.new (o:=.tup [.ref p0,.ref p1,.ref p2,.ref p3]) x3.gh ht;have y1:=x0.trans x1;have y2:=y1.trans x2;have y3:=y2.trans x3;have g0:=s.free h0;have g1:=x0.gh.free h1;have g2:=x1.gh.free h2;have g3:=x2.gh.free h3;have q0:upd H p0 (.lst []) p0=some (.lst []):=AQ;have r0:=((x1.trans x2).trans (x3.trans x4)).hh _ _ q0;have r1:=(x2.trans (x3.trans x4)).hh p1 _ AQ;have r2:=(x3.trans x4).hh p2 _ AQ;have r3:=x4.hh p3 _ AQ;have n0:=(x1.hh.trans (x2.hh.trans x3.hh)) _ _ q0;have n1:=(x2.hh.trans x3.hh) p1 _ AQ;have n2:=x3.hh p2 _ AQ;have n3:upd (upd (upd (upd H p0 (.lst [])) p1 (.lst [])) p2 (.lst [])) p3 (.lst []) p3=some (.lst []):=AQ;have d01:p0≠p1:=Ay q0 h1;have d02:p0≠p2:=Ay (x1.hh _ _ q0) h2;have d03:p0≠p3:=Ay ((x1.hh.trans x2.hh) _ _ q0) h3;have d12:p1≠p2:=Ay (AQ (o:=.lst [])) h2;have d13:p1≠p3:=Ay (x2.hh p1 _ AQ) h3;have d23:p2≠p3:=Ay (AQ (o:=.lst [])) h3;have t0:p0≠t:=Ay n0 ht;have t1:p1≠t:=Ay n1 ht;have t2:p2≠t:=Ay n2 ht;have t3:p3≠t:=Ay n3 ht;refine k _ p0 p1 p2 p3 _ _ (y3.trans x4) h0 (x0.hh.free h1) (y1.hh.free h2) (y2.hh.free h3) ⟨⟨t,rfl,AQ⟩,⟨[],rfl,by rw [Af t0];exact g0,r0,qdC _,.nil⟩,⟨[],rfl,by rw [Af t1];exact g1,r1,qdC _,.nil⟩,⟨[],rfl,by rw [Af t2];exact g2,r2,qdC _,.nil⟩,⟨[],rfl,by rw [Af t3];exact g3,r3,qdC _,.nil⟩,?_⟩;simp only [List.nodup_cons,qmA,qyB,or_false,not_or,not_false_eq_true,List.nodup_nil,and_true];exact ⟨⟨d01,d02,d03⟩,⟨d12,d13⟩,d23⟩
theorem OwnQ.tell {G0 H0:Hp}(o:OwnQ K G H v p0 p1 p2 p3 a)(x:Ext G0 H0 G H)(h0:H0 p0=none)(h1:H0 p1=none)(h2:H0 p2=none)(h3:H0 p3=none) :
  ∃ G',Same G G'/\Ext G0 H0 G' H/\Rp.rel K G' v a/\NewT K H0 G' v (n4 a (.ref p0) (.ref p1) (.ref p2) (.ref p3)):=by
 obtain ⟨⟨t,rfl,g⟩,⟨v0,b0⟩,⟨v1,b1⟩,⟨v2,b2⟩,⟨v3,b3⟩,nd⟩:=o;simp only [List.nodup_cons,qmA,qyB,or_false,not_or] at nd;obtain ⟨⟨d01,d02,d03⟩,⟨d12,d13⟩,d23,_⟩:=nd;have x0:=x.frz h0 b0.g b0.h;have e1:upd G p0 (.lst v0) p1=none:=by rw [Af (Ne.symm d01)];exact b1.g
 have x1:=x0.frz h1 e1 b1.h;have e2:upd (upd G p0 (.lst v0)) p1 (.lst v1) p2=none:=by rw [Af (Ne.symm d12),Af (Ne.symm d02)];exact b2.g
 have x2:=x1.frz h2 e2 b2.h;have e3:upd (upd (upd G p0 (.lst v0)) p1 (.lst v1)) p2 (.lst v2) p3=none:=by rw [Af (Ne.symm d23),Af (Ne.symm d13),Af (Ne.symm d03)];exact b3.g
 have x3:=x2.frz h3 e3 b3.h;have s0:Same G (upd G p0 (.lst v0)):=Same.new b0.g;have s1:Same _ (upd (upd G p0 (.lst v0)) p1 (.lst v1)):=Same.new e1;have s2:Same _ (upd (upd (upd G p0 (.lst v0)) p1 (.lst v1)) p2 (.lst v2)):=Same.new e2;have s3:Same _ (upd (upd (upd (upd G p0 (.lst v0)) p1 (.lst v1)) p2 (.lst v2)) p3 (.lst v3)):=Same.new e3;have sA:=s0.trans (s1.trans (s2.trans s3));have q0:=(s1.trans (s2.trans s3)) p0 (.lst v0) AQ;have q1:=(s2.trans s3) p1 (.lst v1) AQ;have q2:=s3 p2 (.lst v2) AQ;have q3:upd (upd (upd (upd G p0 (.lst v0)) p1 (.lst v1)) p2 (.lst v2)) p3 (.lst v3) p3=some (.lst v3):=AQ;refine ⟨_,sA,x3,⟨t,_,_,_,_,rfl,SqT.of (sA _ _ g),⟨p0,v0,rfl,.inl q0,b0.z,Paired.imp' (fun _ _ r=>Rp.mono sA r) b0.p⟩,⟨p1,v1,rfl,.inl q1,b1.z,Paired.imp' (fun _ _ r=>Rp.mono sA r) b1.p⟩,⟨p2,v2,rfl,.inl q2,b2.z,Paired.imp' (fun _ _ r=>Rp.mono sA r) b2.p⟩,⟨p3,v3,rfl,.inl q3,b3.z,Paired.imp' (fun _ _ r=>Rp.mono sA r) b3.p⟩⟩,t,rfl,SqT.of (sA _ _ g),fun u hu=>?_⟩;unfold n4 at hu;simp only [qmA,qyB,or_false] at hu;rcases hu with rfl|rfl|rfl|rfl
 ·exact ⟨p0,v0,rfl,h0,q0,Paired.length b0.p⟩
 ·exact ⟨p1,v1,rfl,h1,q1,Paired.length b1.p⟩
 ·exact ⟨p2,v2,rfl,h2,q2,Paired.length b2.p⟩
 ·exact ⟨p3,v3,rfl,h3,q3,Paired.length b3.p⟩
end
section
variable {K:FZ9}{σ:St}{B G H G1 H1 H2 G0 H0:Hp}{α β γ δ:Type}[Rp α][Rp β][Rp γ][Rp δ]{te:TE}{v:V}{p:Addr}
theorem Ext.alt (x:Ext G0 H0 G H)(h0:H0 p=none)(g:G p=none)(e:∀ b,b≠p->H2 b=H b):Ext G0 H0 G H2 :=
 ⟨x.gg,fun b o q=>by rw [e b (fun z=>by rw [z,g] at q;cases q)];exact x.gh b o q,fun b o q=>by rw [e b (fun z=>by rw [z,h0] at q;cases q)];exact x.hh b o q,x.no⟩
end
def Od (h:Heap)(b:Addr):Prop:=∃ o vs,h.get? b=some o/\o.data = .fields vs
def Xo (h:Heap)(ea:Addr)(cls tb:Value):Prop:=∃ oe vs,h.get? ea=some oe/\oe.cls=cls/\oe.data = .fields vs/\vs[1]? = some tb/\oe.dict=none
def To (h:Heap)(T:Addr):Prop:=∃ oT ts,h.get? T=some oT/\oT.data = .fields ts/\3<ts.size
def ExB (Fre:Addr->Prop)(h:Heap)(ea:Addr)(cls:Value):Prop:=Fre ea/\∃ T,Fre T/\T≠ea/\Xo h ea cls (.ref T)/\To h T
def ExA (Fre:Addr->Prop)(h:Heap)(ea:Addr)(cls:Value):Prop:=(Fre ea/\Xo h ea cls .none)\/ExB Fre h ea cls
def Chg (fr c:List Addr)(h h':Heap):Prop:=(∀ b o,b ∉ c->b ∉ fr->h.get? b=some o->h'.get? b=some o)/\(∀ b o,b ∉ c->h.get? b=some o->∃ sl,h'.get? b=some { o with slots:=sl })
theorem dict_map (f:Array Value->Array Value)(o:Obj):(o.mapFields f).dict=o.dict:=by
 obtain ⟨c,d,dt,sl⟩:=o;cases dt<;>rfl
section
variable {M:Model}{A:Around}{E:Value->Shared->Prop}{s:Shared}{base:Heap}{env env':Env}{outer:List Env}{L e:Addr}{Q:Unit->Shared->Prop}{Fre:Addr->Prop}{cls:Value}
theorem LJ {oe:Obj}{vs:Array Value}{head:Value}{hadNext:Bool}(hfr:A.frames=some (env::outer))(hl:s.heap.FunFrames base (env::outer))(hf:env.frame=some L)
  (he:s.heap.get? e=some oe) (hd:oe.data = .fields vs) (hsz:1<vs.size) (hdi:oe.dict=none)
  (h:∀ h' T,s.heap.objs.size<=T->T≠e->Xo h' e oe.cls (.ref T)->To h' T->Chg (frs (env::outer)) [e] s.heap h'->Q () { s with heap:=h' }) :
  wpAny M A (do let a <- PySem.frameOf env;let pl <- entryPlaceOf L hadNext;let b <- EntryCells.newEntry head a .none (rawInt L) .none pl;setField (.ref e) 1 b) Q E s:=by
 have hene:e ∉ (env::outer).filterMap (·.frame):=fun hm=>by
  obtain ⟨_,o,ho,hnf⟩:=hl.mem hm;rw [he] at ho;injection ho with ho;subst ho;exact hnf vs hd
 refine qbA (wpAny_frameOf_fun hfr hl hf fun h₁ hs₁=>?_);refine qbA (wpAny_entryPlaceOf fun pl hpl=>?_);unfold EntryCells.newEntry newFields;refine qbA (wpAny_newObj_type ?_ (hpl.sizeOk5 _ _ _ _ _));have he₁:h₁.get? e=some oe:=(hs₁.2.1 e hene).trans he;have he₂:=qiB (h:=h₁) { cls:=.type "traceback",dict:=none,data:=.fields ([head,.ref L,.none,rawInt L,.none]++(if pl.isEmpty then List.replicate 6 Value.none else pl)).toArray } he₁;refine wpAny_setField he₂ hd hsz ?_;have hTe:h₁.objs.size≠e:=Nat.ne_of_gt (qhB he₁);have hd₃:=Obj.data_mapFields hd (·.setIfInBounds 1 (Value.ref h₁.objs.size));have he₃:=Heap.get?_update_self (Obj.mapFields (·.setIfInBounds 1 (Value.ref h₁.objs.size))) he₂ (Obj.isFreed_of_fields hd₃)
 have hT₃:=(Heap.get?_update_other (h₁.push { cls:=.type "traceback",dict:=none,data:=.fields ([head,.ref L,.none,rawInt L,.none]++(if pl.isEmpty then List.replicate 6 Value.none else pl)).toArray })
  (Obj.mapFields (·.setIfInBounds 1 (Value.ref h₁.objs.size))) (Ne.symm hTe)).trans (qjB h₁ rfl)
 refine h _ h₁.objs.size (by rw [hs₁.1];exact qcB _) hTe ⟨_,_,he₃,Obj.cls_mapFields _ _,hd₃,by simp [hsz],(dict_map _ _).trans hdi⟩ ⟨_,_,hT₃,rfl,by simp only [qrB,qfA,qgA,List.length_nil]<;>omega⟩ ⟨fun b o hb hf e=>?_,fun b o hb e=>?_⟩
 ·rw [Heap.get?_update_other _ _ (fun z=>hb (by simp [z]))];exact qiB _ ((hs₁.2.1 b hf).trans e)
 ·obtain ⟨sl,q⟩:=hs₁.2.2 b o e;refine ⟨sl,?_⟩;rw [Heap.get?_update_other _ _ (fun z=>hb (by simp [z]))];exact qiB _ q
theorem Kl (hfr:A.frames=some (env::outer))(hl:s.heap.FunFrames base (env::outer))(hf:env.frame=some L)(hf':env'.frame=some L)(hx:ExA Fre s.heap e cls)(hn:∀ b,s.heap.objs.size<=b->Fre b)
  (h:∀ h' c,(∀ b∈c,Fre b/\Od s.heap b)->Chg (frs (env::outer)) c s.heap h'->s.heap.objs.size<=h'.objs.size->ExB Fre h' e cls->Q () { s with heap:=h' }) :
  wpAny M A (noteFrame (.ref e) env') Q E s:=by
 have ef:PySem.frameOf env'=PySem.frameOf env:=by unfold PySem.frameOf;rw [hf,hf']
 unfold noteFrame;simp only [hf',ef];rcases hx with ⟨fe,oe,vs,he,rfl,hd,h1,hdi⟩ | ⟨fe,T,fT,hTe,⟨oe,vs,he,rfl,hd,h1,hdi⟩,oT,ts,hT,hdT,h3⟩
 ·refine qbA (wpAny_field he hd h1 ?_);rw [if_neg (by decide)];refine LJ hfr hl hf he hd (Array.getElem?_eq_some_iff.mp h1).1 hdi fun h' T hT hTe hX hTo hc=>?_;refine h h' [e] (fun b hb=>?_) hc ?_ ⟨fe,T,hn T hT,hTe,hX,hTo⟩
  ·rw [qpA.mp hb];exact ⟨fe,oe,vs,he,hd⟩
  ·obtain ⟨oT,_,q,_⟩:=hTo;exact Nat.le_of_lt (Nat.lt_of_le_of_lt hT (qhB q))
 ·refine qbA (wpAny_field he hd h1 ?_);rw [if_pos (show (Value.ref T != Value.none)=true from by simp)];obtain ⟨fl,hfl⟩:∃ fl,ts[3]? = some fl:=⟨_,Array.getElem?_eq_getElem h3⟩;refine qbA (wpAny_field hT hdT hfl ?_)
  cases hq:(fl == rawInt L) with
  | true =>
   rw [if_pos rfl];exact qcA (h s.heap [] (fun b hb=>nomatch hb) ⟨fun _ _ _ _ q=>q,fun _ o _ q=>⟨o.slots,q⟩⟩ (qcB _) ⟨fe,T,fT,hTe,⟨oe,vs,he,rfl,hd,h1,hdi⟩,oT,ts,hT,hdT,h3⟩)
  | false =>
   rw [if_neg qqB];refine qbA (wpAny_setField hT hdT h3 ?_);have other:∀ b,b≠T->(s.heap.update T (Obj.mapFields (·.setIfInBounds 3 Value.none))).get? b=s.heap.get? b:=fun b hb=>Heap.get?_update_other _ _ (Ne.symm hb)
   have noRecord:∀ b o,s.heap.get? b=some o->(∀ vs,o.data ≠ .fields vs)->b≠T:=fun b o hb hnf q=>by
    rw [q,hT] at hb;injection hb with hb;subst hb;exact hnf ts hdT
   have hsz:(s.heap.update T (Obj.mapFields (·.setIfInBounds 3 Value.none))).objs.size=s.heap.objs.size:=by simp [Heap.update]
   refine LJ (s:={ s with heap:=s.heap.update T (Obj.mapFields (·.setIfInBounds 3 Value.none)) }) hfr (hl.of_keeps fun b o hb hnf=>⟨o,(other b (noRecord b o hb hnf)).trans hb,rfl⟩) hf ((other e (Ne.symm hTe)).trans he) hd (Array.getElem?_eq_some_iff.mp h1).1 hdi fun h' T' hT' hTe' hX hTo hc=>?_;have hT'':s.heap.objs.size<=T':=by rw [<- hsz];exact hT'
   refine h h' [T,e] (fun b hb=>?_) ⟨fun b o hb hf q=>hc.1 b o (fun z=>hb (by simp [qpA.mp z])) hf ((other b (fun z=>hb (by simp [z]))).trans q),fun b o hb q=>hc.2 b o (fun z=>hb (by simp [qpA.mp z])) ((other b (fun z=>hb (by simp [z]))).trans q)⟩ ?_ ⟨fe,T',hn T' hT'',hTe',hX,hTo⟩
   ·rcases qmA.mp hb with rfl|hb
    ·exact ⟨fT,oT,ts,hT,hdT⟩
    ·rw [qpA.mp hb];exact ⟨fe,oe,vs,he,hd⟩
   ·obtain ⟨oT,_,q,_⟩:=hTo;exact Nat.le_of_lt (Nat.lt_of_le_of_lt hT'' (qhB q))
theorem FY {fr:List Addr}{f:Option Addr}(hx:ExB Fre s.heap e cls)
  (h:∀ h' c,(∀ b∈c,Fre b/\Od s.heap b)->Chg fr c s.heap h'->s.heap.objs.size<=h'.objs.size->ExB Fre h' e cls->Q () { s with heap:=h' }):wpAny M A (setFlight (.ref e) f) Q E s:=by
 obtain ⟨fe,T,fT,hTe,⟨oe,vs,he,rfl,hd,h1,hdi⟩,oT,ts,hT,hdT,h3⟩:=hx;have other:∀ g:Array Value->Array Value,∀ b,b≠T->(s.heap.update T (Obj.mapFields g)).get? b=s.heap.get? b:=fun g b hb=>Heap.get?_update_other _ _ (Ne.symm hb);unfold setFlight;refine qbA (wpAny_field he hd h1 ?_);rw [if_pos (show (Value.ref T != Value.none)=true from by simp)];refine wpAny_setField hT hdT h3 ?_;refine h _ [T] (fun b hb=>by rw [qpA.mp hb];exact ⟨fT,oT,ts,hT,hdT⟩) ⟨fun b o hb _ q=>(other _ b (fun z=>hb (by simp [z]))).trans q,fun b o hb q=>⟨o.slots,(other _ b (fun z=>hb (by simp [z]))).trans q⟩⟩ (by simp [Heap.update]) ⟨fe,T,fT,hTe,⟨oe,vs,(other _ e (Ne.symm hTe)).trans he,rfl,hd,h1,hdi⟩,?_⟩;exact ⟨_,_,Heap.get?_update_self _ hT (Obj.isFreed_of_fields (Obj.data_mapFields hdT _)),Obj.data_mapFields hdT _,by simp [h3]⟩
theorem Qk (hfr:A.frames=some (env::outer))(hl:s.heap.FunFrames base (env::outer))(hf:env.frame=some L)(hx:ExA Fre s.heap e cls)(hn:∀ b,s.heap.objs.size<=b->Fre b)
  (h:∀ h1 h2 c d,(∀ b∈c,Fre b/\Od s.heap b)->Chg (frs (env::outer)) c s.heap h1->(∀ b∈d,Fre b/\Od h1 b)->Chg (frs (env::outer)) d h1 h2->ExB Fre h2 e cls->Q () { s with heap:=h2 }) :
  wpAny M A (leaving env (.ref e)) Q E s:=by
 unfold leaving;refine qbA (Kl hfr hl hf hf hx hn fun h1 c hc ch _ x1=>?_);exact FY (s:={ s with heap:=h1 }) x1 fun h2 d hd ch2 _ x2=>h h1 h2 c d hc ch hd ch2 x2
end
theorem ObjOk.get {P:Program}{w:World}{H:Hp}{h:Heap}{a:Addr}{o:HO}(x:ObjOk P w H h a o):∃ ob,h.get? a=some ob:=by
 cases o with
 | lst xs=>obtain ⟨_,_,_,_,e⟩:=x;exact ⟨_,e⟩
 | tup xs=>obtain ⟨_,_,_,o,e,_⟩:=x;exact ⟨_,e⟩
 | dK kvs=>obtain ⟨_,_,_,_,o,_,_,e,_⟩:=x;exact ⟨_,e⟩
 | dT kvs=>obtain ⟨_,_,_,_,o,_,_,e,_⟩:=x;exact ⟨_,e⟩
 | set S n=>obtain ⟨o,_,_,_,e,_⟩:=x;exact ⟨_,e⟩
 | ins C dx fs=>obtain ⟨_,_,_,e,_⟩:=x;exact ⟨_,e⟩
 | own y=>exact x
 | xd fs=>obtain ⟨_,⟨_,_,_,e,_⟩,_⟩:=x;exact ⟨_,e⟩
 | rng lo hi=>obtain ⟨_,_,_,e⟩:=x;exact ⟨_,e⟩
 | frz ob u=>obtain ⟨e,_⟩:=x;exact ⟨_,e⟩
 | tbl ps=>exact ⟨_,(show h.get? a=some _ from x)⟩
 | met f y=>exact ⟨_,(show h.get? a=some _ from x)⟩
 | ext φ=>obtain ⟨_,e,_⟩:=x;exact e
theorem HOk.none {P:Program}{w:World}{H:Hp}{h:Heap}{a:Addr}(x:HOk P w H h)(e:h.get? a = .none):H a = .none:=by
 cases q:H a with
 | none=>rfl
 | some u =>
  obtain ⟨ob,z⟩:=(x a u q).get;rw [e] at z;cases z
def Fr0 (X:Cx)(H:Hp)(b:Addr):Prop:=H b=none/\(∀ o,X.s₀.heap.get? b=some o->b∈X.ex)/\∀ p∈X.pn,p.1≠b
section
variable {X:Cx}{pins:List (Addr × Obj)}{σ:St}{H H':Hp}{s s':Shared}{E:St->XK}
theorem Inv.new0 (I:Inv X pins σ H s){b:Addr}(h:s.heap.get? b=none):Fr0 X H b:=by
 refine ⟨I.hok.none h,fun o e=>?_,fun p hp z=>?_⟩
 ·by_cases hx:b∈X.ex
  ·exact hx
  ·obtain ⟨o',q⟩:=I.base.there b o e hx;rw [h] at q;cases q
 ·have:=(I.pin p (List.mem_append_left _ hp)).1;rw [z,h] at this;cases this
theorem Inv.newS (I:Inv X pins σ H s){b:Addr}(h:s.heap.objs.size<=b):Fr0 X H b:=I.new0 (Heap.get?_none_of_le h)
theorem Inv.chg {c:List Addr}{h':Heap}(I:Inv X [] σ H s)(hc:∀ b∈c,Fr0 X H b/\Od s.heap b)(ch:Chg (frs X.stack) c s.heap h'):Inv X [] σ H { s with heap:=h' }:=by
 have nS:∀ b o,X.s₀.heap.get? b=some o->b ∉ X.ex->b ∉ c:=fun b o e hx hb=>hx ((hc b hb).1.2.1 o e)
 have nF:∀ b o,X.s₀.heap.get? b=some o->b ∉ X.fs->b ∉ frs X.stack:=fun b o e hf hb=>by
  rcases qmA.mp (I.stkSub b hb) with z|z
  ·exact absurd z (qxB (qzB (qhB e) I.ok.above))
  ·exact hf z
 have nL:X.env.locals ∉ c:=fun hb=>by
  obtain ⟨_,o,vs,e,hd⟩:=hc _ hb;obtain ⟨m,⟨o',es,ep,e',hd',_⟩,_⟩:=I.loc;rw [e] at e';cases e';rw [hd] at hd';cases hd'
 have nC:∀ x k,X.env.cells.lookup x=some k->k ∉ c:=fun x k q hb=>by
  obtain ⟨_,o,vs,e,hd⟩:=hc _ hb;obtain ⟨v,o',e',hd'⟩:=I.cell x k q;rw [e] at e';cases e';rw [hd] at hd';cases hd'
 have cK:∀ x k v,X.env.cells.lookup x=some k->s.heap.IsCell k v->h'.IsCell k v:=fun x k v q ⟨o,e,hd⟩=>by
  obtain ⟨sl,z⟩:=ch.2 k o (nC x k q) e;exact ⟨_,z,hd⟩
 refine ⟨I.ok,I.os,I.bare,⟨fun b o e n hb hx=>ch.1 b o (nS b o e hx) (nF b o e hb) (I.base.keep b o e n hb hx),fun b o e n hb hx=>?_,I.base.free,fun b o e hx=>?_,I.base.tups,I.base.frzs,I.base.tbls⟩,?_,fun x k q=>?_,I.free,I.freeC,fun p hp=>?_,fun a o e=>?_,I.len⟩
 ·obtain ⟨sl,e1⟩:=I.base.slot b o e n hb hx;obtain ⟨sl',e2⟩:=ch.2 b _ (nS b o e hx) e1;exact ⟨sl',e2⟩
 ·obtain ⟨o',e1⟩:=I.base.there b o e hx;obtain ⟨sl,e2⟩:=ch.2 b o' (nS b o e hx) e1;exact ⟨_,e2⟩
 ·obtain ⟨m,⟨o,es,ep,ho,r⟩,hl⟩:=I.loc;obtain ⟨sl,hL⟩:=ch.2 _ o nL ho;refine ⟨m,⟨_,es,ep,hL,r⟩,fun i x v e1 e2 e3=>?_⟩;obtain ⟨u,ru,l⟩:=hl i x v e1 e2 e3;refine ⟨u,ru,?_⟩;rcases l with l | ⟨k,c',q,z⟩
  ·exact .inl l
  ·exact .inr ⟨k,c',q,cK x c' _ q z⟩
 ·obtain ⟨v,z⟩:=I.cell x k q;exact ⟨v,cK x k v q z⟩
 ·obtain ⟨e,n,ne,nf,d⟩:=I.pin p hp;rw [qbB] at hp;exact ⟨ch.1 p.1 p.2 (fun z=>(hc _ z).1.2.2 p hp rfl) (fun z=>(qmA.mp (I.stkSub _ z)).elim ne nf) e,n,ne,nf,d⟩
 ·refine (I.hok a o e).stay (fun b u hb q=>ch.1 b u (fun z=>?_) (fun z=>?_) q) (fun _ q=>q) fun _ _ q=>q
  ·have:=(hc b z).1.1;rcases hb with rfl|hb
   ·rw [e] at this;cases this
   ·rw [hb] at this;cases this
  ·have:=I.stkFree b z;rcases hb with rfl|hb
   ·rw [e] at this;cases this
   ·rw [hb] at this;cases this
def CXE (P:Program)(w:World):CXT:=fun outer H s E e s'=>∃ ea cls H',e = .ref ea/\s'.os=s.os/\AllBare s'.gens/\Un (frs outer) [] H H' s.heap s'.heap/\HOk P w H' s'.heap /\
 ExB (fun b=>H' b=none/\s.heap.get? b=none) s'.heap ea cls/\E cls none H'
def Lets (X:Cx)(E:St->XK):Prop:=∀ σ H s ea cls,Inv X [] σ H s->ExA (Fr0 X H) s.heap ea cls->E σ cls none H->X.xe (.ref ea) s
theorem ExB.mono {F G:Addr->Prop}{h:Heap}{ea:Addr}{cls:Value}(x:ExB F h ea cls)(k:∀ b,F b->G b):ExB G h ea cls :=
 let ⟨a,T,b,r⟩:=x
 ⟨k _ a,T,k _ b,r⟩
theorem Lets.passes (L:Lets X E):∀ (pins:List (Addr × Obj)) (σ:St) (H:Hp) (s:Shared) (e:Value) (s':Shared),Inv X pins σ H s->CXE X.prog X.w X.stack H s (E σ) e s'->X.xe e s':=by
 rintro pins σ H s e s' I ⟨ea,cls,H',rfl,os,bare,un,hok,xb,q⟩;have I':Inv X pins σ H' s':=I.call' (ch:=[]) os un hok bare fun b z=>nomatch z;refine L σ H' s' ea cls (I'.pins_of (pins':=[]) fun p hp=>nomatch hp) (.inr (xb.mono fun b hb=>?_)) q;obtain ⟨h1,h2,h3⟩:=I.new0 hb.2;exact ⟨hb.1,h2,h3⟩
theorem CL {P:Program}{w:World}{K:FZ9}{mg:Str->Option Value}{base:Heap}{N:List Str}{qual:Str}{scope:Scope}{f:Addr}{cd:Value}{A:Around}{outer:List Env}{s:Shared}{H:Hp}{E:XK} :
  Lets (JG (CXE P w) P w K mg base N qual scope f cd A outer s H E) fun _=>E:=by
 intro σ H' s' ea cls I x q;show wpAny _ _ (leaving _ _) _ _ _;refine Qk I.ok.frames I.stack rfl x (fun b hb=>I.newS hb) fun h1 h2 c d hc ch1 hd ch2 xb=>?_;have I1:=I.chg hc ch1;have I2:=I1.chg hd ch2
 exact ⟨ea,cls,H',rfl,I2.os,I2.bare,I2.base,I2.hok,xb.mono fun b hb=>⟨hb.1,by
  cases z:s.heap.get? b with
  | none=>rfl
  | some o=>exact absurd (hb.2.1 o z) (fun y=>nomatch y)⟩,q⟩
end
abbrev bmV:List Value:=[.type "ValueError",.type "Exception",.type "BaseException",.type "object"]
def tRaise (E:St->XK)(C:Addr):TS:=fun _ σ H=>E σ (.ref C) none H
section
variable {X:Cx}{pins:List (Addr × Obj)}{σ:St}{H H':Hp}{s s':Shared}{E:St->XK}
theorem GG {x:Str}{C:Addr}{e₀:Expr}{v:V}{np cpos pos:Pos}(O:OwnCls x C bmV "ValueError.__new__" X.mg X.base)(hc:X.calm=true)(hg:Gl X x)(L:Lets X E)(he:PE X e₀ (tC v))
  (hs:starEach [e₀] X.env=(false,eval e₀ X.env)::starEach [] X.env:=by rfl) (hd:(x == ("__debug__" : Str))=false:=by decide) :
  PS X (.Raise (some (.Call (.Name x np) [e₀] [] cpos)) none pos) (tRaise E C):=by
 intro pins s σ H D I h;obtain ⟨tl,N,nm,q,bs,hdct,sn,sub,ab,col,dd,k0,k1,k2,k3,k5,mN,hC,hN,hni,T⟩:=O.obj
 refine wpAny_Raise_call_subU (C:=C) (nm:=nm) (q:=q) (N:=N) (bs:=bs) (bm:=tl) (hdct:=hdct) (sn:=sn) (sub:=sub) (ab:=ab) (col:=col) (dd:=dd) (k0:=k0) (k1:=k1) (k2:=k2) (k3:=k3) (k5:=k5)
  (Bn := "ValueError") PySem.F.excBase_ValueError (by decide +kernel) PySem.F.excBase_ValueError (mN:=mN) (T.hasType (by decide +kernel)) (I.ok.hd hc) ?_ hni (Gn I hg O.bound ⟨rfl,?_⟩ hd)
 ·rw [hs];rfl
 ·have h2:=A2 he A5 hs cpos pins s σ H (fun vs H1=>vs.length=1/\E σ (.ref C) none H1) I ⟨rfl,h⟩;rw [hs] at h2 ⊢;refine Calls.evalArgs_plain (wpAny_mono h2 (fun us s2 ⟨vs,H1,I1,rv,hl,hq⟩=>?_) fun _ _ y=>y);refine ⟨rfl,?_,I1.bk _ _ hC,hN.keeps I1.bk,T.keeps I1.bk,fun h' e hm=>?_⟩
  ·show us.length<=_;rw [<- rv.length,hl]
   decide
  ·obtain ⟨t,ht,_,_⟩:=hm.there;obtain ⟨n1,n2,n3⟩:=I1.new0 hm.new;exact L σ H1 _ e (.ref C) ((I1.kept (t':=s2.toks) hm.keeps).pins_of (pins':=[]) fun p hp=>nomatch hp) (.inl ⟨⟨n1,n2,n3⟩,_,_,ht,rfl,rfl,rfl,rfl⟩) hq
end
def Gk (X:Cx)(N:List Str)(scope:Scope)(C:Addr)(s:Shared)(H:Hp)(fp:List Addr)(Ex:XK):Cx:=(BG X N scope C s H fp).wish fun ev s'=>∃ σ' H' ea cls,ev = .ref ea/\Inv (BG X N scope C s H fp) [] σ' H' s'/\ExA (Fr0 (BG X N scope C s H fp) H') s'.heap ea cls/\Ex cls none H'
theorem Q7 {X:Cx}{N:List Str}{scope:Scope}{C:Addr}{s:Shared}{H:Hp}{fp:List Addr}{Ex:XK}:Lets (Gk X N scope C s H fp Ex) fun _=>Ex :=
 fun σ H' s' ea cls I x q=>⟨σ,H',ea,cls,rfl,I.unwish,x,q⟩
section
variable {X:Cx}{pins:List (Addr × Obj)}{σ:St}
theorem Inv.nil {H:Hp}{s:Shared}(I:Inv X pins σ H s):Inv X [] σ H s:=I.pins_of (pins':=[]) fun p hp=>nomatch hp
theorem Qi {x:Str}{cn:List Str}{scope:Scope}{C p:Addr}{s3 s':Shared}{H2 H3:Hp}{fp:List Addr}{Ex:XK}{ev:Value}{use:Option (Value->Sem Unit)}{Q:Value->Shared->Prop}(L:Lets X fun _=>Ex)(hst:X.stack=X.env::X.outer)(hfm:X.env.frame=some X.env.locals)
  (I3:Inv X pins σ H3 s3) (hC:s3.heap.objs.size=C) (f2:∀ b∈fp,Hg X pins H2 b) (hx:(Gk X (x::cn) scope C s3 H3 fp Ex).xe ev s') :
  notedBy (model X.prog X.w) X.A (compEnvC scope (Gw scope X.env) C X.env) (fun z s''=>compPost (model X.prog X.w) X.A X.xe use Q (.ref p) C (.error z) s'') ev s':=by
 obtain ⟨σ',H',ea,cls,rfl,J,xa,q⟩:=hx;have hf:(compEnvC scope (Gw scope X.env) C X.env).frame=some X.env.locals:=hfm
 have fr:∀ {Hh:Hp}{b:Addr},Fr0 (BG X (x::cn) scope C s3 H3 fp) Hh b->Fr0 X Hh b:=fun {Hh b} ⟨h1,h2,_⟩=>by
  refine ⟨h1,fun o e=>?_,fun r hr z=>?_⟩
  ·by_cases hx:b∈X.ex
   ·exact hx
   ·obtain ⟨o',e'⟩:=I3.base.there b o e hx;rcases (f2 b (h2 o' e')).2.2.2.1 with z|z
    ·exact absurd z hx
    ·exact absurd (qzB (qhB e) z) (qeB _)
  ·have e:=(I3.pin r (List.mem_append_left _ hr)).1;rw [z] at e;exact (f2 b (h2 _ e)).2.2.2.2.2 r (List.mem_append_left _ hr) z
 refine Kl (env:=X.env) (outer:=X.outer) (base:=X.base) (by rw [I3.ok.frames,hst]) (by have:=J.funs;rw [show (BG X (x::cn) scope C s3 H3 fp).outer=X.stack from rfl,hst] at this;exact this) hfm hf xa (fun b hb=>J.newS hb) fun h' c hc ch hsz xb=>?_;rw [<- hst] at ch;have J2:=J.chg hc ch;obtain ⟨m,hn,_⟩:=id J2.loc;refine ⟨m,hn,fun h'' sb cenv _=>?_⟩;have I4:Inv X pins σ H' { s' with heap:=h' }:=IG I3 J2 f2;have f:=I3.fpOk (H':=H') (Nat.le_of_eq hC) (by have:=J.free;exact this);have I5:=I4.turned (h':=h'') (t':=s'.toks) (it:=C) (fun b o hb e=>(sb.2 b hb).trans e) f.1 f.2.1 f.2.2.2.1 f.2.2.2.2.1 f.2.2.2.2.2
 have nC:∀ b,Od h' b->b≠C:=fun b ⟨o,vs,e,hd⟩ z=>by
  obtain ⟨o',es,ep,e',hd',_⟩:=hn;rw [z] at e;have e':h'.get? C=some o':=e';rw [e] at e';cases e';rw [hd] at hd';cases hd'
 have xb':ExB (Fr0 X H') h'' ea cls:=by
  obtain ⟨fe,T,fT,hTe,⟨oe,vs,he,hc',hd,h1,hdi⟩,oT,ts,hT,hdT,h3⟩:=xb;exact ⟨fr fe,T,fr fT,hTe,⟨oe,vs,(sb.2 ea (nC ea ⟨_,_,he,hd⟩)).trans he,hc',hd,h1,hdi⟩,oT,ts,(sb.2 T (nC T ⟨_,_,hT,hdT⟩)).trans hT,hdT,h3⟩
 unfold PySem.passOn;obtain ⟨_,T,_,_,⟨oe,vs,he,_,hd,h1,_⟩,_⟩:=id xb';refine qbA (wpAny_field he hd h1 ?_);rw [if_neg (show ¬ ((Value.ref T == Value.none)=true) from by simp)];refine qbA (FY (fr:=frs X.stack) (s:={ s' with heap:=h'' }) xb' fun h3 d hd ch2 _ x3=>wpAny_throw ?_);exact L σ H' _ ea cls (I5.nil.chg hd ch2) (.inr x3) q
theorem Ky {prog:Program}{w:World}{A:Around}{R:Result->Shared->Prop}{s:Shared}{elt target iter:Expr}{ifs:List Expr}{scope:Scope}{pos:Pos}{it acc:Value}{env:Env}(I:Nat->Shared->Prop){E1:Value->Shared->Prop}(hE:∀ x s,E1 x s->notedBy (model prog w) A env (fun x s'=>R (.error x) s') x s)
  (turn:∀ n s,I n s->wpAny (model prog w) A (pyNext it) (fun r s₁=>match r with
   | none=>R (.ok .next) s₁
   | some v=>wpAny (model prog w) A (letOwnedTupleGo target it v) (fun _ s₁'=>wpAny (model prog w) A (assign target env v) (fun _ s₂ =>
     wpAny (model prog w) A (forIn ifs true fun c r=>if r=true then do let ok <- isTrue c env (eval c env);pure (ForInStep.yield ok) else pure (ForInStep.yield r)) (fun ok s₃ =>
      if ok=true then wpAny (model prog w) A (eval elt env) (fun x s₄ =>
       wpAny (model prog w) A (call (.builtin "list.append") [acc,x]) (fun _ s₅=>∃ m,m<n/\I m s₅) (fun _ _=>False) s₄) E1 s₃
      else ∃ m,m<n/\I m s₃) (fun _ _=>False) s₂) (fun _ _=>False) s₁') (fun _ _=>False) s₁) (fun _ _=>False) s)
  (n:Nat) (h:I n s) :
  codeAny (model prog w) A (.compLoop (.ListComp elt [⟨target,iter,ifs,0⟩] scope pos) 0 it acc env) R s:=by
 refine codeAny_loop rfl I (fun n s hI=>?_) n h;show wpAny _ A ((compTurn (.ListComp elt [⟨target,iter,ifs,0⟩] scope pos) 0 it acc env).onRaise (fun x=>do noteFrame x env;theTreesLotGoes x)) _ _ s;refine wpAny_noted ?_;rw [compTurn_list];refine qbA (wpAny_standAt (qbA (wpAny_mono (turn n s hI) (fun r s₁ h₁=>?_) fun _ _ h'=>h'.elim)))
 cases r with
 | none=>exact qcA h₁
 | some v =>
  refine qbA (wpAny_mono h₁ (fun _ s₁' h₁'=>?_) fun _ _ h'=>h'.elim);refine qbA (wpAny_mono h₁' (fun _ s₂ h₂=>qbA (wpAny_mono h₂ (fun ok s₃ h₃=>?_) fun _ _ h'=>h'.elim)) fun _ _ h'=>h'.elim)
  cases ok with
  | false=>exact qcA ⟨rfl,h₃⟩
  | true =>
   exact qbA (qbA (wpAny_mono h₃ (fun x s₄ h₄=>qbA (wpAny_mono h₄ (fun _ s₅ h₅=>qcA (qcA ⟨rfl,h₅⟩)) fun _ _ h'=>h'.elim)) fun x s h'=>hE x s h'))
theorem Oa {scope:Scope}{x:Str}{px pos:Pos}{elt iter:Expr}{ifs:List Expr}{cn:List Str}{cap:List Nat}{s2:Shared}{H2:Hp}{it:Addr}{fp:List Addr}{tn:Nat->Heap->Prop}{J:It}{tc:TT}{te:TE}{Q:VK}{RR:Value->Addr->Result->Shared->Prop}{E:Value->Shared->Prop}{Ex:XK}
  (S:CompScope X scope) (I2:Inv X pins σ H2 s2) (hc:X.calm=true) (hcap:Caps X scope cn cap) (hx:scope.names.lookup x=some .local) (hnd:(x::cn).Nodup)
  (T:Turn X.prog X.w X.K (.Name x px) J fp it tn) (st2:tn 0 s2.heap) (f2:∀ b∈fp,Hg X pins H2 b)
  (body:∀ (C:Addr) (s:Shared) (H:Hp) (fp:List Addr),PTs (BG X (x::cn) scope C s H fp) ifs tc/\PE (Gk X (x::cn) scope C s H fp Ex) elt te)
  (q:∀ p,H2 p=none->∃ W:Nat->Nat->List V->Hp->Prop,(∃ m,W 0 m [] (upd H2 p (.lst [])))/\∀ i m xs H3,W i m xs H3 ->
   (J.stop i H3/\Q (.ref p) H3)\/(J.go i H3/\∃ N:List V->Hp->Prop,(∀ xs' H',N xs' H'->∃ m',m'<m/\W (i+1) m' xs' H') /\
    ∀ v H4,J.yld i H3 v H4->tc ((C7 cap σ).set 0 (some v)) H4 fun b H5=>if b=true then te ((C7 cap σ).set 0 (some v)) H5 fun v H6=>H6 p=some (.lst xs)/\xs.length<sizeLine/\N (xs++[v]) (upd H6 p (.lst (xs++[v]))) else N xs H5))
  (hRR:∀ (p C:Addr) (s3 s':Shared) (H3 Hf:Hp) (σ':St),Inv X pins σ H3 s3->s3.heap.objs.size=C->Inv (BG X (x::cn) scope C s3 H3 fp) [] σ' Hf s'->Q (.ref p) Hf->RR (.ref p) C (.ok .next) s')
  (hRX:∀ (p C:Addr) (s3 s':Shared) (H3:Hp) (ev:Value),Inv X pins σ H3 s3->s3.heap.objs.size=C->(∀ b∈fp,Hg X pins H2 b)->(Gk X (x::cn) scope C s3 H3 fp Ex).xe ev s'->notedBy (model X.prog X.w) X.A (compEnvC scope (Gw scope X.env) C X.env) (fun z s''=>RR (.ref p) C (.error z) s'') ev s') :
  wpAny (model X.prog X.w) X.A (newList []) (fun acc s₃=>wpAny (model X.prog X.w) X.A (newFunctionEnv scope X.env.globals (Gw scope X.env) [] X.env.qual none .none (some X.env)) (fun cenv s₄ =>
   codeAny (model X.prog X.w) X.A (.compStart (.ListComp elt [⟨.Name x px,iter,ifs,0⟩] scope pos) 0 (.ref it) acc { cenv with scope:=relabel scope X.env }) (RR acc cenv.locals) s₄) E s₃) E s2:=by
 refine wpAny_newObj_type (wpAny_newFunctionEnv S.cell (by intro y hy;simp at hy) (fun h₁ hns₁ hsb₁=>?_) S.kind);dsimp only at hns₁ hsb₁ ⊢;have hfr:H2 s2.heap.objs.size=none:=I2.hok.fresh (qcB _);obtain ⟨W,⟨m0,w0⟩,turn⟩:=q _ hfr
 have I3:Inv X pins σ (upd H2 s2.heap.objs.size (.lst [])) { s2 with heap:=s2.heap.push { cls:=.type "list",data:=.seq ([]:List Value).toArray } } :=
  I2.lnew (its:=[]) (t':=s2.toks) .nil (qdC _)
 generalize hs3:({ s2 with heap:=s2.heap.push { cls:=.type "list",data:=.seq ([]:List Value).toArray } }:Shared)=s3 at I3;have hs3h:s3.heap=s2.heap.push { cls:=.type "list",data:=.seq ([]:List Value).toArray }:=by rw [<- hs3]
 have hst3:tn 0 s3.heap:=T.keep _ _ _ st2 fun b hb o e=>by rw [hs3h];exact qiB _ e
 have ltf:∀ b∈fp,b<s3.heap.objs.size:=fun b hb=>by
  obtain ⟨o,e,_⟩:=T.obj _ _ hst3 b hb;exact qhB e
 have hC:(s2.heap.push { cls:=.type "list",dict:=none,data:=.seq ([]:List Value).toArray }).objs.size=s3.heap.objs.size:=by rw [hs3h]
 rw [hC] at hns₁ hsb₁ ⊢
 have keep:∀ b o,s3.heap.get? b=some o->h₁.get? b=some o:=fun b o e=>by
  refine hsb₁.extBut b o (qxB (qhB e)) (qiB _ ?_);rw [hs3h] at e;exact e
 have J4:Inv (BG X (x::cn) scope s3.heap.objs.size s3 (upd H2 s2.heap.objs.size (.lst [])) fp) [] (C7 cap σ) (upd H2 s2.heap.objs.size (.lst [])) { s3 with heap:=h₁,toks:=s2.toks+([]:List (Str × Value)).length } :=
  KR S I3 hc hcap f2 ltf keep hns₁
 have st4:tn 0 h₁:=T.keep _ _ _ hst3 fun b hb o e=>keep b o e
 have fr4:∀ b∈fp,(upd H2 s2.heap.objs.size (.lst [])) b=none:=fun b hb=>by
  obtain ⟨o,e,_⟩:=T.obj _ _ st2 b hb;rw [Af (qxB (qhB e))];exact (f2 b hb).1
 have hst:({ s2 with heap:=h₁,toks:=s2.toks+([]:List (Str × Value)).length }:Shared) = { s3 with heap:=h₁,toks:=s2.toks+([]:List (Str × Value)).length }:=by rw [<- hs3]
 have loop:codeAny (model X.prog X.w) X.A (.compLoop (.ListComp elt [⟨.Name x px,iter,ifs,0⟩] scope pos) 0 (.ref it) (.ref s2.heap.objs.size) (compEnvC scope (Gw scope X.env) s3.heap.objs.size X.env))
   (RR (.ref s2.heap.objs.size) s3.heap.objs.size) { s2 with heap:=h₁,toks:=s2.toks+([]:List (Str × Value)).length }:=by
  rw [hst];generalize hX':BG X (x::cn) scope s3.heap.objs.size s3 (upd H2 s2.heap.objs.size (.lst [])) fp=X' at J4
  have hfpk:∀ {Hc:Hp},(∀ b∈fp,Hc b=none)->∀ b∈fp,Hg X' [] Hc b:=fun {Hc} hn b hb=>by
   subst hX';refine ⟨hn b hb,(J4.ok.exf b hb).1,J4.ok.exfs b hb,.inl hb,(J4.ok.exf b hb).2,fun p hp=>absurd (show p∈([]:List (Addr × Obj)) from hp) (by simp)⟩
  refine Ky (E1:=(Gk X (x::cn) scope s3.heap.objs.size s3 (upd H2 s2.heap.objs.size (.lst [])) fp Ex).xe) (hE:=fun ev s' h'=>hRX _ _ s3 s' _ ev I3 rfl f2 h') (I:=fun n s'=>∃ i xs Hc,Inv X' [] (C7 cap σ) Hc s'/\tn i s'.heap/\(∀ b∈fp,Hc b=none)/\W i n xs Hc) ?_ m0 ⟨0,[],_,J4,st4,fr4,w0⟩;rintro n s5 ⟨i,xs,Hc,I5,st5,fr5,w5⟩;have B:=body s3.heap.objs.size s3 (upd H2 s2.heap.objs.size (.lst [])) fp;rcases turn i n xs Hc w5 with ⟨stop,qn⟩ | ⟨go,N,hN,step⟩
  ·subst hX';refine thn (T.done (BG X (x::cn) scope s3.heap.objs.size s3 (upd H2 s2.heap.objs.size (.lst [])) fp) rfl rfl rfl rfl i [] s5 (C7 cap σ) Hc (fun _ _=>False) I5 (hfpk fr5) st5 stop) fun r s6 ⟨hr,I6⟩=>?_;subst hr;exact hRR _ _ s3 s6 _ Hc _ I3 rfl I6 qn
  ·subst hX';refine thn (T.item (BG X (x::cn) scope s3.heap.objs.size s3 (upd H2 s2.heap.objs.size (.lst [])) fp) rfl rfl rfl rfl i [] s5 (C7 cap σ) Hc (fun _ _=>False) I5 (hfpk fr5) st5 go) fun r s6 ⟨u,hr,h6⟩=>?_;subst hr;refine thn h6 fun _ s7 ⟨v,H7,I7,r7,y7,st7,fr7⟩=>?_;have I7':=I7.pinned (hfpk fr7) (T.obj _ _ st7);have hlook:(relabel scope X.env).names.lookup x=some .local := lookup_relabel_local hx;refine wpAny_assign_Name (GK (X:=BG X (x::cn) scope s3.heap.objs.size s3 (upd H2 s2.heap.objs.size (.lst [])) fp) I7' (i:=0) hnd rfl (.inl hlook) r7 (fun s8 I8=>?_) (.inr hlook))
   have again:∀ {s9:Shared}{H9:Hp}{ys:List V},Inv (BG X (x::cn) scope s3.heap.objs.size s3 (upd H2 s2.heap.objs.size (.lst [])) fp) ([]++Ij fp s7.heap) ((C7 cap σ).set 0 (some v)) H9 s9->N ys H9 ->
     ∃ m,m<n/\∃ i xs Hc,Inv (BG X (x::cn) scope s3.heap.objs.size s3 (upd H2 s2.heap.objs.size (.lst [])) fp) [] (C7 cap σ) Hc s9/\tn i s9.heap/\(∀ b∈fp,Hc b=none)/\W i m xs Hc:=fun {s9 H9 ys} I9 n9=>by
    obtain ⟨m',hm,w9⟩:=hN ys H9 n9;refine ⟨m',hm,i+1,ys,H9,(I9.unpinned (pins:=[])).weak (by simp [C7]) (fun j w e=>?_),T.keep _ _ _ st7 fun b hb o e=>(I9.pin (b,o) (qaC _ (qaC _ (DX hb e)))).1,fun b hb=>?_,w9⟩
    ·cases j with
     | zero =>
      have e:(some none:Option (Option V))=some (some w):=e;cases e
     | succ j=>exact e
    ·obtain ⟨o,e,_⟩:=T.obj _ _ st7 b hb;exact (I9.pin (b,o) (qaC _ (qaC _ (DX hb e)))).2.1
   refine thn (B.1 _ s8 _ H7 _ I8 (step v H7 y7)) fun ok s9 ⟨H9,I9,q9⟩=>?_
   cases ok with
   | false =>
    rw [if_neg qqB] at q9 ⊢;exact again I9 q9
   | true =>
    rw [if_pos rfl] at q9 ⊢;refine thn (B.2 _ s9 _ H9 _ (I9.wish _) q9) fun uy s10 ⟨y,H10,I10,r10,hp,hl,n10⟩=>?_;have I10:=I10.unwish;refine thn (Il _ s10 _ H10 (.ref s2.heap.objs.size) [y] (.ref s2.heap.objs.size) [uy] (fun _ H11=>N (xs++[y]) H11) I10 rfl (.cons r10 .nil) ⟨_,xs,y,rfl,rfl,hp,hl,n10⟩) fun _ s11 ⟨_,H11,I11,_,n11⟩=>?_;exact again I11 n11
 exact codeAny_compStart_list loop (T.self _ _ _ _ _ st4 loop)
theorem pe_compX {scope:Scope}{x:Str}{px pos:Pos}{elt iter:Expr}{ifs:List Expr}{cn:List Str}{cap:List Nat}{wi:TI}{tc:TT}{te:TE}
  {Ex:XK}(L:Lets X fun _=>Ex) (hst:X.stack=X.env::X.outer) (hfm:X.env.frame=some X.env.locals) (hc:X.calm=true) (S:CompScope X scope) (hx:scope.names.lookup x=some .local) (hnd:(x::cn).Nodup) (hcap:Caps X scope cn cap) (hi:PI X (.Name x px) iter wi)
  (body:∀ (C:Addr) (s:Shared) (H:Hp) (fp:List Addr),PTs (BG X (x::cn) scope C s H fp) ifs tc/\PE (Gk X (x::cn) scope C s H fp Ex) elt te)
  (hs:∀ x,foldedSetIterable iter X.env x=pure x:=by intro _;rfl):PE X (.ListComp elt [⟨.Name x px,iter,ifs,0⟩] scope pos) (M7 cap wi tc te):=by
 intro pins s σ H Q I h;rw [eval_ListComp];refine wpAny_comprehension_free (use:=none) rfl hs (S.clos I) S.kind S.names (thn (hi pins s σ H _ I h) fun xv s1 h1=>thn h1 fun itv s2 h2=>?_);obtain ⟨it,fp,tn,J,H2,e,I2,T,st2,f2,q⟩:=h2;subst e;refine Oa (RR:=fun acc C=>compPost (model X.prog X.w) X.A X.xe none (EP X pins σ Q) acc C) S I2 hc hcap hx hnd T st2 f2 body q ?_ (fun p C s3 s' H3 ev I3 hC f2 hx=>Qi L hst hfm I3 hC f2 hx);intro p C s3 s' H3 Hf σ' I3 hC J' qf;subst hC;have I4:=IG I3 J' f2;obtain ⟨m,hn,_⟩:=J'.loc;refine ⟨m,hn,fun h' hs'=>?_⟩;refine ⟨.ref p,Hf,?_,rfl,qf⟩;have f:=I3.fpOk (H':=Hf) (qcB _) J'.free;exact I4.turned (t':=s'.toks) (it:=s3.heap.objs.size) (fun b o hb e=>(hs'.2 b hb).trans e) f.1 f.2.1 f.2.2.2.1 f.2.2.2.2.1 f.2.2.2.2.2
end
abbrev Cx.tr (X:Cx)(pn:List (Addr × Obj))(xe:Value->Shared->Prop):Cx:={ X with pn:=pn,xe:=xe }
abbrev Cx.han (X:Cx)(pn:List (Addr × Obj))(ea:Addr):Cx:={ X with pn:=pn,xe:=fun _ _=>False,A:=X.A.mark (some (.ref ea)),calm:=false }
def Exo (ea:Addr)(cls:Value):HO:=.ext fun h=>∃ oe vs,h.get? ea=some oe/\oe.cls=cls/\oe.dict=none/\oe.data = .fields vs
def gone (i:Nat)(D:Ends):Ends:={ nx:=fun σ H=>D.nx (σ.set i none) H,rt:=D.rt,bk:=fun σ H=>D.bk (σ.set i none) H,ct:=fun σ H=>D.ct (σ.set i none) H }
def tTry (K:FZ9)(C0:Addr)(i:Nat)(tb:(St->XK)->TS)(th:TS):TS:=fun D σ H =>
 tb (fun σ' cls _ H'=>PySem.W.exmOne K cls (.ref C0)=some true/\∀ ea,H' ea=none->th (gone i D) (σ'.set i (some (.ref ea))) (upd H' ea (Exo ea cls))) D σ H
section
variable {X:Cx}{pins:List (Addr × Obj)}{σ:St}{H:Hp}{s:Shared}{xe:Value->Shared->Prop}{ea:Addr}
theorem Inv.toTr (I:Inv X pins σ H s):Inv (X.tr (X.pn++pins) xe) [] σ H s :=
 ⟨⟨I.ok.mod,I.ok.kind,I.ok.glob,I.ok.blt,I.ok.above,I.ok.inj,I.ok.has,I.ok.cab,I.ok.hd,I.ok.frames,I.ok.stk,I.ok.exf,I.ok.bs,I.ok.bsz,I.ok.noex,I.ok.exfs,I.ok.funs,I.ok.frf⟩,I.os,I.bare,I.base,I.loc,I.cell,I.free,I.freeC,fun p hp=>I.pin p (by rw [qbB] at hp;exact hp),I.hok,I.len⟩
theorem Inv.ofTr {p2:List (Addr × Obj)}(I:Inv (X.tr (X.pn++pins) xe) p2 σ H s):Inv X pins σ H s :=
 ⟨⟨I.ok.mod,I.ok.kind,I.ok.glob,I.ok.blt,I.ok.above,I.ok.inj,I.ok.has,I.ok.cab,I.ok.hd,I.ok.frames,I.ok.stk,I.ok.exf,I.ok.bs,I.ok.bsz,I.ok.noex,I.ok.exfs,I.ok.funs,I.ok.frf⟩,I.os,I.bare,I.base,I.loc,I.cell,I.free,I.freeC,fun p hp=>I.pin p (List.mem_append_left _ hp),I.hok,I.len⟩
theorem Inv.toHan (I:Inv X pins σ H s):Inv (X.han (X.pn++pins) ea) [] σ H s :=
 ⟨⟨I.ok.mod,I.ok.kind,I.ok.glob,I.ok.blt,I.ok.above,I.ok.inj,I.ok.has,I.ok.cab,fun z=>(nomatch z),I.ok.frames,I.ok.stk,I.ok.exf,I.ok.bs,I.ok.bsz,I.ok.noex,I.ok.exfs,I.ok.funs,I.ok.frf⟩,I.os,I.bare,I.base,I.loc,I.cell,I.free,I.freeC,fun p hp=>I.pin p (by rw [qbB] at hp;exact hp),I.hok,I.len⟩
theorem Inv.ofHan {p2:List (Addr × Obj)}(ok:X.Ok)(I:Inv (X.han (X.pn++pins) ea) p2 σ H s):Inv X pins σ H s :=
 ⟨ok,I.os,I.bare,I.base,I.loc,I.cell,I.free,I.freeC,fun p hp=>I.pin p (List.mem_append_left _ hp),I.hok,I.len⟩
theorem SP.ofTr {D:Ends}{f:Flow}{s':Shared}(h:SP (X.tr (X.pn++pins) xe) [] D f s'):SP X pins D f s':=by
 cases f with
 | next=>obtain ⟨σ',H',I,q⟩:=h;exact ⟨σ',H',I.ofTr,q⟩
 | brk=>obtain ⟨σ',H',I,q⟩:=h;exact ⟨σ',H',I.ofTr,q⟩
 | cont=>obtain ⟨σ',H',I,q⟩:=h;exact ⟨σ',H',I.ofTr,q⟩
 | ret u=>obtain ⟨v,σ',H',I,r,q⟩:=h;exact ⟨v,σ',H',I.ofTr,r,q⟩
theorem Inv.gone {M:Model}{A:Around}{E:Value->Shared->Prop}{i:Nat}{n:Str}{pos:Pos}{Q:Unit->Shared->Prop}(I:Inv X pins σ H s)(hN:X.N.Nodup)(hi:X.N[i]? = some n)(hl:X.env.scope.names.lookup n=some .local)
  (h:∀ s',Inv X pins (σ.set i none) H s'->Q () s'):wpAny M A (do bindName X.env n .none;unbindBehindTheSuite X.env n pos) Q E s:=by
 obtain ⟨m,hn,hlk⟩:=id I.loc;refine wpAny_nameGoes_keeps hl hn (by rw [I.ok.kind];rfl) fun h' v hn' sb=>h _ ?_
 have I1:=I.weak (σ':=σ.set i none) (by simp) fun j w e=>by
  by_cases hj:i=j
  ·subst hj;rw [List.getElem?_set] at e;simp at e
  ·rwa [List.getElem?_set_ne hj] at e
 obtain ⟨oL,_,_,hoL,_⟩:=id hn;have nL:∀ b o,X.s₀.heap.get? b=some o->b≠X.env.locals:=fun b o e=>qxB (qzB (qhB e) I.ok.above);refine ⟨I.ok,I.os,I.bare,⟨fun b o e n hb hx=>(sb.2 b (nL b o e)).trans (I.base.keep b o e n hb hx),fun b o e n hb hx=>?_,I.base.free,fun b o e hx=>?_,I.base.tups,I.base.frzs,I.base.tbls⟩,⟨_,hn',fun j y w e1 e2 e3=>?_⟩,fun y c e=>?_,I.free,I.freeC,fun p hp=>?_,fun a o e=>?_,I1.len⟩
 ·obtain ⟨sl,e1⟩:=I.base.slot b o e n hb hx;exact ⟨sl,(sb.2 b (nL b o e)).trans e1⟩
 ·obtain ⟨o',e1⟩:=I.base.there b o e hx;exact ⟨o',(sb.2 b (nL b o e)).trans e1⟩
 ·have hj:j≠i:=fun z=>by
   subst z;rw [List.getElem?_set] at e2;simp at e2
  rw [List.getElem?_set_ne (Ne.symm hj)] at e2;obtain ⟨u,r,l⟩:=hlk j y w e1 e2 e3;refine ⟨u,r,?_⟩;rcases l with ⟨k,q⟩ | ⟨k,c,q,z⟩
  ·refine .inl ⟨k,?_⟩;have:y≠n:=fun z=>hj (K5 hN e1 (z ▸ hi));simp [this,q]
  ·exact .inr ⟨k,c,q,z.sameBut sb (I.cne y c q)⟩
 ·obtain ⟨w,z⟩:=I.cell y c e;exact ⟨w,z.sameBut sb (I.cne y c e)⟩
 ·obtain ⟨e,n,ne,nf,d⟩:=I.pin p hp;exact ⟨(sb.2 p.1 ne).trans e,n,ne,nf,d⟩
 ·refine (I.hok a o e).stay (fun b u hb q=>(sb.2 b ?_).trans q) (fun _ q=>q) fun _ _ q=>q;rintro rfl;have:=I.free;rcases hb with z|hb
  ·rw [z,e] at this;cases this
  ·rw [hb] at this;cases this
theorem Inv.track {a:Addr}{o:HO}(I:Inv X [] σ H s)(f:Fr0 X H a)(fl:Od s.heap a)(new:ObjOk X.prog X.w (upd H a o) s.heap a o):Inv X [] σ (upd H a o) s:=by
 have ne:∀ b u,H b=some u->b≠a:=fun b u e z=>by rw [z,f.1] at e;cases e
 have nL:X.env.locals≠a:=fun z=>by
  obtain ⟨ob,vs,e,hd⟩:=fl;obtain ⟨m,⟨o',es,ep,e',hd',_⟩,_⟩:=I.loc;rw [z,e] at e';cases e';rw [hd] at hd';cases hd'
 have nC:∀ x k,X.env.cells.lookup x=some k->k≠a:=fun x k q z=>by
  obtain ⟨ob,vs,e,hd⟩:=fl;obtain ⟨v,o',e',hd'⟩:=I.cell x k q;rw [z,e] at e';cases e';rw [hd] at hd';cases hd'
 refine ⟨I.ok,I.os,I.bare,⟨I.base.keep,I.base.slot,fun b ob e n hx=>?_,I.base.there,fun b xs e=>?_,fun b ob u e=>?_,fun b ps e=>?_⟩,I.loc,I.cell,?_,fun x k q=>?_,fun p hp=>?_,fun b u e=>?_,I.len⟩
 ·have hb:b≠a:=fun z=>by
   subst z;exact hx (f.2.1 ob e)
  rw [Af hb];exact I.base.free b ob e n hx
 ·have:=I.base.tups b xs e;rw [Af (ne b _ this)];exact this
 ·have:=I.base.frzs b ob u e;rw [Af (ne b _ this)];exact this
 ·obtain ⟨m,z⟩:=I.base.tbls b ps e;exact ⟨m,by rw [Af (ne b _ z)];exact z⟩
 ·rw [Af nL];exact I.free
 ·rw [Af (nC x k q)];exact I.freeC x k q
 ·obtain ⟨e,n,n2,nf,d⟩:=I.pin p hp;rw [qbB] at hp;exact ⟨e,by rw [Af (f.2.2 p hp)];exact n,n2,nf,d⟩
 ·by_cases hb:b=a
  ·subst hb;rw [AQ] at e;cases e;exact new
  ·rw [Af hb] at e;exact (I.hok b u e).stay (fun c v _ q=>q) (fun c q=>by rw [Af (ne c _ q)];exact q) fun c xs q=>by rw [Af (ne c _ q)];exact q
theorem ps_try {x n:Str}{C0:Addr}{i:Nat}{body:List Stmt}{b₀:Stmt}{suite:List Stmt}{tb:(St->XK)->TS}{th:TS}{np hpos pos:Pos}
  (hst:X.stack=X.env::X.outer) (hfm:X.env.frame=some X.env.locals) (hx:Gl X x) (hm:X.mg x=some (.ref C0)) (hN:X.N.Nodup) (hi:X.N[i]? = some n) (hl:X.env.scope.names.lookup n=some .local)
  (hb:∀ pn' xe' E,Lets (X.tr pn' xe') E->PSs (X.tr pn' xe') body (tb E)) (hh:∀ pn' ea,PSs (X.han pn' ea) (b₀::suite) th) (hd:(x == ("__debug__" : Str))=false:=by decide) :
  PS X (.Try body [.ExceptHandler (some (.Name x np)) (some n) (b₀::suite) hpos] [] [] pos) (tTry X.K C0 i tb th):=by
 intro pins s σ H D I h;refine wpAny_Try_except ?_
 let Eh:St->XK:=fun σ' cls _ H'=>PySem.W.exmOne X.K cls (.ref C0)=some true/\∀ ea,H' ea=none->th (gone i D) (σ'.set i (some (.ref ea))) (upd H' ea (Exo ea cls))
 let xt:Value->Shared->Prop:=fun ev s'=>∃ σ' H' ea cls,ev = .ref ea/\Inv X pins σ' H' s'/\ExA (Fr0 (X.tr (X.pn++pins) fun _ _=>False) H') s'.heap ea cls/\Eh σ' cls none H'
 have hL:Lets (X.tr (X.pn++pins) xt) Eh:=fun σ' H' s' ea cls I' xa q=>⟨σ',H',ea,cls,rfl,I'.ofTr,xa,q⟩;refine wpAny_mono (hb (X.pn++pins) xt Eh hL [] s σ H D I.toTr h) (fun f s1 hs=>?_) fun ev s1 hx1=>?_
 ·have hs:=hs.ofTr
  cases f with
  | next =>
   obtain ⟨σ',H',I',q⟩:=hs;exact wpAny_execs_nil ⟨σ',H',I',q⟩
  | brk=>exact hs
  | cont=>exact hs
  | ret u=>exact hs
 ·obtain ⟨σ',H',ea,cls,rfl,I1,xa,hm1,hq⟩:=hx1;have J1:Inv (X.tr (X.pn++pins) fun _ _=>False) [] σ' H' s1:=I1.toTr;refine Kl (env:=X.env) (outer:=X.outer) (base:=X.base) (by rw [I1.ok.frames,hst]) (by have:=I1.stack;rwa [hst] at this) hfm hfm xa (fun b hb=>J1.newS hb) fun h2 c hc ch _ x2=>?_;rw [<- hst] at ch;have J2:=J1.chg hc ch;refine FY (fr:=frs X.stack) (s:={ s1 with heap:=h2 }) x2 fun h3 d hd3 ch3 _ x3=>?_;have J3:=J2.chg hd3 ch3;have I3:Inv X pins σ' H' { s1 with heap:=h3 }:=J3.ofTr;have G3:Inv (X.han (X.pn++pins) ea) [] σ' H' { s1 with heap:=h3 }:=I3.toHan;refine wpAny_handleBy_cons (codeAny_handlers_test (Gn G3 hx hm ?_ hd)) (by intro q;cases q);obtain ⟨oe,vs,he,hcls,_⟩:=x3.2.choose_spec.2.2.1;have LT:PySem.W.Looks (model X.prog X.w) h3 (typeOf (.ref ea)) cls:=hcls ▸ (PySem.W.Looks.ld he).andThen .now;refine (PySem.W.exm_one (M:=model X.prog X.w) (h:=h3) I3.kIn LT hm1).here ?_;rw [if_pos rfl];refine codeAny_handlers_suite_as ?_;refine FY (fr:=frs X.stack) (s:={ s1 with heap:=h3 }) x3 fun h4 d4 hd4 ch4 _ x4=>?_;have J4:=J3.chg hd4 ch4;have I4:Inv X pins σ' H' { s1 with heap:=h4 }:=J4.ofTr;have G4:Inv (X.han (X.pn++pins) ea) [] σ' H' { s1 with heap:=h4 }:=I4.toHan;obtain ⟨oe4,vs4,he4,hcls4,hd4',_,hdi4⟩:=x4.2.choose_spec.2.2.1;have G4:Inv (X.han (X.pn++pins) ea) [] σ' (upd H' ea (Exo ea cls)) { s1 with heap:=h4 }:=G4.track x4.1 ⟨_,_,he4,hd4'⟩ ⟨⟨_,_,he4,hcls4,hdi4,hd4'⟩,⟨_,he4⟩,fun h1 h2 ⟨ob,vs,e1,e2⟩ k=>⟨ob,vs,k ob e1,e2⟩⟩;refine GK (X:=X.han (X.pn++pins) ea) (v:=V.ref ea) G4 (i:=i) hN hi (.inl hl) rfl (fun s5 G5=>?_) (.inr hl);refine wpAny_mono (hh (X.pn++pins) ea [] s5 _ _ (gone i D) G5 (hq ea x4.1.1)) (fun f s6 h6=>?_) fun _ _ z=>False.elim z;show wpAny _ X.A (do bindName X.env n .none;unbindBehindTheSuite X.env n hpos) (fun _ s₃=>SP X pins D f s₃) X.xe s6
  cases f with
  | next =>
   obtain ⟨σ6,H6,G6,q6⟩:=h6;exact (G6.ofHan I.ok).gone hN hi hl fun s7 I7=>⟨_,H6,I7,q6⟩
  | brk =>
   obtain ⟨σ6,H6,G6,q6⟩:=h6;exact (G6.ofHan I.ok).gone hN hi hl fun s7 I7=>⟨_,H6,I7,q6⟩
  | cont =>
   obtain ⟨σ6,H6,G6,q6⟩:=h6;exact (G6.ofHan I.ok).gone hN hi hl fun s7 I7=>⟨_,H6,I7,q6⟩
  | ret u =>
   obtain ⟨v,σ6,H6,G6,r6,q6⟩:=h6;exact (G6.ofHan I.ok).gone hN hi hl fun s7 I7=>⟨v,_,H6,I7,r6,q6⟩
end
end L2
namespace L2
open PySem PySem.Spec PyProof.Rows PySem.W
structure XKit (K:Frag)(D:Addr):Prop where
 cl:(clsIn K D).isSome=true
 ga:findIn K (.ref D) "__getattribute__" = some (some (.builtin "BaseException.__getattribute__"))
 gn:findIn K (.ref D) "__getattr__" = some none
 ca:findIn K (.ref D) "__class__" = some (some (.builtin "object.__class__"))
 hn:specialIn K (.builtin "object.__class__") "__get__" = some (some (.builtin "getset_descriptor.__get__"))
 tk:takesIn K (.builtin "object.__class__")=some true
 mo:mroIn K D (.type "object")=some true
 mb:mroIn K D (.type "BaseException")=some true
section
variable {prog:Program}{w:World}{K:Frag}{A:Around}{E:Value->Shared->Prop}{s:Shared}{x D:Addr}{ox:Obj}
theorem Qg {nameV:Value}{Q:Unit->Shared->Prop}(Z:XKit K D)(X:K.In s.heap)(I:InstAt s.heap x ox D none)(hq:Q () s) :
  wpAny (model prog w) A (checkBuiltinCall "BaseException.__getattribute__" ⟨[.ref x,nameV],[]⟩) Q E s:=by
 have hk:builtinKind "BaseException.__getattribute__" = some .slot:=by decide +kernel
 have hsplit:splitId "BaseException.__getattribute__" = some ("BaseException","__getattribute__"):=by decide +kernel
 have ha:=F.args_bexc_ga (.ref x) nameV;obtain ⟨hh,g,d,t,os⟩:=s;have L0:=I.type (M:=model prog w);have L1:=looks_mroIn (M:=model prog w) X Z.mb;simp only [checkBuiltinCall,hk,hsplit];refine qbA ?_;unfold isInstance
 repeat (any_goals (first|assumption|lk|wp_step))
theorem exc_ca {Q:Option Value->Shared->Prop}(Z:XKit K D)(X:K.In s.heap)(I:InstAt s.heap x ox D none)(h:Q (some (.ref D)) { s with toks:=s.toks+1 }):wpAny (model prog w) A (getAttr? (.ref x) "__class__") Q E s:=by
 have hf:findObj K D none "__class__" = some (.bind (.builtin "getset_descriptor.__get__") (.builtin "object.__class__")):=by
  obtain ⟨cd,hc⟩:=Option.isSome_iff_exists.mp Z.cl;unfold findObj;rw [hc,Option.bind_some,Z.ca,Option.bind_some];simp [Z.hn,Z.tk]
 obtain ⟨hh,g,d,t,os⟩:=s;have L0:=I.type (M:=model prog w);have L1:=looks_findIn (M:=model prog w) X Z.ga;have L2:=looks_findIn (M:=model prog w) X Z.gn;unfold getAttr? getAttrBy? getAttrBy;refine qbA (wpAny_mkText (qbA (wpAny_attempt (qdA (qbA (L0.at (qbA (L1.at ?_))))))));show wpAny _ _ (getAttrByItsOwn _ _ _ _ _ _) _ _ _;unfold getAttrByItsOwn;refine qbA (L2.at ?_);refine qbA (wpAny_attempt (qdA ?_));show wpAny _ _ (boundAndCalled _ _ _) _ _ _;unfold boundAndCalled;refine qbA (wpAny_of_eq (F.excAttr_ValueError.ga.bind (.ref x)) ?_);show wpAny _ _ (call (.builtin "BaseException.__getattribute__") [.ref x,.str "__class__" t]) _ _ _;refine wpAny_call (codeAny_call_builtin F.excAttr_ValueError.ga.plain F.entry_bexc_ga (Qg Z X I ?_));have X':K.In (⟨hh,g,d,t+1,os⟩:Shared).heap:=X;have I':InstAt (⟨hh,g,d,t+1,os⟩:Shared).heap x ox D none:=I;have L3:=looks_find (M:=model prog w) X I hf;unfold Builtin.«object.__getattribute__»
 repeat (any_goals (first|assumption|lk|wp_step))
 refine wpAny_run ?_;refine class_get (s:=⟨hh,g,d,t+1,os⟩) (od:=none) X' I' Z.mo ?_;exact qcA (qcA (handed_on rfl (qcA h)))
end
section
variable {K:FZ9}{x D:Addr}
def ExAt (x D:Addr)(h:Heap):Prop:=∃ ox vs,h.get? x=some ox/\ox.cls = .ref D/\ox.dict=none/\ox.data = .fields vs
theorem ExAt.inst {h:Heap}(e:ExAt x D h):∃ ox,PySem.W.InstAt h x ox D none:=by
 obtain ⟨⟨c,d,dt,sl⟩,vs,e1,e2,e3,e4⟩:=e;dsimp only at e2 e3 e4;subst e2 e3 e4;exact ⟨_,e1,rfl,rfl,trivial⟩
theorem kitx_exc (Z:XKit K D):PySem.W.KitX K (.ref x) (.ref D) (ExAt x D) where
 ty:=fun _ _ _ p=>by
  obtain ⟨ox,I⟩:=p.inst;exact I.type
 it:=fun _ _ X _=>by
  obtain ⟨cd,hc⟩:=Option.isSome_iff_exists.mp Z.cl;unfold PySem.W.clsIn at hc;split at hc
  ·rename_i c' d' cd' sl' ho;intro A' Q' E' s' k q;unfold isType loadHead;exact qbA (wpAny_loadPart (k _ _ (X _ _ ho)) (qcA q))
  ·cases hc
 ne:=fun h tp dd its n sl X htp=>by
  obtain ⟨cd,hc⟩:=Option.isSome_iff_exists.mp Z.cl;refine Bool.eq_false_iff.mpr fun q=>?_;have e:D=tp:=Value.ref.inj (beq_iff_eq.mp q);subst e;unfold PySem.W.clsIn at hc;split at hc
  ·rename_i c' d' cd' sl' ho;have z:=(X _ _ ho).symm.trans htp;cases z
  ·cases hc
 ca:=fun X p k=>by
  obtain ⟨ox,I⟩:=p.inst;exact exc_ca Z X I k
end
def rInstX (K:FZ9):List V->Hp->VK->Prop:=fun vs H Q=>∃ ea D b c u,vs=[.ref ea,c]/\H ea=some (Exo ea (.ref D))/\XKit K D/\(∀ z,RelV c z->z=u)/\PySem.W.kitOne K (.ref D) u=some b/\Q (.bl b) H
theorem CG {X:Cx}{K:FZ9}(h:X.K=K):Cc X (.builtin "isinstance") (rInstX K):=by
 subst h;intro pins s σ H xs us Q I rv q;obtain ⟨ea,D,b,c,u,rfl,he,Z,hc,hk,q⟩:=q
 cases rv with
 | cons r1 rv=>cases rv with
  | cons r2 rv=>cases rv with
   | nil =>
    obtain rfl:=hc _ r2;rename_i w1 _;have e1:w1=Value.ref ea:=r1;subst e1;obtain ⟨p,_⟩:=I.hok ea _ he;exact PySem.W.kia_one (kitx_exc Z) I.kIn p hk (fun z=>nomatch z) fun tk=>⟨.bl b,H,I.tok tk,rfl,q⟩
structure DefE (P:Program)(w:World)(K:FZ9)(mg:Str->Option Value)(base:Heap)(x:Str)(k:Nat)(ps:List Str)(sp:Sp):Prop where
 ex:∃ f fd,FnOk P w K mg base (CXE P w) k f fd ps sp/\mg x=some (.ref f)/\quB K (.ref f)=true/\Binds K fd ps []
def O8 (sp:Sp)(E:St->XK)(t:TA):TE:=fun σ H Q=>t σ H fun vs H1=>sp vs H1 Q (E σ)
section
variable {X:Cx}{x:Str}{k j:Nat}{ps:List Str}{sp:Sp}{e:Expr}{es:List Expr}{t:TA}{p pos:Pos}{E:St->XK}
theorem Ea (F:DefE X.prog X.w X.K X.mg X.base x k ps sp)(hr:Room j X.A)(hj:k<=j)(hg:Gl X x)(L:Lets X E)(ha:PA X (e::es) t)(hdb:(x == ("__debug__" : Str))=false:=by decide)
  (he:starEach (e::es) X.env=(false,eval e X.env)::starEach es X.env:=by rfl) (hpl:(backTo pos (starEach es X.env)).any (·.1)=false:=by rfl) :
  PE X (.Call (.Name x p) (e::es) [] pos) (O8 sp E t):=by
 obtain ⟨f,fd,G,m,kp,b⟩:=F.ex;intro pins s σ H Q I h;refine wpAny_Call_Name_kw (Gn I hg m ?_ hdb);refine PySem.W.callWith_K (h₀:=X.base) I.ok.mod.kin kp (thn (ha pos pins s σ H _ I h) fun us s1 ⟨vs,H1,I1,r,q⟩=>⟨I1.kIn,?_⟩) he hpl;have hl:us.length=ps.length:=by rw [<- r.length];exact G.len _ _ _ _ q
 have bb:=b s1 us I1.kIn (by rw [qbB];exact hl);rw [qbB] at bb;refine wpAny_call (codeAny_mono (G.run X.A X.stack s1 H1 ⟨us,[]⟩ us vs Q (E σ) (hr.mono hj) I1.env0 bb r q) fun r' s' hq=>?_)
 cases r' with
 | error e=>exact L.passes pins σ H1 s1 e s' I1 hq
 | ok fl =>
  cases fl with
  | ret u=>exact I1.after hq
  | next=>exact False.elim hq
  | brk=>exact False.elim hq
  | cont=>exact False.elim hq
end
theorem DIn.okE {P:Program}{w:World}{K:FZ9}{mg:Str->Option Value}{base:Heap}{x:Str}{st:Stmt}{N ps:List Str}{k:Nat}{sp:Sp}(Z:DIn K mg x st)(S:FnScope N ps (AE st))(b:BnO x st ps)(len:∀ vs H Q E,sp vs H Q E->vs.length=ps.length)
  (hbody:∀ (f:Addr) (cdv:Value) (A:Around) (outer:List Env) (s:Shared) (H:Hp) (vs:List V) (Q:VK) (E:XK),Room k (A.deeper (envOfC x (AE st) s.heap.objs.size f cdv))->sp vs H Q E ->
   ∃ t,PSs (JG (CXE P w) P w K mg base N x (AE st) f cdv A outer s H E) (CW st) t/\t { nx:=fun _ H'=>Q .non H',rt:=Q } (start N vs) H):DefE P w K mg base x (k+1) ps sp:=by
 obtain ⟨f,fd,a,F⟩:=Z.ex;have bb:=F.binds b;obtain ⟨oc,od,kV,doc,pm,an,cdv,ct,osl,rfl,lk,hcd⟩:=F.ex;exact ⟨f,_,fn_of lk hcd S len fun A outer s H vs Q E hr hsp=>hbody f cdv A outer s H vs Q E hr hsp,a,F.kp,bb⟩
theorem DefE.to0 {P:Program}{w:World}{K:FZ9}{mg:Str->Option Value}{base:Heap}{x:Str}{ps:List Str}{k:Nat}{sp sp':Sp}(D:DefE P w K mg base x k ps sp)(h:∀ vs H Q E,sp' vs H Q E->sp vs H Q E0):DefOk P w K mg base x k ps sp':=by
 obtain ⟨f,fd,G,m,kp,b⟩:=D.ex;refine ⟨f,fd,⟨fun vs H Q E q=>G.len _ _ _ _ (h _ _ _ _ q),fun A outer s H args us vs Q E hr he hb hv hs=>codeAny_mono (G.run A outer s H args us vs Q E0 hr he hb hv (h _ _ _ _ hs)) fun r s' hq=>?_⟩,m,kp,b⟩
 cases r with
 | error e =>
  obtain ⟨_,_,_,_,_,_,_,_,_,z⟩:=hq;exact z.elim
 | ok fl=>cases fl<;>exact hq
def Lm {ρ:Type}(r:Except Str ρ)(P:ρ->Prop)(R:Str->Prop):Prop:=match r with
 | .ok b=>P b
 | .error n=>R n
section
variable {K:FZ9}{mg:Str->Option Value}{σ:St}{G H:Hp}{α β:Type}[Rp α][Rp β]{te t0:TE}{E:St->XK}
def Raises (mg:Str->Option Value)(E:XK)(nm:Str)(G H:Hp):Prop:=∀ D G2 H2,mg nm=some (.ref D)->Ext G H G2 H2->E (.ref D) none H2
def spX (K:FZ9)(mg:Str->Option Value){A:Type}[RpA A]{ρ:Type}[Rp ρ](m:A->Option (Except Str ρ)):Sp:=fun vs H Q E =>
 ∃ G a r,Same G H/\RpA.rel K G vs a/\m a=some r/\Lm r (fun b=>∀ v G2 H2,Ext G H G2 H2->Rp.rel K G2 v b->Q v H2) fun nm=>Raises mg E nm G H
theorem Hz {A:Type}[RpA A]{ρ:Type}[Rp ρ]{m:A->Option (Except Str ρ)}{vs:List V}{H:Hp}{Q:VK}{E:XK}(h:spX K mg m vs H Q E):vs.length=RpA.n A:=by
 obtain ⟨G,a,r,_,h,_⟩:=h;exact RpA.len h
def EVX (K:FZ9)(mg:Str->Option Value)(E:St->XK){α:Type}[Rp α](te:TE)(σ:St)(G:Hp)(m:Option (Except Str α)):Prop :=
 ∀ G1,Same G G1->∀ r,m=some r->∀ H,Same G1 H->∀ Q:VK,Lm r (fun a=>∀ v G2 H2,Ext G1 H G2 H2->Rp.rel K G2 v a->Q v H2) (fun nm=>Raises mg (E σ) nm G1 H)->te σ H Q
theorem Raises.pre {E:XK}{nm:Str}{G1 H1:Hp}(r:Raises mg E nm G H)(x:Ext G H G1 H1):Raises mg E nm G1 H1:=fun D G2 H2 h y=>r D G2 H2 h (x.trans y)
theorem Cr {A0:Type}[Rp A0]{m0:Option A0}{m:A0 × Unit->Option (Except Str α)}(e0:EV K t0 σ G m0):EVX K mg E (O8 (spX K mg m) E (Am t0 Bm)) σ G (m0.bind fun a0=>m (a0,())):=by
 clear 7;obtain ⟨a0,ha0,hc⟩:=qaA.mp hc;refine e0 G1 s1 a0 ha0 H sH _ fun v0 G2 H2 x0 r0=>?_;refine ⟨G2,_,c,x0.gh,⟨v0,_,rfl,r0,rfl⟩,hc,?_⟩
 cases c with
 | ok b=>exact fun v G9 H9 x9 r=>k v G9 H9 (x0.trans x9) r
 | error nm=>exact Raises.pre k x0
theorem sx_drop {m:Option (Except Str α)}{r:Except Str α}{rest:TS}{D:Ends}(e:EVX K mg E te σ G m)(hm:m=some r)(s:Same G H)(k:Lm r (fun _=>∀ G2 H2,Ext G H G2 H2->rest D σ H2) fun nm=>Raises mg (E σ) nm G H):EE (Ft te) rest D σ H:=by
 refine e G (.refl G) r hm H s _ ?_
 cases r with
 | ok b=>exact fun v G2 H2 x _=>k G2 H2 x
 | error nm=>exact k
def LD {α β:Type}(f:α->Option (Except Str β)):List α->Option (Except Str (List β))
 | []=>some (.ok [])
 | a::as=>(f a).bind fun r=>match r with
  | .error n=>some (.error n)
  | .ok b=>(LD f as).bind fun rs=>match rs with
   | .error n=>some (.error n)
   | .ok bs=>some (.ok (b::bs))
end
structure RoomH (k:Nat)(A:Around):Prop where
 dp:A.depth+3 * k+5<recursionLimit
 un:A.units+16 * k+200<cLine
theorem Room.han {k:Nat}{A:Around}(r:Room k A)(h:Option Value):RoomH k (A.mark h):=⟨r.dp,r.un⟩
structure FnOkH (P:Program)(w:World)(K:FZ9)(mg:Str->Option Value)(base:Heap)(k:Nat)(f:Addr)(fd:FuncData)(ps:List Str)(sp:Sp):Prop where
 len:∀ vs H Q E,sp vs H Q E->vs.length=ps.length
 run:∀ (A:Around) (outer:List Env) (s:Shared) (H:Hp) (args:Args) (us:List Value) (vs:List V) (Q:VK),RoomH k A->Env0 P w K mg base A outer s H->BindsTo s fd args (ps.zip us)->Vals vs us->sp vs H Q E0 ->
  codeAny (model P w) A (.call (.ref f) args) (CR CX0 outer P w H s Q E0) s
abbrev cxH (P:Program)(w:World)(K:FZ9)(mg:Str->Option Value)(base:Heap)(N:List Str)(qual:Str)(scope:Scope)(f:Addr)(cd:Value)(A:Around)(outer:List Env)(s:Shared)(H:Hp):Cx :=
 { JG CX0 P w K mg base N qual scope f cd A outer s H E0 with xe:=fun _ _=>False,calm:=false }
structure DefH (P:Program)(w:World)(K:FZ9)(mg:Str->Option Value)(base:Heap)(x:Str)(k:Nat)(ps:List Str)(sp:Sp):Prop where
 ex:∃ f fd,FnOkH P w K mg base k f fd ps sp/\mg x=some (.ref f)/\quB K (.ref f)=true/\Binds K fd ps []
theorem DIn.okH {P:Program}{w:World}{K:FZ9}{mg:Str->Option Value}{base:Heap}{x:Str}{st:Stmt}{N ps:List Str}{k:Nat}{sp:Sp}(Z:DIn K mg x st)(S:FnScope N ps (AE st))(b:BnO x st ps)(len:∀ vs H Q E,sp vs H Q E->vs.length=ps.length)
  (hbody:∀ (f:Addr) (cdv:Value) (A:Around) (outer:List Env) (s:Shared) (H:Hp) (vs:List V) (Q:VK),sp vs H Q E0 ->
   ∃ t,PSs (cxH P w K mg base N x (AE st) f cdv A outer s H) (CW st) t/\t { nx:=fun _ H'=>Q .non H',rt:=Q } (start N vs) H):DefH P w K mg base x (k+1) ps sp:=by
 obtain ⟨f,fd,a,F⟩:=Z.ex;have bb:=F.binds b;obtain ⟨oc,od,kV,doc,pm,an,cdv,ct,osl,rfl,lk,hcd⟩:=F.ex;refine ⟨f,_,⟨len,fun A outer s H args us vs Q hr e0 hb r hsp=>?_⟩,a,F.kp,bb⟩;have hl:=len _ _ _ _ hsp;have KX:K.In s.heap:=e0.mod.kin.keeps fun b o e=>(e0.bs b o e).1;have lim:s.heap.NoLimit:=e0.mod.nolimit.keeps fun b o e=>(e0.bs b o e).1
 have hkind:∀ y∈ps.zip us,(AE st).names.lookup y.1=some .local \/ ((AE st).names.lookup y.1=some .cell/\((cellsFrom (s.heap.objs.size+1) (AE st).names []).lookup y.1).isSome=true):=fun ⟨n,v⟩ hy=>by
  rcases S.par n (List.of_mem_zip hy).1 with q|q
  ·exact .inl q
  ·exact .inr ⟨q,PySem.W.cellsFrom_some _ _ _ (.inl q)⟩
 refine codeAny_call_function (by have:=hr.dp;omega) (KX _ _ lk) rfl S.co S.gen rfl (PySem.W.codeRec_of KX hcd) (hb _ _ _ _ ?_);refine wpAny_newFunctionEnv_cells S.kind hkind fun env he s1 x1=>?_;subst he;refine ⟨lim.keeps x1.toInCall.keep,codeAny_func ?_⟩;obtain ⟨t,ht,hq⟩:=hbody f cdv A outer s H vs Q hsp;have I0:Inv (JG CX0 P w K mg base N x (AE st) f cdv { A with handled:=none } outer s H E0) [] (start N vs) H s1:=LN S rfl ⟨e0.frames,e0.mod,e0.bs,e0.bsz,e0.funs,e0.frf,e0.hok,e0.bare⟩ hl r x1
 have I:Inv (cxH P w K mg base N x (AE st) f cdv A outer s H) [] (start N vs) H s1 :=
  ⟨⟨I0.ok.mod,I0.ok.kind,I0.ok.glob,I0.ok.blt,I0.ok.above,I0.ok.inj,I0.ok.has,I0.ok.cab,fun z=>(nomatch z),I0.ok.frames,I0.ok.stk,I0.ok.exf,I0.ok.bs,I0.ok.bsz,I0.ok.noex,I0.ok.exfs,I0.ok.funs,I0.ok.frf⟩,I0.os,I0.bare,I0.base,I0.loc,I0.cell,I0.free,I0.freeC,I0.pin,I0.hok,I0.len⟩
 refine wpAny_mono (ht [] s1 (start N vs) H _ I hq) (fun fl s' hs=>?_) fun e s' hs=>False.elim hs
 have fin:∀ {σ':St}{H':Hp}{v:V}{u:Value},Inv (cxH P w K mg base N x (AE st) f cdv A outer s H) [] σ' H' s'->RelV v u->Q v H'->CE outer P w H s Q u s' :=
  fun {σ' H' v u} J rv q=>⟨v,H',J.os,J.bare,J.base,J.hok,rv,q⟩
 cases fl with
 | ret u =>
  obtain ⟨v,σ',H',J,rv,q⟩:=hs;exact fin J rv q
 | next =>
  obtain ⟨σ',H',J,q⟩:=hs;exact fin (v:=V.non) (u:=Value.none) J rfl q
 | brk =>
  obtain ⟨_,_,_,q⟩:=hs;exact False.elim q
 | cont =>
  obtain ⟨_,_,_,q⟩:=hs;exact False.elim q
section
variable {X:Cx}{x:Str}{k j:Nat}{ps:List Str}{sp:Sp}{e:Expr}{es:List Expr}{t:TA}{p pos:Pos}
theorem pe_defH (F:DefH X.prog X.w X.K X.mg X.base x k ps sp)(hr:RoomH k X.A)(hg:Gl X x)(ha:PA X (e::es) t)(hdb:(x == ("__debug__" : Str))=false:=by decide)
  (he:starEach (e::es) X.env=(false,eval e X.env)::starEach es X.env:=by rfl) (hpl:(backTo pos (starEach es X.env)).any (·.1)=false:=by rfl) :
  PE X (.Call (.Name x p) (e::es) [] pos) (Nu sp [] E0 t):=by
 obtain ⟨f,fd,G,m,kp,b⟩:=F.ex;intro pins s σ H Q I h;refine wpAny_Call_Name_kw (Gn I hg m ?_ hdb);refine PySem.W.callWith_K (h₀:=X.base) I.ok.mod.kin kp (thn (ha pos pins s σ H _ I h) fun us s1 ⟨vs,H1,I1,r,q⟩=>⟨I1.kIn,?_⟩) he hpl;have q:sp (vs++[]) H1 Q E0:=q;rw [qbB] at q;have hl:us.length=ps.length:=by rw [<- r.length];exact G.len _ _ _ _ q
 have bb:=b s1 us I1.kIn (by rw [qbB];exact hl);rw [qbB] at bb;refine wpAny_call (codeAny_mono (G.run X.A X.stack s1 H1 ⟨us,[]⟩ us vs Q hr I1.env0 bb r q) fun r' s' hq=>?_)
 cases r' with
 | error e=>exact False.elim hq
 | ok fl =>
  cases fl with
  | ret u=>exact I1.after hq
  | next=>exact False.elim hq
  | brk=>exact False.elim hq
  | cont=>exact False.elim hq
end
def rAbs:List V->Hp->VK->Prop:=fun xs H Q=>∃ i:Int,xs=[.int i]/\Q (.int (if i<0 then -i else i)) H
theorem Q5 {X:Cx}:Cc X (.builtin "abs") rAbs:=by
 intro pins s σ H vs us Q I r h;obtain ⟨i,rfl,q⟩:=h;obtain ⟨u,rfl,ru⟩:=Dh r;obtain ⟨t,rfl⟩:=ru;exact call_abs_int fun u tk=>⟨.int _,H,I.tok _,⟨_,rfl⟩,q⟩
theorem bt_abs:bootBuiltins "abs" = some (.builtin "abs"):=by decide +kernel
section
variable {K:FZ9}{σ:St}{G H G1 H1 G0 H0:Hp}{α β γ:Type}[Rp α][Rp β][Rp γ][RpC γ]{ta te:TE}{rest:TS}{D:Ends}{i:Nat}{v:V}{p:Addr}{cs:List (Option Addr)}
theorem ev_abs {ma:Option Int}(ea:EV K ta σ G ma):EV K (tCB rAbs (Am ta Bm)) σ G (ma.bind fun a=>some (if a<0 then -a else a)):=by
 clear 7;obtain ⟨a,ha,hc⟩:=qaA.mp hc;cases hc;refine ea G1 s1 a ha H sH _ fun v G2 H2 x r=>?_;obtain rfl:=r;exact ⟨a,rfl,k _ G2 H2 x rfl⟩
end
structure Exn where
 D:Addr
instance rpExn:Rp Exn:=⟨fun _ H v e=>∃ ea,v = .ref ea/\H ea=some (Exo ea (.ref e.D)),fun s ⟨ea,e,h⟩=>⟨ea,e,s _ _ h⟩⟩
section
variable {K:FZ9}{σ:St}{G H:Hp}{ta:TE}
theorem DG {D:Addr}{c:V}{u:Value}{b:Bool}(Z:XKit K D)(hk:PySem.W.kitOne K (.ref D) u=some b)(hc:∀ z,RelV c z->z=u)(ea:EV K ta σ G (some (Exn.mk D))):EV K (tCB (rInstX K) (Am ta (Am (tC c) Bm))) σ G (some b):=by
 intro G1 s1 a ha H sH Q k;cases ha;refine ea G1 s1 _ rfl H sH _ fun v G2 H2 x r=>?_;obtain ⟨ex,rfl,he⟩:=r;exact ⟨ex,D,b,c,u,rfl,x.gh _ _ he,Z,hc,hk,k _ G2 H2 x rfl⟩
end
theorem EW {a:Addr}:∀ z,RelV (.ref a) z->z = .ref a:=fun _ h=>h
theorem rel_ty {T:String}:∀ z,RelV (.ty T) z->z = .type T:=fun _ h=>h
theorem own_in {K:FZ9}{h:Heap}{mg:Str->Option Value}{x:Str}{C:Addr}{bm:List Value}{newId:String}(X:K.In h)(G:h.Ns mainGlobals mg)(e:qsB K mainGlobals x=some (some (.ref C)))(q:PySem.W.excIn K C bm newId=true):OwnCls x C bm newId mg h:=by
 refine ⟨qtB X G e,?_⟩;unfold PySem.W.excIn at q;split at q
 case h_2=>cases q
 rename_i dd cd sl ho;split at q
 case h_2=>cases q
 rename_i C' tl k0 k1 k2 k3 n k5 hm hs;simp only [qeC,beq_iff_eq,Bool.not_eq_true'] at q;obtain ⟨⟨⟨⟨⟨rfl,rfl⟩,hdel⟩,ht⟩,hok⟩,hni⟩:=q;obtain ⟨nm,bs,mro,ns,qn,hd,sn,sub,ab,col,del⟩:=cd;dsimp only at hm hdel hok hni;subst hm hdel;obtain ⟨l⟩:=sl;simp only at hs;subst hs;exact ⟨tl,ns,nm,qn,bs,hd,sn,sub,ab,col,dd,k0,k1,k2,k3,k5,_,X _ _ ho,.of_isNs (PySem.W.isNs_of_in X hok),PySem.W.nsMap_none_of_in X hok hni,PySem.W.tail_of_in X ht⟩
theorem L5:bootBuiltins "ValueError" = some (.type "ValueError"):=by decide +kernel
def XKits (K:FZ9)(D:Addr):Prop:=(∃ cd,PySem.W.clsIn K D=some cd)/\PySem.W.findIn K (.ref D) "__getattribute__" = some (some (.builtin "BaseException.__getattribute__"))/\PySem.W.findIn K (.ref D) "__getattr__" = some none /\
 PySem.W.findIn K (.ref D) "__class__" = some (some (.builtin "object.__class__"))/\PySem.W.specialIn K (.builtin "object.__class__") "__get__" = some (some (.builtin "getset_descriptor.__get__"))/\PySem.W.takesIn K (.builtin "object.__class__")=some true /\
 PySem.W.mroIn K D (.type "object")=some true/\PySem.W.mroIn K D (.type "BaseException")=some true
theorem XKits.to {K:FZ9}{D:Addr}(h:XKits K D):XKit K D :=
 let ⟨⟨cd,h1⟩,h2,h3,h4,h5,h6,h7,h8⟩:=h
 ⟨by rw [h1];rfl,h2,h3,h4,h5,h6,h7,h8⟩
section
variable {K:FZ9}{σ:St}{G H:Hp}{α:Type}[Rp α]{rest:TS}{D:Ends}
structure LoopObX (K:FZ9){α S ρ:Type}[Rp α](RR:ρ->V->Hp->Hp->Prop)(f:α->S->Option (Fl S ρ))(g:TG)(tb:TS)(D:Ends)(σ:St)(G2 H2:Hp)(as:List α)(s0:S)(res:Fl S ρ)(RS:S->St->Hp->Hp->Prop):Prop where
 start:RS s0 σ G2 H2
 keep:∀ s σ' G' H',RS s σ' G' H'->Same G2 G'/\Same G' H'
 step:∀ (x:V) (a:α) (s:S) (σ1:St) (G1 H1:Hp) (fl:Fl S ρ),a∈as->RS s σ1 G1 H1->Rp.rel K G1 x a->f a s=some fl->(∀ r,fl = .rt r->res = .rt r)->∀ D':Ends,(∀ s' σ' G' H',fl = .nx s'->RS s' σ' G' H'->D'.nx σ' H')->(∀ s' σ' G' H',fl = .nx s'->RS s' σ' G' H'->D'.ct σ' H') ->
  (∀ s' σ' G' H',fl = .bk s'->RS s' σ' G' H'->D'.bk σ' H')->(∀ r v G' H',fl = .rt r->RR r v G' H'->D'.rt v H')->g x σ1 H1 fun σ2 H2=>tb D' σ2 H2
 nxt:∀ s σ' G' H',res = .nx s->RS s σ' G' H'->D.nx σ' H'
 rtn:∀ r v G' H',res = .rt r->RR r v G' H'->D.rt v H'
theorem sv_forX {S ρ:Type}{RR:ρ->V->Hp->Hp->Prop}{f:α->S->Option (Fl S ρ)}{wi:TI}{g:TG}{tb:TS}{mi:Option (List α)}{as:List α}{s0:S}{res:Fl S ρ}(ei:IW K wi σ G mi)(hm:mi=some as)(hf:CK f as s0=some res)(sg:Same G H)
  (k:∀ G2 H2,Ext G H G2 H2->∃ RS,LoopObX K RR f g tb { D with nx:=rest D } σ G2 H2 as s0 res RS):EE (tFor wi g tb) rest D σ H:=by
 refine ei G (.refl G) as hm H sg _ fun J vs G2 H2 x2 Y hz pr=>?_;obtain ⟨RS,L⟩:=k G2 H2 x2;have hla:=Paired.length pr;refine ⟨fun i m σ' H'=>m=vs.length - i/\i<=vs.length/\∃ s G',RS s σ' G' H'/\CK f (as.drop i) s=some res,⟨vs.length,by simp,qdC _,s0,G2,L.start,hf⟩,?_⟩;rintro i m σ' H' ⟨rfl,hi,s,G',rs,hfo⟩;obtain ⟨k1,k2⟩:=L.keep _ _ _ _ rs;by_cases hlt:i<vs.length
 ·refine .inr ⟨Y.go i _ (k1.trans k2) hlt,fun σ'' H''=>∃ s' G'',RS s' σ'' G'' H''/\CK f (as.drop (i+1)) s'=some res,fun σ'' H'' ⟨s',G'',h⟩=>⟨vs.length - (i+1),by omega,rfl,hlt,s',G'',h⟩,fun x H3 y=>?_⟩;obtain ⟨rfl,hx⟩:=Y.yld i _ x H3 (k1.trans k2) hlt y;obtain ⟨a,hai,ra⟩:=Paired.getR pr hx
  have hd:as.drop i=a::as.drop (i+1):=by
   obtain ⟨h1,h2⟩:=quA.mp hai;rw [List.drop_eq_getElem_cons h1,h2]
  rw [hd] at hfo;obtain ⟨fl,hfl,hfo⟩:=qaA.mp hfo;refine L.step x a s σ' G' _ fl (qtA hai) rs (Rp.mono k1 ra) hfl (fun r e=>by subst e;exact (qgB hfo).symm) _ ?_ ?_ ?_ ?_
  ·intro s' σ'' G'' H'' e r;subst e;exact ⟨s',G'',r,hfo⟩
  ·intro s' σ'' G'' H'' e r;subst e;exact ⟨s',G'',r,hfo⟩
  ·intro s' σ'' G'' H'' e r;subst e;exact L.nxt s' σ'' G'' H'' (qgB hfo).symm r
  ·intro r v G'' H'' e rl;subst e;exact L.rtn r v G'' H'' (qgB hfo).symm rl
 ·have e:i=vs.length:=by omega
  subst e;have hd:as.drop vs.length=[]:=List.drop_eq_nil_of_le (by omega);rw [hd] at hfo;exact .inl ⟨Y.stop _ (k1.trans k2),L.nxt s σ' G' H' (qgB hfo).symm rs⟩
end
section
variable {K:FZ9}{mg:Str->Option Value}{σ:St}{G H:Hp}{α:Type}[Rp α]{te:TE}{E:St->XK}
theorem sx_ret {m:Option (Except Str α)}{r:Except Str α}{rest:TS}{D:Ends}(e:EVX K mg E te σ G m)(hm:m=some r)(s:Same G H)(k:Lm r (fun a=>∀ v G2 H2,Ext G H G2 H2->Rp.rel K G2 v a->D.rt v H2) fun nm=>Raises mg (E σ) nm G H):EE (tRet te) rest D σ H:=by
 refine e G (.refl G) r hm H s _ ?_
 cases r with
 | ok b=>exact fun v G2 H2 x q=>k v G2 H2 x q
 | error nm=>exact k
end
def MJ (mask:Nat)(p:SetTable.Probe):SetTable.Probe :=
 if p.more > 0 then { p with j:=p.j+1,more:=p.more - 1 } else
 { p with j:=(SetTable.leap mask p.i p.perturb).1,more:=SetTable.runEnd mask (SetTable.leap mask p.i p.perturb).1 - (SetTable.leap mask p.i p.perturb).1,i:=(SetTable.leap mask p.i p.perturb).1,perturb:=(SetTable.leap mask p.i p.perturb).2 }
inductive Rch (occ:Nat->Prop)(mask:Nat):Nat->SetTable.Probe->Nat->Prop where
 | here (p:SetTable.Probe):Rch occ mask 0 p p.j
 | step {n:Nat}{p:SetTable.Probe}{j:Nat}:occ p.j->Rch occ mask n (MJ mask p) j->Rch occ mask (n+1) p j
theorem Rch.mono {occ occ':Nat->Prop}{mask n:Nat}{p:SetTable.Probe}{j:Nat}(h:Rch occ mask n p j)(k:∀ x,occ x->occ' x):Rch occ' mask n p j:=by
 induction h with
 | here p=>exact .here p
 | step o _ ih=>exact .step (k _ o) ih
def startM (mask:Nat)(h:Int):SetTable.Probe:=hdP mask (SetTable.bits h % (mask+1),SetTable.bits h)
theorem Pt {t:SetTable}{j i:Nat}(h:t.slot j = .live i):t.place[i]? = some j:=by
 unfold SetTable.slot at h;dsimp only at h;split at h
 ·rename_i q;cases h;exact eq_of_beq q
 ·split at h<;>cases h
theorem NS {t:SetTable}(r:RT t){j:Nat}(h:j∈t.place.toList):∃ i,t.slot j = .live i/\t.place[i]? = some j:=by
 obtain ⟨i,hi,e⟩:=List.getElem_of_mem h;rw [qwB] at hi;have e:t.place[i]=j:=by simpa using e
 have hb:SetTable.below t.place j=i:=by
  refine FA r.ris (Nat.le_of_lt hi) (fun k hk=>?_) fun k hk hk2=>?_
  ·have:=r.ris k i hk hi;rw [<- e]
   simpa [Array.getD,hi] using this
  ·rcases Nat.eq_or_lt_of_le hk with q|q
   ·subst q;simp [Array.getD,hi,e]
   ·have:=r.ris i k q hk2;rw [<- e];exact Nat.le_of_lt (by simpa [Array.getD,hi] using this)
 have e2:t.place[i]? = some j:=by rw [Array.getElem?_eq_getElem hi,e]
 refine ⟨i,?_,e2⟩;unfold SetTable.slot;dsimp only;rw [hb,e2];simp
section
variable {t:SetTable}{f:Nat->Int}{h:Int}
theorem go_cand (r:RT t):∀ {n:Nat}{p:SetTable.Probe}{j:Nat},Rch (·∈t.place.toList) t.mask n p j->(∃ i,t.place[i]? = some j/\f i=h)->∀ fuel,n<fuel->∃ j' i' nx,SetTable.probe.go t f h fuel p=some (.candidate j' i' nx)/\f i'=h/\i'<t.place.size:=by
 intro n p j R
 induction R with
 | here p =>
  rintro ⟨i,hi,e⟩ fuel hf;obtain ⟨fuel,rfl⟩:∃ g,fuel=g+1:=⟨fuel - 1,by omega⟩;obtain ⟨i2,hs,h2⟩:=NS r (j:=p.j) (qtA (by rw [Array.getElem?_toList];exact hi))
  obtain rfl:i=i2:=by
   have l1:=(Array.getElem?_eq_some_iff.mp hi).1;have l2:=(Array.getElem?_eq_some_iff.mp h2).1;rw [Array.getElem?_eq_getElem l1] at hi;rw [Array.getElem?_eq_getElem l2] at h2;rcases Nat.lt_trichotomy i i2 with q|q|q
   ·have:=r.ris i i2 q l2;simp [Array.getD,l1,l2,qgB hi,qgB h2] at this
   ·exact q
   ·have:=r.ris i2 i q l1;simp [Array.getD,l1,l2,qgB hi,qgB h2] at this
  refine ⟨p.j,i,t.advance p,?_,e,(Array.getElem?_eq_some_iff.mp hi).1⟩;rw [SetTable.probe.go,hs];dsimp only;rw [if_pos (by simpa using e)]
 | @step n p j o _ ih =>
  intro hx fuel hf;obtain ⟨fuel,rfl⟩:∃ g,fuel=g+1:=⟨fuel - 1,by omega⟩;obtain ⟨i2,hs,h2⟩:=NS r o;by_cases e:f i2=h
  ·refine ⟨p.j,i2,t.advance p,?_,e,(Array.getElem?_eq_some_iff.mp h2).1⟩;rw [SetTable.probe.go,hs];dsimp only;rw [if_pos (by simpa using e)]
  ·obtain ⟨a,b,c,q1,q2,q3⟩:=ih hx fuel (by omega);refine ⟨a,b,c,?_,q2,q3⟩;rw [SetTable.probe.go,hs];dsimp only;rw [if_neg (by simpa using e)];exact q1
theorem go_empty (hd:t.dummies = #[]):∀ (fuel:Nat) (p:SetTable.Probe) (j:Nat),SetTable.probe.go t f h fuel p=some (.empty j none)->∃ n,n<fuel/\Rch (·∈t.place.toList) t.mask n p j:=by
 intro fuel
 induction fuel with
 | zero=>intro p j e;cases e
 | succ fuel ih =>
  intro p j e;rcases HY hd p.j with s | ⟨i,s,hi⟩
  ·rw [SetTable.probe.go,s] at e;simp only [Option.some.injEq,SetTable.Met.empty.injEq] at e;obtain ⟨rfl,_⟩:=e;exact ⟨0,Nat.succ_pos _,.here p⟩
  ·rw [SetTable.probe.go,s] at e;dsimp only at e;split at e
   ·cases e
   ·obtain ⟨n,hn,R⟩:=ih _ j e;exact ⟨n+1,by omega,.step (qtA (by rw [Array.getElem?_toList];exact Pt s)) R⟩
end
def L8 (ow:Array (Option Nat))(x:Nat):Prop:=(ow.getD x (some 0)).isNone=false
theorem PU {occ:Nat->Prop}{mask:Nat}{q:Nat × Nat}:∀ (k a:Nat),a+k<=SetTable.runEnd mask q.1 - q.1->(∀ x,a<=x->x<a+k->occ (q.1+x)) ->
  Rch occ mask k { hdP mask q with j:=q.1+a,more:=SetTable.runEnd mask q.1 - q.1 - a } (q.1+(a+k))
 | 0,a,_,_=>.here _
 | k+1,a,hk,ho=>by
  refine .step (ho a (qcB _) (by omega)) ?_
  have e:MJ mask { hdP mask q with j:=q.1+a,more:=SetTable.runEnd mask q.1 - q.1 - a } = { hdP mask q with j:=q.1+(a+1),more:=SetTable.runEnd mask q.1 - q.1 - (a+1) }:=by
   unfold MJ;rw [if_pos (by show SetTable.runEnd mask q.1 - q.1 - a > 0;omega)]
   rfl
  rw [e,show a+(k+1)=a+1+k by omega];exact PU k (a+1) (by omega) fun x h1 h2=>ho x (by omega) (by omega)
theorem P3 {occ:Nat->Prop}{mask:Nat}{q:Nat × Nat}:∀ (k a:Nat),a+k=SetTable.runEnd mask q.1 - q.1->(∀ x,a<=x->x<=a+k->occ (q.1+x))->∀ {n j:Nat},Rch occ mask n (hdP mask (SetTable.leap mask q.1 q.2)) j ->
  Rch occ mask (n+k+1) { hdP mask q with j:=q.1+a,more:=SetTable.runEnd mask q.1 - q.1 - a } j
 | 0,a,hk,ho,n,j,R=>by
  refine .step (ho a (qcB _) (by omega)) ?_
  have e:MJ mask { hdP mask q with j:=q.1+a,more:=SetTable.runEnd mask q.1 - q.1 - a }=hdP mask (SetTable.leap mask q.1 q.2):=by
   unfold MJ;rw [if_neg (by show ¬ SetTable.runEnd mask q.1 - q.1 - a > 0;omega)]
   rfl
  rw [e];exact R
 | k+1,a,hk,ho,n,j,R=>by
  have e:MJ mask { hdP mask q with j:=q.1+a,more:=SetTable.runEnd mask q.1 - q.1 - a } = { hdP mask q with j:=q.1+(a+1),more:=SetTable.runEnd mask q.1 - q.1 - (a+1) }:=by
   unfold MJ;rw [if_pos (by show SetTable.runEnd mask q.1 - q.1 - a > 0;omega)]
   rfl
  refine .step (ho a (qcB _) (by omega)) ?_;rw [e];exact P3 k (a+1) (by omega) (fun x h1 h2=>ho x (by omega) (by omega)) R
theorem hd0 (mask:Nat)(q:Nat × Nat):({ hdP mask q with j:=q.1+0,more:=SetTable.runEnd mask q.1 - q.1 - 0 }:SetTable.Probe)=hdP mask q:=rfl
theorem O4 (mask i:Nat):i<=SetTable.runEnd mask i:=by unfold SetTable.runEnd;split<;>omega
theorem free_rch {mask:Nat}{ow:Array (Option Nat)}:∀ (fuel i p j:Nat),SetTable.layClean.free mask ow fuel i p=some j->∃ n,n<10 * fuel/\Rch (L8 ow) mask n (hdP mask (i,p)) j:=by
 intro fuel
 induction fuel with
 | zero=>intro i p j e;cases e
 | succ fuel ih =>
  intro i p j e;have hr:=run_le mask i;have hg:=O4 mask i;unfold SetTable.layClean.free at e
  cases hf:(List.range (SetTable.runEnd mask i+1 - i)).find? fun k=>(ow.getD (i+k) (some 0)).isNone with
  | some k =>
   rw [hf] at e;cases e;have hk:=qsA.mp (List.mem_of_find?_eq_some hf)
   have hb:∀ x,x<k->L8 ow (i+x):=fun x hx=>by
    obtain ⟨_,as,bs,e1,e2⟩:=List.find?_eq_some_iff_append.mp hf
    have hx':x∈as:=by
     have hl:as.length=k:=by
      have h3:(List.range (SetTable.runEnd mask i+1 - i))[as.length]? = some k:=by
       rw [e1,qwA (qcB _),Nat.sub_self]
       rfl
      obtain ⟨z1,z2⟩:=quA.mp h3
      simpa using z2
     have h2:(List.range (SetTable.runEnd mask i+1 - i))[x]? = as[x]?:=by rw [e1,List.getElem?_append_left (by omega)]
     rw [List.getElem?_range (by omega)] at h2;exact qtA h2.symm
    exact Bool.not_eq_true' _ |>.mp (e2 x hx')
   have R:=PU (occ:=L8 ow) (mask:=mask) (q:=(i,p)) k 0 (by show 0+k<=SetTable.runEnd mask i - i;omega) fun x _ hx=>hb x (by omega);rw [hd0,Nat.zero_add] at R;exact ⟨k,by omega,R⟩
  | none =>
   rw [hf] at e;dsimp only at e;obtain ⟨n,hn,R⟩:=ih _ _ j e
   have ha:∀ x,x<=SetTable.runEnd mask i - i->L8 ow (i+x):=fun x hx=>by
    exact Bool.eq_false_iff.mpr (List.find?_eq_none.mp hf x (qsA.mpr (by omega)))
   have R2:=P3 (occ:=L8 ow) (mask:=mask) (q:=(i,p)) (SetTable.runEnd mask i - i) 0 (by show 0+_=SetTable.runEnd mask i - i;omega) (fun x _ hx=>ha x (by omega)) R;rw [hd0] at R2;exact ⟨_,by omega,R2⟩
def PB (mask:Nat)(p:SetTable.Probe):Prop:=p.j+p.more<=mask
theorem end_le {mask i:Nat}(h:i<=mask):SetTable.runEnd mask i<=mask:=by unfold SetTable.runEnd;split<;>omega
theorem pb_hd {mask:Nat}{q:Nat × Nat}(h:q.1<=mask):PB mask (hdP mask q):=by
 have:=end_le h;have:=O4 mask q.1;show q.1+(SetTable.runEnd mask q.1 - q.1)<=mask;omega
theorem pb_adv {mask:Nat}{p:SetTable.Probe}(h:PB mask p):PB mask (MJ mask p):=by
 unfold MJ;unfold PB at h ⊢;split
 ·show p.j+1+(p.more - 1)<=mask;omega
 ·have hl:(SetTable.leap mask p.i p.perturb).1<=mask:=Nat.lt_succ_iff.mp (Nat.mod_lt _ (Nat.succ_pos _));have:=end_le hl;have:=O4 mask (SetTable.leap mask p.i p.perturb).1;show (SetTable.leap mask p.i p.perturb).1+(SetTable.runEnd mask (SetTable.leap mask p.i p.perturb).1 - (SetTable.leap mask p.i p.perturb).1)<=mask;omega
theorem Rch.bound {occ:Nat->Prop}{mask n:Nat}{p:SetTable.Probe}{j:Nat}(h:Rch occ mask n p j)(hb:PB mask p):Rch (fun x=>occ x/\x<=mask) mask n p j:=by
 induction h with
 | here p=>exact .here p
 | @step n p j o _ ih=>exact .step ⟨o,by unfold PB at hb;omega⟩ (ih (pb_adv hb))
theorem pb_start (mask:Nat)(h:Int):PB mask (startM mask h):=pb_hd (Nat.lt_succ_iff.mp (Nat.mod_lt _ (Nat.succ_pos _)))
def Fnd (occ:Nat->Prop)(mask:Nat)(h:Int)(j:Nat):Prop:=∃ n,n<10 * SetTable.turns mask/\Rch occ mask n (startM mask h) j
theorem Fnd.mono {occ occ':Nat->Prop}{mask:Nat}{h:Int}{j:Nat}(f:Fnd occ mask h j)(k:∀ x,x<=mask->occ x->occ' x):Fnd occ' mask h j:=by
 obtain ⟨n,hn,R⟩:=f;exact ⟨n,hn,(R.bound (pb_start mask h)).mono fun x hx=>k x hx.2 hx.1⟩
def LayP (mask:Nat)(H:List Int)(ow:Array (Option Nat)):Prop:=∀ j k,ow[j]? = some (some k)->∃ h,H[k]? = some h/\Fnd (L8 ow) mask h j
theorem Pk {ow:Array (Option Nat)}{j k x:Nat}(h:L8 ow x):L8 (ow.setIfInBounds j (some k)) x:=by
 unfold L8 at *;simp only [Array.getD_eq_getD_getElem?] at *;rw [Array.getElem?_setIfInBounds];split
 ·split<;>rfl
 ·exact h
theorem lay_path {mask:Nat}{H:List Int}:∀ (hs:List Int) (ow:Array (Option Nat)) (n:Nat) (z:Array (Option Nat) × Nat),H.drop n=hs->LayP mask H ow ->
  (hs.foldl (init:=some (ow,n)) fun acc h=>do
   let (owner,k) <- acc
   let j <- SetTable.layClean.free mask owner (SetTable.turns mask) (SetTable.bits h % (mask+1)) (SetTable.bits h)
   pure (owner.setIfInBounds j (some k),k+1))=some z->LayP mask H z.1:=by
 intro hs
 induction hs with
 | nil=>intro ow n z _ L e;cases e;exact L
 | cons h hs ih =>
  intro ow n z hd L e;rw [qcC] at e
  have hn:H[n]? = some h:=by
   have:=congrArg (fun l=>l[0]?) hd
   simpa using this
  cases hf:SetTable.layClean.free mask ow (SetTable.turns mask) (SetTable.bits h % (mask+1)) (SetTable.bits h) with
  | none =>
   exfalso;simp only [Option.bind_eq_bind,Option.bind_some,hf,Option.bind_none] at e;clear ih hd L hn
   induction hs with
   | nil=>cases e
   | cons a l ih=>rw [qcC] at e;exact ih e
  | some j =>
   simp only [Option.bind_eq_bind,Option.bind_some,hf,Option.pure_def] at e;refine ih _ (n+1) z ?_ (fun j' k' hj=>?_) e
   ·rw [<- List.drop_drop,hd]
    rfl
   ·rw [Array.getElem?_setIfInBounds] at hj;split at hj
    ·rename_i q;subst q;split at hj
     ·cases hj;obtain ⟨m,hm,R⟩:=free_rch _ _ _ _ hf;exact ⟨h,hn,m,hm,R.mono fun x hx=>Pk hx⟩
     ·cases hj
    ·obtain ⟨h',e1,f⟩:=L j' k' hj;exact ⟨h',e1,f.mono fun x _ hx=>Pk hx⟩
structure TbJ (b:SetTable × Array Int):Prop where
 i:TbI b
 r:Ris b.1.place
 p:∀ (k j:Nat) (h:Int),b.1.place[k]? = some j->b.2[k]? = some h->Fnd (·∈b.1.place.toList) b.1.mask h j
theorem TbJ.found {b:SetTable × Array Int}(T:TbJ b){h:Int}(hm:h∈b.2.toList):∃ j i nx,b.1.probe (fun i=>(b.2[i]?).getD 0) h (b.1.probeStart h)=some (.candidate j i nx)/\b.2[i]? = some h:=by
 obtain ⟨k,hk,e⟩:=List.getElem_of_mem hm;rw [qwB] at hk;have e:b.2[k]=h:=by simpa using e
 have e2:b.2[k]? = some h:=by rw [Array.getElem?_eq_getElem hk,e]
 have hk2:k<b.1.place.size:=by rw [T.i.sz];exact hk
 obtain ⟨n,hn,R⟩:=T.p k _ h (Array.getElem?_eq_getElem hk2) e2;obtain ⟨j,i,nx,q1,q2,q3⟩:=go_cand (f:=fun i=>(b.2[i]?).getD 0) (h:=h) ⟨T.r,T.i.rt⟩ R ⟨k,Array.getElem?_eq_getElem hk2,by show (b.2[k]?).getD 0=h;rw [e2];rfl⟩ (10 * SetTable.turns b.1.mask) hn;refine ⟨j,i,nx,q1,?_⟩;rw [T.i.sz] at q3;rw [Array.getElem?_eq_getElem q3] at q2 ⊢;exact congrArg some q2
theorem ID {α:Type}{xs:Array α}{p:Nat}{x y:α}{i:Nat}(hp:p<=xs.size)(h:(SetTable.insertAt xs p x)[i]? = some y):(i<p/\xs[i]? = some y)\/(i=p/\x=y)\/(p<i/\xs[i - 1]? = some y):=by
 have e:(SetTable.insertAt xs p x).toList=xs.toList.take p++x::xs.toList.drop p:=by
  unfold SetTable.insertAt;simp [Array.toList_extract]
  try exact List.take_of_length_le (by rw [List.length_drop,qwB];omega)
 rw [<- Array.getElem?_toList,e] at h;have hl:(xs.toList.take p).length=p:=by rw [qjA,qwB];omega
 rcases Nat.lt_trichotomy i p with q|q|q
 ·rw [List.getElem?_append_left (by omega),List.getElem?_take_of_lt q,Array.getElem?_toList] at h;exact .inl ⟨q,h⟩
 ·subst q;rw [qwA (by omega),hl,Nat.sub_self] at h;exact .inr (.inl ⟨rfl,qgB h⟩)
 ·rw [qwA (by omega),hl,show i - p=(i - p - 1)+1 by omega,List.getElem?_cons_succ,List.getElem?_drop,show p+(i - p - 1)=i - 1 by omega,Array.getElem?_toList] at h;exact .inr (.inr ⟨q,h⟩)
theorem Mc {α:Type}{xs:Array α}{p:Nat}{x y:α}(h:y=x\/y∈xs.toList):y∈(SetTable.insertAt xs p x).toList:=by
 have e:(SetTable.insertAt xs p x).toList=xs.toList.take p++x::xs.toList.drop p:=by
  unfold SetTable.insertAt;simp [Array.toList_extract]
  try exact List.take_of_length_le (by rw [List.length_drop,qwB];omega)
 rw [e];rcases h with rfl|h
 ·exact qaC _ qqA
 ·rw [<- List.take_append_drop p xs.toList] at h;rcases qkA.mp h with h|h
  ·exact List.mem_append_left _ h
  ·exact qaC _ (qrA _ h)
theorem QP {mask finger moves:Nat}{led plain:Bool}{H1:Array Int}{t2:SetTable}{od:Array Nat}(e:SetTable.laid mask finger moves led plain H1=some (t2,od))(hz:(od.filterMap (H1[·]?)).size=H1.size)(hm:H1.size<=mask){kk:Nat}(hk:mask+1=2 ^ kk) :
  ∀ (k j:Nat) (h:Int),t2.place[k]? = some j->(od.filterMap (H1[·]?))[k]? = some h->Fnd (·∈t2.place.toList) mask h j:=by
 unfold SetTable.laid at e;obtain ⟨ow,ho,e⟩:=qaA.mp e;cases e;obtain ⟨ow2,ho2,LT⟩:=lay_ok hk H1 hm;rw [ho] at ho2;cases ho2
 have hL:LayP mask H1.toList ow:=by
  unfold SetTable.layClean at ho;obtain ⟨z,hz2,e2⟩:=qfB.mp ho;subst e2;rw [<- Array.foldl_toList] at hz2;refine lay_path H1.toList (Array.replicate (mask+1) none) 0 z (List.drop_zero ..) (fun j k hj=>?_) hz2;rw [Array.getElem?_replicate] at hj;split at hj<;>cases hj
 generalize hlv:(List.range (mask+1)).filterMap (fun j=>(ow.getD j none).map (j,·))=live at *
 have hlive:∀ q∈live,ow[q.1]? = some (some q.2):=fun q hq=>by
  rw [<- hlv] at hq;obtain ⟨j,hj,e⟩:=List.mem_filterMap.mp hq;obtain ⟨k,hk,e⟩:=qfB.mp e;subst e;rw [Array.getD_eq_getD_getElem?] at hk
  cases h:ow[j]? with
  | none=>rw [h] at hk;cases hk
  | some v=>rw [h] at hk;have hk:v=some k:=hk;rw [hk]
 have hfm:((live.map (·.2)).toArray.filterMap (H1[·]?)).toList=live.map fun q=>(H1[q.2]?).getD 0:=by
  rw [Array.toList_filterMap];show (live.map (·.2)).filterMap _=_;rw [List.filterMap_map]
  have:∀ l:List (Nat × Nat),(∀ q∈l,ow[q.1]? = some (some q.2))->l.filterMap ((H1[·]?)∘(·.2))=l.map fun q=>(H1[q.2]?).getD 0:=by
   intro l
   induction l with
   | nil=>intro _;rfl
   | cons q l ih =>
    intro hq;obtain ⟨h,e1,_⟩:=hL q.1 q.2 (hq q qqA);rw [Array.getElem?_toList] at e1;rw [List.filterMap_cons,qyA,<- ih fun x hx=>hq x (qrA _ hx)];rw [show ((fun x=>H1[x]?)∘fun x=>x.snd) q=some h from e1,e1]
    rfl
  exact this live hlive
 intro k j h hj hh;rw [<- Array.getElem?_toList,hfm,qxA] at hh;obtain ⟨q,hq,e2⟩:=qfB.mp hh;have hj:(live.map (·.1))[k]? = some j:=by simpa using hj
 rw [qxA,hq] at hj;cases hj;have hqm:=qtA hq;obtain ⟨h',e1,f⟩:=hL q.1 q.2 (hlive q hqm);rw [Array.getElem?_toList] at e1;rw [e1] at e2;have e2:h'=h:=e2;subst e2;refine f.mono fun x hx ho=>?_;show x∈live.map (·.1);have hxs:x<ow.size:=by rw [LT.size];omega
 unfold L8 at ho;rw [Array.getD_eq_getD_getElem?,Array.getElem?_eq_getElem hxs] at ho
 cases hv:ow[x] with
 | none=>rw [hv] at ho;cases ho
 | some k2 =>
  refine qnA.mpr ⟨(x,k2),?_,rfl⟩;rw [<- hlv];refine List.mem_filterMap.mpr ⟨x,qsA.mpr (by omega),?_⟩;rw [Array.getD_eq_getD_getElem?,Array.getElem?_eq_getElem hxs,hv]
  rfl
theorem tbAdd_J {b c:SetTable × Array Int}{h:Int}(T:TbJ b)(hn:h ∉ b.2.toList)(hz:b.2.size<1000)(e:Lo b h=some c):TbJ c/\c.2.size=b.2.size+1/\∀ y,y∈c.2.toList ↔ y=h\/y∈b.2.toList:=by
 obtain ⟨c',e',Ic,zc,mc⟩:=NU T.i hn hz;rw [e] at e';cases e';obtain ⟨t,hs⟩:=b;obtain ⟨I,R,PP⟩:=T;dsimp only at *;unfold Lo at e;dsimp only at e;split at e
 case isFalse=>cases e
 split at e
 case h_2=>cases e
 rename_i j hp;obtain ⟨n,hn1,Rn⟩:=go_empty (t:=t) (f:=fun i=>(hs[i]?).getD 0) (h:=h) I.rt (10 * SetTable.turns t.mask) (t.probeStart h) j hp;have hne:=(Nv (t:=t) I.rt (fun i=>(hs[i]?).getD 0) h (10 * SetTable.turns t.mask) (t.probeStart h) j none rfl hp).2;have hpl:(t.put j).2<=t.place.size:=Na _ _;have hpl2:(t.put j).2<=hs.size:=by rw [<- I.sz];exact hpl
 have e1:(t.put j).1.place=SetTable.insertAt t.place (t.put j).2 j:=rfl
 have P1:∀ (k x:Nat) (y:Int),(t.put j).1.place[k]? = some x->(SetTable.insertAt hs (t.put j).2 h)[k]? = some y->Fnd (·∈(t.put j).1.place.toList) t.mask y x:=fun k x y hx hy=>by
  rw [e1] at hx;have up:∀ z,z<=t.mask->z∈t.place.toList->z∈(t.put j).1.place.toList:=fun z _ hz=>by rw [e1];exact Mc (.inr hz)
  rcases ID hpl hx with ⟨q,hx⟩ | ⟨q,hx⟩ | ⟨q,hx⟩
  ·rcases ID hpl2 hy with ⟨_,hy⟩ | ⟨q2,_⟩ | ⟨q2,_⟩
   ·exact (PP k x y hx hy).mono up
   ·omega
   ·omega
  ·rcases ID hpl2 hy with ⟨q2,_⟩ | ⟨_,hy⟩ | ⟨q2,_⟩
   ·omega
   ·subst hx hy;exact Fnd.mono ⟨n,hn1,Rn⟩ up
   ·omega
  ·rcases ID hpl2 hy with ⟨q2,_⟩ | ⟨q2,_⟩ | ⟨_,hy⟩
   ·omega
   ·omega
   ·exact (PP (k - 1) x y hx hy).mono up
 have R1:Ris (t.put j).1.place:=KA R hne;split at e
 case isFalse=>cases e
 rename_i hf;split at e
 ·rename_i tf;split at e
  case h_2=>cases e
  rename_i t2 od hrl;split at e
  case isFalse=>cases e
  rename_i h3;cases e;obtain ⟨z1,z2,z3⟩:=h3;obtain ⟨q1,q2,q3,q4⟩:=Mm hrl;obtain ⟨kk,hk,_⟩:=Ic.pw;have hmk:t2.mask=SetTable.sizeAbove (SetTable.grown (hs.size+1)) - 1:=q4;have few:=Ic.few;dsimp only at hk few;have hH:(SetTable.insertAt hs (t.put j).2 h).size<=t2.mask:=by rw [<- z1];omega
  refine ⟨⟨Ic,q1.ris,?_⟩,zc,fun y=>⟨mc y,fun hy=>?_⟩⟩
  ·intro k x y hx hy;have:=QP hrl z1 (by rw [<- hmk];exact hH) (kk:=kk) (by rw [<- hmk];exact hk) k x y hx hy;show Fnd _ t2.mask y x;rw [hmk];exact this
  ·obtain ⟨_,od2,w1,w2,w3⟩:=P7 (mask:=SetTable.sizeAbove (SetTable.grown (hs.size+1)) - 1) (finger:=(t.put j).1.finger) (moves:=(t.put j).1.movedTo (SetTable.sizeAbove (SetTable.grown (hs.size+1)) - 1)) (led:=(t.put j).1.led) (plain:=(t.put j).1.plain) (by rw [<- hmk];exact hk) (SetTable.insertAt hs (t.put j).2 h) (by rw [<- hmk];exact hH);have w1':=w1.symm.trans hrl;cases w1'
   have r1:(od.filterMap ((SetTable.insertAt hs (t.put j).2 h)[·]?)).toList.Perm (SetTable.insertAt hs (t.put j).2 h).toList:=by
    rw [Array.toList_filterMap];exact (w2.filterMap _).trans (by rw [filterMap_getElem?_range])
   exact r1.mem_iff.mpr (Mc hy)
 ·cases e;exact ⟨⟨Ic,R1,P1⟩,zc,fun y=>⟨mc y,fun hy=>Mc hy⟩⟩
def SetE (h:Heap)(a:Addr)(b:SetTable × Array Int)(l:List (Int × Value)):Prop :=
 ∃ o es ep,h.get? a=some o/\o.ExactSet/\o.data = .set es ep b.1/\es.map (·.1)=b.2/\b.1.fits es.size=true/\es.toList=l
theorem SetE.q {h:Heap}{a:Addr}{b:SetTable × Array Int}{l:List (Int × Value)}(x:SetE h a b l):SetQ h a b:=by
 obtain ⟨o,es,ep,g,e,d,m,f,_⟩:=x;exact ⟨o,es,ep,g,e,d,m,f⟩
theorem SetE.at {h h':Heap}{a:Addr}{b:SetTable × Array Int}{l:List (Int × Value)}(x:SetE h a b l)(k:∀ o,h.get? a=some o->h'.get? a=some o):SetE h' a b l:=by
 obtain ⟨o,es,ep,g,S⟩:=x;exact ⟨o,es,ep,k _ g,S⟩
section
variable {prog:Program}{w:World}{A:Around}{E:Value->Shared->Prop}{s:Shared}
theorem addE {a c:Addr}{x y:Int}{b b':SetTable × Array Int}{hh:Int}{Q:Bool->Shared->Prop}(k:IsP s.heap c x y){es0:List (Int × Value)}(S:SetE s.heap a b es0)(e:Lo b hh=some b')
  (h:∀ h',Heap.SameBut a s.heap h'->(∃ es',SetE h' a b' es'/\∀ q∈es',q=(hh,Value.ref c)\/q∈es0)->∀ bb,Q bb { s with heap:=h' }):wpAny (model prog w) A (setAddHashed a (.ref c) hh) Q E s:=by
 obtain ⟨t,hs⟩:=b;obtain ⟨o,es,ep,g,ex,d,m,f,rfl⟩:=S;dsimp only at d m f;subst m;unfold Lo at e;dsimp only at e;split at e
 case isFalse=>cases e
 rename_i hc;obtain ⟨hz,hg⟩:=hc;rw [Array.size_map] at hz;split at e
 case h_2=>cases e
 rename_i j hp
 have hp':t.probe (fun i=>((es[i]?).map (·.1)).getD 0) hh (t.probeStart hh)=some (.empty j none):=by
  rw [<- hp]
  congr 1
  funext i
  rw [Array.getElem?_map]
 unfold setAddHashed setAddHashedIn;refine qdA (qbA (qbC g d f ?_));dsimp only;rw [show byScan (.ref c) es=false from rfl];simp only [Bool.false_eq_true,if_false];unfold setSearch setSearchFrom;refine qbA (qbA (qbC g d f ?_));dsimp only;rw [hg];simp only [Bool.false_eq_true,if_false];generalize hr:SetTable.probe t _ _ _=r;have er:r=some (.empty j none):=hr.symm.trans hp';subst er;dsimp only;refine qcA ?_;dsimp only;refine qbA (qbC g d f ?_);dsimp only;rw [<- MB (·.1) es (t.put j).2 (hh,Value.ref c)] at e;generalize hes:SetTable.insertAt es (t.put j).2 (hh,Value.ref c)=es1 at e ⊢;split at e
 case isFalse=>cases e
 rename_i hf;obtain ⟨hf1,hf2⟩:=hf;rw [Array.size_map] at hf1 hf2;rw [Array.size_map] at hf2;have hpl:(t.put j).1.plain=t.plain:=rfl;have few:es1.size<=sizeLine:=by rw [qkB];omega
 have go:wpAny (model prog w) A (do
   storeSet a es1 (t.put j).1
   if (!false && (t.put j).1.tooFull)=true then do
     setRelay a (SetTable.grown (es.size+1))
     pure true
    else pure true) Q E s:=by
  refine qbA (wpAny_storeSet_of g d ?_ few);have g1:=Gm (es':=es1) (t':=(t.put j).1) g d;have b1:=Heap.SameBut.update s.heap a (Obj.putSet es1 (t.put j).1);split at e
  ·rename_i tf;rw [if_pos (by rw [tf];rfl)];rw [Array.size_map] at e;split at e
   case h_2=>cases e
   rename_i t2 od hrl;split at e
   case isFalse=>cases e
   rename_i h3;cases e;rw [<- filterMap_map,Array.size_map,Array.size_map] at h3;obtain ⟨z1,z2,z3⟩:=h3;unfold setRelay;refine qbA (qbA (qbC g1 rfl hf1 ?_));dsimp only;rw [if_neg (Nat.not_lt.mpr (qdB z3 (by rw [qkB];decide)))];rw [hrl];refine qbA ?_;show wpAny _ _ (if ((od.filterMap (es1[·]?)).size != es1.size)=true then unsupported "internal:set-table-lost-an-element" >>= fun _=>pure (od.filterMap (es1[·]?),t2) else pure (od.filterMap (es1[·]?),t2)) _ _ _;rw [if_neg (by rw [z1];simp)];refine qcA ?_;dsimp only;refine wpAny_storeSet_of g1 rfl ?_ (by rw [z1];exact few);have g2:=Gm (s:={ s with heap:=s.heap.update a (Obj.putSet es1 (t.put j).1) }) (es':=od.filterMap (es1[·]?)) (t':=t2) g1 rfl
   exact qcA (h _ (b1.trans (Heap.SameBut.update _ a _)) ⟨_,⟨_,_,_,g2,ex,rfl,filterMap_map _ _ _,z2,rfl⟩,fun q hq=>by
    rw [Array.toList_filterMap] at hq;obtain ⟨i,_,hi⟩:=List.mem_filterMap.mp hq;have hq1:q∈es1.toList:=qtA (by rw [Array.getElem?_toList];exact hi);rw [<- hes] at hq1
    exact Jn hq1⟩ true)
  ·rename_i tf;rw [if_neg (by rw [Bool.not_eq_true] at tf;rw [tf];exact Bool.noConfusion)];cases e
   exact qcA (h _ b1 ⟨_,⟨_,_,_,g1,ex,rfl,rfl,hf1,rfl⟩,fun q hq=>by
    rw [<- hes] at hq
    exact Jn hq⟩ true)
 split
 ·refine qbA (hbv k ?_);simp only [if_true];exact go
 ·refine qbA (qcA ?_);simp only [if_true];exact go
theorem ofA_no {a:Addr}{x y:Int}{Q:Bool->Shared->Prop}(k:IsP s.heap a x y)(h:Q false s):wpAny (model prog w) A (ofAClassStatement 8 (.ref a)) Q E s:=by
 have hT:=(k.key (prog:=prog) (w:=w)).typeIs;obtain ⟨o,n,t,u,g,c,d⟩:=k;unfold ofAClassStatement;refine qbA (wpAny_typeOf hT ?_);dsimp only;refine qbA (qcA ?_);simp only [Bool.not_true,Bool.false_eq_true,if_false];refine qbA (wpAny_seqItems g d ?_);dsimp only;refine qbA ?_;rw [<- Array.forIn_toList];show wpAny _ _ (forIn [Value.int x t,Value.int y u] _ _) _ _ _;simp only [List.forIn_cons,List.forIn_nil,ofAClassStatement,pure_bind,Bool.false_eq_true,if_false];exact qcA (qcA h)
theorem seen_no {c:Addr}{x y:Int}(k:IsP s.heap c x y):∀ (ys:List Value),(∀ v∈ys,∃ c' x' y',v = .ref c'/\IsP s.heap c' x' y')->∀ {Q:Bool->Shared->Prop},Q false s->wpAny (model prog w) A (searchCouldBeSeen (.ref c) ys) Q E s:=by
 intro ys hy Q h;unfold searchCouldBeSeen;refine qbA ?_;refine wpAny_forIn_list _ (fun rest r s'=>r.1=none/\s'=s/\∀ v∈rest,∃ c' x' y',v = .ref c'/\IsP s.heap c' x' y') _ ?_ ?_ _ _ ⟨rfl,rfl,hy⟩
 ·rintro v rest r s' ⟨hr,rfl,hall⟩;obtain ⟨c',x',y',rfl,k'⟩:=hall v qqA;have hrest:∀ v∈rest,∃ c' x' y',v=Value.ref c'/\IsP s'.heap c' x' y':=fun u hu=>hall u (qrA _ hu);dsimp only;split
  ·exact qcA ⟨rfl,rfl,hrest⟩
  ·refine qbA (wpAny_eqIsQuiet_tuple (knd:=Bh prog w) k.key ?_);simp only [Bool.not_true,Bool.false_eq_true,if_false];refine qbA (wpAny_eqIsQuiet_tuple (knd:=Bh prog w) k'.key ?_);simp only [Bool.not_true,Bool.false_eq_true,if_false];refine qbA (ofA_no k ?_);simp only [Bool.false_eq_true,if_false];refine qbA (ofA_no k' ?_);simp only [Bool.false_eq_true,if_false];exact qcA ⟨rfl,rfl,hrest⟩
 ·rintro ⟨r1,r2⟩ s' ⟨hr,rfl,_⟩;simp only at hr;subst hr;exact qcA h
theorem addD {a c:Addr}{x y:Int}{b:SetTable × Array Int}{hh:Int}{l:List (Int × Value)}{Q:Bool->Shared->Prop}(hu:A.units<cLine)(k:IsP s.heap c x y)(S:SetE s.heap a b l)(hg:b.1.gaveWay=false)
  (hl:∀ q∈l,∃ c' x' y',q.2 = .ref c'/\IsP s.heap c' x' y'/\(q.1=hh->x'=x/\y'=y)) (e:∃ j i nx,b.1.probe (fun i=>(b.2[i]?).getD 0) hh (b.1.probeStart hh)=some (.candidate j i nx)/\b.2[i]? = some hh)
  (h:∀ bb,Q bb s):wpAny (model prog w) A (setAddHashed a (.ref c) hh) Q E s:=by
 obtain ⟨t,hs⟩:=b;obtain ⟨o,es,ep,g,ex,d,m,f,rfl⟩:=S;dsimp only at d m f hg e;subst m;obtain ⟨j,i,nx,hp,hi⟩:=e
 have hp':t.probe (fun i=>((es[i]?).map (·.1)).getD 0) hh (t.probeStart hh)=some (.candidate j i nx):=by
  rw [<- hp]
  congr 1
  funext i
  rw [Array.getElem?_map]
 rw [Array.getElem?_map] at hi;obtain ⟨q,hq,hq1⟩:=qfB.mp hi;obtain ⟨h1,v⟩:=q;have hq1:h1=hh:=hq1;subst hq1;obtain ⟨c',x',y',rfl,k',hxy⟩:=hl _ (qtA (by rw [Array.getElem?_toList];exact hq));obtain ⟨rfl,rfl⟩:=hxy rfl;unfold setAddHashed setAddHashedIn;refine qdA (qbA (qbC g d f ?_));dsimp only;rw [show byScan (.ref c) es=false from rfl];simp only [Bool.false_eq_true,if_false];unfold setSearch setSearchFrom;refine qbA (qbA (qbC g d f ?_));dsimp only;rw [hg];simp only [Bool.false_eq_true,if_false];generalize hr:SetTable.probe t _ _ _=r;have er:r=some (.candidate j i nx):=hr.symm.trans hp';subst er;dsimp only
 have go:wpAny (model prog w) A (do
   let some (_,y):=es[i]?|unsupported "internal:set-entry"
   let equal <- holding [y] (eqBool y (.ref c))
   let (es',_,t') <- setState a
   if (true && equal)=true then return SetFound.there none
   let some sm9:=t'.sameMemory t.moves t.mask|unsupported "set.changed-during-lookup:is-the-new-block-at-the-old-address"
   let still <- match (if sm9 then t'.slot j else .empty) with
    | .live i'=>match es'[i']? with
     | some (_,y')=>do pure (if <- isSame y' y then some i' else none)
     | none=>pure none
    | _=>pure none
   match still with
   | none=>rule "set.search.anew";setSearchFrom a (.ref c) h1 true 99999 none
   | some i'=>if equal then return .there (some i') else setSearchFrom a (.ref c) h1 true 99999 (some nx)) (fun r s'=>r=SetFound.there none/\s'=s) E s:=by
  rw [hq];dsimp only;refine qbA (qdA ?_);refine (tupleKind (Bh prog w)).eqBool (x:=[.inl x',.inl y']) (y:=[.inl x',.inl y']) hu k'.key k.key ?_;rw [decide_eq_true rfl];refine qbA (qbC g d f ?_);dsimp only;rw [if_pos (show (true && true)=true from rfl)];exact qcA ⟨rfl,rfl⟩
 have fin:wpAny (model prog w) A (do
   if !t.led then
    if <- searchCouldBeSeen (.ref c) ((es.filter (·.1 == h1)).toList.map (·.2)) then unsupported "set:the-search-would-show-the-table"
   let some (_,y):=es[i]?|unsupported "internal:set-entry"
   let equal <- holding [y] (eqBool y (.ref c))
   let (es',_,t') <- setState a
   if (true && equal)=true then return SetFound.there none
   let some sm9:=t'.sameMemory t.moves t.mask|unsupported "set.changed-during-lookup:is-the-new-block-at-the-old-address"
   let still <- match (if sm9 then t'.slot j else .empty) with
    | .live i'=>match es'[i']? with
     | some (_,y')=>do pure (if <- isSame y' y then some i' else none)
     | none=>pure none
    | _=>pure none
   match still with
   | none=>rule "set.search.anew";setSearchFrom a (.ref c) h1 true 99999 none
   | some i'=>if equal then return .there (some i') else setSearchFrom a (.ref c) h1 true 99999 (some nx)) (fun r s'=>r=SetFound.there none/\s'=s) E s:=by
  cases t.led with
  | true=>exact go
  | false =>
   simp only [Bool.not_false,if_true];refine qbA (seen_no k _ (fun v hv=>?_) ?_)
   ·obtain ⟨q,hq,rfl⟩:=qnA.mp hv;rw [Array.toList_filter] at hq;obtain ⟨c',x',y',e1,e2,_⟩:=hl q (qoA.mp hq).1;exact ⟨c',x',y',e1,e2⟩
   ·simp only [Bool.false_eq_true,if_false];exact go
 refine wpAny_mono fin (fun r s' hr=>?_) fun _ _ z=>z;obtain ⟨rfl,rfl⟩:=hr;exact qcA (h false)
end
def GL (ks:List (Int × Int)):List (Int × Int)->List (Int × Int)
 | []=>ks
 | p::ps=>GL (if p∈ks then ks else ks++[p]) ps
theorem gw_no {b:SetTable × Array Int}(T:TbI b):b.1.gaveWay=false:=by
 obtain ⟨k,hm,hk⟩:=T.pw;obtain ⟨k,rfl⟩:∃ q,k=q+1:=⟨k - 1,by omega⟩;rw [Nat.pow_succ] at hm;unfold SetTable.gaveWay;have:b.1.mask % 2=1:=by omega
 rw [this]
 rfl
structure KS (no:List Addr)(h:Heap)(a:Addr)(b:SetTable × Array Int)(ks:List (Int × Int)):Prop where
 ent:∃ l,SetE h a b l/\∀ q∈l,∃ c p,q=(GW p.1 p.2,Value.ref c)/\c ∉ no/\IsP h c p.1 p.2/\Sm p
 tab:TbJ b
 mem:∀ y,y∈b.2.toList ↔ ∃ p∈ks,y=GW p.1 p.2
 size:b.2.size=ks.length
 sm:∀ p∈ks,Sm p
theorem KS.q {no:List Addr}{h:Heap}{a:Addr}{b:SetTable × Array Int}{ks:List (Int × Int)}(x:KS no h a b ks):SetQ h a b:=by
 obtain ⟨l,e,_⟩:=x.ent;exact e.q
theorem KS.at {wr:List Addr}{h h':Heap}{a:Addr}{b:SetTable × Array Int}{ks:List (Int × Int)}(x:KS (a::wr) h a b ks)(nw:a ∉ wr)(k:∀ o,h.get? a=some o->h'.get? a=some o)(k2:∀ c o,c ∉ a::wr->h.get? c=some o->h'.get? c=some o):KS (a::wr) h' a b ks:=by
 obtain ⟨l,e,f⟩:=x.ent
 exact ⟨⟨l,e.at k,fun q hq=>by
  obtain ⟨c,p,e1,e2,e3,e4⟩:=f q hq
  exact ⟨c,p,e1,e2,e3.at fun o=>k2 c o e2,e4⟩⟩,x.tab,x.mem,x.size,x.sm⟩
theorem freshK {w:World}{h:Heap}{a:Addr}{no:List Addr}(g:h.get? a=some (BC w)):KS no h a (tb0 (!byT w)) [] :=
 ⟨⟨[],⟨_,#[],0,g,⟨rfl,rfl,rfl⟩,rfl,Array.map_empty,rfl,rfl⟩,fun q hq=>nomatch hq⟩,⟨⟨rfl,⟨3,rfl,by decide⟩,rfl,by show 0 * 5<7 * 3;decide⟩,fun i j _ hj=>absurd hj (Nat.not_lt_zero _),fun k j h hj=>by simp [tb0,SetTable.fresh] at hj⟩,fun y=>by simp [tb0],rfl,fun p hp=>nomatch hp⟩
section
variable {prog:Program}{w:World}{A:Around}{E:Value->Shared->Prop}{s:Shared}{no:List Addr}{a:Addr}{b:SetTable × Array Int}{ks:List (Int × Int)}
theorem KS.addD {c:Addr}{p:Int × Int}{Q:Bool->Shared->Prop}(x:KS no s.heap a b ks)(hu:A.units<cLine)(sp:Sm p)(k:IsP s.heap c p.1 p.2)(hk:p∈ks)(h:∀ bb,Q bb s):wpAny (model prog w) A (setAddHashed a (.ref c) (GW p.1 p.2)) Q E s:=by
 obtain ⟨l,e,f⟩:=x.ent;refine L2.addD hu k e (gw_no x.tab.i) (fun q hq=>?_) (x.tab.found ((x.mem _).mpr ⟨p,hk,rfl⟩)) h;obtain ⟨c',p',rfl,_,e3,e4⟩:=f q hq;refine ⟨c',p'.1,p'.2,rfl,e3,fun e5=>?_⟩;have:=LH e4 sp e5;rw [this];exact ⟨rfl,rfl⟩
theorem KS.addN {wr:List Addr}{c:Addr}{p:Int × Int}{Q:Bool->Shared->Prop}(x:KS (a::wr) s.heap a b ks)(sp:Sm p)(k:IsP s.heap c p.1 p.2)(nc:c ∉ a::wr)(hk:p ∉ ks)(hz:ks.length<1000)
  (h:∀ h',Heap.SameBut a s.heap h'->∀ b',KS (a::wr) h' a b' (ks++[p])->∀ bb,Q bb { s with heap:=h' }):wpAny (model prog w) A (setAddHashed a (.ref c) (GW p.1 p.2)) Q E s:=by
 obtain ⟨l,e,f⟩:=x.ent
 have hn:GW p.1 p.2 ∉ b.2.toList:=fun q=>by
  obtain ⟨p',hp',e5⟩:=(x.mem _).mp q;rw [LH sp (x.sm p' hp') e5] at hk;exact hk hp'
 obtain ⟨b',eb,_⟩:=NU x.tab.i hn (by rw [x.size];exact hz);obtain ⟨T',zc,mc⟩:=tbAdd_J x.tab hn (by rw [x.size];exact hz) eb;refine addE k e eb fun h' hsb ⟨es',e',sub⟩ bb=>h h' hsb b' ⟨⟨es',e',fun q hq=>?_⟩,T',fun y=>?_,by rw [zc,x.size,qfA];rfl,fun q hq=>?_⟩ bb
 ·have lift:∀ c o,c ∉ a::wr->s.heap.get? c=some o->h'.get? c=some o:=fun c o nb e=>(hsb.2 c (fun h:c=a=>nb (by rw [h];exact qqA))).trans e;rcases sub q hq with rfl|hq
  ·exact ⟨c,p,rfl,nc,k.at fun o=>lift c o nc,sp⟩
  ·obtain ⟨c',p',e1,e2,e3,e4⟩:=f q hq;exact ⟨c',p',e1,e2,e3.at fun o=>lift c' o e2,e4⟩
 ·rw [mc,x.mem];constructor
  ·rintro (rfl | ⟨p',hp',e⟩)
   ·exact ⟨p,qaC _ qqA,rfl⟩
   ·exact ⟨p',List.mem_append_left _ hp',e⟩
  ·rintro ⟨p',hp',e⟩;rcases qkA.mp hp' with hp'|hp'
   ·exact .inr ⟨p',hp',e⟩
   ·rw [qpA.mp hp'] at e;exact .inl e
 ·rcases qkA.mp hq with hq|hq
  ·exact x.sm q hq
  ·rw [qpA.mp hq];exact sp
end
section
variable {prog:Program}{w:World}{A:Around}{R:Result->Shared->Prop}{I:Addr}{fp wr:List Addr}{G:Array GenState->Array GenState->Prop}{n:Nat}{P:Nat->Value->Prop}{St:Nat->Shared->Prop}
theorem Q8 (W:WalksS prog w A.in1 I fp wr G n P St)(S:Addr)(nS:S ∉ fp)(ps:List (Int × Int))(hn:ps.length=n)(hu:A.units+1<cLine)(hsm:∀ p∈ps,Sm p) :
  ∀ (k i:Nat) (s:Shared) (b:SetTable × Array Int) (ks:List (Int × Int)),n - i=k->i<=n->St i s->KS (S::wr) s.heap S b ks->ks.length+(n - i)<=900->Prs P ps (S::wr) s.heap ->
   (∀ s' b',Moved (S::wr) G s s'->SetQ s'.heap S b'->b'.2.size=(GL ks (ps.drop i)).length->R (.ok (.ret .none)) s') ->
   codeAny (model prog w) A (.builtin "set.update.loop" ⟨[.ref S,.ref I],[]⟩) R s:=by
 have nW:S ∉ wr:=fun h=>nS (W.sub _ h);have up:∀ b∈wr,b∈S::wr:=fun b hb=>qrA _ hb;intro k
 induction k with
 | zero =>
  intro i s b ks e1 e2 st hS hb hv hR;have ei:i=n:=by omega
  subst ei;refine codeAny_builtin PyProof.Rows.F.entry_set_update_loop ?_;rw [Around.under_plainId PyProof.Rows.F.plain_set_update_loop _];show wpAny _ A.in1 (pyNext (.ref I) >>= _) _ _ s;refine qbA (W.done s _ _ st fun s' hm=>?_);show wpAny _ A.in1 (ret Value.none) _ _ s';refine qcA (hR s' b (hm.mono up) (hS.q.at fun o e=>hm.heap S _ nW e) ?_);rw [List.drop_of_length_le (Nat.le_of_eq hn)];exact hS.size
 | succ k ih =>
  intro i s b ks e1 e2 st hS hb hv hR;have hlt:i<n:=by omega
  refine codeAny_builtin PyProof.Rows.F.entry_set_update_loop ?_;rw [Around.under_plainId PyProof.Rows.F.plain_set_update_loop _];show wpAny _ A.in1 (pyNext (.ref I) >>= _) _ _ s;refine qbA (W.item i s _ _ hlt st fun v s' hP st' hm=>?_);have hv':Prs P ps (S::wr) s'.heap:=hv.at fun a o na e=>hm.heap a o (fun q=>na (up _ q)) e;obtain ⟨c,p,rfl,hp,nc,hi⟩:=hv' i v hP;have hS':KS (S::wr) s'.heap S b ks:=hS.at nW (fun o e=>hm.heap S _ nW e) fun a o na e=>hm.heap a o (fun q=>na (up _ q)) e
  have ed:ps.drop i=p::ps.drop (i+1):=by
   rw [List.drop_eq_getElem_cons (by omega:i<ps.length)];have ep:ps[i]=p:=by rw [qvA (by omega)] at hp;exact qgB hp
   rw [ep]
  have sp:Sm p:=hsm p (qtA hp);show wpAny _ A.in1 (holding [Value.ref c] (setAdd S (.ref c)) >>= _) _ _ s';refine qbA (qdA ?_);unfold setAdd;refine qdA (qbA ((tupleKind (Bh prog w)).pyHash (k:=[.inl p.1,.inl p.2]) (tupleKind_room_in1 hu) hi.key ?_));by_cases hk:p∈ks
  ·refine KS.addD (prog:=prog) (w:=w) (A:=A.in1) (s:={ s' with toks:=s'.toks+(tupleKind (Bh prog w)).draws [Sum.inl p.1,Sum.inl p.2] }) hS' (by show A.units+1<cLine;omega) sp hi hk fun bb=>?_;refine qcA ⟨plainId_quiet PyProof.Rows.F.plain_set_update_loop _,ih (i+1) _ b ks (by omega) hlt (W.frame _ s' _ _ st' (Nat.le_add_right _ _) fun b hb o e=>e) hS' (by omega) hv' fun s'' b'' hm'' hS'' hz=>?_⟩;refine hR s'' b'' (Moved.trans W.gtrans ((hm.mono up).then_heap (Nat.le_add_right _ _) fun b o hb e=>e) hm'') hS'' ?_;rw [ed];show _=(GL (if p∈ks then ks else ks++[p]) (ps.drop (i+1))).length;rw [if_pos hk];exact hz
  ·refine KS.addN (prog:=prog) (w:=w) (A:=A.in1) (s:={ s' with toks:=s'.toks+(tupleKind (Bh prog w)).draws [Sum.inl p.1,Sum.inl p.2] }) hS' sp hi nc hk (by omega) fun h' hsb b2 hS2 bb=>?_;have lift:∀ b o,b ∉ S::wr->s'.heap.get? b=some o->h'.get? b=some o:=fun b o nb e=>(hsb.2 b (fun h:b=S=>nb (by rw [h];exact qqA))).trans e;refine qcA ⟨plainId_quiet PyProof.Rows.F.plain_set_update_loop _,ih (i+1) _ b2 (ks++[p]) (by omega) hlt (W.frame _ s' _ _ st' (Nat.le_add_right _ _) fun b hb o e=>?_) hS2 (by rw [qfA,qhA];omega) (hv'.at lift) fun s'' b'' hm'' hS'' hz=>?_⟩
   ·exact (hsb.2 b (fun h:b=S=>nS (by rw [<- h];exact hb))).trans e
   ·refine hR s'' b'' (Moved.trans W.gtrans ((hm.mono up).then_heap (Nat.le_add_right _ _) fun b o hb e=>lift b o hb e) hm'') hS'' ?_;rw [ed];show _=(GL (if p∈ks then ks else ks++[p]) (ps.drop (i+1))).length;rw [if_neg hk];exact hz
end
section
variable {prog:Program}{w:World}{A:Around}{E:Value->Shared->Prop}{s:Shared}
theorem Pr {x:Value}{T:String}{n:Nat}{P:Nat->Value->Prop}{ps:List (Int × Int)}{Q:Value->Shared->Prop}(hh:A.handled=none)(hx:Src prog w x s.heap n P)
  (tx:∀ s₁:Shared,(∀ b o,s.heap.get? b=some o->s₁.heap.get? b=some o)->s₁.TypeIs x T) (n1:isSubtype (.type T) (.type "set")=pure false) (n2:isSubtype (.type T) (.type "frozenset")=pure false) (n3:(Value.type T == Value.type "dict")=false)
  (hn:ps.length=n) (hv:Prs P ps [] s.heap) (hsm:∀ p∈ps,Sm p) (hz9:ps.length<=900) (hu:A.units+60<cLine)
  (h:∀ (h':Heap) (tk:Nat) (b':SetTable × Array Int),SetQ h' s.heap.objs.size b'->b'.2.size=(GL [] ps).length->(∀ b o,s.heap.get? b=some o->h'.get? b=some o)->Q (.ref s.heap.objs.size) { s with heap:=h',toks:=tk }) :
  wpAny (model prog w) A (call (.type "set") [x]) Q E s:=by
 obtain ⟨c,tl,hmro⟩:=F.called_set.mro;have hmade:=F.called_set.made;have hsub:=F.called_set.sub;refine wpAny_call (codeAny_of_tree ?_);show wpAny _ _ (callAny (.type "set") _) _ _ _;refine qcA ⟨Code.quiet_builtin _ (by decide +kernel),codeAny_builtin F.entry_type_call ?_⟩;rw [Around.under_plain (weight_type_call_type "set" [x] []) rfl];have h1:=F.called_set.notType;have h2:=F.called_set.canCreate;have hct:=PySem.F.typeCall_set_1 x
 repeat (any_goals (first|assumption|wp_step))
 refine codeAny_mono (Ht x (E:=E) (Q₁:=fun obj s₁=>obj = .ref s.heap.objs.size/\s₁ = { s with heap:=s.heap.push (BC w) }) ⟨rfl,rfl⟩) fun r s₁ hr=>?_
 cases r with
 | error e=>exact hr
 | ok fl=>cases fl with
  | ret obj =>
   obtain ⟨rfl,rfl⟩:=hr;have gS:(s.heap.push (BC w)).get? s.heap.objs.size=some (BC w):=qjB _ rfl;have hT:Shared.TypeIs { s with heap:=s.heap.push (BC w) } (.ref s.heap.objs.size) "set" := ⟨_,gS,rfl⟩;have hli:=F.called_set.init.lookup;have hbi:=F.called_set.init.bind (.ref s.heap.objs.size)
   repeat (any_goals (first|assumption|wp_step))
   refine codeAny_mono (codeAny_call_builtin (R:=wants (fun r s₂=>r = .none/\∃ h' tk b',s₂ = { s with heap:=h',toks:=tk }/\SetQ h' s.heap.objs.size b'/\b'.2.size=(GL [] ps).length/\(∀ b o,s.heap.get? b=some o->h'.get? b=some o)) E) F.called_set.init.plain F.entry_set_init (check_set_init_1 hT ?_)) fun r₂ s₂ hr₂=>?_
   ·obtain ⟨hp,g,d,tk0,os⟩:=s;dsimp only at *;have kp:∀ b o,hp.get? b=some o->(hp.push (BC w)).get? b=some o:=fun b o e=>qiB _ e;have hTx:Shared.TypeIs { heap:=hp.push (BC w),gens:=g,drawn:=d,toks:=tk0,os:=os } x T:=tx _ kp;unfold Builtin.«set.__init__» noKeywords Builtin.Frozenset.updateFrom;generalize hPI:pyIter=PI;unfold BC at *
    wp_walk
    subst hPI;obtain ⟨oI,fp,St,hf,hfp,st0,hit,hW⟩:=hx { heap:=hp.push (BC w),gens:=g,drawn:=d,toks:=tk0,os:=os } kp;refine hit _ _ _ (by simp [hh]) (qbA (wpAny_runValue ?_));have eS:(hp.push (BC w)).objs.size=hp.objs.size+1:=size_push' _ _
    have nS:hp.objs.size ∉ fp:=fun hm=>by
     rcases hfp _ hm with e|e
     ·rw [eS] at e;exact absurd e (qxB (Nat.lt_succ_self _))
     ·exact qeB _ e
    refine Q8 (hW _ (by simp [hh])).toS hp.objs.size nS ps hn (by simp;omega) hsm n 0 _ _ [] rfl (qdC _) st0 (freshK (w:=w) (qiB _ gS)) (by rw [List.length_nil];omega) ?_ fun s' b9 hm hS' hz=>?_
    ·intro i v e;obtain ⟨c,p,e1,e2,_,e4⟩:=hv i v e;have lc:c<hp.objs.size:=by obtain ⟨_,_,_,_,g,_⟩:=e4;exact qhB g
     refine ⟨c,p,e1,e2,fun hm=>?_,e4.at fun o q=>qiB _ (kp _ _ q)⟩;rcases qmA.mp hm with q|q
     ·exact absurd q (qxB lc)
     ·have q:=qpA.mp q;rw [eS] at q;exact absurd q (qxB (Nat.lt_succ_of_lt lc))
    ·obtain ⟨h',g',d',tk',os'⟩:=s';obtain rfl:g'=g:=hm.gens;obtain rfl:d'=d:=hm.drawn;obtain rfl:os'=os:=hm.os;refine qcA ?_;show wpAny _ _ (ret Value.none) _ _ _;refine qcA ⟨rfl,h',tk',b9,rfl,hS',by rw [List.drop_zero] at hz;exact hz,fun b o e=>?_⟩;have lb:b<hp.objs.size:=qhB e;refine hm.heap b o (fun hmem=>?_) (qiB _ (kp b o e));rcases qmA.mp hmem with q|q
     ·exact absurd q (qxB lb)
     ·have q:=qpA.mp q;rw [eS] at q;exact absurd q (qxB (Nat.lt_succ_of_lt lb))
   ·cases r₂ with
    | error e=>exact hr₂
    | ok fl₂=>cases fl₂ with
     | ret r =>
      obtain ⟨rfl,h',tk,b9,rfl,hS',hz,hk'⟩:=hr₂
      repeat (any_goals (first|assumption|wp_step))
      exact h _ _ _ hS' hz hk'
     | _=>exact hr₂.elim
  | _=>exact hr.elim
end
def rSetD (K:FZ9):List V->Hp->VK->Prop:=fun vs H Q=>∃ (l:Addr) (xs:List V) (ps:List (Int × Int)),vs=[.ref l]/\SqL K H l xs/\Paired (PrV K H) xs ps/\(∀ p∈ps,Sm p)/\ps.length<=900/\∀ p b,H p=none->b.2.size=(GL [] ps).length->Q (.ref p) (upd H p (NT p b))
theorem OE {X:Cx}{K:FZ9}(hu:X.A.units+60<cLine)(hc:X.calm=true)(hK:X.K=K):Cc X (.type "set") (rSetD K):=by
 subst hK;intro pins s σ H vs us Q I r h;obtain ⟨l,xs,ps,rfl,hl,hp,hs,h9,q⟩:=h;obtain ⟨u,rfl,ru⟩:=Dh r;cases ru;obtain ⟨its,rv,pl,_⟩:=I.list hl;have il:=pl.isList;refine Pr (ps:=ps) (T := "list") (I.ok.hd hc) (N4 il) (fun s1 k=>(il.at fun o e=>k _ _ e).typeIs) PySem.F.sub_list_set PySem.F.sub_list_frozenset (by decide) ?_ (fun i v e=>prs_of I hp rv i v (by rw [List.getElem?_toArray] at e;exact e)) hs h9 hu fun h' tk b hS hb hk=>?_
 ·rw [qrB,<- rv.length,hp.length]
 ·exact ⟨.ref s.heap.objs.size,_,I.laid' (s':={ s with heap:=h',toks:=tk }) (fun b o e=>hk b o e) (qcB _) (setQO_ok hS) rfl rfl,rfl,q _ _ (I.hok.fresh (qcB _)) hb⟩
theorem MA:∀ (ps ks:List (Int × Int)),(GL ks ps).length<=ks.length+ps.length
 | [],ks=>by simp [GL]
 | p::ps,ks=>by
  unfold GL;refine qdB (MA ps _) ?_;split<;>simp<;>omega
instance decSm (p:Int × Int):Decidable (Sm p):=by unfold Sm;infer_instance
def Ks (ps:List (Int × Int)):Option Int:=if ((ps.all fun p=>decide (Sm p)) && decide (ps.length<=900))=true then some ((GL [] ps).length:Int) else none
def LR:List D->Option (List Int)
 | []=>some []
 | .int i::ds=>(LR ds).map (i::·)
 | _::_=>none
def Oh:List D->Option (List (Int × Int))
 | []=>some []
 | .tup [.int i,.int j]::ds=>(Oh ds).map ((i,j)::·)
 | _::_=>none
def OU (d:D):Option (List Int):=(Le d).bind LR
def asPrs (d:D):Option (List (Int × Int)):=(Le d).bind Oh
section
variable {K:FZ9}{σ:St}{G:Hp}{ta:TE}
theorem OC {la:Option (List (Int × Int))}(ea:EV K ta σ G la):EV K (tCB rLenQ (Am (tCB (rSetD K) (Am ta Bm)) Bm)) σ G (la.bind fun ys=>Ks ys):=by
 clear 7;obtain ⟨a,ha,hc⟩:=qaA.mp hc;obtain ⟨h4,rfl⟩:=B2 hc;simp only [qeC,decide_eq_true_eq,List.all_eq_true] at h4;clear 8 ea a ha;obtain ⟨l,xs,rfl,h,z,p⟩:=r2;refine ⟨l,xs,a,rfl,.inl (x2.gh.rd h),?_,h4.1,h4.2,fun q b hq e2=>?_⟩
 ·exact prV_of (Paired.imp' (fun _ _ r=>Rp.mono x2.gh r) p)
 ·have hl:=MA a [];refine ⟨q,b,rfl,AQ,?_,?_⟩
  ·have:=h4.2;simp only [List.length_nil] at hl;omega
  have x3:Ext G2 H2 G2 (upd H2 q (NT q b)):=.own x2.gh hq;rw [e2];exact k _ _ _ (x2.trans x3) rfl
theorem Lh {H:Hp}:∀ {xs:List V}{ds:List D}{l:List Int},Paired (Rp.rel K H) xs ds->LR ds=some l->Paired (Rp.rel K H) xs l
 | _,_,l,.nil,e=>by cases e;exact .nil
 | _,_,l,.cons (b:=d) h t,e=>by
  cases d with
  | int i =>
   obtain ⟨m,hm,rfl⟩:=qfB.mp e;cases (show RelD K H _ (.int i) from h);exact .cons rfl (Lh t hm)
  | _=>cases e
theorem Nk {H:Hp}:∀ {xs:List V}{ds:List D}{l:List (Int × Int)},Paired (Rp.rel K H) xs ds->Oh ds=some l->Paired (Rp.rel K H) xs l
 | _,_,l,.nil,e=>by cases e;exact .nil
 | _,_,l,.cons (b:=d) h t,e=>by
  unfold Oh at e;split at e
  ·rename_i q;cases q
  ·rename_i i j ds' q;cases q;obtain ⟨m,hm,rfl⟩:=qfB.mp e
   cases (show RelD K H _ (.tup [.int i,.int j]) from h) with
   | tup h z r =>
    cases r with
    | cons r1 r=>cases r with
     | cons r2 r =>
      cases r;exact .cons ⟨_,_,_,rfl,h,by cases r1;rfl,by cases r2;rfl⟩ (Nk t hm)
  ·cases e
theorem QM {md:Option D}(e:EV K ta σ G md):EV K ta σ G (md.bind fun d=>OU d):=by
 clear 7;obtain ⟨d,hd,hc⟩:=qaA.mp hc;refine e G1 s1 d hd H sH Q fun v G2 H2 x r=>k v G2 H2 x ?_;obtain ⟨ds,h1,h2⟩:=qaA.mp (show (Le d).bind LR=some c from hc)
 cases d with
 | lst l =>
  obtain rfl:=qgB (show some l=some ds from h1)
  cases (show RelD K G2 v (.lst l) from r) with
  | lst h z r=>exact ⟨_,_,rfl,h,z,Lh (Bs r) h2⟩
 | _=>cases h1
theorem ev_asPrs {md:Option D}(e:EV K ta σ G md):EV K ta σ G (md.bind fun d=>asPrs d):=by
 clear 7;obtain ⟨d,hd,hc⟩:=qaA.mp hc;refine e G1 s1 d hd H sH Q fun v G2 H2 x r=>k v G2 H2 x ?_;obtain ⟨ds,h1,h2⟩:=qaA.mp (show (Le d).bind Oh=some c from hc)
 cases d with
 | lst l =>
  obtain rfl:=qgB (show some l=some ds from h1)
  cases (show RelD K G2 v (.lst l) from r) with
  | lst h z r=>exact ⟨_,_,rfl,h,z,Nk (Bs r) h2⟩
 | _=>cases h1
end
theorem Jl {prog prog':Program}{w w':World}{K K':Type}[DecidableEq K][DecidableEq K']{knd:KeyKind prog w K}{knd':KeyKind prog' w' K'}{h:Heap}{a:Addr}(x:h.DictOf knd a []):h.DictOf knd' a []:=by
 obtain ⟨o,es,ep,h1,h2,h3,h4,h5,_⟩:=x;obtain ⟨l⟩:=es;cases (show Pairs knd l [] from h5);exact ⟨o,_,ep,h1,h2,h3,fun e he=>(by simp at he),.nil,.nil⟩
inductive Dp:Nat->D->Prop
 | non (n:Nat):Dp n .non
 | bl (n:Nat) (b:Bool):Dp n (.bl b)
 | int (n:Nat) (i:Int):Dp n (.int i)
 | str (n:Nat) (x:Str):Dp n (.str x)
 | emp (n:Nat):Dp n .emp
 | lst {n:Nat}{ds:List D}(h:∀ d∈ds,Dp n d):Dp (n+1) (.lst ds)
 | tup {n:Nat}{ds:List D}(h:∀ d∈ds,Dp n d):Dp (n+1) (.tup ds)
theorem Ng {K:FZ9}{H:Hp}{xs:List V}{ds:List D}(r:RelDs K H xs ds){j:Nat}{x:V}{d:D}(e1:xs[j]? = some x)(e2:ds[j]? = some d):RelD K H x d:=Paired.at' (Bs r) e1 e2
def EqS (K:FZ9)(n:Nat)(d:D):Prop:=∀ {X:Cx}{pins:List (Addr × Obj)}{σ:St}{H:Hp}{s:Shared}{x y:V}{u v:Value}(A:Around),X.K=K->Inv X pins σ H s->A.units+n<cLine->RelV x u->RelV y v->RelD K H x d->RelD K H y d ->
 SeqAt.EqAt A s u v true/\SeqAt.RcAt A s u v true/\SeqAt.RcNeAt A s u v false
theorem Lp {K:FZ9}{n:Nat}{ds:List D}(ih:∀ d∈ds,EqS K n d){X:Cx}{pins:List (Addr × Obj)}{σ:St}{H:Hp}{s:Shared}{A:Around}(hK:X.K=K)(I:Inv X pins σ H s)(hu:A.units+(n+1)<cLine)
  {xs ys:List V}{us vs:List Value}(rx:Vals xs us) (ry:Vals ys vs) (px:RelDs K H xs ds) (py:RelDs K H ys ds) :
  ∀ j (h1:j<us.toArray.size) (h2:j<vs.toArray.size),SeqAt.EqAt A.in1 s us.toArray[j] vs.toArray[j] true:=by
 intro j h1 h2;have h1':j<us.length:=by simpa using h1
 have h2':j<vs.length:=by simpa using h2
 have lx:=rx.length;have ly:=ry.length;have lpx:=Paired.length (Bs px);have lpy:=Paired.length (Bs py);have ex:xs[j]? = some xs[j]:=qvA (by omega);have ey:ys[j]? = some ys[j]:=qvA (by omega);have ea:ds[j]? = some ds[j]:=qvA (by omega);obtain ⟨u,hu',ru⟩:=rx.get ex;obtain ⟨v,hv',rv⟩:=ry.get ey
 have e1:us.toArray[j]=u:=by
  rw [qvA h1'] at hu'
  simpa using hu'
 have e2:vs.toArray[j]=v:=by
  rw [qvA h2'] at hv'
  simpa using hv'
 rw [e1,e2];exact (ih _ (qtA ea) A.in1 hK I (show A.units+1+n<cLine by omega) ru rv (Ng px ex ea) (Ng py ey ea)).1
theorem Kf {A:Around}{s:Shared}{a b:Addr}(h:SeqAt.RcAt A s (.ref a) (.ref b) true):SeqAt.EqAt A s (.ref a) (.ref b) true:=by
 by_cases e:a=b
 ·subst e;exact SeqAt.EqAt.same _
 ·exact SeqAt.EqAt.of_refs e h
theorem eqS {K:FZ9}{n:Nat}{d:D}(h:Dp n d):EqS K n d:=by
 induction h with
 | non n =>
  intro X pins σ H s x y u v A hK I hu r1 r2 ha hb;cases ha;cases hb;cases r1;cases r2;exact ⟨SeqAt.EqAt.same _,SeqAt.RcAt.none_none,SeqAt.RcNeAt.none_none⟩
 | bl n b =>
  intro X pins σ H s x y u v A hK I hu r1 r2 ha hb;cases ha;cases hb;have e:=eqBl.eq (K:=K) (a:=b) (b:=b) A hK I (by omega) r1 r2 rfl rfl;have r:=eqBl.rc (K:=K) (a:=b) (b:=b) A hK I (by omega) r1 r2 rfl rfl
  simpa using And.intro e r
 | int n b =>
  intro X pins σ H s x y u v A hK I hu r1 r2 ha hb;cases ha;cases hb;have e:=eqInt.eq (K:=K) (a:=b) (b:=b) A hK I (by omega) r1 r2 rfl rfl;have r:=eqInt.rc (K:=K) (a:=b) (b:=b) A hK I (by omega) r1 r2 rfl rfl
  simpa using And.intro e r
 | str n b =>
  intro X pins σ H s x y u v A hK I hu r1 r2 ha hb;cases ha;cases hb;have e:=eqStr.eq (K:=K) (a:=b) (b:=b) A hK I (by omega) r1 r2 rfl rfl;have r:=eqStr.rc (K:=K) (a:=b) (b:=b) A hK I (by omega) r1 r2 rfl rfl
  simpa using And.intro e r
 | emp n =>
  intro X pins σ H s x y u v A hK I hu r1 r2 ha hb
  cases ha with
  | eK ha=>cases hb with
   | eK hb =>
    cases r1;cases r2;obtain ⟨_,na,vs,kv,da⟩:=dk_rd I.hok ha;obtain ⟨_,nb,us,ku,db⟩:=dk_rd I.hok hb;cases kv;cases ku;have rc:SeqAt.RcAt A s (.ref _) (.ref _) true:=fun prog w E Q h=>PySem.W.keq_eq (knd:=Bh prog w) (r:=true) na nb (Jl da) (Jl db) (by omega) (fun _=>.nil) h;exact ⟨Kf rc,rc,fun prog w E Q h=>PySem.W.keq_ne (knd:=Bh prog w) (r:=true) na nb (Jl da) (Jl db) (by omega) (fun _=>.nil) h⟩
 | lst h ih =>
  intro X pins σ H s x y u v A hK I hu r1 r2 ha hb
  cases ha with
  | lst ha za pa=>cases hb with
   | lst hb zb pb =>
    cases r1;cases r2;obtain ⟨us,rx,plx,_⟩:=I.list (.inl ha);obtain ⟨vs,ry,ply,_⟩:=I.list (.inl hb);have it:=Lp (A:=A) ih hK I hu rx ry pa pb
    have hsz:us.toArray.size=vs.toArray.size:=by
     have:=rx.length;have:=ry.length;have:=Paired.length (Bs pa);have:=Paired.length (Bs pb);simp;omega
    have rc:=SeqAt.RcAt.lists (e:=fun _=>true) plx.isList ply.isList hsz (by omega) it;have rn:=SeqAt.RcNeAt.lists (e:=fun _=>true) plx.isList ply.isList hsz (by omega) it;have ea:((List.range us.toArray.size).all fun _=>true)=true:=by simp
    rw [ea] at rc rn;exact ⟨Kf rc,rc,rn⟩
 | tup h ih =>
  intro X pins σ H s x y u v A hK I hu r1 r2 ha hb
  cases ha with
  | tup ha za pa=>cases hb with
   | tup hb zb pb =>
    subst hK;cases r1;cases r2;obtain ⟨us,rx,plx,_⟩:=I.tuple ha;obtain ⟨vs,ry,ply,_⟩:=I.tuple hb;have it:=Lp (A:=A) ih rfl I hu rx ry pa pb
    have hsz:us.toArray.size=vs.toArray.size:=by
     have:=rx.length;have:=ry.length;have:=Paired.length (Bs pa);have:=Paired.length (Bs pb);simp;omega
    have rc:=SeqAt.RcAt.tuples (e:=fun _=>true) plx ply (by omega) it;have rn:=SeqAt.RcNeAt.tuples (e:=fun _=>true) plx ply (by omega) it;have ea:((List.range (min us.toArray.size vs.toArray.size)).all (fun _=>true) && us.toArray.size == vs.toArray.size)=true:=by simp [hsz]
    rw [ea] at rc rn;exact ⟨Kf rc,rc,rn⟩
open Classical in
def Qa (a b:D):Option Bool:=if a=b/\Dp 9 a then some false else none
theorem Qn {a:D}(h:Dp 9 a):Qa a a=some false:=by
 unfold Qa;rw [if_pos ⟨rfl,h⟩]
theorem QG {a b:D}{c:Bool}(h:Qa a b=some c):a=b/\Dp 9 a/\c=false:=by
 unfold Qa at h;split at h
 ·rename_i q;exact ⟨q.1,q.2,(qgB h).symm⟩
 ·cases h
def rNeS (K:FZ9):R2:=fun x y H Q=>∃ d:D,Dp 9 d/\RelD K H x d/\RelD K H y d/\Q (.bl false) H
theorem op_neS {X:Cx}{j:Nat}(hr:Room j X.A):OpR X (compareOp .NotEq) (rNeS X.K):=by
 intro pins s σ H x y v u Q I rx ry h;obtain ⟨d,h0,h1,h2,q⟩:=h;exact (eqS h0 X.A rfl I (by have:=hr.un;omega) rx ry h1 h2).2.2 _ _ _ _ ⟨.bl _,H,I,rfl,q⟩
theorem ev_neDD {K:FZ9}{σ:St}{G:Hp}{ta tb:TE}{m1 m2:Option D}(ea:EV K ta σ G m1)(eb:EV K tb σ G m2):EV K (tOp (rNeS K) ta tb) σ G (m1.bind fun a=>m2.bind fun b=>Qa a b) :=
 By (fun s ra rb e Q k=>by
  obtain ⟨rfl,hd,rfl⟩:=QG e
  exact ⟨_,hd,Rp.mono s ra,Rp.mono s rb,k _ _ _ (.refl s) rfl⟩) ea eb
def spC (K:FZ9){A:Type}[RpA A]{α β:Type}[Rp α][Rp β](m:List α->A->Option β):Sp:=fun vs H Q _ =>
 ∃ G p xs us as a r,vs = .ref p::us/\Same G H/\Own K G H (.ref p) p xs as/\RpA.rel K G us a/\m as a=some r /\
  ∀ w G2 H2,Ext G (era H [p]) G2 H2->Rp.rel K G2 w r->Q w H2
def intW (x:Str):Option Int:=if x.length<=640 then PySem.intText? x else none
def rIntW:List V->Hp->VK->Prop:=fun vs H Q=>∃ x i,vs=[.str x]/\intW x=some i/\Q (.int i) H
theorem QX {X:Cx}:Cc X (.type "int") rIntW:=by
 intro pins s σ H vs us Q I r h;obtain ⟨x,i,rfl,hz,q⟩:=h;obtain ⟨u,rfl,ru⟩:=Dh r;obtain ⟨t,rfl⟩:=ru;unfold intW at hz;split at hz
 ·rename_i hl;exact call_int_1 (PySem.W.KIN.gives_text hl hz).meets (show (Made.int i).post _ s from ⟨rfl,.int i,H,I.tok _,⟨_,rfl⟩,q⟩)
 ·cases hz
theorem ev_intW {K:FZ9}{σ:St}{G:Hp}{ta:TE}{ma:Option Str}(ea:EV K ta σ G ma):EV K (tCB rIntW (Am ta Bm)) σ G (ma.bind fun a=>intW a):=by
 clear 7;obtain ⟨a,ha,hc⟩:=qaA.mp hc;clear 8 ea a ha;obtain ⟨rfl,z⟩:=r2;exact ⟨a,c,rfl,hc,k _ _ _ x2 rfl⟩
def rFind:V->List V->Hp->VK->Prop:=fun v vs H Q=>∃ x y,v = .str x/\vs=[.str y]/\Q (.int (Txt.find x y)) H
theorem mt_find {X:Cx}:MtR X "str.find" rFind:=by
 intro pins s σ H v vs v' us Q I rx rv h;obtain ⟨x,y,rfl,rfl,q⟩:=h;obtain ⟨t,rfl⟩:=rx;obtain ⟨u,rfl,ru⟩:=Dh rv;obtain ⟨t2,rfl⟩:=ru;exact SC.find ⟨.int _,H,I.tok _,⟨_,rfl⟩,q⟩
theorem ev_find {K:FZ9}{σ:St}{G:Hp}{ta tb:TE}{ma mb:Option Str}(ea:EV K ta σ G ma)(eb:EV K tb σ G mb):EV K (tBM K "str" rFind ta (Am tb Bm)) σ G (ma.bind fun a=>mb.bind fun b=>some (Txt.find a b:Int)):=by
 clear 7;obtain ⟨a,ha,hc⟩:=qaA.mp hc;obtain ⟨b,hb,hc⟩:=qaA.mp hc;cases hc;clear 8 ea a ha;obtain ⟨rfl,z2⟩:=r2;refine ⟨rfl,eb G2 (s1.trans x2.gg) b hb H2 x2.gh _ fun u G3 H3 x3 r3=>?_⟩;obtain ⟨rfl,z3⟩:=r3;exact ⟨a,b,rfl,rfl,k _ _ _ (x2.trans x3) rfl⟩
open Classical in
def N9 (a b:D):Option Bool:=if a=b/\Dp 9 a then some true else none
theorem Ql {a:D}(h:Dp 9 a):N9 a a=some true:=by
 unfold N9;rw [if_pos ⟨rfl,h⟩]
theorem Q4 {a b:D}{c:Bool}(h:N9 a b=some c):a=b/\Dp 9 a/\c=true:=by
 unfold N9 at h;split at h
 ·rename_i q;exact ⟨q.1,q.2,(qgB h).symm⟩
 ·cases h
def rEqS (K:FZ9):R2:=fun x y H Q=>∃ d:D,Dp 9 d/\RelD K H x d/\RelD K H y d/\Q (.bl true) H
theorem op_eqS {X:Cx}{j:Nat}(hr:Room j X.A):OpR X (compareOp .Eq) (rEqS X.K):=by
 intro pins s σ H x y v u Q I rx ry h;obtain ⟨d,h0,h1,h2,q⟩:=h;exact (eqS h0 X.A rfl I (by have:=hr.un;omega) rx ry h1 h2).2.1 _ _ _ _ ⟨.bl _,H,I,rfl,q⟩
theorem PV {K:FZ9}{σ:St}{G:Hp}{ta tb:TE}{m1 m2:Option D}(ea:EV K ta σ G m1)(eb:EV K tb σ G m2):EV K (tOp (rEqS K) ta tb) σ G (m1.bind fun a=>m2.bind fun b=>N9 a b) :=
 By (fun s ra rb e Q k=>by
  obtain ⟨rfl,hd,rfl⟩:=Q4 e
  exact ⟨_,hd,Rp.mono s ra,Rp.mono s rb,k _ _ _ (.refl s) rfl⟩) ea eb
section
variable {K:FZ9}{mg:Str->Option Value}{σ:St}{G H:Hp}{α β γ δ:Type}[Rp α][Rp β][Rp γ][Rp δ]{te ta:TE}{tl:TA}{E:St->XK}{rest:TS}{D:Ends}{i k:Nat}{v:V}{p0 p1 p2 p3:Addr}{a:T4 (List α) (List β) (List γ) (List δ)}
theorem EVX.ok {m:Option (Except Str α)}{a:α}(e:EVX K mg E te σ G m)(h:m=some (.ok a)):EV K te σ G (some a):=by
 intro G1 s1 b hb H sH Q k;cases hb;exact e G1 s1 _ h H sH Q k
theorem evx_map {cap:List Nat}{wi:TI}{mi:Option (List α)}{fe:α->Option (Except Str β)}{Ex:XK}(ei:IW K wi σ G mi)
  (hb:∀ (x:V) (a:α) (G1:Hp),Same G G1->Rp.rel K G1 x a->EVX K mg (fun _=>Ex) te ((C7 cap σ).set 0 (some x)) G1 (fe a)):EVX K mg (fun _=>Ex) (M7 cap wi Q3 te) σ G (mi.bind fun as=>LD fe as):=by
 intro G0 s0 r hr H s Q k;obtain ⟨as,hmi,hr⟩:=qaA.mp hr;refine ei G0 s0 as hmi H s _ fun J vs Ga Ha xa Y hz pr p hp=>?_;have hla:=Paired.length pr
 refine ⟨fun i m ys H2=>m=vs.length - i/\i<=vs.length/\∃ G2 bs c,Ext Ga Ha G2 H2/\G2 p=none/\H2 p=some (.lst ys)/\ys.length<=i/\Paired (Rp.rel K G2) ys bs/\LD fe (as.drop i)=some c/\r=(match c with | .ok cs=>.ok (bs++cs) | .error nm=>.error nm),
  ⟨vs.length,by simp,qdC _,Ga,[],r,.own xa.gh hp,xa.gh.free hp,AQ,qcB _,.nil,hr,by cases r<;>rfl⟩,?_⟩
 rintro i m ys H2 ⟨rfl,hi,G2,bs,c,x2,hg,hh,hy,hpr,hcs,rfl⟩;by_cases hlt:i<vs.length
 ·refine .inr ⟨Y.go i _ (x2.gg.trans x2.gh) hlt,fun ys' H'=>∃ G2 bs' c',Ext Ga Ha G2 H'/\G2 p=none/\H' p=some (.lst ys')/\ys'.length<=i+1/\Paired (Rp.rel K G2) ys' bs'/\LD fe (as.drop (i+1))=some c'/\(match c with | .ok cs=>.ok (bs++cs) | .error nm=>.error nm:Except Str (List β))=(match c' with | .ok cs=>.ok (bs'++cs) | .error nm=>.error nm),
   fun ys' H' ⟨G3,bs',cs',h⟩=>⟨vs.length - (i+1),by omega,rfl,hlt,G3,bs',cs',h⟩,fun x H3 y=>?_⟩
  obtain ⟨rfl,hx⟩:=Y.yld i _ x H3 (x2.gg.trans x2.gh) hlt y;obtain ⟨a,hai,ra⟩:=Paired.getR pr hx
  have hd:as.drop i=a::as.drop (i+1):=by
   obtain ⟨h1,h2⟩:=quA.mp hai;rw [List.drop_eq_getElem_cons h1,h2]
  rw [hd] at hcs;obtain ⟨z,hze,hcs⟩:=qaA.mp hcs;have B:=hb x a G2 (s0.trans (xa.gg.trans x2.gg)) (Rp.mono x2.gg ra);unfold Q3
  try dsimp only
  rw [if_pos rfl];refine B G2 (.refl _) z hze H3 x2.gh _ ?_
  cases z with
  | error nm =>
   cases hcs;exact Raises.pre k (xa.trans x2)
  | ok b =>
   obtain ⟨c',hc',hcs⟩:=qaA.mp hcs;intro v G6 H6 x6 r6;have hp6:H6 p=some (.lst ys):=x6.hh _ _ hh;have hg6:G6 p=none:=x6.no p hg (by rw [hh];exact fun z=>nomatch z);refine ⟨hp6,by omega,G6,bs++[b],c',(x2.trans x6).put hp hg6,hg6,AQ,?_,Paired.app (Paired.imp' (fun _ _ r=>Rp.mono x6.gg r) hpr) (.cons r6 .nil),hc',?_⟩
   ·rw [qfA,qhA];omega
   ·cases c' with
    | error nm=>cases hcs;rfl
    | ok cs'=>cases hcs;simp
 ·have e:i=vs.length:=by omega
  subst e;have hd:as.drop vs.length=[]:=List.drop_eq_nil_of_le (by omega);rw [hd] at hcs;cases hcs;refine .inl ⟨Y.stop _ (x2.gg.trans x2.gh),?_⟩;have k:∀ v G3 H3,Ext G0 H G3 H3->Rp.rel K G3 v (bs++[])->Q v H3:=k;rw [qbB] at k;exact k _ _ _ ((xa.trans x2).frz (xa.hh.free hp) hg hh) (Own.tell ⟨rfl,hg,hh,by omega,hpr⟩)
def Mw {α β:Type}(e:Option (Except Str α))(f:α->Option β):Option (Except Str β):=e.bind fun r=>match r with
 | .error n=>some (.error n)
 | .ok x=>(f x).bind fun z=>some (.ok z)
theorem Gu {α β:Type}{e:Option (Except Str α)}{f:α->Option β}{r:Except Str β}(h:Mw e f=some r):(∃ n,e=some (.error n)/\r = .error n)\/∃ x z,e=some (.ok x)/\f x=some z/\r = .ok z:=by
 obtain ⟨c,hc,h⟩:=qaA.mp h
 cases c with
 | error n=>exact .inl ⟨n,hc,(qgB h).symm⟩
 | ok x =>
  obtain ⟨z,hz,h⟩:=qaA.mp h;exact .inr ⟨x,z,hc,hz,(qgB h).symm⟩
def tupX {α:Type}:Except Str (List α)->Except Str (Tp α)
 | .ok l=>.ok (Tp.mk l)
 | .error n=>.error n
theorem Lu {la:Option (Except Str (List α))}(ea:EVX K mg E ta σ G la):EVX K mg E (tCB (fun xs H Q=>∃ p ys,xs=[.ref p]/\((SqL K H p ys/\∀ l,H l=none->Q (.ref l) (upd H l (.tup ys)))\/(SqT K H p ys/\Q (.ref p) H))) (Am ta Bm)) σ G (la.bind fun r=>some (tupX r)):=by
 intro G1 s1 r hr H sH Q k;obtain ⟨c,hc,hr⟩:=qaA.mp hr;cases hr
 cases c with
 | ok l=>exact ev_tuple (ea.ok hc) G1 s1 _ rfl H sH Q k
 | error n=>exact ea G1 s1 _ hc H sH _ k
theorem Mj {ε:Type}[Rp ε]{m:Option (Except Str ε)}{nm:Str}{j:Int}(hσ:σ[i]? = some (some v))(o:OwnQ K G H v p0 p1 p2 p3 a)(hj:j=0\/j=1\/j=2\/j=3)(e:EVX K mg E te σ G m)(hm:m=some (.error nm))(s:Same G H)(k:Raises mg (E σ) nm G H) :
  EE (Ft (tBM K "list" Da (tOp (rAt K) (Hi i) (tC (.int j))) (Am te Bm))) rest D σ H:=by
 obtain ⟨⟨t,rfl,g⟩,⟨_,a0⟩,⟨_,a1⟩,⟨_,a2⟩,⟨_,a3⟩,nd⟩:=id o;rcases hj with rfl|rfl|rfl|rfl
 ·exact ⟨_,hσ,.inr ⟨_,.ref p0,SqT.of (s _ _ g),rfl,.inl ⟨rfl,_,SqL.of a0.h⟩,e G (.refl G) _ hm H s _ k⟩⟩
 ·exact ⟨_,hσ,.inr ⟨_,.ref p1,SqT.of (s _ _ g),rfl,.inl ⟨rfl,_,SqL.of a1.h⟩,e G (.refl G) _ hm H s _ k⟩⟩
 ·exact ⟨_,hσ,.inr ⟨_,.ref p2,SqT.of (s _ _ g),rfl,.inl ⟨rfl,_,SqL.of a2.h⟩,e G (.refl G) _ hm H s _ k⟩⟩
 ·exact ⟨_,hσ,.inr ⟨_,.ref p3,SqT.of (s _ _ g),rfl,.inl ⟨rfl,_,SqL.of a3.h⟩,e G (.refl G) _ hm H s _ k⟩⟩
def spQX (K:FZ9)(mg:Str->Option Value){A:Type}[RpA A]{α β γ δ:Type}[Rp α][Rp β][Rp γ][Rp δ](m:T4 (List α) (List β) (List γ) (List δ)->A->Option (Except Str (T4 (List α) (List β) (List γ) (List δ)))):Sp:=fun vs H Q E =>
 ∃ G v us p0 p1 p2 p3 f a r,vs=v::us/\Same G H/\OwnQ K G H v p0 p1 p2 p3 f/\RpA.rel K G us a/\m f a=some r /\
  Lm r (fun r=>∀ G2 H2,Ext G (era H [p0,p1,p2,p3]) G2 H2->OwnQ K G2 H2 v p0 p1 p2 p3 r->Q .non H2) fun nm=>Raises mg E nm G (era H [p0,p1,p2,p3])
theorem spQX_len {A:Type}[RpA A]{m:T4 (List α) (List β) (List γ) (List δ)->A->Option (Except Str (T4 (List α) (List β) (List γ) (List δ)))}{vs:List V}{Q:VK}{E:XK}(h:spQX K mg m vs H Q E):vs.length=RpA.n A+1:=by
 obtain ⟨G,v,us,p0,p1,p2,p3,f,a,r,rfl,_,_,h,_⟩:=h;rw [qgA,RpA.len h]
theorem Q1 {A:Type}[RpA A]{mA:Option A}{c:A}{m:T4 (List α) (List β) (List γ) (List δ)->A->Option (Except Str (T4 (List α) (List β) (List γ) (List δ)))}{r:Except Str (T4 (List α) (List β) (List γ) (List δ))}(hσ:σ[i]? = some (some v))(o:OwnQ K G H v p0 p1 p2 p3 a)(ea:AV K tl σ G mA)(ha:mA=some c)(hm:m a c=some r)(s:Same G H)
  (k:Lm r (fun r=>∀ G1 H1 G2 H2,Ext G H G1 H1->Ext G1 (era H1 [p0,p1,p2,p3]) G2 H2->OwnQ K G2 H2 v p0 p1 p2 p3 r->rest D σ H2) fun nm=>∀ G1 H1,Ext G H G1 H1->Raises mg (E σ) nm G1 (era H1 [p0,p1,p2,p3])):EE (Ft (O8 (spQX K mg m) E (Am (Hi i) tl))) rest D σ H:=by
 refine ⟨_,hσ,?_⟩;refine ea G (.refl G) c ha H s _ fun us G1 H1 x ra=>?_;refine ⟨G1,v,us,p0,p1,p2,p3,a,c,r,rfl,x.gh,o.ext x,ra,hm,?_⟩
 cases r with
 | ok b=>exact fun G2 H2 x2 o2=>k G1 H1 G2 H2 x x2 o2
 | error nm=>exact k G1 H1 x
end
abbrev TD4:Type:=T4 (List D) (List D) (List D) (List D)
section
variable {K:FZ9}{σ:St}{G H:Hp}{te:TE}{rest:TS}{D:Ends}{i k:Nat}{v:V}{p0 p1 p2 p3:Addr}
def Ih (a:TD4)(n:Int)(d:L2.D):Option TD4 :=
 if n=0 then (Ce a.a d).bind fun l=>some (T4.mk l a.b a.c a.d)
 else if n=1 then (Ce a.b d).bind fun l=>some (T4.mk a.a l a.c a.d)
 else if n=2 then (Ce a.c d).bind fun l=>some (T4.mk a.a a.b l a.d)
 else if n=3 then (Ce a.d d).bind fun l=>some (T4.mk a.a a.b a.c l)
 else none
theorem sq_appI {a r:TD4}{n:Int}{u:V}{d:L2.D}{m:Option L2.D}(hσ:σ[i]? = some (some v))(o:OwnQ K G H v p0 p1 p2 p3 a)(hk:σ[k]? = some (some u))(ru:Rp.rel K G u n)(e:EV K te σ G m)(hm:m=some d)(hp:Ih a n d=some r)(s:Same G H)
  (q:∀ G2 H1 H2 p,p∈[p0,p1,p2,p3]->Ext G H G2 H1->G2 p=none->(∀ b,b≠p->H2 b=H1 b)->OwnQ K G2 H2 v p0 p1 p2 p3 r->rest D σ H2) :
  EE (Ft (tBM K "list" Da (tOp (rAt K) (Hi i) (Hi k)) (Am te Bm))) rest D σ H:=by
 obtain rfl:u = .int n:=ru
 have key:EE (Ft (tBM K "list" Da (tOp (rAt K) (Hi i) (tC (.int n))) (Am te Bm))) rest D σ H:=by
  unfold Ih at hp;by_cases h0:n=0
  ·subst h0;rw [if_pos rfl] at hp;obtain ⟨l,hl,hp⟩:=qaA.mp hp;cases hp;exact PC hσ o e hm hl s fun G2 H1 H2 x y o=>q G2 H1 H2 p0 (by simp) x (by obtain ⟨_,z⟩:=o.o0;exact z.g) y o
  rw [if_neg h0] at hp;by_cases h1:n=1
  ·subst h1;rw [if_pos rfl] at hp;obtain ⟨l,hl,hp⟩:=qaA.mp hp;cases hp;exact Pd hσ o e hm hl s fun G2 H1 H2 x y o=>q G2 H1 H2 p1 (by simp) x (by obtain ⟨_,z⟩:=o.o1;exact z.g) y o
  rw [if_neg h1] at hp;by_cases h2:n=2
  ·subst h2;rw [if_pos rfl] at hp;obtain ⟨l,hl,hp⟩:=qaA.mp hp;cases hp;exact P5 hσ o e hm hl s fun G2 H1 H2 x y o=>q G2 H1 H2 p2 (by simp) x (by obtain ⟨_,z⟩:=o.o2;exact z.g) y o
  rw [if_neg h2] at hp;by_cases h3:n=3
  ·subst h3;rw [if_pos rfl] at hp;obtain ⟨l,hl,hp⟩:=qaA.mp hp;cases hp;exact P4 hσ o e hm hl s fun G2 H1 H2 x y o=>q G2 H1 H2 p3 (by simp) x (by obtain ⟨_,z⟩:=o.o3;exact z.g) y o
  rw [if_neg h3] at hp;cases hp
 obtain ⟨w,hw,q⟩:=key;exact ⟨w,hw,_,hk,q⟩
end
end L2
namespace My
open PySem PySem.Spec PyProof.Rows L2
def Cm (AS:Int):Option Int :=
 (some (decide (((AS / (8:Int)) % (4:Int))=(3:Int)))).bind fun b1=>cond b1
  ((some ((1:Int)+(AS % (8:Int)))))
  ((some ((1:Int)+(AS % (4:Int)))))
abbrev HQ (x:Int × Unit):Option Int:=Cm x.1
def C2 (AS:Int)(FH:Int):Option (List Int) :=
 (some ([]:List Int)).bind fun IT =>
 ((some FH).bind fun t9=>Jd 0 t9).bind fun as10=>(CK (S:=(Int × (List Int))) (ρ:=(List Int)) (fun (k_:Int) s17 =>
   (some (decide ((s17.1 % (2:Int))=(1:Int)))).bind fun b32=>(cond b32
    ((some k_).bind fun a41=>(Ce s17.2 a41).bind fun z49 =>
    some z49)
    (some s17.2)).bind fun s37 =>
   (some (s17.1 / (2:Int))).bind fun AS =>
   some (Fl.nx (AS,s37))) as10 (AS,IT)).bind fun fl12=>match fl12 with
  | .nx s17 =>
   (some s17.2)
  | .rt r=>some r
  | .bk _=>none
abbrev F5 (x:Int × Int × Unit):Option (List Int):=C2 x.1 x.2.1
def AX (script_:Scr)(k_:Int):Option Int :=
 (some (decide (k_<(script_.l.length:Int)))).bind fun b1=>cond b1
  (((some script_).bind fun t6=>(some k_).bind fun t7=>atI t6.l t7))
  ((some ((k_ * (7919:Int))+(5:Int))).bind fun BF =>
  (some (decide ((0:Int)<(script_.l.length:Int)))).bind fun b19=>(cond b19
   ((((((some script_).bind fun t32=>((some (k_ * (7:Int))).bind fun t30=>(some (script_.l.length:Int)).bind fun t31=>JX t30 t31).bind fun t33=>atI t32.l t33).bind fun t34=>(some (t34 * (48271:Int)))).bind fun t35=>(some (t35+(k_ * (7919:Int))))).bind fun t36=>(some (t36 % (2147483647:Int)))).bind fun BF =>
   some BF)
   (some BF)).bind fun s24 =>
  (((some s24).bind fun t46=>(some s24).bind fun t47=>LC t46 t47).bind fun t48=>(some (t48 % (2147483629:Int)))))
abbrev Ak (x:Scr × Int × Unit):Option Int:=AX x.1 x.2.1
def DW (CP:(List Str))(NF:Int):Option Str :=
 (some ("" : Str)).bind fun text_ =>
 ((some CP).bind fun t7=>P9 t7).bind fun as8=>(CK (S:=(Int × Str)) (ρ:=Str) (fun (DY:Str) s15 =>
   (some (decide ((s15.1 % (2:Int))=(1:Int)))).bind fun b32=>(cond b32
    (((some s15.2).bind fun t43=>(some DY).bind fun t44=>Hd t43 t44).bind fun text_ =>
    some text_)
    (some s15.2)).bind fun s37 =>
   (some (s15.1 / (2:Int))).bind fun NF =>
   some (Fl.nx (NF,s37))) as8 (NF,text_)).bind fun fl10=>match fl10 with
  | .nx s15 =>
   (some s15.2)
  | .rt r=>some r
  | .bk _=>none
abbrev Kc (x:(List Str) × Int × Unit):Option Str:=DW x.1 x.2.1
def CQ (script_:Scr)(CP:(List Str)):Option (T4 (List Str) (List (Int × Int)) (List Int) (List (List Int))) :=
 (((some script_).bind fun t1=>(some (1:Int)).bind fun t2=>AX t1 t2).bind fun t3=>Cm t3).bind fun FH =>
 (some ((3:Int) * FH)).bind fun Nq =>
 (((((some script_).bind fun t16=>(some (2:Int)).bind fun t17=>AX t16 t17).bind fun t18=>(some (t18 / (25:Int)))).bind fun t19=>(some (t19 % (4:Int)))).bind fun t20=>(some (decide (t20=(3:Int))))).bind fun b21=>(cond b21
  (((some FH).bind fun t32=>(some FH).bind fun t33=>LC t32 t33).bind fun Nq =>
  some Nq)
  (some Nq)).bind fun s26 =>
 (some ([]:List (Int × Int))).bind fun Lc =>
 ((((some script_).bind fun t51=>(some (2:Int)).bind fun t52=>AX t51 t52).bind fun t53=>(some ((if s26<(24:Int) then s26 else (24:Int))+(1:Int))).bind fun t54=>JX t53 t54).bind fun t55=>Jd 0 t55).bind fun as56=>(CK (S:=((List (Int × Int)))) (ρ:=(T4 (List Str) (List (Int × Int)) (List Int) (List (List Int)))) (fun (k_:Int) s63 =>
   ((some script_).bind fun t78=>(some ((8:Int)+k_)).bind fun t79=>AX t78 t79).bind fun AS =>
   (((some (AS / (9:Int))).bind fun t86=>(some FH).bind fun t87=>JX t86 t87).bind fun t90=>((some AS).bind fun t88=>(some FH).bind fun t89=>JX t88 t89).bind fun t91=>(some (t90,t91))).bind fun way_ =>
   (some (decide (k_<FH))).bind fun b98=>(cond b98
    (((some k_).bind fun t112=>((some AS).bind fun t109=>(some FH).bind fun t110=>JX t109 t110).bind fun t113=>some (t112,t113)).bind fun way_ =>
    some way_)
    (some way_)).bind fun s103 =>
   (some (!memE s103 s63)).bind fun b123=>cond b123
    ((some s103).bind fun a128=>(Ce s63 a128).bind fun z136 =>
    some (Fl.nx z136))
    (some (Fl.nx s63))) as56 Lc).bind fun fl58=>match fl58 with
  | .nx s63 =>
   (((some FH).bind fun t143=>Jd 0 t143).bind fun t153=>Bt (fun (k_:Int)=>((some CP).bind fun t151=>(((some script_).bind fun t148=>(some ((32:Int)+k_)).bind fun t149=>AX t148 t149).bind fun t150=>(some (t150 % (16:Int)))).bind fun t152=>DW t151 t152)) t153).bind fun E5 =>
   (((some script_).bind fun t160=>(some (3:Int)).bind fun t161=>AX t160 t161).bind fun t162=>(some FH).bind fun t163=>C2 t162 t163).bind fun Gg =>
   (((((some script_).bind fun t170=>(some (3:Int)).bind fun t171=>AX t170 t171).bind fun t172=>(some (t172 / (256:Int)))).bind fun t173=>(some (t173 % (2:Int)))).bind fun t174=>(some (decide (t174=(1:Int))))).bind fun b175=>(cond b175
    (((some Gg).bind fun t186=>sortRO t186).bind fun Gg =>
    some Gg)
    (some Gg)).bind fun s180 =>
   (((((some script_).bind fun t210=>(some (4:Int)).bind fun t211=>AX t210 t211).bind fun t212=>(some (t212 % (4:Int)))).bind fun t213=>Jd 0 t213).bind fun t222=>Bt (fun (k_:Int)=>(((some script_).bind fun t218=>(some ((5:Int)+k_)).bind fun t219=>AX t218 t219).bind fun t220=>(some (s63.length:Int)).bind fun t221=>C2 t220 t221)) t222).bind fun marks_ =>
   (some (T4.mk E5 s63 s180 marks_))
  | .rt r=>some r
  | .bk _=>none
abbrev GM (x:Scr × (List Str) × Unit):Option (T4 (List Str) (List (Int × Int)) (List Int) (List (List Int))):=CQ x.1 x.2.1
def BY (machine_here_:(T4 (List Str) (List (Int × Int)) (List Int) (List (List Int)))):Option Str :=
 (some ([]:List Str)).bind fun parts_ =>
 (some machine_here_.a).bind fun as9=>(CK (S:=((List Str))) (ρ:=Str) (fun (shown_:Str) s16 =>
   ((some ("state " : Str)).bind fun t30=>((some (!decide (shown_=("" : Str)))).bind fun t29=>cond t29 (some shown_) (some ("-" : Str))).bind fun t31=>Hd t30 t31).bind fun a32=>(Ce s16 a32).bind fun z40 =>
   some (Fl.nx z40)) as9 parts_).bind fun fl11=>match fl11 with
  | .nx s16 =>
   (some machine_here_.b).bind fun as45=>(CK (S:=((List Str))) (ρ:=Str) (fun (way_:(Int × Int)) s52 =>
     ((((some ("way " : Str)).bind fun t66=>((some way_.1).bind fun t65=>Cq t65).bind fun t67=>Hd t66 t67).bind fun t68=>(some (" " : Str)).bind fun t69=>Hd t68 t69).bind fun t71=>((some way_.2).bind fun t70=>Cq t70).bind fun t72=>Hd t71 t72).bind fun a73=>(Ce s52 a73).bind fun z81 =>
     some (Fl.nx z81)) as45 s16).bind fun fl47=>match fl47 with
    | .nx s52 =>
     (some machine_here_.c).bind fun as86=>(CK (S:=((List Str))) (ρ:=Str) (fun (DS:Int) s93 =>
       ((some ("from " : Str)).bind fun t107=>((some DS).bind fun t106=>Cq t106).bind fun t108=>Hd t107 t108).bind fun a109=>(Ce s93 a109).bind fun z117 =>
       some (Fl.nx z117)) as86 s52).bind fun fl88=>match fl88 with
      | .nx s93 =>
       (some machine_here_.d).bind fun as122=>(CK (S:=((List Str))) (ρ:=Str) (fun (GR:(List Int)) s129 =>
         ((some (" " : Str)).bind fun t150=>((some [("mark" : Str)]).bind fun t148=>((some GR).bind fun t147=>Bt (fun (k_:Int)=>((some k_).bind fun t146=>Cq t146)) t147).bind fun t149=>EB t148 t149).bind fun t151=>D8 t150 t151).bind fun a152=>(Ce s129 a152).bind fun z160 =>
         some (Fl.nx z160)) as122 s93).bind fun fl124=>match fl124 with
        | .nx s129 =>
         ((some ("; " : Str)).bind fun t168=>(some s129).bind fun t169=>D8 t168 t169)
        | .rt r=>some r
        | .bk _=>none
      | .rt r=>some r
      | .bk _=>none
    | .rt r=>some r
    | .bk _=>none
  | .rt r=>some r
  | .bk _=>none
abbrev Dw (x:(T4 (List Str) (List (Int × Int)) (List Int) (List (List Int))) × Unit):Option Str:=BY x.1
def CS (AS:Int):Option (List Str) :=
 (some ("abcdefghijklmnopqrstuvwxyz" : Str)).bind fun row_ =>
 (some [AS,((AS+(1:Int))+((AS / (26:Int)) % (8:Int))),((AS+(9:Int))+((AS / (208:Int)) % (8:Int))),((AS+(17:Int))+((AS / (1664:Int)) % (9:Int)))]).bind fun PR =>
 ((some PR).bind fun t19=>Bt (fun (at_:Int)=>((some row_).bind fun t17=>(some (at_ % (26:Int))).bind fun t18=>(atI t17.cps.toList t18).bind fun z=>some (⟨#[z]⟩:Str))) t19)
abbrev GS (x:Int × Unit):Option (List Str):=CS x.1
def CO (text_:Str)(AS:Int):Option Str :=
 (some ("0123456789012345  ;;--aabzmsAZ+_/," : Str)).bind fun signs_ =>
 ((some signs_).bind fun t7=>(some ((AS / (8:Int)) % (34:Int))).bind fun t8=>(atI t7.cps.toList t8).bind fun z=>some (⟨#[z]⟩:Str)).bind fun new_ =>
 ((some (((AS / (272:Int)) * (48271:Int)) % (2147483647:Int))).bind fun t15=>(some ((text_.length:Int)+(1:Int))).bind fun t16=>JX t15 t16).bind fun at_ =>
 (some (AS % (8:Int))).bind fun way_ =>
 ((some text_).bind fun t29=>(some ("; " : Str)).bind fun t30=>FD t29 t30).bind fun rows_ =>
 ((some at_).bind fun t37=>(some (rows_.length:Int)).bind fun t38=>JX t37 t38).bind fun FG =>
 (some (decide (way_=(0:Int)))).bind fun b45=>cond b45
  ((((some (Txt.slice text_ none (some at_))).bind fun t50=>(some new_).bind fun t51=>Hd t50 t51).bind fun t52=>(some (Txt.slice text_ (some (at_+(1:Int))) none)).bind fun t53=>Hd t52 t53))
  ((some (decide (way_=(1:Int)))).bind fun b59=>cond b59
   ((((some (Txt.slice text_ none (some at_))).bind fun t64=>(some new_).bind fun t65=>Hd t64 t65).bind fun t66=>(some (Txt.slice text_ (some at_) none)).bind fun t67=>Hd t66 t67))
   ((some (decide (way_=(2:Int)))).bind fun b73=>cond b73
    (((some (Txt.slice text_ none (some at_))).bind fun t78=>(some (Txt.slice text_ (some (at_+(1:Int))) none)).bind fun t79=>Hd t78 t79))
    ((some (decide (way_=(3:Int)))).bind fun b85=>cond b85
     (((some (E3 rows_ (some (FG+(1:Int))) (some (FG+(2:Int))))).bind fun t90=>(some (E3 rows_ (some FG) (some (FG+(1:Int))))).bind fun t91=>EB t90 t91).bind fun P6 =>
     ((some ("; " : Str)).bind fun t102=>(((some (E3 rows_ none (some FG))).bind fun t98=>(some P6).bind fun t99=>EB t98 t99).bind fun t100=>(some (E3 rows_ (some (FG+(2:Int))) none)).bind fun t101=>EB t100 t101).bind fun t103=>D8 t102 t103))
     ((some (decide (way_=(4:Int)))).bind fun b109=>cond b109
      (((some ("; " : Str)).bind fun t118=>(((some (E3 rows_ none (some FG))).bind fun t114=>(some (E3 rows_ (some FG) (some (FG+(1:Int))))).bind fun t115=>EB t114 t115).bind fun t116=>(some (E3 rows_ (some FG) none)).bind fun t117=>EB t116 t117).bind fun t119=>D8 t118 t119))
      ((some (decide (way_=(5:Int)))).bind fun b125=>cond b125
       (((some ("; " : Str)).bind fun t132=>((some (E3 rows_ none (some FG))).bind fun t130=>(some (E3 rows_ (some (FG+(1:Int))) none)).bind fun t131=>EB t130 t131).bind fun t133=>D8 t132 t133))
       ((some (decide (way_=(6:Int)))).bind fun b139=>cond b139
        (((some text_).bind fun t146=>((some [("; " : Str),(";" : Str),(" " : Str),("; mark" : Str),("; from 0" : Str),("; mark 0" : Str),("; state a" : Str)]).bind fun t144=>(some ((AS / (8:Int)) % (7:Int))).bind fun t145=>atI t144 t145).bind fun t147=>Hd t146 t147))
        ((some text_))))))))
abbrev GX (x:Str × Int × Unit):Option Str:=CO x.1 x.2.1
def Ae (CN:Str):Option (Option Int) :=
 ((some (decide (CN=("" : Str)))).bind fun t5=>cond t5 (some true) ((((some CN).bind fun t1=>(some (0:Int)).bind fun t2=>(atI t1.cps.toList t2).bind fun z=>some (⟨#[z]⟩:Str)).bind fun t3=>(some (decide (t3=("0" : Str))))).bind fun t4=>cond t4 (some (!decide (CN=("0" : Str)))) (some false))).bind fun b6=>cond b6
  ((some none))
  ((some (0:Int)).bind fun BF =>
  (some (EK CN)).bind fun as22=>(CK (S:=(Int)) (ρ:=(Option Int)) (fun (sign_told_:Str) s29 =>
    (some (!inS sign_told_ ("0123456789" : Str))).bind fun b44=>cond b44
     ((some none).bind fun rr54=>some (Fl.rt rr54))
     ((some (((10:Int) * s29)+(Txt.find ("0123456789" : Str) sign_told_:Int))).bind fun BF =>
     some (Fl.nx BF))) as22 BF).bind fun fl24=>match fl24 with
   | .nx s29 =>
    (some (some s29))
   | .rt r=>some r
   | .bk _=>none)
abbrev FB (x:Str × Unit):Option (Option Int):=Ae x.1
def BR (CN:Str):Option (Option Str) :=
 (some (decide (CN=("-" : Str)))).bind fun b1=>cond b1
  ((some (some ("" : Str))))
  ((some ("abcdefghijklmnopqrstuvwxyz" : Str)).bind fun row_ =>
  ((some ("" : Str)).bind fun t22=>((some (EK row_)).bind fun t21=>FJ (fun (DY:Str)=>(some (inS DY CN))) (fun (DY:Str)=>(some DY)) t21).bind fun t23=>D8 t22 t23).bind fun E5 =>
  ((some ((decide (CN=E5)) && (!decide (CN=("" : Str))))).bind fun t30=>cond t30 (some (some E5)) (some none)))
abbrev FE (x:Str × Unit):Option (Option Str):=BR x.1
def Ad (parts_:(List Str))(Ed:Int):Option D :=
 (some (decide (Ed=(0:Int)))).bind fun b1=>cond b1
  (((some (decide ((parts_.length:Int)=(2:Int)))).bind fun t10=>cond t10 ((((some parts_).bind fun t6=>(some (1:Int)).bind fun t7=>atI t6 t7).bind fun t8=>BR t8).bind fun t9=>(some (ToD.to t9))) (some (ToD.to ()))))
  (((some (E3 parts_ (some (1:Int)) none)).bind fun t21=>Bt (fun (CN:Str)=>((some CN).bind fun t20=>Ae t20)) t21).bind fun numbers_ =>
  (some (memE none numbers_)).bind fun b28=>cond b28
   ((some (ToD.to ())))
   ((some (decide (Ed=(1:Int)))).bind fun b38=>cond b38
    (((some (decide ((numbers_.length:Int)=(2:Int)))).bind fun t54=>cond t54 ((((((some numbers_).bind fun t43=>(some (0:Int)).bind fun t44=>atI t43 t44).bind fun t45=>(some (ToD.to t45))).bind fun t50=>((((some numbers_).bind fun t46=>(some (1:Int)).bind fun t47=>atI t46 t47).bind fun t48=>(some (ToD.to t48))).bind fun t49=>(some [t49])).bind fun t51=>(some (t50::t51))).bind fun t52=>(some (Tp.mk t52))).bind fun t53=>(some (ToD.to t53))) (some (ToD.to ()))))
    ((some (decide (Ed=(2:Int)))).bind fun b60=>cond b60
     (((some (decide ((numbers_.length:Int)=(1:Int)))).bind fun t68=>cond t68 (((some numbers_).bind fun t65=>(some (0:Int)).bind fun t66=>atI t65 t66).bind fun t67=>(some (ToD.to t67))) (some (ToD.to ()))))
     ((some (ToD.to numbers_))))))
abbrev HK (x:(List Str) × Int × Unit):Option D:=Ad x.1 x.2.1
def Al (AZ:D)(DM:Int):Option Bool :=
 ((some (isK "int" AZ)).bind fun t7=>cond t7 ((some (!(isK "bool" AZ))).bind fun t6=>cond t6 ((some (0:Int)).bind fun t3=>((some AZ).bind fun t1=>Im t1).bind fun t4=>cond (decide (t3<=t4)) ((some DM).bind fun t5=>some (decide (t4<t5))) (some false)) (some false)) (some false))
abbrev CH (x:D × Int × Unit):Option Bool:=Al x.1 x.2.1
def AH (AZ:D)(DM:Int):Option Bool :=
 ((some (!(isK "list" AZ))).bind fun t11=>cond t11 (some true) (((((some AZ).bind fun t1=>Df t1).bind fun t8=>Bt (fun (BF:D)=>((some BF).bind fun t6=>(some DM).bind fun t7=>Al t6 t7)) t8).bind fun t9=>(some (t9.all id))).bind fun t10=>(some (!t10)))).bind fun b12=>cond b12
  ((some false))
  (((((some AZ).bind fun t22=>OU t22).bind fun t23=>MG t23).bind fun t26=>((some AZ).bind fun t25=>DO t25).bind fun t27=>(some (decide (t26=t27)))))
abbrev Co (x:D × Int × Unit):Option Bool:=AH x.1 x.2.1
def BH (AZ:D)(many_ways_:Int):Option Bool :=
 ((some (!(isK "list" AZ))).bind fun t3=>cond t3 (some true) (((some AZ).bind fun t1=>DO t1).bind fun t2=>(some (decide ((3:Int)<t2))))).bind fun b4=>cond b4
  ((some false))
  (((((some AZ).bind fun t14=>Df t14).bind fun t21=>Bt (fun (GR:D)=>((some GR).bind fun t19=>(some many_ways_).bind fun t20=>AH t19 t20)) t21).bind fun t22=>(some (t22.all id))))
abbrev IL (x:D × Int × Unit):Option Bool:=BH x.1 x.2.1
def BA (AZ:D):Option Bool :=
 (some (!(isK "str" AZ))).bind fun b1=>cond b1
  ((some false))
  ((some ("" : Str)).bind fun FN =>
  ((some AZ).bind fun t17=>Df t17).bind fun as18=>(CK (S:=(Str)) (ρ:=Bool) (fun (PN:D) s25 =>
    ((((some PN).bind fun t40=>Dv t40).bind fun t41=>(some (decide (t41.cps.toList<("a" : Str).cps.toList)))).bind fun t47=>cond t47 (some true) ((((some PN).bind fun t42=>Dv t42).bind fun t43=>(some (decide (("z" : Str).cps.toList<t43.cps.toList)))).bind fun t46=>cond t46 (some true) (((some PN).bind fun t44=>Dv t44).bind fun t45=>(some (!decide (s25.cps.toList<t45.cps.toList)))))).bind fun b48=>cond b48
     ((some false).bind fun rr58=>some (Fl.rt rr58))
     (((some PN).bind fun t60=>Dv t60).bind fun FN =>
     some (Fl.nx FN))) as18 FN).bind fun fl20=>match fl20 with
   | .nx s25 =>
    (some true)
   | .rt r=>some r
   | .bk _=>none)
abbrev Ff (x:D × Unit):Option Bool:=BA x.1
def Ao (AZ:D):Option Bool :=
 ((some (!(isK "list" AZ))).bind fun t6=>cond t6 (some true) ((((some AZ).bind fun t1=>DO t1).bind fun t2=>(some (decide (t2=(0:Int))))).bind fun t5=>cond t5 (some true) (((some AZ).bind fun t3=>DO t3).bind fun t4=>(some (decide ((8:Int)<t4)))))).bind fun b7=>cond b7
  ((some false))
  (((((some AZ).bind fun t17=>Df t17).bind fun t23=>Bt (fun (Ch:D)=>((some Ch).bind fun t22=>BA t22)) t23).bind fun t24=>(some (t24.all id))))
abbrev Fz (x:D × Unit):Option Bool:=Ao x.1
def EQ (AZ:D)(DM:Int):Option Bool :=
 ((some (!(isK "tuple" AZ))).bind fun t3=>cond t3 (some true) (((some AZ).bind fun t1=>DO t1).bind fun t2=>(some (!decide (t2=(2:Int)))))).bind fun b4=>cond b4
  ((some false))
  (((((some AZ).bind fun t14=>(some (0:Int)).bind fun t15=>atD t14 t15).bind fun t16=>(some DM).bind fun t17=>Al t16 t17).bind fun t22=>cond t22 (((some AZ).bind fun t18=>(some (1:Int)).bind fun t19=>atD t18 t19).bind fun t20=>(some DM).bind fun t21=>Al t20 t21) (some false)))
abbrev LY (x:D × Int × Unit):Option Bool:=EQ x.1 x.2.1
def BO (AZ:D)(DM:Int):Option Bool :=
 ((some (!(isK "list" AZ))).bind fun t3=>cond t3 (some true) (((some AZ).bind fun t1=>DO t1).bind fun t2=>(some (decide ((24:Int)<t2))))).bind fun b4=>cond b4
  ((some false))
  ((((((some AZ).bind fun t14=>Df t14).bind fun t21=>Bt (fun (way_:D)=>((some way_).bind fun t19=>(some DM).bind fun t20=>EQ t19 t20)) t21).bind fun t22=>(some (t22.all id))).bind fun t29=>cond t29 ((((some AZ).bind fun t23=>asPrs t23).bind fun t24=>Ks t24).bind fun t27=>((some AZ).bind fun t26=>DO t26).bind fun t28=>(some (decide (t27=t28)))) (some false)))
abbrev JM (x:D × Int × Unit):Option Bool:=BO x.1 x.2.1
def Av (AZ:D):Option Bool :=
 ((some (!(isK "tuple" AZ))).bind fun t3=>cond t3 (some true) (((some AZ).bind fun t1=>DO t1).bind fun t2=>(some (!decide (t2=(4:Int)))))).bind fun b4=>cond b4
  ((some false))
  (((some AZ).bind fun t14=>(some (0:Int)).bind fun t15=>atD t14 t15).bind fun lit_ =>
  ((some AZ).bind fun t22=>(some (1:Int)).bind fun t23=>atD t22 t23).bind fun Lc =>
  ((((some lit_).bind fun t30=>Ao t30).bind fun t31=>(some (!t31))).bind fun t36=>cond t36 (some true) (((some Lc).bind fun t33=>((some lit_).bind fun t32=>DO t32).bind fun t34=>BO t33 t34).bind fun t35=>(some (!t35)))).bind fun b37=>cond b37
   ((some false))
   (((((some AZ).bind fun t47=>(some (2:Int)).bind fun t48=>atD t47 t48).bind fun t50=>((some lit_).bind fun t49=>DO t49).bind fun t51=>AH t50 t51).bind fun t57=>cond t57 (((some AZ).bind fun t52=>(some (3:Int)).bind fun t53=>atD t52 t53).bind fun t55=>((some Lc).bind fun t54=>DO t54).bind fun t56=>BH t55 t56) (some false))))
abbrev Eu (x:D × Unit):Option Bool:=Av x.1
def BD (text_:Str):Option D :=
 (some (T4.mk [] [] [] []:TD4)).bind fun machine_here_ =>
 (some (0:Int)).bind fun FN =>
 ((some text_).bind fun t15=>(some ("; " : Str)).bind fun t16=>FD t15 t16).bind fun as17=>(CK (S:=(TD4 × Int)) (ρ:=D) (fun (row_:Str) s24 =>
   ((some row_).bind fun t43=>(some (" " : Str)).bind fun t44=>FD t43 t44).bind fun parts_ =>
   (some (-(1:Int))).bind fun Ed =>
   ((some (4:Int)).bind fun t57=>Jd 0 t57).bind fun as58=>(CK (S:=(Int)) (ρ:=D) (fun (k_:Int) s65 =>
     (((some parts_).bind fun t80=>(some (0:Int)).bind fun t81=>atI t80 t81).bind fun t86=>((some [("state" : Str),("way" : Str),("from" : Str),("mark" : Str)]).bind fun t84=>(some k_).bind fun t85=>atI t84 t85).bind fun t87=>(some (decide (t86=t87)))).bind fun b88=>cond b88
      ((some k_).bind fun Ed =>
      some (Fl.nx Ed))
      (some (Fl.nx s65))) as58 Ed).bind fun fl60=>match fl60 with
    | .nx s65 =>
     (some (decide (s65<s24.2))).bind fun b105=>cond b105
      ((some (ToD.to ())).bind fun rr115=>some (Fl.rt rr115))
      ((some s65).bind fun FN =>
      ((some parts_).bind fun t123=>(some s65).bind fun t124=>Ad t123 t124).bind fun Lb =>
      (some (F6 Lb)).bind fun b131=>cond b131
       ((some (ToD.to ())).bind fun rr141=>some (Fl.rt rr141))
       ((some Lb).bind fun a143=>(Ih s24.1 s65 a143).bind fun z151 =>
       some (Fl.nx (z151,FN))))
    | .rt r=>some (Fl.rt r)
    | .bk _=>none) as17 (machine_here_,FN)).bind fun fl19=>match fl19 with
  | .nx s24 =>
   (((some (ToD.to s24.1)).bind fun t165=>Av t165).bind fun t166=>cond t166 (some (ToD.to s24.1)) (some (ToD.to ())))
  | .rt r=>some r
  | .bk _=>none
abbrev Gc (x:Str × Unit):Option D:=BD x.1
def DP (II:(List Str))(Hs:(List Str)):Option Str :=
 ((some (" " : Str)).bind fun t5=>(((some II).bind fun t1=>(some [("/" : Str)]).bind fun t2=>EB t1 t2).bind fun t3=>(some Hs).bind fun t4=>EB t3 t4).bind fun t6=>D8 t5 t6)
abbrev HD (x:(List Str) × (List Str) × Unit):Option Str:=DP x.1 x.2.1
def Ac (numbers_:D):Option (List Str) :=
 (((some numbers_).bind fun t1=>Df t1).bind fun t8=>Bt (fun (BF:D)=>(((some BF).bind fun t6=>Im t6).bind fun t7=>Cq t7)) t8)
abbrev CM (x:D × Unit):Option (List Str):=Ac x.1
def D9 (II:(List Int))(Hs:(List Int)):Option Str :=
 (((some (ToD.to II)).bind fun t1=>Ac t1).bind fun t3=>((some (ToD.to Hs)).bind fun t2=>Ac t2).bind fun t4=>DP t3 t4)
abbrev Hw (x:(List Int) × (List Int) × Unit):Option Str:=D9 x.1 x.2.1
def Bq (script_:Scr):Option Bool :=
 (((((some script_).bind fun t1=>(some (42:Int)).bind fun t2=>AX t1 t2).bind fun t3=>(some (t3 % (21:Int)))).bind fun t4=>Jd 0 t4).bind fun t12=>Bt (fun (k_:Int)=>(((some script_).bind fun t9=>(some ((44:Int)+k_)).bind fun t10=>AX t9 t10).bind fun t11=>(some (t11 % (8:Int))))) t12).bind fun II =>
 ((((((some script_).bind fun t19=>(some (43:Int)).bind fun t20=>AX t19 t20).bind fun t21=>(some (t21 % (20:Int)))).bind fun t22=>(some ((1:Int)+t22))).bind fun t23=>Jd 0 t23).bind fun t32=>Bt (fun (k_:Int)=>((((some script_).bind fun t28=>(some ((44:Int)+k_)).bind fun t29=>AX t28 t29).bind fun t30=>(some (t30 / (8:Int)))).bind fun t31=>(some (t31 % (8:Int))))) t32).bind fun Hs =>
 ((some II).bind fun t44=>Bt (fun (DS:Int)=>((some DS).bind fun t43=>Cq t43)) t44).bind fun parts_ =>
 (some ("/" : Str)).bind fun a53=>(Ce parts_ a53).bind fun z61 =>
 ((some II).bind fun t62=>(some Hs).bind fun t63=>D9 t62 t63).bind fun found_ =>
 ((some true).bind fun t114=>cond t114 (((some (" " : Str)).bind fun t111=>((some z61).bind fun t109=>((some Hs).bind fun t108=>Bt (fun (DS:Int)=>((some DS).bind fun t107=>Cq t107)) t108).bind fun t110=>EB t109 t110).bind fun t112=>D8 t111 t112).bind fun t113=>(some (decide (found_=t113)))) (some false))
abbrev EN (x:Scr × Unit):Option Bool:=Bq x.1
def DU (d_:D):Option (Except Str Unit):=((some d_).bind fun d=>some (isK "str" d)).bind fun t1=>(some (!t1)).bind fun b1=>cond b1 (some (.error "NoText")) (some (.ok ()))
abbrev KQ (x:D × Unit):Option (Except Str Unit):=DU x.1
def BE (word_:Str):Option (Except Str Str) :=
 (some (decide (word_=("-" : Str)))).bind fun b1=>cond b1
  (some (.ok ("" : Str)))
  (((some (decide (word_=("" : Str)))).bind fun t13=>cond t13 (some true) (((some word_).bind fun t11=>BA (ToD.to t11)).bind fun t12=>(some (!t12)))).bind fun b14=>cond b14
   (some (.error "NoText"))
   (some (.ok word_)))
abbrev Dt (x:Str × Unit):Option (Except Str Str):=BE x.1
def As (word_:Str):Option (Except Str Int) :=
 ((some (decide (word_=("" : Str)))).bind fun t9=>cond t9 (some true) ((some (decide ((60:Int)<(word_.length:Int)))).bind fun t8=>cond t8 (some true) ((((some (EK word_)).bind fun t5=>Bt (fun (JU:Str)=>(some (inS JU ("0123456789" : Str)))) t5).bind fun t6=>(some (t6.all id))).bind fun t7=>(some (!t7))))).bind fun b10=>cond b10 (some (.error "NoText")) (((some word_).bind fun t15=>intW t15).bind fun x=>some (.ok x))
abbrev Cv (x:Str × Unit):Option (Except Str Int):=As x.1
def Aw (word_:List Str):Option (Except Str (List Int)) :=
 (some word_).bind fun as=>LD (fun (w:Str)=>(some w).bind fun t5=>As t5) as
abbrev CA (x:List Str × Unit):Option (Except Str (List Int)):=Aw x.1
def B8 (machine_:(T4 (List Str) (List (Tp Int)) (List Int) (List (List Int))))(words_:List Str):Option (Except Str (T4 (List Str) (List (Tp Int)) (List Int) (List (List Int)))) :=
 ((((some words_).bind fun t1=>(some (0:Int)).bind fun t2=>atI t1 t2).bind fun t3=>(some (decide (t3=("state" : Str))))).bind fun t4=>cond t4 (some (decide ((words_.length:Int)=(2:Int)))) (some false)).bind fun b5=>cond b5
  (Mw (((some words_).bind fun t10=>(some (1:Int)).bind fun t11=>atI t10 t11).bind fun t12=>BE t12) fun x=>(Ce machine_.a x).bind fun l=>some (T4.mk l machine_.b machine_.c machine_.d))
  ((((some words_).bind fun t1=>(some (0:Int)).bind fun t2=>atI t1 t2).bind fun t3=>(some (decide (t3=("way" : Str))))).bind fun b5=>cond b5
  (Mw (((some (E3 words_ (some (1:Int)) none)).bind fun t=>Aw t).bind fun r=>some (tupX r)) fun x=>(Ce machine_.b x).bind fun l=>some (T4.mk machine_.a l machine_.c machine_.d))
  (((((some words_).bind fun t1=>(some (0:Int)).bind fun t2=>atI t1 t2).bind fun t3=>(some (decide (t3=("from" : Str))))).bind fun t4=>cond t4 (some (decide ((words_.length:Int)=(2:Int)))) (some false)).bind fun b5=>cond b5
  (Mw (((some words_).bind fun t10=>(some (1:Int)).bind fun t11=>atI t10 t11).bind fun t12=>As t12) fun x=>(Ce machine_.c x).bind fun l=>some (T4.mk machine_.a machine_.b l machine_.d))
  ((((some words_).bind fun t1=>(some (0:Int)).bind fun t2=>atI t1 t2).bind fun t3=>(some (decide (t3=("mark" : Str))))).bind fun b5=>cond b5
  (Mw ((some (E3 words_ (some (1:Int)) none)).bind fun t=>Aw t) fun x=>(Ce machine_.d x).bind fun l=>some (T4.mk machine_.a machine_.b machine_.c l))
  (some (.error "NoText")))))
abbrev Fx (machine_:(T4 (List Str) (List (Tp Int)) (List Int) (List (List Int))))(x:List Str × Unit):Option (Except Str (T4 (List Str) (List (Tp Int)) (List Int) (List (List Int)))):=B8 machine_ x.1
def C5 (Ch:Str):Option Str :=
 (some (decide (Ch=("" : Str)))).bind fun b1=>cond b1
  ((some ("-" : Str)))
  ((some Ch))
abbrev Fw (x:Str × Unit):Option Str:=C5 x.1
def CF (machine_:(T4 (List Str) (List (Tp Int)) (List Int) (List (List Int)))):Option Str :=
 ((some machine_.a).bind fun t8=>Bt (fun (Ch:Str)=>((((some Ch).bind fun t5=>C5 t5).bind fun t6=>(some [t6])).bind fun t7=>(some (("state" : Str)::t7)))) t8).bind fun rows_ =>
 ((some machine_.b).bind fun t32=>Bt (fun (way_:(Tp Int))=>((some [("way" : Str)]).bind fun t30=>((some (ToD.to way_)).bind fun t29=>Ac t29).bind fun t31=>EB t30 t31)) t32).bind fun a33=>(extO rows_ a33).bind fun z41 =>
 ((some machine_.c).bind fun t57=>Bt (fun (Me:Int)=>((((some Me).bind fun t54=>Cq t54).bind fun t55=>(some [t55])).bind fun t56=>(some (("from" : Str)::t56)))) t57).bind fun a58=>(extO z41 a58).bind fun z66 =>
 ((some machine_.d).bind fun t82=>Bt (fun (GR:(List Int))=>((some [("mark" : Str)]).bind fun t80=>((some (ToD.to GR)).bind fun t79=>Ac t79).bind fun t81=>EB t80 t81)) t82).bind fun a83=>(extO z66 a83).bind fun z91 =>
 ((some ("; " : Str)).bind fun t109=>((some z91).bind fun t108=>Bt (fun (row_:(List Str))=>((some (" " : Str)).bind fun t106=>(some row_).bind fun t107=>D8 t106 t107)) t108).bind fun t110=>D8 t109 t110)
abbrev Fp (x:(T4 (List Str) (List (Tp Int)) (List Int) (List (List Int))) × Unit):Option Str:=CF x.1
def lfx (row_:Str)(s10:(T4 (List Str) (List (Tp Int)) (List Int) (List (List Int)))):Option (Fl (T4 (List Str) (List (Tp Int)) (List Int) (List (List Int))) Str):=(((some row_).bind fun t23=>(some (" " : Str)).bind fun t24=>FD t23 t24).bind fun c=>(some ()).bind fun r=>some (c,r)).bind fun ca=>(Fx s10 ca).bind fun r=>match r with
 | .error n=>some (.rt n)
 | .ok z=>some (.nx z)
def Aj (d_:D):Option (Except Str D) :=
 ((some d_).bind fun d=>DU d).bind fun r0=>match r0 with
 | .error n=>some (.error n)
 | .ok _=>(((some d_).bind fun d=>Dv d).bind fun t1=>(some ("; " : Str)).bind fun t2=>FD t1 t2).bind fun as3 =>
  (CK (S:=(T4 (List Str) (List (Tp Int)) (List Int) (List (List Int)))) (ρ:=Str) lfx as3 (T4.mk [] [] [] [])).bind fun fl5=>match fl5 with
  | .rt n=>some (.error n)
  | .bk _=>none
  | .nx s10 =>
   (((((some s10).bind fun a=>some (ToD.to a)).bind fun t7=>Av t7).bind fun t8=>(some (!t8))).bind fun t11=>cond t11 (some true) (((some s10).bind fun t9=>CF t9).bind fun t10=>((some d_).bind fun d=>Dv d).bind fun t9=>(some (!decide (t10=t9))))).bind fun b12=>cond b12
   (some (.error "NoText"))
   (some (.ok (ToD.to s10)))
abbrev JD (x:D × Unit):Option (Except Str D):=Aj x.1
def Be (text_:Str):Option D:=(Aj (.str text_)).bind fun r=>match r with
 | .ok b=>some b
 | .error _=>none
abbrev Cs (x:Str × Unit):Option D:=Be x.1
def C6 (AZ:D):Option Bool:=(Aj AZ).bind fun r=>match r with
 | .error n=>if n=("NoText" : Str) then some true else none
 | .ok _=>none
abbrev Gb (x:D × Unit):Option Bool:=C6 x.1
def Nm (script_:Scr):Option Bool :=
 ((some script_).bind fun t5=>((((some script_).bind fun t1=>(some (0:Int)).bind fun t2=>AX t1 t2).bind fun t3=>(some (t3 % (14976:Int)))).bind fun t4=>CS t4).bind fun t6=>CQ t5 t6).bind fun machine_here_ =>
 ((some machine_here_).bind fun t13=>BY t13).bind fun text_ =>
 (some (ToD.to text_)).bind fun Dg =>
 ((((some script_).bind fun t26=>(some (40:Int)).bind fun t27=>AX t26 t27).bind fun t28=>(some (t28 % (4:Int)))).bind fun t29=>Jd 0 t29).bind fun as30=>(CK (S:=(D)) (ρ:=Bool) (fun (k_:Int) s37 =>
   ((((some s37).bind fun t52=>Dv t52).bind fun t56=>(((some script_).bind fun t53=>(some ((58:Int)+k_)).bind fun t54=>AX t53 t54).bind fun t55=>(some (if t55<0 then -t55 else t55))).bind fun t57=>CO t56 t57).bind fun t58=>(some (ToD.to t58))).bind fun Dg =>
   some (Fl.nx Dg)) as30 Dg).bind fun fl32=>match fl32 with
  | .nx s37 =>
   (((((some script_).bind fun t71=>(some (40:Int)).bind fun t72=>AX t71 t72).bind fun t73=>(some (t73 / (4:Int)))).bind fun t74=>(some (t74 % (9:Int)))).bind fun t75=>(some (decide (t75=(8:Int))))).bind fun b76=>(cond b76
    (((some [(ToD.to ()),(ToD.to (7:Int)),(ToD.to [(ToD.to ("state a" : Str))]),(ToD.to machine_here_),(ToD.to true),D.emp,(ToD.to ("" : Str)),(ToD.to (" " : Str)),(ToD.to ("mark" : Str))]).bind fun t90=>(((some script_).bind fun t87=>(some (41:Int)).bind fun t88=>AX t87 t88).bind fun t89=>(some (t89 % (9:Int)))).bind fun t91=>atI t90 t91).bind fun Dg =>
    some Dg)
    (some s37)).bind fun s81 =>
   (some (ToD.to ())).bind fun due_ =>
   (some (isK "str" s81)).bind fun b107=>(cond b107
    ((((some s81).bind fun t118=>Dv t118).bind fun t119=>BD t119).bind fun due_ =>
    some due_)
    (some due_)).bind fun s112 =>
   (some (F6 s112)).bind fun b129=>cond b129
    ((((some s81).bind fun t134=>C6 t134).bind fun t135=>(some (!t135))).bind fun b136=>cond b136
     ((some false))
     (((((some text_).bind fun t146=>Be t146).bind fun t147=>(some (ToD.to machine_here_)).bind fun t148=>N9 t147 t148).bind fun t150=>cond t150 ((some script_).bind fun t149=>Bq t149) (some false))))
    (((((some s81).bind fun t156=>Dv t156).bind fun t157=>Be t157).bind fun t158=>(some s112).bind fun t159=>Qa t158 t159).bind fun b160=>cond b160
     ((some false))
     (((((some text_).bind fun t170=>Be t170).bind fun t171=>(some (ToD.to machine_here_)).bind fun t172=>N9 t171 t172).bind fun t174=>cond t174 ((some script_).bind fun t173=>Bq t173) (some false))))
  | .rt r=>some r
  | .bk _=>none
abbrev mm_law (x:Scr × Unit):Option Bool:=Nm x.1
def top (i:Nat):Stmt:=PySem.Challenge.pw_lassoscribe_k89_machines_read.main.body.getD i (.Pass ⟨0,0,0,0⟩)
abbrev GP:Stmt:=top 11
abbrev DK:Stmt:=top 16
abbrev Cy:Stmt:=top 17
abbrev Ka:Stmt:=top 18
abbrev F9:Stmt:=top 19
abbrev Hl:Stmt:=top 20
abbrev GN:Stmt:=top 21
abbrev Fb:Stmt:=top 22
abbrev Eo:Stmt:=top 26
abbrev FS:Stmt:=top 27
abbrev EJ:Stmt:=top 28
abbrev GH:Stmt:=top 29
abbrev EI:Stmt:=top 30
abbrev Ca:Stmt:=top 31
abbrev Ew:Stmt:=top 32
abbrev Ey:Stmt:=top 33
abbrev E7:Stmt:=top 34
abbrev Io:Stmt:=top 35
abbrev EO:Stmt:=top 36
abbrev HX:Stmt:=top 38
abbrev Ek:Stmt:=top 39
abbrev Iy:Stmt:=top 40
abbrev Fi:Stmt:=top 41
abbrev FP:Stmt:=top 42
abbrev F0:Stmt:=top 43
abbrev D5:Stmt:=top 44
abbrev Ds:Stmt:=top 45
abbrev Do:Stmt:=top 46
abbrev Fn:Stmt:=top 47
abbrev Ep:Stmt:=top 48
abbrev Ev:Stmt:=top 49
abbrev Ei:Stmt:=top 50
abbrev F2:Stmt:=top 51
abbrev F7:Stmt:=top 52
abbrev s_law:Stmt:=top 53
structure Txt (mg:Str->Option Value):Prop where
 ValueError_:mg "ValueError" = none
 abs_:mg "abs" = none
 all_:mg "all" = none
 bool_:mg "bool" = none
 int_:mg "int" = none
 isinstance_:mg "isinstance" = none
 len_:mg "len" = none
 list_:mg "list" = none
 min_:mg "min" = none
 range_:mg "range" = none
 set_:mg "set" = none
 sorted_:mg "sorted" = none
 str_:mg "str" = none
 tuple_:mg "tuple" = none
 MOST_STATES:∃ t,mg "MOST_STATES" = some (.int 8 t)
 MOST_WAYS:∃ t,mg "MOST_WAYS" = some (.int 24 t)
 MOST_MARKS:∃ t,mg "MOST_MARKS" = some (.int 3 t)
 FIGURES:∃ t,mg "FIGURES" = some (.str "0123456789" t)
 MOST_FIGURES:∃ t,mg "MOST_FIGURES" = some (.int 60 t)
theorem Dy:FnScope ["thing","last","lamp"] ["thing"] (AE GP):=scm
theorem Hn:FnScope ["thing","count"] ["thing","count"] (AE DK):=scm
theorem Gz:FnScope ["thing","count"] ["thing","count"] (AE Cy):=scm
theorem QE:FnScope ["thing","count"] ["thing","count"] (AE Ka):=scm
theorem K6:FnScope ["thing"] ["thing"] (AE F9):=scm
theorem NX:FnScope ["thing","count"] ["thing","count"] (AE Hl):=scm
theorem MR:FnScope ["thing","many_ways"] ["thing","many_ways"] (AE GN):=scm
theorem Ej:FnScope ["thing","lit","ways"] ["thing"] (AE Fb):=scm
theorem Kd:FnScope ["moment"] ["moment"] (AE Eo):=scm
theorem Ku:FnScope ["stem","ring"] ["stem","ring"] (AE FS):=scm
theorem Jf:FnScope ["numbers"] ["numbers"] (AE EJ):=scm
theorem MY:FnScope ["stem","ring"] ["stem","ring"] (AE GH):=scm
theorem Fs:FnScope ["machine","rows"] ["machine"] (AE EI):=scm
theorem Fv:FnScope ["thing"] ["thing"] (AE Ca):=scm
theorem KW:FnScope ["word"] ["word"] (AE Ew):=scm
theorem K8:FnScope ["word"] ["word"] (AE Ey):=scm
theorem Jg:FnScope ["words"] ["words"] (AE E7):=scm
theorem OZ:FnScope ["machine","words"] ["machine","words"] (AE Io):=scm
theorem Dk:FnScope ["text","machine","row"] ["text"] (AE EO):=scm
theorem Gf:FnScope ["_law_script","_law_k","_law_number"] ["_law_script","_law_k"] (AE HX):=scm
theorem ES:FnScope ["_law_cell_here","_law_row","_law_places"] ["_law_cell_here"] (AE Ek):=scm
theorem EM:FnScope ["_law_letters_here","_law_bits","_law_text","_law_letter"] ["_law_letters_here","_law_bits"] (AE Iy):=scm
theorem DZ:FnScope ["_law_cell_here","_law_many","_law_chosen_here","_law_k"] ["_law_cell_here","_law_many"] (AE Fi):=scm
theorem Kw:FnScope ["_law_cell_here"] ["_law_cell_here"] (AE FP):=scm
theorem Ar:FnScope ["_law_script","_law_letters_here","_law_many","_law_most","_law_ways","_law_k","_law_cell_here","_law_way","_law_lit_here","_law_starts","_law_marks"] ["_law_script","_law_letters_here"] (AE F0):=scm
theorem BP:FnScope ["_law_machine_here","_law_parts","_law_shown","_law_way","_law_state","_law_mark"] ["_law_machine_here"] (AE D5):=scm
theorem Ck:FnScope ["_law_part","_law_number","_law_sign_told"] ["_law_part"] (AE Ds):=scm
theorem DR:FnScope ["_law_part","_law_row","_law_lit_here"] ["_law_part"] (AE Do):=scm
theorem HP:FnScope ["_law_parts","_law_sort","_law_numbers"] ["_law_parts","_law_sort"] (AE Fn):=scm
theorem BB:FnScope ["_law_text","_law_machine_here","_law_last","_law_row","_law_parts","_law_sort","_law_k","_law_told"] ["_law_text"] (AE Ep):=scm
theorem Bf:FnScope ["_law_text","_law_cell_here","_law_signs","_law_new","_law_at","_law_way","_law_rows","_law_here","_law_turned"] ["_law_text","_law_cell_here"] (AE Ev):=scm
theorem DD:FnScope ["_law_thing","_law_told","_law_error"] ["_law_thing"] (AE Ei):=scm
theorem EL:FnScope ["_law_error","_law_some"] ["_law_error"] (AE F2):=scm
theorem Cf:FnScope ["_law_script","_law_stem","_law_ring","_law_parts","_law_found"] ["_law_script"] (AE F7):=scm
theorem Fg:FnScope ["_law_script","_law_machine_here","_law_text","_law_spoiled","_law_k","_law_due"] ["_law_script"] (AE s_law):=scm
def MZ (K:FZ9):Sp:=fun vs H Q _=>∃ (a:Addr) (ns:List Int),vs=[.ref a]/\SqL K H a (ns.map V.int)/\ns.length<=63/\∀ H',Q (.bl true) H'
structure XT (K:FZ9)(mg:Str->Option Value)(aS aT aR aW aM aE aC aX aN:Addr):Prop where
 naS:mg "ScribeError" = some (.ref aS)
 naT:mg "NoText" = some (.ref aT)
 naR:mg "NoRun" = some (.ref aR)
 naW:mg "NoRow" = some (.ref aW)
 naM:mg "NoMoment" = some (.ref aM)
 naE:mg "NoSentence" = some (.ref aE)
 naC:mg "NoMachine" = some (.ref aC)
 naX:mg "TooMuch" = some (.ref aX)
 naN:mg "NoName" = some (.ref aN)
 kit:XKit K aT
 ex:PySem.W.exmOne K (.ref aT) (.ref aS)=some true
 kT:PySem.W.kitOne K (.ref aT) (.ref aT)=some true
 kV:PySem.W.kitOne K (.ref aT) (.type "ValueError")=some true
 kR:PySem.W.kitOne K (.ref aT) (.ref aR)=some false
 kW:PySem.W.kitOne K (.ref aT) (.ref aW)=some false
 kM:PySem.W.kitOne K (.ref aT) (.ref aM)=some false
 kE:PySem.W.kitOne K (.ref aT) (.ref aE)=some false
 kC:PySem.W.kitOne K (.ref aT) (.ref aC)=some false
 kX:PySem.W.kitOne K (.ref aT) (.ref aX)=some false
 kN:PySem.W.kitOne K (.ref aT) (.ref aN)=some false
def XC (K:FZ9):Prop:=∃ aS aT aR aW aM aE aC aX aN:Addr,(qsB K mainGlobals "ScribeError" = some (some (.ref aS))/\qsB K mainGlobals "NoText" = some (some (.ref aT))/\qsB K mainGlobals "NoRun" = some (some (.ref aR))/\qsB K mainGlobals "NoRow" = some (some (.ref aW))/\qsB K mainGlobals "NoMoment" = some (some (.ref aM))/\qsB K mainGlobals "NoSentence" = some (some (.ref aE))/\qsB K mainGlobals "NoMachine" = some (some (.ref aC))/\qsB K mainGlobals "TooMuch" = some (some (.ref aX))/\qsB K mainGlobals "NoName" = some (some (.ref aN)))/\PySem.W.excIn K aT bmV "ValueError.__new__" = true/\XKits K aT/\PySem.W.exmOne K (.ref aT) (.ref aS)=some true/\PySem.W.kitOne K (.ref aT) (.ref aT)=some true/\PySem.W.kitOne K (.ref aT) (.type "ValueError")=some true/\PySem.W.kitOne K (.ref aT) (.ref aR)=some false/\PySem.W.kitOne K (.ref aT) (.ref aW)=some false/\PySem.W.kitOne K (.ref aT) (.ref aM)=some false/\PySem.W.kitOne K (.ref aT) (.ref aE)=some false/\PySem.W.kitOne K (.ref aT) (.ref aC)=some false/\PySem.W.kitOne K (.ref aT) (.ref aX)=some false/\PySem.W.kitOne K (.ref aT) (.ref aN)=some false
def clsL:List Bool:=[true,true,false,false,false,false,false,false,false]
def spC (K:FZ9)(aT:Addr):Sp:=fun vs H Q _=>∃ G v,vs=[v]/\Same G H/\Rp.rel K G v (Exn.mk aT)/\∀ v G2 H2,Ext G H G2 H2->Rp.rel K G2 v clsL->Q v H2
theorem xc_mk {K:FZ9}{aS aT aR aW aM aE aC aX aN:Addr}{cd:ClassData}(n1:qsB K mainGlobals "ScribeError" = some (some (.ref aS)))(n2:qsB K mainGlobals "NoText" = some (some (.ref aT)))(n3:qsB K mainGlobals "NoRun" = some (some (.ref aR)))(n4:qsB K mainGlobals "NoRow" = some (some (.ref aW)))(n5:qsB K mainGlobals "NoMoment" = some (some (.ref aM)))(n6:qsB K mainGlobals "NoSentence" = some (some (.ref aE)))(n7:qsB K mainGlobals "NoMachine" = some (some (.ref aC)))(n8:qsB K mainGlobals "TooMuch" = some (some (.ref aX)))(n9:qsB K mainGlobals "NoName" = some (some (.ref aN)))(xe:PySem.W.excIn K aT bmV "ValueError.__new__" = true)(c1:PySem.W.clsIn K aT=some cd)
  (c2:PySem.W.findIn K (.ref aT) "__getattribute__" = some (some (.builtin "BaseException.__getattribute__"))) (c3:PySem.W.findIn K (.ref aT) "__getattr__" = some none) (c4:PySem.W.findIn K (.ref aT) "__class__" = some (some (.builtin "object.__class__")))
  (c5:PySem.W.specialIn K (.builtin "object.__class__") "__get__" = some (some (.builtin "getset_descriptor.__get__"))) (c6:PySem.W.takesIn K (.builtin "object.__class__")=some true) (c7:PySem.W.mroIn K aT (.type "object")=some true) (c8:PySem.W.mroIn K aT (.type "BaseException")=some true)
  (xm:PySem.W.exmOne K (.ref aT) (.ref aS)=some true) (k1:PySem.W.kitOne K (.ref aT) (.ref aT)=some true) (k2:PySem.W.kitOne K (.ref aT) (.type "ValueError")=some true) (k3:PySem.W.kitOne K (.ref aT) (.ref aR)=some false) (k4:PySem.W.kitOne K (.ref aT) (.ref aW)=some false) (k5:PySem.W.kitOne K (.ref aT) (.ref aM)=some false) (k6:PySem.W.kitOne K (.ref aT) (.ref aE)=some false) (k7:PySem.W.kitOne K (.ref aT) (.ref aC)=some false) (k8:PySem.W.kitOne K (.ref aT) (.ref aX)=some false) (k9:PySem.W.kitOne K (.ref aT) (.ref aN)=some false):XC K :=
 ⟨aS,aT,aR,aW,aM,aE,aC,aX,aN,⟨n1,n2,n3,n4,n5,n6,n7,n8,n9⟩,xe,⟨⟨cd,c1⟩,c2,c3,c4,c5,c6,c7,c8⟩,xm,k1,k2,k3,k4,k5,k6,k7,k8,k9⟩
section
variable (P:Program)(w:World)(K:FZ9)(mg:Str->Option Value)(base:Heap)
abbrev Ie:Prop:=DefOk P w K mg base "_law_states" 1 ["_law_cell_here"] (spM K HQ)
abbrev IP:Prop:=DefOk P w K mg base "_law_chosen" 1 ["_law_cell_here","_law_many"] (spM K F5)
abbrev FR:Prop:=DefOk P w K mg base "_law_cell" 1 ["_law_script","_law_k"] (spM K Ak)
abbrev LX:Prop:=DefOk P w K mg base "_law_lit" 1 ["_law_letters_here","_law_bits"] (spM K Kc)
abbrev HR:Prop:=DefOk P w K mg base "_law_machine" 2 ["_law_script","_law_letters_here"] (spM K GM)
abbrev EF:Prop:=DefOk P w K mg base "_law_machine_text" 1 ["_law_machine_here"] (spM K Dw)
abbrev HJ:Prop:=DefOk P w K mg base "_law_letters" 1 ["_law_cell_here"] (spM K GS)
abbrev HI:Prop:=DefOk P w K mg base "_law_changed" 1 ["_law_text","_law_cell_here"] (spM K GX)
abbrev Fq:Prop:=DefOk P w K mg base "_law_number_of" 1 ["_law_part"] (spM K FB)
abbrev Fo:Prop:=DefOk P w K mg base "_law_moment_of" 1 ["_law_part"] (spM K FE)
abbrev Ib:Prop:=DefOk P w K mg base "_law_row_of" 2 ["_law_parts","_law_sort"] (spM K HK)
abbrev DF:Prop:=DefOk P w K mg base "is_number_below" 1 ["thing","count"] (spM K CH)
abbrev D3:Prop:=DefOk P w K mg base "are_numbers_once" 2 ["thing","count"] (spM K Co)
abbrev JR:Prop:=DefOk P w K mg base "are_marks" 3 ["thing","many_ways"] (spM K IL)
abbrev GJ:Prop:=DefOk P w K mg base "is_moment" 1 ["thing"] (spM K Ff)
abbrev HL:Prop:=DefOk P w K mg base "are_moments" 2 ["thing"] (spM K Fz)
abbrev NJ:Prop:=DefOk P w K mg base "is_way" 2 ["thing","count"] (spM K LY)
abbrev Jz:Prop:=DefOk P w K mg base "are_ways" 3 ["thing","count"] (spM K JM)
abbrev Fh:Prop:=DefOk P w K mg base "is_machine" 4 ["thing"] (spM K Eu)
abbrev HS:Prop:=DefOk P w K mg base "_law_read_of" 5 ["_law_text"] (spM K Gc)
abbrev IZ:Prop:=DefOk P w K mg base "show_round" 1 ["stem","ring"] (spM K HD)
abbrev ER:Prop:=DefOk P w K mg base "show_numbers" 1 ["numbers"] (spM K CM)
abbrev JS:Prop:=DefOk P w K mg base "show_walk" 2 ["stem","ring"] (spM K Hw)
abbrev HE:Prop:=DefOk P w K mg base "_law_walk_so" 3 ["_law_script"] (spM K EN)
abbrev Dd:Prop:=DefE P w K mg base "refuse_other_kinds" 1 ["thing"] (spX K mg KQ)
abbrev HC:Prop:=DefE P w K mg base "read_moment" 2 ["word"] (spX K mg Dt)
abbrev Er:Prop:=DefE P w K mg base "read_number" 1 ["word"] (spX K mg Cv)
abbrev GZ:Prop:=DefE P w K mg base "read_numbers" 2 ["words"] (spX K mg CA)
abbrev M5:Prop:=DefE P w K mg base "lay_row" 3 ["machine","words"] (spQX K mg Fx)
abbrev HF:Prop:=DefOk P w K mg base "show_moment" 1 ["moment"] (spM K Fw)
abbrev Ge:Prop:=DefOk P w K mg base "show_machine" 2 ["machine"] (spM K Fp)
abbrev GO:Prop:=DefOk P w K mg base "read_machine" 5 ["text"] (spM K Cs)
abbrev ED:Prop:=DefE P w K mg base "read_machine" 5 ["text"] (spX K mg JD)
abbrev HG (aT:Addr):Prop:=DefH P w K mg base "_law_classes" 1 ["_law_error"] (spC K aT)
abbrev HN:Prop:=DefOk P w K mg base "_law_no_text" 6 ["_law_thing"] (spM K Gb)
end
section
variable {P:Program}{w:World}{K:FZ9}{mg:Str->Option Value}{base:Heap}
local macro_rules | `(tactic| ac_rfl) => `(tactic| first | assumption | exact Ne.symm (by assumption))
local macro_rules
 | `(tactic| clear $n:num $rs*) => do
  let hm := Lean.mkIdent `hm
  let xt := Lean.mkIdent `xt
  let q := Lean.mkIdent `q
  let rf := Lean.mkIdent `rfl
  let w : Array Lean.Ident := rs.map fun r => ⟨r.raw⟩
  match n.getNat with
  | 2 =>
   let mut ts := #[]
   for k in [0:w.size/2] do
    let a := w[2*k]!
    let b := w[2*k+1]!
    ts := ts.push (← `(tactic| refine bE $hm fun $a $b $hm => ?_))
   `(tactic| ($[$ts:tactic];*))
  | 3 => `(tactic| (replace $hm := cT $hm; refine BZ ?_))
  | 4 => `(tactic| (replace $hm := cF $hm; refine Bc ?_))
  | 5 => `(tactic| (rintro r' v' G' H' $rf:ident rl; cases $hm:ident; exact $q v' G' H' rl.1 rl.2))
  | 6 => let k := w[0]!; `(tactic| (rintro r' v' G' H' $rf:ident rl; cases $hm:ident; exact $k _ v' G' H' rfl rl))
  | 9 =>
   let x := w[0]!
   let ts ← (w.extract 1 w.size).mapM fun (i : Lean.Ident) => `(tactic| have $i := Rp.mono $x $i)
   `(tactic| ($[$ts:tactic];*))
  | z =>
   if z > 1 then Lean.Macro.throwUnsupported
   let x := w[0]!
   let mut m := 1
   let mut ts := #[]
   let mut hs := #[]
   for i in w.extract 1 w.size do
    if let some k := i.raw.isNatLit? then m := k
    else if m == 4 then hs := hs.push (← `(tactic| have $i := ($xt).hh.free $i))
    else ts := ts.push (← match m with
     | 1 => `(tactic| have $i := Rp.mono ($x).gg $i)
     | 2 => `(tactic| have $i := ($i).ext $x)
     | _ => `(tactic| have $i := ($i).trans ($x).gg))
   if z == 1 then hs := hs.push (← `(tactic| have $xt := ($xt).trans $x))
   let zs := hs ++ ts
   `(tactic| ($[$zs:tactic];*))
theorem LB (F:DIn K mg "_law_states" FP)(T:Txt mg):Ie P w K mg base:=by
 refine F.okM1 (m:=Cm) Kw fun _ _ _ _ _ H0 _ _ hr G0 AS res Dx xt AB hm q=>?_;unfold Cm at hm
 refine ⟨_,(A3 (Ax (AJ BQ (An B4 (An CY (pv 0) A8) A8) A8 (AT _)) (A3 (AN (AG K A8 (An B4 (pv 0) A8)))
   A4) A4)
   (A3 (AN (AG K A8 (An B4 (pv 0) A8)))
   A4)),?_⟩
 clear 2 b1 h2;refine B1 (AI (K:=K) (Bp (B7 (CV (A6 AB))) Ag)) h2 xt.gh fun G3 H4 x5=>?_;clear 1 x5 AB
 cases b1 with
 | true =>
  clear 3;exact AR (K:=K) (BS Ag (B7 (A6 AB))) hm xt.gh fun v6 G7 H8 x9 r10=>q v6 G7 H8 (xt.trans x9) r10
 | false =>
  clear 4;exact AR (K:=K) (BS Ag (B7 (A6 AB))) hm xt.gh fun v11 G12 H13 x14 r15=>q v11 G12 H13 (xt.trans x14) r15
theorem L9 (F:DIn K mg "_law_chosen" Fi)(T:Txt mg):IP P w K mg base:=by
 refine F.okM2 (m:=C2) DZ fun _ _ _ _ _ H0 _ _ hr G0 AS FH res Dx PH xt AB IR hm q=>?_;unfold C2 at hm
 refine ⟨_,(A3 (AO (i:=2) DZ (BU A5))
   (A3 (DV PassesOwn.never rfl (DA rfl T.range_ (A2 (pv 1) A5)) (CB (i:=3) DZ) (A3 (Ax (AJ BQ (An B4 (pv 0) A8) A8 (AT _)) (A3 (Bx (Bk K (pv 2) (pv 3)))
   A4) A4)
   (A3 (AO (i:=0) DZ (An CY (pv 0) A8))
   A4)))
   (A3 (AN (pv 2))
   A4))),?_⟩
 clear 2 IT h8;refine Js (K:=K) (C8 (C4 (α:=Int))) h8 xt.gh fun p1 vs2 G3 H4 x5 hz6 o7=>?_;clear 1 x5 AB IR 4 hz6;clear 2 as10 h11 fl12 h13;refine Dn (K:=K) (RR:=fun r v G' H'=>Ext G0 H0 G' H'/\Rp.rel K G' v r) (Ec (A6 IR)) h11 h13 xt.gh fun G14 H15 x16=>⟨fun s17 S' G' H'=>∃ (v18:V) (v19:Option V),Ext G0 H0 G' H'/\Same G14 G'/\S'=[some v18,some PH,some (V.ref p1),v19]/\Rp.rel K G' v18 (s17.1:Int)/\(∃ vs,Own K G' H' (V.ref p1) p1 vs s17.2),?_,?_,?_,?_,?_⟩
 ·clear 1 x16 AB 2 o7;exact ⟨Dx,_,xt,(Same.refl _),rfl,AB,⟨_,o7⟩⟩
 ·rintro _ S' G' H' ⟨v18,v19,xt,mk20,rfl,r21,⟨vs2,o7⟩⟩;exact ⟨mk20,xt.gh⟩
 ·rintro xv22 a23 s17 _ G26 H27 fl24 - ⟨v18,v19,xt,mk20,rfl,r21,⟨vs2,o7⟩⟩ rx25 hm D' kN28 kC29 kB30 kR31;have IR:=Rp.mono (x16.gg.trans mk20) IR;refine Cg ?_;clear 2 b32 h33 s37 h38
  try (with_reducible refine nxt_ ?_;dsimp only)
  refine EY (t:=Jt _ _ _) (fun S52 H51=>∃ (G50:Hp) ,Ext G0 H0 G50 H51/\Same G26 G50/\S52=[some v18,some PH,some (V.ref p1),some xv22]/\(∃ vs,Own K G50 H51 (V.ref p1) p1 vs s37)) (fun nx kn40=>?_) ?_
  ·refine B1 (AI (K:=K) (Bp (B7 (A6 r21)) Ag)) h33 xt.gh fun G34 H35 x36=>?_;clear 1 x36 rx25 2 o7;have mk39:Same G26 G34:=x36.gg;have hm:=h38
   cases b32 with
   | true =>
    clear 3;clear 2 a41 h42 z49 h43;refine DT (K:=K) rfl o7 (A6 rx25) h42 h43 xt.gh fun G44 H45 w46 x47 o48=>?_;have xt:Ext G0 H0 G44 (upd H45 p1 (.lst (vs2++[w46]))):=(xt.trans x47).put hz6 o48.g;clear 0 x47 3 mk39;cases hm;exact kn40 _ _ ⟨G44,xt,mk39,rfl,⟨_,o48⟩⟩
   | false =>
    clear 4;cases hm;exact kn40 _ _ ⟨G34,xt,mk39,rfl,⟨_,o7⟩⟩
  ·rintro _ H51 ⟨G50,xt,mk39,rfl,⟨vs2,o7⟩⟩;have mk20:=mk20.trans mk39;clear 9 mk39 r21;clear 2 AS h58;refine Ab (K:=K) (CV (A6 r21)) h58 xt.gh fun v53 G54 H55 x56 r57=>?_;clear 1 x56 2 o7 3 mk20;cases hm;exact kN28 _ _ _ _ rfl ⟨v53,_,xt,mk20,rfl,r57,⟨_,o7⟩⟩
 ·rintro s17 _ G63 H64 rfl ⟨v59,v60,xt,mk61,rfl,r62,⟨vs2,o7⟩⟩;refine FK ?_;have sf:=Same.new (o:=.lst vs2) o7.g;have xt:=xt.frz hz6 o7.g o7.h;have r65:=o7.tell;exact AR (K:=K) (A6 r65) hm xt.gh fun v66 G67 H68 x69 r70=>q v66 G67 H68 (xt.trans x69) r70
 ·clear 5
theorem NL (F:DIn K mg "_law_cell" HX)(T:Txt mg):FR P w K mg base:=by
 refine F.okM2 (m:=AX) Gf fun _ _ _ _ _ H0 _ _ hr G0 script_ k_ res Bg v_k_ xt A7 KI hm q=>?_;unfold AX at hm
 refine ⟨_,(A3 (Ax (AJ Km (pv 1) (BM K T.len_ (pv 0)) (AT _)) (A3 (AN (Au K (pv 0) (pv 1)))
   A4) A4)
   (A3 (AO (i:=2) Gf (AG K (An (Dz (K:=K) rfl) (pv 1) A8) A8))
   (A3 (Ax (AJ Iu (BM K T.len_ (pv 0)) A8 (AT _)) (A3 (AO (i:=2) Gf (An B4 (AG K (An (Dz (K:=K) rfl) (Au K (pv 0) (An B4 (An (Dz (K:=K) rfl) (pv 1) A8) (BM K T.len_ (pv 0)))) A8) (An (Dz (K:=K) rfl) (pv 1) A8)) A8))
   A4) A4)
   (A3 (AN (An B4 (An (Dz (K:=K) rfl) (pv 2) (pv 2)) A8))
   A4)))),?_⟩
 clear 2 b1 h2;refine B1 (AI (K:=K) (GI (A6 KI) (Mh (A6 A7)))) h2 xt.gh fun G3 H4 x5=>?_;clear 1 x5 A7 KI
 cases b1 with
 | true =>
  clear 3;exact AR (K:=K) (ev_atX (A6 A7) (A6 KI)) hm xt.gh fun v8 G9 H10 x11 r12=>q v8 G9 H10 (xt.trans x11) r12
 | false =>
  clear 4;clear 2 BF h18;refine Ab (K:=K) (BS (IE (A6 KI)) Ag) h18 xt.gh fun v13 G14 H15 x16 r17=>?_;clear 1 x16 A7 KI;clear 2 b19 h20 s24 h25
  try (with_reducible refine nxt_ ?_;dsimp only)
  refine EY (t:=Jt _ _ _) (fun S45 H44=>∃ (G43:Hp) (v27:V),Ext G0 H0 G43 H44/\Same G14 G43/\S45=[some Bg,some v_k_,some v27]/\Rp.rel K G43 v27 (s24:Int)) (fun nx kn29=>?_) ?_
  ·refine B1 (AI (K:=K) (GI (Mh (A6 A7)) Ag)) h20 xt.gh fun G21 H22 x23=>?_;clear 1 x23 A7 KI r17;have mk26:Same G14 G21:=x23.gg;have hm:=h25
   cases b19 with
   | true =>
    clear 3;clear 2 BF h42;refine Ab (K:=K) (B7 (BS (IE (ev_atX (A6 A7) (GQ (IE (A6 KI)) (Mh (A6 A7))))) (IE (A6 KI)))) h42 xt.gh fun v37 G38 H39 x40 r41=>?_;clear 1 x40 3 mk26;cases hm;exact kn29 _ _ ⟨G38,v37,xt,mk26,rfl,r41⟩
   | false =>
    clear 4;cases hm;exact kn29 _ _ ⟨G21,v13,xt,mk26,rfl,r17⟩
  ·rintro _ H44 ⟨G43,v27,xt,mk26,rfl,r28⟩;exact AR (K:=K) (B7 (ME (A6 r28) (A6 r28))) hm xt.gh fun v49 G50 H51 x52 r53=>q v49 G50 H51 (xt.trans x52) r53
theorem OT (F:DIn K mg "_law_lit" Iy)(T:Txt mg):LX P w K mg base:=by
 refine F.okM2 (m:=DW) EM fun _ _ _ _ _ H0 _ _ hr G0 CP NF res Bj v_bits_ xt AF Ia hm q=>?_;unfold DW at hm
 refine ⟨_,(A3 (AO (i:=2) EM AK)
   (A3 (DV PassesOwn.never rfl (B6 (K:=K) rfl (Ai (MC (K:=K) rfl) (by rfl) T.sorted_ LU (A2 (pv 0) A5))) (CB (i:=3) EM) (A3 (Ax (AJ BQ (An B4 (pv 1) A8) A8 (AT _)) (A3 (AO (i:=2) EM (AG K (pv 2) (pv 3)))
   A4) A4)
   (A3 (AO (i:=1) EM (An CY (pv 1) A8))
   A4)))
   (A3 (AN (pv 2))
   A4))),?_⟩
 clear 2 text_ h6;refine Ab (K:=K) B5 h6 xt.gh fun v1 G2 H3 x4 r5=>?_;clear 1 x4 AF Ia;clear 2 as8 h9 fl10 h11;refine Dn (K:=K) (RR:=fun r v G' H'=>Ext G0 H0 G' H'/\Rp.rel K G' v r) (Bu (FV.ev (fv_sortS (A6 AF)))) h9 h11 xt.gh fun G12 H13 x14=>⟨fun s15 S' G' H'=>∃ (v16:V) (v17:V) (v18:Option V),Ext G0 H0 G' H'/\Same G12 G'/\S'=[some Bj,some v16,some v17,v18]/\Rp.rel K G' v16 (s15.1:Int)/\Rp.rel K G' v17 (s15.2:Str),?_,?_,?_,?_,?_⟩
 ·clear 1 x14 Ia r5;exact ⟨v_bits_,v1,_,xt,(Same.refl _),rfl,Ia,r5⟩
 ·rintro _ S' G' H' ⟨v16,v17,v18,xt,mk19,rfl,r20,r21⟩;exact ⟨mk19,xt.gh⟩
 ·rintro xv22 a23 s15 _ G26 H27 fl24 - ⟨v16,v17,v18,xt,mk19,rfl,r20,r21⟩ rx25 hm D' kN28 kC29 kB30 kR31;have AF:=Rp.mono (x14.gg.trans mk19) AF;refine Cg ?_;clear 2 b32 h33 s37 h38
  try (with_reducible refine nxt_ ?_;dsimp only)
  refine EY (t:=Jt _ _ _) (fun S53 H52=>∃ (G51:Hp) (v40:V),Ext G0 H0 G51 H52/\Same G26 G51/\S53=[some Bj,some v16,some v40,some xv22]/\Rp.rel K G51 v40 (s37:Str)) (fun nx kn42=>?_) ?_
  ·refine B1 (AI (K:=K) (Bp (B7 (A6 r20)) Ag)) h33 xt.gh fun G34 H35 x36=>?_;clear 1 x36 r21 rx25;have mk39:Same G26 G34:=x36.gg;have hm:=h38
   cases b32 with
   | true =>
    clear 3;clear 2 text_ h50;refine Ab (K:=K) (Cu (A6 r21) (A6 rx25)) h50 xt.gh fun v45 G46 H47 x48 r49=>?_;clear 1 x48 3 mk39;cases hm;exact kn42 _ _ ⟨G46,v45,xt,mk39,rfl,r49⟩
   | false =>
    clear 4;cases hm;exact kn42 _ _ ⟨G34,v17,xt,mk39,rfl,r21⟩
  ·rintro _ H52 ⟨G51,v40,xt,mk39,rfl,r41⟩;have mk19:=mk19.trans mk39;clear 9 mk39 r20;clear 2 NF h59;refine Ab (K:=K) (CV (A6 r20)) h59 xt.gh fun v54 G55 H56 x57 r58=>?_;clear 1 x57 r41 3 mk19;cases hm;exact kN28 _ _ _ _ rfl ⟨v54,v40,_,xt,mk19,rfl,r58,r41⟩
 ·rintro s15 _ G66 H67 rfl ⟨v60,v61,v62,xt,mk63,rfl,r64,r65⟩;refine FK ?_;exact AR (K:=K) (A6 r65) hm xt.gh fun v68 G69 H70 x71 r72=>q v68 G69 H70 (xt.trans x71) r72
 ·clear 5
theorem K0 (F:DIn K mg "_law_machine" F0)(T:Txt mg)(FW:Ie P w K mg base)(E4:IP P w K mg base)(Ah:FR P w K mg base)(J9:LX P w K mg base):HR P w K mg base:=by
 refine F.okM2 (m:=CQ) Ar fun _ _ _ _ _ H0 _ _ hr G0 script_ CP res Bg Bj xt A7 AF hm q=>?_;unfold CQ at hm
 refine ⟨_,(A3 (AO (i:=2) Ar (AY FW hr (by decide) rfl (A2 (AY Ah hr (by decide) rfl (A2 (pv 0) (A2 A8 A5))) A5)))
   (A3 (AO (i:=3) Ar (An (Dz (K:=K) rfl) A8 (pv 2)))
   (A3 (Ax (AJ BQ (An B4 (An CY (AY Ah hr (by decide) rfl (A2 (pv 0) (A2 A8 A5))) A8) A8) A8 (AT _)) (A3 (AO (i:=3) Ar (An (Dz (K:=K) rfl) (pv 2) (pv 2)))
   A4) A4)
   (A3 (AO (i:=4) Ar (BU A5))
   (A3 (DV PassesOwn.never rfl (DA rfl T.range_ (A2 (An B4 (AY Ah hr (by decide) rfl (A2 (pv 0) (A2 A8 A5))) (AG K (Ai (Qf rfl) (by rfl) T.min_ bt_min (A2 A8 (A2 (pv 3) A5))) A8)) A5)) (CB (i:=5) Ar) (A3 (AO (i:=6) Ar (AY Ah hr (by decide) rfl (A2 (pv 0) (A2 (AG K A8 (pv 5)) A5))))
   (A3 (AO (i:=7) Ar (Ix (A2 (An B4 (An CY (pv 6) A8) (pv 2)) (A2 (An B4 (pv 6) (pv 2)) A5))))
   (A3 (Ax (AJ Km (pv 5) (pv 2) (AT _)) (A3 (AO (i:=7) Ar (Ix (A2 (pv 5) (A2 (An B4 (pv 6) (pv 2)) A5))))
   A4) A4)
   (A3 (Ax (AJ (Pn (K:=K) rfl (Int × Int) hr (by decide)) (pv 7) (pv 4) rfl) (A3 (Bx (Bk K (pv 4) (pv 7)))
   A4) A4)
   A4)))))
   (A3 (D1 (i:=8) (Fy Ar) rfl (Or.inl rfl) (cn:=["_law_letters_here","_law_script"]) (cap:=[1,0]) rfl ⟨by decide +kernel,rfl,by decide +kernel,BV rfl⟩ rfl (by decide +kernel) ⟨⟨rfl,.inl rfl,rfl⟩,⟨rfl,.inl rfl,rfl⟩,trivial⟩ (DA rfl T.range_ (A2 (pv 2) A5)) (fun C s0 H0 fp=>⟨Bb,(AY J9 hr (by decide) rfl (A2 (pv 1) (A2 (An B4 (AY Ah hr (by decide) rfl (A2 (pv 2) (A2 (AG K A8 (pv 0)) A5))) A8) A5)))⟩))
   (A3 (AO (i:=9) Ar (AY E4 hr (by decide) rfl (A2 (AY Ah hr (by decide) rfl (A2 (pv 0) (A2 A8 A5))) (A2 (pv 2) A5))))
   (A3 (Ax (AJ BQ (An B4 (An CY (AY Ah hr (by decide) rfl (A2 (pv 0) (A2 A8 A5))) A8) A8) A8 (AT _)) (A3 (AO (i:=9) Ar (pe_sortR (K:=K) rfl (by rfl) T.sorted_ (A2 (pv 9) A5)))
   A4) A4)
   (A3 (D1 (i:=10) (Fy Ar) rfl (Or.inl rfl) (cn:=["_law_script","_law_ways"]) (cap:=[0,4]) rfl ⟨by decide +kernel,rfl,by decide +kernel,BV rfl⟩ rfl (by decide +kernel) ⟨⟨rfl,.inl rfl,rfl⟩,⟨rfl,.inl rfl,rfl⟩,trivial⟩ (DA rfl T.range_ (A2 (An B4 (AY Ah hr (by decide) rfl (A2 (pv 0) (A2 A8 A5))) A8) A5)) (fun C s0 H0 fp=>⟨Bb,(AY E4 hr (by decide) rfl (A2 (AY Ah hr (by decide) rfl (A2 (pv 1) (A2 (AG K A8 (pv 0)) A5))) (A2 (BM K T.len_ (pv 2)) A5)))⟩))
   (A3 (AN (Ix (A2 (pv 8) (A2 (pv 4) (A2 (pv 9) (A2 (pv 10) A5))))))
   A4)))))))))),?_⟩
 clear 2 FH h9;refine Ab (K:=K) (BN (m:=HQ) (Ap (m:=Ak) (A6 A7) Ag)) h9 xt.gh fun v4 G5 H6 x7 r8=>?_;clear 1 x7 A7 AF;clear 2 Nq h15;refine Ab (K:=K) (PY (A6 r8)) h15 xt.gh fun v10 G11 H12 x13 r14=>?_;clear 1 x13 A7 AF r8;clear 2 b21 h22 s26 h27
 try (with_reducible refine nxt_ ?_;dsimp only)
 refine EY (t:=Jt _ _ _) (fun S42 H41=>∃ (G40:Hp) (v29:V),Ext G0 H0 G40 H41/\Same G11 G40/\S42=[some Bg,some Bj,some v4,some v29,none,none,none,none,none,none,none]/\Rp.rel K G40 v29 (s26:Int)) (fun nx kn31=>?_) ?_
 ·refine B1 (AI (K:=K) (Bp (B7 (CV (Ap (m:=Ak) (A6 A7) Ag))) Ag)) h22 xt.gh fun G23 H24 x25=>?_;clear 1 x25 r8 r14;have mk28:Same G11 G23:=x25.gg;have hm:=h27
  cases b21 with
  | true =>
   clear 3;clear 2 Nq h39;refine Ab (K:=K) (ME (A6 r8) (A6 r8)) h39 xt.gh fun v34 G35 H36 x37 r38=>?_;clear 1 x37 3 mk28;cases hm;exact kn31 _ _ ⟨G35,v34,xt,mk28,rfl,r38⟩
  | false =>
   clear 4;cases hm;exact kn31 _ _ ⟨G23,v10,xt,mk28,rfl,r14⟩
 ·rintro _ H41 ⟨G40,v29,xt,mk28,rfl,r30⟩;clear 9 mk28 A7 AF r8;clear 2 Lc h50;refine Js (K:=K) (C8 (C4 (α:=(Int × Int)))) h50 xt.gh fun p43 vs44 G45 H46 x47 hz48 o49=>?_;clear 1 x47 A7 AF r8 r30 4 hz48;clear 2 as56 h57 fl58 h59;refine Dn (K:=K) (RR:=fun r v G' H'=>Ext G0 H0 G' H'/\Rp.rel K G' v r) (Ec (GQ (Ap (m:=Ak) (A6 A7) Ag) (BS (ev_min Ag (A6 r30)) Ag))) h57 h59 xt.gh fun G60 H61 x62=>⟨fun s63 S' G' H'=>∃ (v64:Option V) (v65:Option V) (v66:Option V),Ext G0 H0 G' H'/\Same G60 G'/\S'=[some Bg,some Bj,some v4,some v29,some (V.ref p43),v64,v65,v66,none,none,none]/\(∃ vs,Own K G' H' (V.ref p43) p43 vs s63),?_,?_,?_,?_,?_⟩
  ·clear 1 x62 2 o49;exact ⟨_,_,_,xt,(Same.refl _),rfl,⟨_,o49⟩⟩
  ·rintro _ S' G' H' ⟨v64,v65,v66,xt,mk67,rfl,⟨vs44,o49⟩⟩;exact ⟨mk67,xt.gh⟩
  ·rintro xv68 a69 s63 _ G72 H73 fl70 - ⟨v64,v65,v66,xt,mk67,rfl,⟨vs44,o49⟩⟩ rx71 hm D' kN74 kC75 kB76 kR77;have A7:=Rp.mono (x62.gg.trans mk67) A7;have AF:=Rp.mono (x62.gg.trans mk67) AF;have r8:=Rp.mono (x62.gg.trans mk67) r8;have r30:=Rp.mono (x62.gg.trans mk67) r30;refine Cg ?_;clear 2 AS h85;refine Ab (K:=K) (Ap (m:=Ak) (A6 A7) (BS Ag (A6 rx71))) h85 xt.gh fun v80 G81 H82 x83 r84=>?_;clear 1 x83 A7 AF r8 r30 rx71 2 o49 3 mk67;clear 2 way_ h97;refine Ab (K:=K) (Os (GQ (CV (A6 r84)) (A6 r8)) (GQ (A6 r84) (A6 r8))) h97 xt.gh fun v92 G93 H94 x95 r96=>?_;clear 1 x95 A7 AF r8 r30 rx71 r84 2 o49 3 mk67;clear 2 b98 h99 s103 h104
   try (with_reducible refine nxt_ ?_;dsimp only)
   refine EY (t:=Jt _ _ _) (fun S122 H121=>∃ (G120:Hp) (v106:V),Ext G0 H0 G120 H121/\Same G93 G120/\S122=[some Bg,some Bj,some v4,some v29,some (V.ref p43),some xv68,some v80,some v106,none,none,none]/\Rp.rel K G120 v106 (s103:(Int × Int))/\Own K G120 H121 (V.ref p43) p43 vs44 s63) (fun nx kn108=>?_) ?_
   ·refine B1 (AI (K:=K) (GI (A6 rx71) (A6 r8))) h99 xt.gh fun G100 H101 x102=>?_;clear 1 x102 r8 rx71 r84 r96 2 o49;have mk105:Same G93 G100:=x102.gg;have hm:=h104
    cases b98 with
    | true =>
     clear 3;clear 2 way_ h119;refine Ab (K:=K) (Os (A6 rx71) (GQ (A6 r84) (A6 r8))) h119 xt.gh fun v114 G115 H116 x117 r118=>?_;clear 1 x117 2 o49 3 mk105;cases hm;exact kn108 _ _ ⟨G115,v114,xt,mk105,rfl,r118,o49⟩
    | false =>
     clear 4;cases hm;exact kn108 _ _ ⟨G100,v92,xt,mk105,rfl,r96,o49⟩
   ·rintro _ H121 ⟨G120,v106,xt,mk105,rfl,r107,o49⟩;have mk67:=mk67.trans mk105;clear 2 b123 h124;refine sv_ifB o49 (AI (K:=K) (OY (A6 (Rp.mono (Same.new o49.g) r107)) (A6 o49.tell))) h124 xt.gh fun G125 H126 x127=>?_;clear 1 x127 r107 2 o49 3 mk67
    cases b123 with
    | true =>
     clear 3;clear 2 a128 h129 z136 h130;refine DT (K:=K) rfl o49 (A6 r107) h129 h130 xt.gh fun G131 H132 w133 x134 o135=>?_;have xt:Ext G0 H0 G131 (upd H132 p43 (.lst (vs44++[w133]))):=(xt.trans x134).put hz48 o135.g;clear 0 x134 3 mk67;cases hm;exact kN74 _ _ _ _ rfl ⟨_,_,_,xt,mk67,rfl,⟨_,o135⟩⟩
    | false =>
     clear 4;cases hm;exact kN74 _ _ _ _ rfl ⟨_,_,_,xt,mk67,rfl,⟨_,o49⟩⟩
  ·rintro s63 _ G141 H142 rfl ⟨v137,v138,v139,xt,mk140,rfl,⟨vs44,o49⟩⟩;refine FK ?_;have A7:=Rp.mono (x62.gg.trans mk140) A7;have AF:=Rp.mono (x62.gg.trans mk140) AF;have r8:=Rp.mono (x62.gg.trans mk140) r8;have r30:=Rp.mono (x62.gg.trans mk140) r30;clear 2 E5 h159;refine Ab (K:=K) (FV.ev (CD (cap:=[1,0]) (fe:=fun (k_:Int)=>((some CP).bind fun t151=>(((some script_).bind fun t148=>(some ((32:Int)+k_)).bind fun t149=>AX t148 t149).bind fun t150=>(some (t150 % (16:Int)))).bind fun t152=>DW t151 t152)) (Ec (A6 r8)) fun xc147 k_ Gc144 sc145 rc146=>(Ap (m:=Kc) (A6 (Rp.mono sc145 AF)) (B7 (Ap (m:=Ak) (A6 (Rp.mono sc145 A7)) (BS Ag (A6 rc146))))))) h159 xt.gh fun v154 G155 H156 x157 r158=>?_;clear 1 x157 A7 AF r8 r30 2 o49;clear 2 Gg h169;refine Ab (K:=K) (Ap (m:=F5) (Ap (m:=Ak) (A6 A7) Ag) (A6 r8)) h169 xt.gh fun v164 G165 H166 x167 r168=>?_;clear 1 x167 A7 AF r8 r30 r158 2 o49;clear 2 b175 h176 s180 h181
   try (with_reducible refine nxt_ ?_;dsimp only)
   refine EY (t:=Jt _ _ _) (fun S195 H194=>∃ (G193:Hp) (v183:V),Ext G0 H0 G193 H194/\Same G165 G193/\S195=[some Bg,some Bj,some v4,some v29,some (V.ref p43),v137,v138,v139,some v154,some v183,none]/\Rp.rel K G193 v183 (s180:(List Int))/\Own K G193 H194 (V.ref p43) p43 vs44 s63) (fun nx kn185=>?_) ?_
   ·refine B1 (AI (K:=K) (Bp (B7 (CV (Ap (m:=Ak) (A6 A7) Ag))) Ag)) h176 xt.gh fun G177 H178 x179=>?_;clear 1 x179 r168 2 o49;have mk182:Same G165 G177:=x179.gg;have hm:=h181
    cases b175 with
    | true =>
     clear 3;clear 2 Gg h192;refine Ab (K:=K) (FV.ev (fv_sortR (A6 r168))) h192 xt.gh fun v187 G188 H189 x190 r191=>?_;clear 1 x190 2 o49 3 mk182;cases hm;exact kn185 _ _ ⟨G188,v187,xt,mk182,rfl,r191,o49⟩
    | false =>
     clear 4;cases hm;exact kn185 _ _ ⟨G177,v164,xt,mk182,rfl,r168,o49⟩
   ·rintro _ H194 ⟨G193,v183,xt,mk182,rfl,r184,o49⟩;clear 9 mk182 A7 r158;have sf:=Same.new (o:=.lst vs44) o49.g;have xt:=xt.frz hz48 o49.g o49.h;have r209:=o49.tell;clear 9 sf A7 r158 r184;clear 2 marks_ h228;refine Ab (K:=K) (FV.ev (CD (cap:=[0,4]) (fe:=fun (k_:Int)=>(((some script_).bind fun t218=>(some ((5:Int)+k_)).bind fun t219=>AX t218 t219).bind fun t220=>(some (s63.length:Int)).bind fun t221=>C2 t220 t221)) (Ec (B7 (Ap (m:=Ak) (A6 A7) Ag))) fun xc217 k_ Gc214 sc215 rc216=>(Ap (m:=F5) (Ap (m:=Ak) (A6 (Rp.mono sc215 A7)) (BS Ag (A6 rc216))) (He (A6 (Rp.mono sc215 r209)))))) h228 xt.gh fun v223 G224 H225 x226 r227=>?_;clear 1 x226 r209 r158 r184;exact AR (K:=K) (ev_tup4 (A6 r158) (A6 r209) (A6 r184) (A6 r227)) hm xt.gh fun v229 G230 H231 x232 r233=>q v229 G230 H231 (xt.trans x232) r233
  ·clear 5
theorem Gy (F:DIn K mg "_law_machine_text" D5)(T:Txt mg):EF P w K mg base:=by
 refine F.okM1 (m:=BY) BP fun _ _ _ _ _ H0 _ _ hr G0 machine_here_ res Ct xt Aq hm q=>?_;unfold BY at hm
 refine ⟨_,(A3 (AO (i:=1) BP (BU A5))
   (A3 (DV PassesOwn.never rfl (B6 (K:=K) rfl (Au K (pv 0) A8)) (CB (i:=2) BP) (A3 (Bx (Bk K (pv 1) (AG K AK (FL (AJ Ls (pv 2) AK (AT _)) (pv 2) AK))))
   A4))
   (A3 (DV PassesOwn.never rfl (B6 (K:=K) rfl (Au K (pv 0) A8)) (CB (i:=3) BP) (A3 (Bx (Bk K (pv 1) (AG K (AG K (AG K AK (Bi D7 (by rfl) T.str_ Dr (A2 (Au K (pv 3) A8) A5))) AK) (Bi D7 (by rfl) T.str_ Dr (A2 (Au K (pv 3) A8) A5)))))
   A4))
   (A3 (DV PassesOwn.never rfl (B6 (K:=K) rfl (Au K (pv 0) A8)) (CB (i:=4) BP) (A3 (Bx (Bk K (pv 1) (AG K AK (Bi D7 (by rfl) T.str_ Dr (A2 (pv 4) A5)))))
   A4))
   (A3 (DV PassesOwn.never rfl (B6 (K:=K) rfl (Au K (pv 0) A8)) (CB (i:=5) BP) (A3 (Bx (Bk K (pv 1) (CC (K:=K) rfl PySem.F.plainAttrs_str PySem.F.slot_str_join PySem.F.type_str_join (Cp (K:=K) rfl) AK (A2 (AG K (BU (A2 AK A5)) (CU (cn:=[]) (cap:=[]) rfl ⟨by decide +kernel,rfl,by decide +kernel,BV rfl⟩ rfl (by decide +kernel) trivial (B6 (K:=K) rfl (pv 5)) (fun C s0 H0 fp=>⟨Bb,(Bi D7 (by rfl) T.str_ Dr (A2 (pv 0) A5))⟩))) A5))))
   A4))
   (A3 (AN (CC (K:=K) rfl PySem.F.plainAttrs_str PySem.F.slot_str_join PySem.F.type_str_join (Cp (K:=K) rfl) AK (A2 (pv 1) A5)))
   A4)))))),?_⟩
 clear 2 parts_ h8;refine Js (K:=K) (C8 (C4 (α:=Str))) h8 xt.gh fun p1 vs2 G3 H4 x5 hz6 o7=>?_;clear 1 x5 Aq 4 hz6;clear 2 as9 h10 fl11 h12;refine Dn (K:=K) (RR:=fun r v G' H'=>Ext G0 H0 G' H'/\Rp.rel K G' v r) (Bu (ev_p41 (A6 Aq))) h10 h12 xt.gh fun G13 H14 x15=>⟨fun s16 S' G' H'=>∃ (v17:Option V),Ext G0 H0 G' H'/\Same G13 G'/\S'=[some Ct,some (V.ref p1),v17,none,none,none]/\(∃ vs,Own K G' H' (V.ref p1) p1 vs s16),?_,?_,?_,?_,?_⟩
 ·clear 1 x15 2 o7;exact ⟨_,xt,(Same.refl _),rfl,⟨_,o7⟩⟩
 ·rintro _ S' G' H' ⟨v17,xt,mk18,rfl,⟨vs2,o7⟩⟩;exact ⟨mk18,xt.gh⟩
 ·rintro xv19 a20 s16 _ G23 H24 fl21 - ⟨v17,xt,mk18,rfl,⟨vs2,o7⟩⟩ rx22 hm D' kN25 kC26 kB27 kR28;refine Cg ?_;clear 2 a32 h33 z40 h34;refine DT (K:=K) rfl o7 (Cu B5 (JC (AI (K:=K) (N2 (A6 rx22) B5)) (A6 rx22) B5)) h33 h34 xt.gh fun G35 H36 w37 x38 o39=>?_;have xt:Ext G0 H0 G35 (upd H36 p1 (.lst (vs2++[w37]))):=(xt.trans x38).put hz6 o39.g;clear 0 x38 3 mk18;cases hm;exact kN25 _ _ _ _ rfl ⟨_,xt,mk18,rfl,⟨_,o39⟩⟩
 ·rintro s16 _ G43 H44 rfl ⟨v41,xt,mk42,rfl,⟨vs2,o7⟩⟩;refine FK ?_;have Aq:=Rp.mono (x15.gg.trans mk42) Aq;clear 2 as45 h46 fl47 h48;refine Dn (K:=K) (RR:=fun r v G' H'=>Ext G0 H0 G' H'/\Rp.rel K G' v r) (Bu (ev_p42 (A6 Aq))) h46 h48 xt.gh fun G49 H50 x51=>⟨fun s52 S' G' H'=>∃ (v53:Option V),Ext G0 H0 G' H'/\Same G49 G'/\S'=[some Ct,some (V.ref p1),v41,v53,none,none]/\(∃ vs,Own K G' H' (V.ref p1) p1 vs s52),?_,?_,?_,?_,?_⟩
  ·clear 1 x51 2 o7;exact ⟨_,xt,(Same.refl _),rfl,⟨_,o7⟩⟩
  ·rintro _ S' G' H' ⟨v53,xt,mk54,rfl,⟨vs2,o7⟩⟩;exact ⟨mk54,xt.gh⟩
  ·rintro xv55 a56 s52 _ G59 H60 fl57 - ⟨v53,xt,mk54,rfl,⟨vs2,o7⟩⟩ rx58 hm D' kN61 kC62 kB63 kR64;refine Cg ?_;clear 2 a73 h74 z81 h75;refine DT (K:=K) rfl o7 (Cu (Cu (Cu B5 (ET (ev_fst (A6 rx58)))) B5) (ET (ev_snd (A6 rx58)))) h74 h75 xt.gh fun G76 H77 w78 x79 o80=>?_;have xt:Ext G0 H0 G76 (upd H77 p1 (.lst (vs2++[w78]))):=(xt.trans x79).put hz6 o80.g;clear 0 x79 3 mk54;cases hm;exact kN61 _ _ _ _ rfl ⟨_,xt,mk54,rfl,⟨_,o80⟩⟩
  ·rintro s52 _ G84 H85 rfl ⟨v82,xt,mk83,rfl,⟨vs2,o7⟩⟩;refine FK ?_;have Aq:=Rp.mono (x51.gg.trans mk83) Aq;clear 2 as86 h87 fl88 h89;refine Dn (K:=K) (RR:=fun r v G' H'=>Ext G0 H0 G' H'/\Rp.rel K G' v r) (Bu (ev_p43 (A6 Aq))) h87 h89 xt.gh fun G90 H91 x92=>⟨fun s93 S' G' H'=>∃ (v94:Option V),Ext G0 H0 G' H'/\Same G90 G'/\S'=[some Ct,some (V.ref p1),v41,v82,v94,none]/\(∃ vs,Own K G' H' (V.ref p1) p1 vs s93),?_,?_,?_,?_,?_⟩
   ·clear 1 x92 2 o7;exact ⟨_,xt,(Same.refl _),rfl,⟨_,o7⟩⟩
   ·rintro _ S' G' H' ⟨v94,xt,mk95,rfl,⟨vs2,o7⟩⟩;exact ⟨mk95,xt.gh⟩
   ·rintro xv96 a97 s93 _ G100 H101 fl98 - ⟨v94,xt,mk95,rfl,⟨vs2,o7⟩⟩ rx99 hm D' kN102 kC103 kB104 kR105;refine Cg ?_;clear 2 a109 h110 z117 h111;refine DT (K:=K) rfl o7 (Cu B5 (ET (A6 rx99))) h110 h111 xt.gh fun G112 H113 w114 x115 o116=>?_;have xt:Ext G0 H0 G112 (upd H113 p1 (.lst (vs2++[w114]))):=(xt.trans x115).put hz6 o116.g;clear 0 x115 3 mk95;cases hm;exact kN102 _ _ _ _ rfl ⟨_,xt,mk95,rfl,⟨_,o116⟩⟩
   ·rintro s93 _ G120 H121 rfl ⟨v118,xt,mk119,rfl,⟨vs2,o7⟩⟩;refine FK ?_;have Aq:=Rp.mono (x92.gg.trans mk119) Aq;clear 2 as122 h123 fl124 h125;refine Dn (K:=K) (RR:=fun r v G' H'=>Ext G0 H0 G' H'/\Rp.rel K G' v r) (Bu (ev_p44 (A6 Aq))) h123 h125 xt.gh fun G126 H127 x128=>⟨fun s129 S' G' H'=>∃ (v130:Option V),Ext G0 H0 G' H'/\Same G126 G'/\S'=[some Ct,some (V.ref p1),v41,v82,v118,v130]/\(∃ vs,Own K G' H' (V.ref p1) p1 vs s129),?_,?_,?_,?_,?_⟩
    ·clear 1 x128 2 o7;exact ⟨_,xt,(Same.refl _),rfl,⟨_,o7⟩⟩
    ·rintro _ S' G' H' ⟨v130,xt,mk131,rfl,⟨vs2,o7⟩⟩;exact ⟨mk131,xt.gh⟩
    ·rintro xv132 a133 s129 _ G136 H137 fl134 - ⟨v130,xt,mk131,rfl,⟨vs2,o7⟩⟩ rx135 hm D' kN138 kC139 kB140 kR141;refine Cg ?_;clear 2 a152 h153 z160 h154;refine DT (K:=K) rfl o7 (Dc B5 (FV.ev (D4 (FV.ev (C8 (AW B5 (C4 (α:=Str))))) (FV.ev (CD (cap:=[]) (fe:=fun (k_:Int)=>((some k_).bind fun t146=>Cq t146)) (Bu (A6 rx135)) fun xc145 k_ Gc142 sc143 rc144=>(ET (A6 rc144))))))) h153 h154 xt.gh fun G155 H156 w157 x158 o159=>?_;have xt:Ext G0 H0 G155 (upd H156 p1 (.lst (vs2++[w157]))):=(xt.trans x158).put hz6 o159.g;clear 0 x158 3 mk131;cases hm;exact kN138 _ _ _ _ rfl ⟨_,xt,mk131,rfl,⟨_,o159⟩⟩
    ·rintro s129 _ G163 H164 rfl ⟨v161,xt,mk162,rfl,⟨vs2,o7⟩⟩;refine FK ?_;have sf:=Same.new (o:=.lst vs2) o7.g;have xt:=xt.frz hz6 o7.g o7.h;have r167:=o7.tell;exact AR (K:=K) (Dc B5 (A6 r167)) hm xt.gh fun v170 G171 H172 x173 r174=>q v170 G171 H172 (xt.trans x173) r174
    ·clear 5
   ·clear 5
  ·clear 5
 ·clear 5
theorem Kg (F:DIn K mg "_law_letters" Ek)(T:Txt mg):HJ P w K mg base:=by
 refine F.okM1 (m:=CS) ES fun _ _ _ _ _ H0 _ _ hr G0 AS res Dx xt AB hm q=>?_;unfold CS at hm
 refine ⟨_,(A3 (AO (i:=1) ES AK)
   (A3 (AO (i:=2) ES (BU (A2 (pv 0) (A2 (AG K (AG K (pv 0) A8) (An B4 (An CY (pv 0) A8) A8)) (A2 (AG K (AG K (pv 0) A8) (An B4 (An CY (pv 0) A8) A8)) (A2 (AG K (AG K (pv 0) A8) (An B4 (An CY (pv 0) A8) A8)) A5))))))
   (A3 (AN (CU (cn:=["_law_row"]) (cap:=[1]) rfl ⟨by decide +kernel,rfl,by decide +kernel,BV rfl⟩ rfl (by decide +kernel) ⟨⟨rfl,.inl rfl,rfl⟩,trivial⟩ (B6 (K:=K) rfl (pv 2)) (fun C s0 H0 fp=>⟨Bb,(Au K (pv 1) (An B4 (pv 0) A8))⟩)))
   A4))),?_⟩
 clear 2 row_ h6;refine Ab (K:=K) B5 h6 xt.gh fun v1 G2 H3 x4 r5=>?_;clear 1 x4 AB;clear 2 PR h12;refine Ab (K:=K) (FV.ev (C8 (AW (A6 AB) (AW (BS (BS (A6 AB) Ag) (B7 (CV (A6 AB)))) (AW (BS (BS (A6 AB) Ag) (B7 (CV (A6 AB)))) (AW (BS (BS (A6 AB) Ag) (B7 (CV (A6 AB)))) (C4 (α:=Int)))))))) h12 xt.gh fun v7 G8 H9 x10 r11=>?_;clear 1 x10 r5;exact AR (K:=K) (FV.ev (CD (cap:=[1]) (fe:=fun (at_:Int)=>((some row_).bind fun t17=>(some (at_ % (26:Int))).bind fun t18=>(atI t17.cps.toList t18).bind fun z=>some (⟨#[z]⟩:Str))) (Bu (A6 r11)) fun xc16 at_ Gc13 sc14 rc15=>(OO (A6 (Rp.mono sc14 r5)) (B7 (A6 rc15))))) hm xt.gh fun v20 G21 H22 x23 r24=>q v20 G21 H22 (xt.trans x23) r24
seal eval in
theorem KD (F:DIn K mg "_law_changed" Ev)(T:Txt mg):HI P w K mg base:=by
 refine F.okM2 (m:=CO) Bf fun _ _ _ _ _ H0 _ _ hr G0 text_ AS res EZ Dx xt AL AB hm q=>?_;unfold CO at hm
 refine ⟨_,(A3 (AO (i:=2) Bf AK)
   (A3 (AO (i:=3) Bf (Au K (pv 2) (An B4 (An CY (pv 1) A8) A8)))
   (A3 (AO (i:=4) Bf (An B4 (An B4 (An (Dz (K:=K) rfl) (An CY (pv 1) A8) A8) A8) (AG K (BM K T.len_ (pv 0)) A8)))
   (A3 (AO (i:=5) Bf (An B4 (pv 1) A8))
   (A3 (AO (i:=6) Bf (CC (K:=K) rfl PySem.F.plainAttrs_str PySem.F.slot_str_split PySem.F.type_str_split GD (pv 0) (A2 AK A5)))
   (A3 (AO (i:=7) Bf (An B4 (pv 4) (BM K T.len_ (pv 6))))
   (A3 (Ax (AJ BQ (pv 5) A8 (AT _)) (A3 (AN (AG K (AG K (BW (Bv (K:=K) rfl) (pv 0) CI (Ba (pv 4))) (pv 3)) (BW (Bv (K:=K) rfl) (pv 0) (Ba (AG K (pv 4) A8)) CI)))
   A4) A4)
   (A3 (Ax (AJ BQ (pv 5) A8 (AT _)) (A3 (AN (AG K (AG K (BW (Bv (K:=K) rfl) (pv 0) CI (Ba (pv 4))) (pv 3)) (BW (Bv (K:=K) rfl) (pv 0) (Ba (pv 4)) CI)))
   A4) A4)
   (A3 (Ax (AJ BQ (pv 5) A8 (AT _)) (A3 (AN (AG K (BW (Bv (K:=K) rfl) (pv 0) CI (Ba (pv 4))) (BW (Bv (K:=K) rfl) (pv 0) (Ba (AG K (pv 4) A8)) CI)))
   A4) A4)
   (A3 (Ax (AJ BQ (pv 5) A8 (AT _)) (A3 (AO (i:=8) Bf (AG K (BW (Bv (K:=K) rfl) (pv 6) (Ba (AG K (pv 7) A8)) (Ba (AG K (pv 7) A8))) (BW (Bv (K:=K) rfl) (pv 6) (Ba (pv 7)) (Ba (AG K (pv 7) A8)))))
   (A3 (AN (CC (K:=K) rfl PySem.F.plainAttrs_str PySem.F.slot_str_join PySem.F.type_str_join (Cp (K:=K) rfl) AK (A2 (AG K (AG K (BW (Bv (K:=K) rfl) (pv 6) CI (Ba (pv 7))) (pv 8)) (BW (Bv (K:=K) rfl) (pv 6) (Ba (AG K (pv 7) A8)) CI)) A5)))
   A4)) A4)
   (A3 (Ax (AJ BQ (pv 5) A8 (AT _)) (A3 (AN (CC (K:=K) rfl PySem.F.plainAttrs_str PySem.F.slot_str_join PySem.F.type_str_join (Cp (K:=K) rfl) AK (A2 (AG K (AG K (BW (Bv (K:=K) rfl) (pv 6) CI (Ba (pv 7))) (BW (Bv (K:=K) rfl) (pv 6) (Ba (pv 7)) (Ba (AG K (pv 7) A8)))) (BW (Bv (K:=K) rfl) (pv 6) (Ba (pv 7)) CI)) A5)))
   A4) A4)
   (A3 (Ax (AJ BQ (pv 5) A8 (AT _)) (A3 (AN (CC (K:=K) rfl PySem.F.plainAttrs_str PySem.F.slot_str_join PySem.F.type_str_join (Cp (K:=K) rfl) AK (A2 (AG K (BW (Bv (K:=K) rfl) (pv 6) CI (Ba (pv 7))) (BW (Bv (K:=K) rfl) (pv 6) (Ba (AG K (pv 7) A8)) CI)) A5)))
   A4) A4)
   (A3 (Ax (AJ BQ (pv 5) A8 (AT _)) (A3 (AN (AG K (pv 0) (Au K (BU (A2 AK (A2 AK (A2 AK (A2 AK (A2 AK (A2 AK (A2 AK A5)))))))) (An B4 (An CY (pv 1) A8) A8))))
   A4) A4)
   (A3 (AN (pv 0))
   A4)))))))))))))),?_⟩
 clear 2 signs_ h6;refine Ab (K:=K) B5 h6 xt.gh fun v1 G2 H3 x4 r5=>?_;clear 1 x4 AL AB;clear 2 new_ h14;refine Ab (K:=K) (OO (A6 r5) (B7 (CV (A6 AB)))) h14 xt.gh fun v9 G10 H11 x12 r13=>?_;clear 1 x12 AL AB;clear 2 at_ h22;refine Ab (K:=K) (GQ (B7 (IE (CV (A6 AB)))) (BS (Oz (A6 AL)) Ag)) h22 xt.gh fun v17 G18 H19 x20 r21=>?_;clear 1 x20 AL AB r13;clear 2 way_ h28;refine Ab (K:=K) (B7 (A6 AB)) h28 xt.gh fun v23 G24 H25 x26 r27=>?_;clear 1 x26 AL AB r13 r21;clear 2 rows_ h36;refine Ab (K:=K) (FV.ev (GF (A6 AL) B5)) h36 xt.gh fun v31 G32 H33 x34 r35=>?_;clear 1 x34 AL AB r13 r21 r27;clear 2 FG h44;refine Ab (K:=K) (GQ (A6 r21) (He (A6 r35))) h44 xt.gh fun v39 G40 H41 x42 r43=>?_;clear 1 x42 AL AB r13 r21 r27 r35;clear 2 b45 h46;refine B1 (AI (K:=K) (Bp (A6 r27) Ag)) h46 xt.gh fun G47 H48 x49=>?_;clear 1 x49 AL AB r13 r21 r27 r35 r43
 cases b45 with
 | true =>
  clear 3;exact AR (K:=K) (Cu (Cu (E6 (A6 AL) Bz (BL (K:=K) (A6 r21))) (A6 r13)) (E6 (A6 AL) (BL (K:=K) (BS (A6 r21) Ag)) Bz)) hm xt.gh fun v54 G55 H56 x57 r58=>q v54 G55 H56 (xt.trans x57) r58
 | false =>
  clear 4;clear 2 b59 h60;refine B1 (AI (K:=K) (Bp (A6 r27) Ag)) h60 xt.gh fun G61 H62 x63=>?_;clear 1 x63 AL AB r13 r21 r27 r35 r43
  cases b59 with
  | true =>
   clear 3;exact AR (K:=K) (Cu (Cu (E6 (A6 AL) Bz (BL (K:=K) (A6 r21))) (A6 r13)) (E6 (A6 AL) (BL (K:=K) (A6 r21)) Bz)) hm xt.gh fun v68 G69 H70 x71 r72=>q v68 G69 H70 (xt.trans x71) r72
  | false =>
   clear 4;clear 2 b73 h74;refine B1 (AI (K:=K) (Bp (A6 r27) Ag)) h74 xt.gh fun G75 H76 x77=>?_;clear 1 x77 AL AB r21 r27 r35 r43
   cases b73 with
   | true =>
    clear 3;exact AR (K:=K) (Cu (E6 (A6 AL) Bz (BL (K:=K) (A6 r21))) (E6 (A6 AL) (BL (K:=K) (BS (A6 r21) Ag)) Bz)) hm xt.gh fun v80 G81 H82 x83 r84=>q v80 G81 H82 (xt.trans x83) r84
   | false =>
    clear 4;clear 2 b85 h86;refine B1 (AI (K:=K) (Bp (A6 r27) Ag)) h86 xt.gh fun G87 H88 x89=>?_;clear 1 x89 AL AB r27 r35 r43
    cases b85 with
    | true =>
     clear 3;clear 2 P6 h97;refine Ab (K:=K) (FV.ev (D4 (FV.ev (C1 (A6 r35) (BL (K:=K) (BS (A6 r43) Ag)) (BL (K:=K) (BS (A6 r43) Ag)))) (FV.ev (C1 (A6 r35) (BL (K:=K) (A6 r43)) (BL (K:=K) (BS (A6 r43) Ag)))))) h97 xt.gh fun v92 G93 H94 x95 r96=>?_;clear 1 x95 r35 r43;exact AR (K:=K) (Dc B5 (FV.ev (D4 (FV.ev (D4 (FV.ev (C1 (A6 r35) Bz (BL (K:=K) (A6 r43)))) (A6 r96))) (FV.ev (C1 (A6 r35) (BL (K:=K) (BS (A6 r43) Ag)) Bz))))) hm xt.gh fun v104 G105 H106 x107 r108=>q v104 G105 H106 (xt.trans x107) r108
    | false =>
     clear 4;clear 2 b109 h110;refine B1 (AI (K:=K) (Bp (A6 r27) Ag)) h110 xt.gh fun G111 H112 x113=>?_;clear 1 x113 AL AB r27 r35 r43
     cases b109 with
     | true =>
      clear 3;exact AR (K:=K) (Dc B5 (FV.ev (D4 (FV.ev (D4 (FV.ev (C1 (A6 r35) Bz (BL (K:=K) (A6 r43)))) (FV.ev (C1 (A6 r35) (BL (K:=K) (A6 r43)) (BL (K:=K) (BS (A6 r43) Ag)))))) (FV.ev (C1 (A6 r35) (BL (K:=K) (A6 r43)) Bz))))) hm xt.gh fun v120 G121 H122 x123 r124=>q v120 G121 H122 (xt.trans x123) r124
     | false =>
      clear 4;clear 2 b125 h126;refine B1 (AI (K:=K) (Bp (A6 r27) Ag)) h126 xt.gh fun G127 H128 x129=>?_;clear 1 x129 AL AB r27 r35 r43
      cases b125 with
      | true =>
       clear 3;exact AR (K:=K) (Dc B5 (FV.ev (D4 (FV.ev (C1 (A6 r35) Bz (BL (K:=K) (A6 r43)))) (FV.ev (C1 (A6 r35) (BL (K:=K) (BS (A6 r43) Ag)) Bz))))) hm xt.gh fun v134 G135 H136 x137 r138=>q v134 G135 H136 (xt.trans x137) r138
      | false =>
       clear 4;clear 2 b139 h140;refine B1 (AI (K:=K) (Bp (A6 r27) Ag)) h140 xt.gh fun G141 H142 x143=>?_;clear 1 x143 AL AB
       cases b139 with
       | true =>
        clear 3;exact AR (K:=K) (Cu (A6 AL) (Du (FV.ev (C8 (AW B5 (AW B5 (AW B5 (AW B5 (AW B5 (AW B5 (AW B5 (C4 (α:=Str))))))))))) (B7 (CV (A6 AB))))) hm xt.gh fun v148 G149 H150 x151 r152=>q v148 G149 H150 (xt.trans x151) r152
       | false =>
        clear 4;exact AR (K:=K) (A6 AL) hm xt.gh fun v153 G154 H155 x156 r157=>q v153 G154 H155 (xt.trans x156) r157
theorem JF (F:DIn K mg "_law_number_of" Ds)(T:Txt mg):Fq P w K mg base:=by
 refine F.okM1 (m:=Ae) Ck fun _ _ _ _ _ H0 _ _ hr G0 CN res IX xt Bo hm q=>?_;unfold Ae at hm
 refine ⟨_,(A3 (Ax (PW.pt (E8 (AJ BQ (pv 0) AK (AT _)) (Dm (PW.pt (MS (AJ BQ (Au K (pv 0) A8) AK (AT _)) (Jk (AJ Ls (pv 0) AK (AT _)))))))) (A3 (AN D0)
   A4) A4)
   (A3 (AO (i:=1) Ck A8)
   (A3 (DV PassesOwn.never rfl (B6 (K:=K) rfl (pv 0)) (CB (i:=2) Ck) (A3 (Ax (AJ Mb (pv 2) AK rfl) (A3 (AN D0)
   A4) A4)
   (A3 (AO (i:=1) Ck (AG K (An (Dz (K:=K) rfl) A8 (pv 1)) (CC (K:=K) rfl PySem.F.plainAttrs_str PySem.F.slot_str_find PySem.F.type_str_find mt_find AK (A2 (pv 2) A5))))
   A4)))
   (A3 (AN (pv 1))
   A4)))),?_⟩
 clear 2 b6 h7;refine B1 (EC (AI (K:=K) (DQ (A6 Bo) B5)) (Mu (AI (K:=K) (DQ (OO (A6 Bo) Ag) B5)) (AI (K:=K) (N2 (A6 Bo) B5)))) h7 xt.gh fun G8 H9 x10=>?_;clear 1 x10 Bo
 cases b6 with
 | true =>
  clear 3;exact AR (K:=K) (rest:=CZ) (σ:=[some IX,none,none]) (Jm (α:=Int)) hm xt.gh fun v11 G12 H13 x14 r15=>q v11 G12 H13 (xt.trans x14) r15
 | false =>
  clear 4;clear 2 BF h21;refine Ab (K:=K) Ag h21 xt.gh fun v16 G17 H18 x19 r20=>?_;clear 1 x19 Bo;clear 2 as22 h23 fl24 h25;refine Dn (K:=K) (RR:=fun r v G' H'=>Ext G0 H0 G' H'/\Rp.rel K G' v r) (O9 (A6 Bo)) h23 h25 xt.gh fun G26 H27 x28=>⟨fun s29 S' G' H'=>∃ (v30:V) (v31:Option V),Ext G0 H0 G' H'/\Same G26 G'/\S'=[some IX,some v30,v31]/\Rp.rel K G' v30 (s29:Int),?_,?_,?_,?_,?_⟩
  ·clear 1 x28 r20;exact ⟨v16,_,xt,(Same.refl _),rfl,r20⟩
  ·rintro _ S' G' H' ⟨v30,v31,xt,mk32,rfl,r33⟩;exact ⟨mk32,xt.gh⟩
  ·rintro xv34 a35 s29 _ G38 H39 fl36 - ⟨v30,v31,xt,mk32,rfl,r33⟩ rx37 hm D' kN40 kC41 kB42 kR43;refine Cg ?_;clear 2 b44 h45;refine B1 (AI (K:=K) (QS (A6 rx37) B5)) h45 xt.gh fun G46 H47 x48=>?_;clear 1 x48 r33 rx37 3 mk32
   cases b44 with
   | true =>
    clear 3;clear 2 rr54 h55;cases hm;exact AR (K:=K) (rest:=CZ) (σ:=[some IX,some v30,some xv34]) (Jm (α:=Int)) h55 xt.gh fun v49 G50 H51 x52 r53=>kR43 _ v49 G50 H51 rfl ⟨xt.trans x52,r53⟩
   | false =>
    clear 4;clear 2 BF h61;refine Ab (K:=K) (BS (PY (A6 r33)) (ev_find B5 (A6 rx37))) h61 xt.gh fun v56 G57 H58 x59 r60=>?_;clear 1 x59 3 mk32;cases hm;exact kN40 _ _ _ _ rfl ⟨v56,_,xt,mk32,rfl,r60⟩
  ·rintro s29 _ G66 H67 rfl ⟨v62,v63,xt,mk64,rfl,r65⟩;refine FK ?_;exact AR (K:=K) (MX (A6 r65)) hm xt.gh fun v68 G69 H70 x71 r72=>q v68 G69 H70 (xt.trans x71) r72
  ·clear 5
theorem Ip (F:DIn K mg "_law_moment_of" Do)(T:Txt mg):Fo P w K mg base:=by
 refine F.okM1 (m:=BR) DR fun _ _ _ _ _ H0 _ _ hr G0 CN res IX xt Bo hm q=>?_;unfold BR at hm
 refine ⟨_,(A3 (Ax (AJ BQ (pv 0) AK (AT _)) (A3 (AN AK)
   A4) A4)
   (A3 (AO (i:=1) DR AK)
   (A3 (AO (i:=2) DR (CC (K:=K) rfl PySem.F.plainAttrs_str PySem.F.slot_str_join PySem.F.type_str_join (Cp (K:=K) rfl) AK (A2 (CU (cn:=["_law_part"]) (cap:=[0]) rfl ⟨by decide +kernel,rfl,by decide +kernel,BV rfl⟩ rfl (by decide +kernel) ⟨⟨rfl,.inl rfl,rfl⟩,trivial⟩ (B6 (K:=K) rfl (pv 1)) (fun C s0 H0 fp=>⟨(pts_one (AJ Ld (pv 0) (pv 1) rfl)),(pv 0)⟩)) A5)))
   (A3 (AN (FL (PW.pt (MS (AJ BQ (pv 0) (pv 2) (AT _)) (Jk (AJ Ls (pv 0) AK (AT _))))) (pv 2) D0))
   A4)))),?_⟩
 clear 2 b1 h2;refine B1 (AI (K:=K) (DQ (A6 Bo) B5)) h2 xt.gh fun G3 H4 x5=>?_;clear 1 x5 Bo
 cases b1 with
 | true =>
  clear 3;exact AR (K:=K) (rest:=CZ) (σ:=[some IX,none,none]) (MX B5) hm xt.gh fun v6 G7 H8 x9 r10=>q v6 G7 H8 (xt.trans x9) r10
 | false =>
  clear 4;clear 2 row_ h16;refine Ab (K:=K) B5 h16 xt.gh fun v11 G12 H13 x14 r15=>?_;clear 1 x14 Bo;clear 2 E5 h29;refine Ab (K:=K) (Dc B5 (FV.ev (Op (cap:=[0]) (fc:=fun (DY:Str)=>(some (inS DY CN))) (fe:=fun (DY:Str)=>(some DY)) (O9 (A6 r15)) fun xc20 DY Gc17 sc18 rc19=>⟨(AI (K:=K) (ev_inS (A6 rc19) (A6 (Rp.mono sc18 Bo)))),(A6 rc19)⟩))) h29 xt.gh fun v24 G25 H26 x27 r28=>?_;clear 1 x27 Bo;exact AR (K:=K) (JC (tv_andP (AI (K:=K) (DQ (A6 Bo) (A6 r28))) (AI (K:=K) (N2 (A6 Bo) B5))) (MX (A6 r28)) (Jm (α:=Str))) hm xt.gh fun v31 G32 H33 x34 r35=>q v31 G32 H33 (xt.trans x34) r35
theorem L7 (F:DIn K mg "_law_row_of" Fn)(T:Txt mg)(Dq:Fq P w K mg base)(Dl:Fo P w K mg base):Ib P w K mg base:=by
 refine F.okM2 (m:=Ad) HP fun _ _ _ _ _ H0 _ _ hr G0 parts_ Ed res v_parts_ v_sort_ xt GC DL hm q=>?_;unfold Ad at hm
 refine ⟨_,(A3 (Ax (AJ BQ (pv 1) A8 (AT _)) (A3 (AN (FL (AJ BQ (BM K T.len_ (pv 0)) A8 (AT _)) (AY Dl hr (by decide) rfl (A2 (Au K (pv 0) A8) A5)) D0))
   A4) A4)
   (A3 (D1 (i:=2) (Fy HP) rfl (Or.inl rfl) (cn:=[]) (cap:=[]) rfl ⟨by decide +kernel,rfl,by decide +kernel,BV rfl⟩ rfl (by decide +kernel) trivial (B6 (K:=K) rfl (BW (Bv (K:=K) rfl) (pv 0) (Ba A8) CI)) (fun C s0 H0 fp=>⟨Bb,(AY Dq hr (by decide) rfl (A2 (pv 0) A5))⟩))
   (A3 (Ax (AJ (op_inE (K:=K) rfl (Option Int) hr (by decide)) D0 (pv 2) rfl) (A3 (AN D0)
   A4) A4)
   (A3 (Ax (AJ BQ (pv 1) A8 (AT _)) (A3 (AN (FL (AJ BQ (BM K T.len_ (pv 2)) A8 (AT _)) (Ix (A2 (Au K (pv 2) A8) (A2 (Au K (pv 2) A8) A5))) D0))
   A4) A4)
   (A3 (Ax (AJ BQ (pv 1) A8 (AT _)) (A3 (AN (FL (AJ BQ (BM K T.len_ (pv 2)) A8 (AT _)) (Au K (pv 2) A8) D0))
   A4) A4)
   (A3 (AN (pv 2))
   A4)))))),?_⟩
 clear 2 b1 h2;refine B1 (AI (K:=K) (Bp (A6 DL) Ag)) h2 xt.gh fun G3 H4 x5=>?_;clear 1 x5 GC DL
 cases b1 with
 | true =>
  clear 3;exact AR (K:=K) (JC (AI (K:=K) (Bp (He (A6 GC)) Ag)) (B3 (BN (m:=FE) (Du (A6 GC) Ag))) (B3 MW)) hm xt.gh fun v11 G12 H13 x14 r15=>q v11 G12 H13 (xt.trans x14) r15
 | false =>
  clear 4;clear 2 numbers_ h27;refine Ab (K:=K) (FV.ev (CD (cap:=[]) (fe:=fun (CN:Str)=>((some CN).bind fun t20=>Ae t20)) (Bu (FV.ev (C1 (A6 GC) (BL (K:=K) Ag) Bz))) fun xc19 CN Gc16 sc17 rc18=>(BN (m:=FB) (A6 rc18)))) h27 xt.gh fun v22 G23 H24 x25 r26=>?_;clear 1 x25 DL;clear 2 b28 h29;refine B1 (AI (K:=K) (ev_inEm (Jm (α:=Int)) (A6 r26))) h29 xt.gh fun G30 H31 x32=>?_;clear 1 x32 DL r26
  cases b28 with
  | true =>
   clear 3;exact AR (K:=K) (rest:=CZ) (σ:=[some v_parts_,some v_sort_,some v22]) (B3 MW) hm xt.gh fun v33 G34 H35 x36 r37=>q v33 G34 H35 (xt.trans x36) r37
  | false =>
   clear 4;clear 2 b38 h39;refine B1 (AI (K:=K) (Bp (A6 DL) Ag)) h39 xt.gh fun G40 H41 x42=>?_;clear 1 x42 DL r26
   cases b38 with
   | true =>
    clear 3;exact AR (K:=K) (JC (AI (K:=K) (Bp (He (A6 r26)) Ag)) (B3 (ev_tupL (AW (B3 (Du (A6 r26) Ag)) (AW (B3 (Du (A6 r26) Ag)) (C4 (α:=D)))))) (B3 MW)) hm xt.gh fun v55 G56 H57 x58 r59=>q v55 G56 H57 (xt.trans x58) r59
   | false =>
    clear 4;clear 2 b60 h61;refine B1 (AI (K:=K) (Bp (A6 DL) Ag)) h61 xt.gh fun G62 H63 x64=>?_;clear 1 x64 r26
    cases b60 with
    | true =>
     clear 3;exact AR (K:=K) (JC (AI (K:=K) (Bp (He (A6 r26)) Ag)) (B3 (Du (A6 r26) Ag)) (B3 MW)) hm xt.gh fun v69 G70 H71 x72 r73=>q v69 G70 H71 (xt.trans x72) r73
    | false =>
     clear 4;exact AR (K:=K) (B3 (A6 r26)) hm xt.gh fun v74 G75 H76 x77 r78=>q v74 G75 H76 (xt.trans x77) r78
theorem HW (F:DIn K mg "is_number_below" DK)(T:Txt mg):DF P w K mg base:=by
 refine F.okM2 (m:=Al) Hn fun _ _ _ _ _ H0 _ _ hr G0 AZ DM res Az FC xt AD CJ hm q=>?_;unfold Al at hm
 refine ⟨_,(A3 (AN (Hq (Ai (Bl (K:=K) rfl) (by rfl) T.isinstance_ AU (A2 (pv 0) (A2 (Ci (v:=.ty "int") rfl T.int_ bt_int rfl) A5))) (Hq (pe_not (Ai (Bl (K:=K) rfl) (by rfl) T.isinstance_ AU (A2 (pv 0) (A2 (Ci (v:=.ty "bool") rfl T.bool_ bt_bool rfl) A5)))) (JJ (pe_chain op_leU Km A8 (pv 0) (pv 1))))))
   A4),?_⟩
 exact AR (K:=K) (GV (Cd (by decide) (A6 AD)) (GV (ev_not (Cd (by decide) (A6 AD))) (ev_chain Ag (Ll (A6 AD)) (A6 CJ)))) hm xt.gh fun v8 G9 H10 x11 r12=>q v8 G9 H10 (xt.trans x11) r12
theorem HB (F:DIn K mg "are_numbers_once" Cy)(T:Txt mg)(BJ:DF P w K mg base):D3 P w K mg base:=by
 refine F.okM2 (m:=AH) Gz fun _ _ _ _ _ H0 _ _ hr G0 AZ DM res Az FC xt AD CJ hm q=>?_;unfold AH at hm
 refine ⟨_,(A3 (Ax (PW.pt (E8 (Cz (BI K (Ai (Bl (K:=K) rfl) (by rfl) T.isinstance_ AU (A2 (pv 0) (A2 (Ci (v:=.ty "list") rfl T.list_ Gp rfl) A5))))) (Dm (Cz (BI K (Ai (FO (K:=K) rfl rfl) (by rfl) T.all_ K9 (A2 (CU (cn:=["count"]) (cap:=[1]) rfl ⟨by decide +kernel,rfl,by decide +kernel,BV rfl⟩ rfl (by decide +kernel) ⟨⟨rfl,.inl rfl,rfl⟩,trivial⟩ (B6 (K:=K) rfl (pv 0)) (fun C s0 H0 fp=>⟨Bb,(AY BJ hr (by decide) rfl (A2 (pv 0) (A2 (pv 1) A5)))⟩)) A5))))))) (A3 (AN De)
   A4) A4)
   (A3 (AN (Gh BQ (Ai (Nb (w:=w) rfl) (by rfl) T.len_ OS (A2 (Bi (QD (K:=K) (w:=w) rfl rfl rfl) (by rfl) T.set_ bt_set (A2 (pv 0) A5)) A5)) (BM K T.len_ (pv 0)) (AT _)))
   A4)),?_⟩
 clear 2 b12 h13;refine B1 (EC (Cw (GA (K:=K) (Cd (by decide) (A6 AD)))) (Cw (GA (K:=K) (KP (FV.ev (CD (cap:=[1]) (fe:=fun (BF:D)=>((some BF).bind fun t6=>(some DM).bind fun t7=>Al t6 t7)) (JA (A6 AD)) fun xc5 BF Gc2 sc3 rc4=>(Ap (m:=CH) (A6 rc4) (A6 (Rp.mono sc3 CJ))))))))) h13 xt.gh fun G14 H15 x16=>?_;clear 1 x16 AD
 cases b12 with
 | true =>
  clear 3;exact AR (K:=K) (rest:=CZ) (σ:=[some Az,some FC]) Gv hm xt.gh fun v17 G18 H19 x20 r21=>q v17 G18 H19 (xt.trans x20) r21
 | false =>
  clear 4;exact AR (K:=K) (Bp (QK (w:=w) (QM (A6 AD))) (DN (A6 AD))) hm xt.gh fun v28 G29 H30 x31 r32=>q v28 G29 H30 (xt.trans x31) r32
theorem ML (F:DIn K mg "are_marks" GN)(T:Txt mg)(BX:D3 P w K mg base):JR P w K mg base:=by
 refine F.okM2 (m:=BH) MR fun _ _ _ _ _ H0 _ _ hr G0 AZ many_ways_ res Az Mz xt AD FX hm q=>?_;unfold BH at hm
 refine ⟨_,(A3 (Ax (PW.pt (E8 (Cz (BI K (Ai (Bl (K:=K) rfl) (by rfl) T.isinstance_ AU (A2 (pv 0) (A2 (Ci (v:=.ty "list") rfl T.list_ Gp rfl) A5))))) (Dm (AJ Iu (BM K T.len_ (pv 0)) (IJ rfl T.MOST_MARKS) (AT _))))) (A3 (AN De)
   A4) A4)
   (A3 (AN (Ai (FO (K:=K) rfl rfl) (by rfl) T.all_ K9 (A2 (CU (cn:=["many_ways"]) (cap:=[1]) rfl ⟨by decide +kernel,rfl,by decide +kernel,BV rfl⟩ rfl (by decide +kernel) ⟨⟨rfl,.inl rfl,rfl⟩,trivial⟩ (B6 (K:=K) rfl (pv 0)) (fun C s0 H0 fp=>⟨Bb,(AY BX hr (by decide) rfl (A2 (pv 0) (A2 (pv 1) A5)))⟩)) A5)))
   A4)),?_⟩
 clear 2 b4 h5;refine B1 (EC (Cw (GA (K:=K) (Cd (by decide) (A6 AD)))) (AI (K:=K) (GI (DN (A6 AD)) Ag))) h5 xt.gh fun G6 H7 x8=>?_;clear 1 x8 AD FX
 cases b4 with
 | true =>
  clear 3;exact AR (K:=K) (rest:=CZ) (σ:=[some Az,some Mz]) Gv hm xt.gh fun v9 G10 H11 x12 r13=>q v9 G10 H11 (xt.trans x12) r13
 | false =>
  clear 4;exact AR (K:=K) (KP (FV.ev (CD (cap:=[1]) (fe:=fun (GR:D)=>((some GR).bind fun t19=>(some many_ways_).bind fun t20=>AH t19 t20)) (JA (A6 AD)) fun xc18 GR Gc15 sc16 rc17=>(Ap (m:=Co) (A6 rc17) (A6 (Rp.mono sc16 FX)))))) hm xt.gh fun v23 G24 H25 x26 r27=>q v23 G24 H25 (xt.trans x26) r27
theorem MH (F:DIn K mg "is_moment" GP)(T:Txt mg):GJ P w K mg base:=by
 refine F.okM1 (m:=BA) Dy fun _ _ _ _ _ H0 _ _ hr G0 AZ res Az xt AD hm q=>?_;unfold BA at hm
 refine ⟨_,(A3 (Ax (Cz (BI K (Ai (Bl (K:=K) rfl) (by rfl) T.isinstance_ AU (A2 (pv 0) (A2 (Ci (v:=.ty "str") rfl T.str_ Dr rfl) A5))))) (A3 (AN De)
   A4) A4)
   (A3 (AO (i:=1) Dy AK)
   (A3 (DV PassesOwn.never rfl (B6 (K:=K) rfl (pv 0)) (CB (i:=2) Dy) (A3 (Ax (PW.pt (E8 (AJ Km (pv 2) AK (AT _)) (E8 (AJ Iu (pv 2) AK (AT _)) (Dm (AJ op_leU (pv 2) (pv 1) (AT _)))))) (A3 (AN De)
   A4) A4)
   (A3 (AO (i:=1) Dy (pv 2))
   A4)))
   (A3 (AN De)
   A4)))),?_⟩
 clear 2 b1 h2;refine B1 (Cw (GA (K:=K) (Cd (by decide) (A6 AD)))) h2 xt.gh fun G3 H4 x5=>?_;clear 1 x5 AD
 cases b1 with
 | true =>
  clear 3;exact AR (K:=K) (rest:=CZ) (σ:=[some Az,none,none]) Gv hm xt.gh fun v6 G7 H8 x9 r10=>q v6 G7 H8 (xt.trans x9) r10
 | false =>
  clear 4;clear 2 FN h16;refine Ab (K:=K) B5 h16 xt.gh fun v11 G12 H13 x14 r15=>?_;clear 1 x14 AD;clear 2 as18 h19 fl20 h21;refine Dn (K:=K) (RR:=fun r v G' H'=>Ext G0 H0 G' H'/\Rp.rel K G' v r) (JA (A6 AD)) h19 h21 xt.gh fun G22 H23 x24=>⟨fun s25 S' G' H'=>∃ (v26:V) (v27:Option V),Ext G0 H0 G' H'/\Same G22 G'/\S'=[some Az,some v26,v27]/\Rp.rel K G' v26 (s25:Str),?_,?_,?_,?_,?_⟩
  ·clear 1 x24 r15;exact ⟨v11,_,xt,(Same.refl _),rfl,r15⟩
  ·rintro _ S' G' H' ⟨v26,v27,xt,mk28,rfl,r29⟩;exact ⟨mk28,xt.gh⟩
  ·rintro xv30 a31 s25 _ G34 H35 fl32 - ⟨v26,v27,xt,mk28,rfl,r29⟩ rx33 hm D' kN36 kC37 kB38 kR39;refine Cg ?_;clear 2 b48 h49;refine B1 (EC (AI (K:=K) (MF (DJ (A6 rx33)) B5)) (EC (AI (K:=K) (MF (DJ (A6 rx33)) B5)) (AI (K:=K) (MF (DJ (A6 rx33)) (A6 r29))))) h49 xt.gh fun G50 H51 x52=>?_;clear 1 x52 rx33 3 mk28
   cases b48 with
   | true =>
    clear 3;clear 2 rr58 h59;cases hm;exact AR (K:=K) (rest:=CZ) (σ:=[some Az,some v26,some xv30]) Gv h59 xt.gh fun v53 G54 H55 x56 r57=>kR39 _ v53 G54 H55 rfl ⟨xt.trans x56,r57⟩
   | false =>
    clear 4;clear 2 FN h66;refine Ab (K:=K) (DJ (A6 rx33)) h66 xt.gh fun v61 G62 H63 x64 r65=>?_;clear 1 x64 3 mk28;cases hm;exact kN36 _ _ _ _ rfl ⟨v61,_,xt,mk28,rfl,r65⟩
  ·rintro s25 _ G71 H72 rfl ⟨v67,v68,xt,mk69,rfl,r70⟩;refine FK ?_;exact AR (K:=K) (rest:=CZ) (σ:=[some Az,some v67,v68]) Gv hm xt.gh fun v73 G74 H75 x76 r77=>q v73 G74 H75 (xt.trans x76) r77
  ·clear 5
theorem KL (F:DIn K mg "are_moments" F9)(T:Txt mg)(DC:GJ P w K mg base):HL P w K mg base:=by
 refine F.okM1 (m:=Ao) K6 fun _ _ _ _ _ H0 _ _ hr G0 AZ res Az xt AD hm q=>?_;unfold Ao at hm
 refine ⟨_,(A3 (Ax (PW.pt (E8 (Cz (BI K (Ai (Bl (K:=K) rfl) (by rfl) T.isinstance_ AU (A2 (pv 0) (A2 (Ci (v:=.ty "list") rfl T.list_ Gp rfl) A5))))) (E8 (AJ BQ (BM K T.len_ (pv 0)) A8 (AT _)) (Dm (AJ Iu (BM K T.len_ (pv 0)) (IJ rfl T.MOST_STATES) (AT _)))))) (A3 (AN De)
   A4) A4)
   (A3 (AN (Ai (FO (K:=K) rfl rfl) (by rfl) T.all_ K9 (A2 (CU (cn:=[]) (cap:=[]) rfl ⟨by decide +kernel,rfl,by decide +kernel,BV rfl⟩ rfl (by decide +kernel) trivial (B6 (K:=K) rfl (pv 0)) (fun C s0 H0 fp=>⟨Bb,(AY DC hr (by decide) rfl (A2 (pv 0) A5))⟩)) A5)))
   A4)),?_⟩
 clear 2 b7 h8;refine B1 (EC (Cw (GA (K:=K) (Cd (by decide) (A6 AD)))) (EC (AI (K:=K) (Bp (DN (A6 AD)) Ag)) (AI (K:=K) (GI (DN (A6 AD)) Ag)))) h8 xt.gh fun G9 H10 x11=>?_;clear 1 x11 AD
 cases b7 with
 | true =>
  clear 3;exact AR (K:=K) (rest:=CZ) (σ:=[some Az]) Gv hm xt.gh fun v12 G13 H14 x15 r16=>q v12 G13 H14 (xt.trans x15) r16
 | false =>
  clear 4;exact AR (K:=K) (KP (FV.ev (CD (cap:=[]) (fe:=fun (Ch:D)=>((some Ch).bind fun t22=>BA t22)) (JA (A6 AD)) fun xc21 Ch Gc18 sc19 rc20=>(BN (m:=Ff) (A6 rc20))))) hm xt.gh fun v25 G26 H27 x28 r29=>q v25 G26 H27 (xt.trans x28) r29
theorem Q0 (F:DIn K mg "is_way" Ka)(T:Txt mg)(BJ:DF P w K mg base):NJ P w K mg base:=by
 refine F.okM2 (m:=EQ) QE fun _ _ _ _ _ H0 _ _ hr G0 AZ DM res Az FC xt AD CJ hm q=>?_;unfold EQ at hm
 refine ⟨_,(A3 (Ax (PW.pt (E8 (Cz (BI K (Ai (Bl (K:=K) rfl) (by rfl) T.isinstance_ AU (A2 (pv 0) (A2 (Ci (v:=.ty "tuple") rfl T.tuple_ Kk rfl) A5))))) (Dm (AJ Ls (BM K T.len_ (pv 0)) A8 (AT _))))) (A3 (AN De)
   A4) A4)
   (A3 (AN (Hq (AY BJ hr (by decide) rfl (A2 (Au K (pv 0) A8) (A2 (pv 1) A5))) (JJ (AY BJ hr (by decide) rfl (A2 (Au K (pv 0) A8) (A2 (pv 1) A5))))))
   A4)),?_⟩
 clear 2 b4 h5;refine B1 (EC (Cw (GA (K:=K) (Cd (by decide) (A6 AD)))) (AI (K:=K) (ev_neI (DN (A6 AD)) Ag))) h5 xt.gh fun G6 H7 x8=>?_;clear 1 x8 AD CJ
 cases b4 with
 | true =>
  clear 3;exact AR (K:=K) (rest:=CZ) (σ:=[some Az,some FC]) Gv hm xt.gh fun v9 G10 H11 x12 r13=>q v9 G10 H11 (xt.trans x12) r13
 | false =>
  clear 4;exact AR (K:=K) (GV (Ap (m:=CH) (Iq (A6 AD) Ag) (A6 CJ)) (Ap (m:=CH) (Iq (A6 AD) Ag) (A6 CJ))) hm xt.gh fun v23 G24 H25 x26 r27=>q v23 G24 H25 (xt.trans x26) r27
theorem Ni (F:DIn K mg "are_ways" Hl)(T:Txt mg)(Ki:NJ P w K mg base):Jz P w K mg base:=by
 refine F.okM2 (m:=BO) NX fun _ _ _ _ _ H0 _ _ hr G0 AZ DM res Az FC xt AD CJ hm q=>?_;unfold BO at hm
 refine ⟨_,(A3 (Ax (PW.pt (E8 (Cz (BI K (Ai (Bl (K:=K) rfl) (by rfl) T.isinstance_ AU (A2 (pv 0) (A2 (Ci (v:=.ty "list") rfl T.list_ Gp rfl) A5))))) (Dm (AJ Iu (BM K T.len_ (pv 0)) (IJ rfl T.MOST_WAYS) (AT _))))) (A3 (AN De)
   A4) A4)
   (A3 (AN (Hq (Ai (FO (K:=K) rfl rfl) (by rfl) T.all_ K9 (A2 (CU (cn:=["count"]) (cap:=[1]) rfl ⟨by decide +kernel,rfl,by decide +kernel,BV rfl⟩ rfl (by decide +kernel) ⟨⟨rfl,.inl rfl,rfl⟩,trivial⟩ (B6 (K:=K) rfl (pv 0)) (fun C s0 H0 fp=>⟨Bb,(AY Ki hr (by decide) rfl (A2 (pv 0) (A2 (pv 1) A5)))⟩)) A5)) (JJ (Gh BQ (Ai QI (by rfl) T.len_ OS (A2 (Bi (OE (K:=K) (hu60 hr) rfl rfl) (by rfl) T.set_ bt_set (A2 (pv 0) A5)) A5)) (BM K T.len_ (pv 0)) (AT _)))))
   A4)),?_⟩
 clear 2 b4 h5;refine B1 (EC (Cw (GA (K:=K) (Cd (by decide) (A6 AD)))) (AI (K:=K) (GI (DN (A6 AD)) Ag))) h5 xt.gh fun G6 H7 x8=>?_;clear 1 x8 AD CJ
 cases b4 with
 | true =>
  clear 3;exact AR (K:=K) (rest:=CZ) (σ:=[some Az,some FC]) Gv hm xt.gh fun v9 G10 H11 x12 r13=>q v9 G10 H11 (xt.trans x12) r13
 | false =>
  clear 4;exact AR (K:=K) (GV (KP (FV.ev (CD (cap:=[1]) (fe:=fun (way_:D)=>((some way_).bind fun t19=>(some DM).bind fun t20=>EQ t19 t20)) (JA (A6 AD)) fun xc18 way_ Gc15 sc16 rc17=>(Ap (m:=LY) (A6 rc17) (A6 (Rp.mono sc16 CJ)))))) (Bp (OC (ev_asPrs (A6 AD))) (DN (A6 AD)))) hm xt.gh fun v30 G31 H32 x33 r34=>q v30 G31 H32 (xt.trans x33) r34
theorem Kv (F:DIn K mg "is_machine" Fb)(T:Txt mg)(BX:D3 P w K mg base)(GU:JR P w K mg base)(F4:HL P w K mg base)(Hm:Jz P w K mg base):Fh P w K mg base:=by
 refine F.okM1 (m:=Av) Ej fun _ _ _ _ _ H0 _ _ hr G0 AZ res Az xt AD hm q=>?_;unfold Av at hm
 refine ⟨_,(A3 (Ax (PW.pt (E8 (Cz (BI K (Ai (Bl (K:=K) rfl) (by rfl) T.isinstance_ AU (A2 (pv 0) (A2 (Ci (v:=.ty "tuple") rfl T.tuple_ Kk rfl) A5))))) (Dm (AJ Ls (BM K T.len_ (pv 0)) A8 (AT _))))) (A3 (AN De)
   A4) A4)
   (A3 (AO (i:=1) Ej (Au K (pv 0) A8))
   (A3 (AO (i:=2) Ej (Au K (pv 0) A8))
   (A3 (Ax (PW.pt (E8 (Cz (BI K (AY F4 hr (by decide) rfl (A2 (pv 1) A5)))) (Dm (Cz (BI K (AY Hm hr (by decide) rfl (A2 (pv 2) (A2 (BM K T.len_ (pv 1)) A5)))))))) (A3 (AN De)
   A4) A4)
   (A3 (AN (Hq (AY BX hr (by decide) rfl (A2 (Au K (pv 0) A8) (A2 (BM K T.len_ (pv 1)) A5))) (JJ (AY GU hr (by decide) rfl (A2 (Au K (pv 0) A8) (A2 (BM K T.len_ (pv 2)) A5))))))
   A4))))),?_⟩
 clear 2 b4 h5;refine B1 (EC (Cw (GA (K:=K) (Cd (by decide) (A6 AD)))) (AI (K:=K) (ev_neI (DN (A6 AD)) Ag))) h5 xt.gh fun G6 H7 x8=>?_;clear 1 x8 AD
 cases b4 with
 | true =>
  clear 3;exact AR (K:=K) (rest:=CZ) (σ:=[some Az,none,none]) Gv hm xt.gh fun v9 G10 H11 x12 r13=>q v9 G10 H11 (xt.trans x12) r13
 | false =>
  clear 4;clear 2 lit_ h21;refine Ab (K:=K) (Iq (A6 AD) Ag) h21 xt.gh fun v16 G17 H18 x19 r20=>?_;clear 1 x19 AD;clear 2 Lc h29;refine Ab (K:=K) (Iq (A6 AD) Ag) h29 xt.gh fun v24 G25 H26 x27 r28=>?_;clear 1 x27 AD r20;clear 2 b37 h38;refine B1 (EC (Cw (GA (K:=K) (BN (m:=Fz) (A6 r20)))) (Cw (GA (K:=K) (Ap (m:=JM) (A6 r28) (DN (A6 r20)))))) h38 xt.gh fun G39 H40 x41=>?_;clear 1 x41 AD r20 r28
  cases b37 with
  | true =>
   clear 3;exact AR (K:=K) (rest:=CZ) (σ:=[some Az,some v16,some v24]) Gv hm xt.gh fun v42 G43 H44 x45 r46=>q v42 G43 H44 (xt.trans x45) r46
  | false =>
   clear 4;exact AR (K:=K) (GV (Ap (m:=Co) (Iq (A6 AD) Ag) (DN (A6 r20))) (Ap (m:=IL) (Iq (A6 AD) Ag) (DN (A6 r28)))) hm xt.gh fun v58 G59 H60 x61 r62=>q v58 G59 H60 (xt.trans x61) r62
seal eval in
theorem K1 (F:DIn K mg "_law_read_of" Ep)(T:Txt mg)(Fe:Ib P w K mg base)(Cj:Fh P w K mg base):HS P w K mg base:=by
 refine F.okM1 (m:=BD) BB fun _ _ _ _ _ H0 _ _ hr G0 text_ res EZ xt AL hm q=>?_;unfold BD at hm
 refine ⟨_,(A3 (AO (i:=1) BB (Ix (A2 (BU A5) (A2 (BU A5) (A2 (BU A5) (A2 (BU A5) A5))))))
   (A3 (AO (i:=2) BB A8)
   (A3 (DV PassesOwn.never rfl (B6 (K:=K) rfl (CC (K:=K) rfl PySem.F.plainAttrs_str PySem.F.slot_str_split PySem.F.type_str_split GD (pv 0) (A2 AK A5))) (CB (i:=3) BB) (A3 (AO (i:=4) BB (CC (K:=K) rfl PySem.F.plainAttrs_str PySem.F.slot_str_split PySem.F.type_str_split GD (pv 3) (A2 AK A5)))
   (A3 (AO (i:=5) BB (pe_un un_neg A8))
   (A3 (DV PassesOwn.never rfl (DA rfl T.range_ (A2 A8 A5)) (CB (i:=6) BB) (A3 (Ax (AJ BQ (Au K (pv 4) A8) (Au K (BU (A2 AK (A2 AK (A2 AK (A2 AK A5))))) (pv 6)) (AT _)) (A3 (AO (i:=5) BB (pv 6))
   A4) A4)
   A4))
   (A3 (Ax (AJ Km (pv 5) (pv 2) (AT _)) (A3 (AN D0)
   A4) A4)
   (A3 (AO (i:=2) BB (pv 5))
   (A3 (AO (i:=7) BB (AY Fe hr (by decide) rfl (A2 (pv 4) (A2 (pv 5) A5))))
   (A3 (Ax (AJ op_isN (pv 7) D0 (AT _)) (A3 (AN D0)
   A4) A4)
   (A3 (Bx (Bk K (Au K (pv 1) (pv 5)) (pv 7)))
   A4)))))))))
   (A3 (AN (FL (BI K (AY Cj hr (by decide) rfl (A2 (pv 1) A5))) (pv 1) D0))
   A4)))),?_⟩
 clear 2 machine_here_ h8;cases h8;refine Oo (K:=K) (α:=D) (β:=D) (γ:=D) (δ:=D) xt.gh fun vq p0 p1 p2 p3 G3 H4 x5 z0 z1 z2 z3 o7=>?_;have z0:=xt.hh.free z0;have z1:=xt.hh.free z1;have z2:=xt.hh.free z2;have z3:=xt.hh.free z3;have zz:∀ b∈[p0,p1,p2,p3],H0 b=none:=fun b hb=>by simp only [qmA,qyB,or_false] at hb;rcases hb with e|e|e|e<;>(rw [e];assumption)
 clear 1 x5 AL;clear 2 FN h14;refine Ab (K:=K) Ag h14 xt.gh fun v9 G10 H11 x12 r13=>?_;clear 1 x12 AL 2 o7;clear 2 as17 h18 fl19 h20;refine Dn (K:=K) (RR:=fun r v G' H'=>Ext G0 H0 G' H'/\Rp.rel K G' v r) (Bu (FV.ev (GF (A6 AL) B5))) h18 h20 xt.gh fun G21 H22 x23=>⟨fun s24 S' G' H'=>∃ (v25:V) (v26:Option V) (v27:Option V) (v28:Option V) (v29:Option V) (v30:Option V),Ext G0 H0 G' H'/\Same G21 G'/\S'=[some EZ,some vq,some v25,v26,v27,v28,v29,v30]/\OwnQ K G' H' vq p0 p1 p2 p3 s24.1/\Rp.rel K G' v25 (s24.2:Int),?_,?_,?_,?_,?_⟩
 ·clear 1 x23 r13 2 o7;exact ⟨v9,_,_,_,_,_,xt,(Same.refl _),rfl,o7,r13⟩
 ·rintro _ S' G' H' ⟨v25,v26,v27,v28,v29,v30,xt,mk31,rfl,o7,r32⟩;exact ⟨mk31,xt.gh⟩
 ·rintro xv33 a34 s24 _ G37 H38 fl35 - ⟨v25,v26,v27,v28,v29,v30,xt,mk31,rfl,o7,r32⟩ rx36 hm D' kN39 kC40 kB41 kR42;refine Cg ?_;clear 2 parts_ h50;refine Ab (K:=K) (FV.ev (GF (A6 rx36) B5)) h50 xt.gh fun v45 G46 H47 x48 r49=>?_;clear 1 x48 r32 2 o7 3 mk31;clear 2 Ed h56;refine Ab (K:=K) (ev_neg Ag) h56 xt.gh fun v51 G52 H53 x54 r55=>?_;clear 1 x54 r32 r49 2 o7 3 mk31;clear 2 as58 h59 fl60 h61;refine Dn (K:=K) (RR:=fun r v G' H'=>Ext G0 H0 G' H'/\Rp.rel K G' v r) (Ec Ag) h59 h61 xt.gh fun G62 H63 x64=>⟨fun s65 S' G' H'=>∃ (v66:V) (v67:Option V),Ext G0 H0 G' H'/\Same G62 G'/\S'=[some EZ,some vq,some v25,some xv33,some v45,some v66,v67,v30]/\Rp.rel K G' v66 (s65:Int)/\OwnQ K G' H' vq p0 p1 p2 p3 s24.1,?_,?_,?_,?_,?_⟩
  ·clear 1 x64 r55 2 o7;exact ⟨v51,_,xt,(Same.refl _),rfl,r55,o7⟩
  ·rintro _ S' G' H' ⟨v66,v67,xt,mk68,rfl,r69,o7⟩;exact ⟨mk68,xt.gh⟩
  ·rintro xv70 a71 s65 _ G74 H75 fl72 - ⟨v66,v67,xt,mk68,rfl,r69,o7⟩ rx73 hm D' kN76 kC77 kB78 kR79;have r49:=Rp.mono (x64.gg.trans mk68) r49;refine Cg ?_;clear 2 b88 h89;refine B1 (AI (K:=K) (DQ (Du (A6 r49) Ag) (Du (FV.ev (C8 (AW B5 (AW B5 (AW B5 (AW B5 (C4 (α:=Str)))))))) (A6 rx73)))) h89 xt.gh fun G90 H91 x92=>?_;clear 1 x92 r69 rx73 2 o7 3 mk68
   cases b88 with
   | true =>
    clear 3;clear 2 Ed h98;refine Ab (K:=K) (A6 rx73) h98 xt.gh fun v93 G94 H95 x96 r97=>?_;clear 1 x96 2 o7 3 mk68;cases hm;exact kN76 _ _ _ _ rfl ⟨v93,_,xt,mk68,rfl,r97,o7⟩
   | false =>
    clear 4;cases hm;exact kN76 _ _ _ _ rfl ⟨v66,_,xt,mk68,rfl,r69,o7⟩
  ·rintro s65 _ G103 H104 rfl ⟨v99,v100,xt,mk101,rfl,r102,o7⟩;refine FK ?_;have mk31:=(mk31.trans x64.gg).trans mk101;have r32:=Rp.mono (x64.gg.trans mk101) r32;have r49:=Rp.mono (x64.gg.trans mk101) r49;clear 2 b105 h106;refine B1 (AI (K:=K) (GI (A6 r102) (A6 r32))) h106 xt.gh fun G107 H108 x109=>?_;clear 1 x109 r49 r102 2 o7 3 mk31
   cases b105 with
   | true =>
    clear 3;clear 2 rr115 h116;cases hm;exact AR (K:=K) (rest:=CZ) (σ:=[some EZ,some vq,some v25,some xv33,some v45,some v99,v100,v30]) (B3 MW) h116 xt.gh fun v110 G111 H112 x113 r114=>kR42 _ v110 G111 H112 rfl ⟨xt.trans x113,r114⟩
   | false =>
    clear 4;clear 2 FN h122;refine Ab (K:=K) (A6 r102) h122 xt.gh fun v117 G118 H119 x120 r121=>?_;clear 1 x120 r49 r102 2 o7 3 mk31;clear 2 Lb h130;refine Ab (K:=K) (Ap (m:=HK) (A6 r49) (A6 r102)) h130 xt.gh fun v125 G126 H127 x128 r129=>?_;clear 1 x128 r121 r102 2 o7 3 mk31;clear 2 b131 h132;refine B1 (AI (K:=K) (Ox (A6 r129))) h132 xt.gh fun G133 H134 x135=>?_;clear 1 x135 r121 r102 r129 2 o7 3 mk31
    cases b131 with
    | true =>
     clear 3;clear 2 rr141 h142;cases hm;exact AR (K:=K) (rest:=CZ) (σ:=[some EZ,some vq,some v117,some xv33,some v45,some v99,v100,some v125]) (B3 MW) h142 xt.gh fun v136 G137 H138 x139 r140=>kR42 _ v136 G137 H138 rfl ⟨xt.trans x139,r140⟩
    | false =>
     clear 4;clear 2 a143 h144 z151 h145;refine sq_appI (K:=K) (k:=5) rfl o7 rfl r102 (A6 r129) h144 h145 xt.gh fun G146 H147 H9z pz mz x149 gz ez o150=>?_;have xt:=(xt.trans x149).alt (zz _ mz) gz ez;clear 0 x149 r121 3 mk31;cases hm;exact kN39 _ _ _ _ rfl ⟨v117,_,_,_,_,_,xt,mk31,rfl,o150,r121⟩
  ·clear 6 kR42
 ·rintro s24 _ G160 H161 rfl ⟨v152,v153,v154,v155,v156,v157,xt,mk158,rfl,o7,r159⟩;refine FK ?_;obtain ⟨G9z,sf,xt,r164,_⟩:=o7.tell xt z0 z1 z2 z3;exact AR (K:=K) (JC (GA (K:=K) (BN (m:=Eu) (B3 (A6 r164)))) (B3 (A6 r164)) (B3 MW)) hm xt.gh fun v167 G168 H169 x170 r171=>q v167 G168 H169 (xt.trans x170) r171
 ·clear 5
theorem Kz (F:DIn K mg "show_round" FS)(T:Txt mg):IZ P w K mg base:=by
 refine F.okM2 (m:=DP) Ku fun _ _ _ _ _ H0 _ _ hr G0 II Hs res v_stem_ v_ring_ xt MN MO hm q=>?_;unfold DP at hm
 refine ⟨_,(A3 (AN (CC (K:=K) rfl PySem.F.plainAttrs_str PySem.F.slot_str_join PySem.F.type_str_join (Cp (K:=K) rfl) AK (A2 (AG K (AG K (pv 0) (BU (A2 AK A5))) (pv 1)) A5)))
   A4),?_⟩
 exact AR (K:=K) (Dc B5 (FV.ev (D4 (FV.ev (D4 (A6 MN) (FV.ev (C8 (AW B5 (C4 (α:=Str))))))) (A6 MO)))) hm xt.gh fun v7 G8 H9 x10 r11=>q v7 G8 H9 (xt.trans x10) r11
theorem Je (F:DIn K mg "show_numbers" EJ)(T:Txt mg):ER P w K mg base:=by
 refine F.okM1 (m:=Ac) Jf fun _ _ _ _ _ H0 _ _ hr G0 numbers_ res v_numbers_ xt Of hm q=>?_;unfold Ac at hm
 refine ⟨_,(A3 (AN (CU (cn:=[]) (cap:=[]) rfl ⟨by decide +kernel,rfl,by decide +kernel,BV rfl⟩ rfl (by decide +kernel) trivial (B6 (K:=K) rfl (pv 0)) (fun C s0 H0 fp=>⟨Bb,(Bi D7 (by rfl) T.str_ Dr (A2 (pv 0) A5))⟩)))
   A4),?_⟩
 exact AR (K:=K) (FV.ev (CD (cap:=[]) (fe:=fun (BF:D)=>(((some BF).bind fun t6=>Im t6).bind fun t7=>Cq t7)) (JA (A6 Of)) fun xc5 BF Gc2 sc3 rc4=>(ET (Ll (A6 rc4))))) hm xt.gh fun v9 G10 H11 x12 r13=>q v9 G10 H11 (xt.trans x12) r13
theorem Ms (F:DIn K mg "show_walk" GH)(T:Txt mg)(Fm:IZ P w K mg base)(Bd:ER P w K mg base):JS P w K mg base:=by
 refine F.okM2 (m:=D9) MY fun _ _ _ _ _ H0 _ _ hr G0 II Hs res v_stem_ v_ring_ xt MN MO hm q=>?_;unfold D9 at hm
 refine ⟨_,(A3 (AN (AY Fm hr (by decide) rfl (A2 (AY Bd hr (by decide) rfl (A2 (pv 0) A5)) (A2 (AY Bd hr (by decide) rfl (A2 (pv 1) A5)) A5))))
   A4),?_⟩
 exact AR (K:=K) (Ap (m:=HD) (BN (m:=CM) (B3 (A6 MN))) (BN (m:=CM) (B3 (A6 MO)))) hm xt.gh fun v5 G6 H7 x8 r9=>q v5 G6 H7 (xt.trans x8) r9
theorem Kj (F:DIn K mg "_law_walk_so" F7)(T:Txt mg)(GY:JS P w K mg base)(Ah:FR P w K mg base):HE P w K mg base:=by
 refine F.okM1 (m:=Bq) Cf fun _ _ _ _ _ H0 _ _ hr G0 script_ res Bg xt A7 hm q=>?_;unfold Bq at hm
 refine ⟨_,(A3 (D1 (i:=1) (Fy Cf) rfl (Or.inl rfl) (cn:=["_law_script"]) (cap:=[0]) rfl ⟨by decide +kernel,rfl,by decide +kernel,BV rfl⟩ rfl (by decide +kernel) ⟨⟨rfl,.inl rfl,rfl⟩,trivial⟩ (DA rfl T.range_ (A2 (An B4 (AY Ah hr (by decide) rfl (A2 (pv 0) (A2 A8 A5))) A8) A5)) (fun C s0 H0 fp=>⟨Bb,(An B4 (AY Ah hr (by decide) rfl (A2 (pv 1) (A2 (AG K A8 (pv 0)) A5))) A8)⟩))
   (A3 (D1 (i:=2) (Fy Cf) rfl (Or.inl rfl) (cn:=["_law_script"]) (cap:=[0]) rfl ⟨by decide +kernel,rfl,by decide +kernel,BV rfl⟩ rfl (by decide +kernel) ⟨⟨rfl,.inl rfl,rfl⟩,trivial⟩ (DA rfl T.range_ (A2 (AG K A8 (An B4 (AY Ah hr (by decide) rfl (A2 (pv 0) (A2 A8 A5))) A8)) A5)) (fun C s0 H0 fp=>⟨Bb,(An B4 (An CY (AY Ah hr (by decide) rfl (A2 (pv 1) (A2 (AG K A8 (pv 0)) A5))) A8) A8)⟩))
   (A3 (D1 (i:=3) (Fy Cf) rfl (Or.inl rfl) (cn:=[]) (cap:=[]) rfl ⟨by decide +kernel,rfl,by decide +kernel,BV rfl⟩ rfl (by decide +kernel) trivial (B6 (K:=K) rfl (pv 1)) (fun C s0 H0 fp=>⟨Bb,(Bi D7 (by rfl) T.str_ Dr (A2 (pv 0) A5))⟩))
   (A3 (Bx (Bk K (pv 3) AK))
   (A3 (AO (i:=4) Cf (AY GY hr (by decide) rfl (A2 (Bi (KM (K:=K) rfl) (by rfl) T.list_ Gp (A2 (pv 1) A5)) (A2 (Bi (KM (K:=K) rfl) (by rfl) T.list_ Gp (A2 (pv 2) A5)) A5))))
   (A3 (AN (Hq (Ai (Bl (K:=K) rfl) (by rfl) T.isinstance_ AU (A2 (pv 4) (A2 (Ci (v:=.ty "str") rfl T.str_ Dr rfl) A5))) (JJ (Gh BQ (pv 4) (CC (K:=K) rfl PySem.F.plainAttrs_str PySem.F.slot_str_join PySem.F.type_str_join (Cp (K:=K) rfl) AK (A2 (AG K (pv 3) (CU (cn:=[]) (cap:=[]) rfl ⟨by decide +kernel,rfl,by decide +kernel,BV rfl⟩ rfl (by decide +kernel) trivial (B6 (K:=K) rfl (pv 2)) (fun C s0 H0 fp=>⟨Bb,(Bi D7 (by rfl) T.str_ Dr (A2 (pv 0) A5))⟩))) A5)) (AT _)))))
   A4)))))),?_⟩
 clear 2 II h18;refine Ab (K:=K) (FV.ev (CD (cap:=[0]) (fe:=fun (k_:Int)=>(((some script_).bind fun t9=>(some ((44:Int)+k_)).bind fun t10=>AX t9 t10).bind fun t11=>(some (t11 % (8:Int))))) (Ec (B7 (Ap (m:=Ak) (A6 A7) Ag))) fun xc8 k_ Gc5 sc6 rc7=>(B7 (Ap (m:=Ak) (A6 (Rp.mono sc6 A7)) (BS Ag (A6 rc7)))))) h18 xt.gh fun v13 G14 H15 x16 r17=>?_;clear 1 x16 A7;clear 2 Hs h38;refine Ab (K:=K) (FV.ev (CD (cap:=[0]) (fe:=fun (k_:Int)=>((((some script_).bind fun t28=>(some ((44:Int)+k_)).bind fun t29=>AX t28 t29).bind fun t30=>(some (t30 / (8:Int)))).bind fun t31=>(some (t31 % (8:Int))))) (Ec (BS Ag (B7 (Ap (m:=Ak) (A6 A7) Ag)))) fun xc27 k_ Gc24 sc25 rc26=>(B7 (CV (Ap (m:=Ak) (A6 (Rp.mono sc25 A7)) (BS Ag (A6 rc26))))))) h38 xt.gh fun v33 G34 H35 x36 r37=>?_;clear 1 x36 r17;clear 2 parts_ h52;refine Js (K:=K) (CD (cap:=[]) (fe:=fun (DS:Int)=>((some DS).bind fun t43=>Cq t43)) (Bu (A6 r17)) fun xc42 DS Gc39 sc40 rc41=>(ET (A6 rc41))) h52 xt.gh fun p45 vs46 G47 H48 x49 hz50 o51=>?_;clear 1 x49 r17 r37 4 hz50;clear 2 a53 h54 z61 h55;refine DT (K:=K) rfl o51 B5 h54 h55 xt.gh fun G56 H57 w58 x59 o60=>?_;have xt:Ext G0 H0 G56 (upd H57 p45 (.lst (vs46++[w58]))):=(xt.trans x59).put hz50 o60.g;clear 0 x59 r17 r37;clear 2 found_ h69;refine Ab (K:=K) (Ap (m:=Hw) (FV.ev (Ow (A6 r17))) (FV.ev (Ow (A6 r37)))) h69 xt.gh fun v64 G65 H66 x67 r68=>?_;clear 1 x67 r37 2 o60;have sf:=Same.new (o:=.lst (vs46++[w58])) o60.g;have xt:=xt.frz hz50 o60.g o60.h;have r92:=o60.tell;clear 9 sf r37 r68;exact AR (K:=K) (GV (ev_inst (b:=true) (by decide +kernel) (A6 r68)) (DQ (A6 r68) (Dc B5 (FV.ev (D4 (A6 r92) (FV.ev (CD (cap:=[]) (fe:=fun (DS:Int)=>((some DS).bind fun t107=>Cq t107)) (Bu (A6 r37)) fun xc106 DS Gc103 sc104 rc105=>(ET (A6 rc105))))))))) hm xt.gh fun v115 G116 H117 x118 r119=>q v115 G116 H117 (xt.trans x118) r119
theorem Fu (F:DIn K mg "refuse_other_kinds" Ca)(T:Txt mg){aT:Addr}(O:OwnCls "NoText" aT bmV "ValueError.__new__" mg base):Dd P w K mg base:=by
 refine F.okE Fv bn1 (fun vs H Q E h=>(Hz h).trans rfl) (fun _ cdv A outer s H0 vs Q E hr h=>?_);obtain ⟨G0,⟨AZ,⟨⟩⟩,res,sg0,⟨Az,_,rfl,AD,rfl⟩,hm,q⟩:=h;replace AD:Rp.rel K G0 Az AZ:=AD;replace hm:DU AZ=some res:=hm;unfold DU at hm;have xt:Ext G0 H0 G0 H0:=Ext.refl sg0
 refine ⟨_,(A3 (Ax (Cz (BI K (Ai (Bl (K:=K) rfl) (by rfl) T.isinstance_ AU (A2 (pv 0) (A2 (Ci (v:=.ty "str") rfl T.str_ Dr rfl) A5))))) (A3 (GG O rfl rfl CL AK)
   A4) A4)
   A4),?_⟩
 clear 2 t1 h1 b1 h2;refine B1 (Cw (GA (K:=K) (Cd (T := "str") (by decide) (A6 AD)))) (show ((some AZ).bind fun d=>some (isK "str" d)).bind (fun b=>some (!b))=some b1 by rw [h1];exact h2) xt.gh fun G3 H4 x5=>?_;clear 1 x5
 cases b1 with
 | true =>
  clear 3;cases hm;exact q aT G3 H4 O.bound xt
 | false =>
  clear 4;cases hm;exact q _ _ _ xt rfl
theorem KC (F:DIn K mg "read_moment" Ew)(T:Txt mg){aT:Addr}(O:OwnCls "NoText" aT bmV "ValueError.__new__" mg base)(DC:GJ P w K mg base):HC P w K mg base:=by
 refine F.okE KW bn1 (fun vs H Q E h=>(Hz h).trans rfl) (fun _ cdv A outer s H0 vs Q E hr h=>?_);obtain ⟨G0,⟨word_,⟨⟩⟩,res,sg0,⟨Gj,_,rfl,BK,rfl⟩,hm,q⟩:=h;replace BK:Rp.rel K G0 Gj word_:=BK;replace hm:BE word_=some res:=hm;unfold BE at hm;have xt:Ext G0 H0 G0 H0:=Ext.refl sg0
 refine ⟨_,(A3 (Ax (AJ BQ (pv 0) AK (AT _)) (A3 (AN AK)
   A4) A4)
   (A3 (Ax (PW.pt (E8 (AJ BQ (pv 0) AK (AT _)) (Dm (Cz (BI K (AY DC hr (by decide) rfl (A2 (pv 0) A5))))))) (A3 (GG O rfl rfl CL AK)
   A4) A4)
   (A3 (AN (pv 0))
   A4))),?_⟩
 clear 2 b1 h2;refine B1 (AI (K:=K) (DQ (A6 BK) B5)) h2 xt.gh fun G3 H4 x5=>?_;clear 1 x5 BK
 cases b1 with
 | true =>
  clear 3;cases hm;exact AR (K:=K) (rest:=CZ) (σ:=[some Gj]) B5 rfl xt.gh fun v6 G7 H8 x9 r10=>q v6 G7 H8 (xt.trans x9) r10
 | false =>
  clear 4;clear 2 b14 h15;refine B1 (EC (AI (K:=K) (DQ (A6 BK) B5)) (Cw (GA (K:=K) (BN (m:=Ff) (B3 (A6 BK)))))) h15 xt.gh fun G16 H17 x18=>?_;clear 1 x18 BK
  cases b14 with
  | true =>
   clear 3;cases hm;exact q aT G16 H17 O.bound xt
  | false =>
   clear 4;cases hm;exact AR (K:=K) (A6 BK) rfl xt.gh fun v19 G20 H21 x22 r23=>q v19 G20 H21 (xt.trans x22) r23
theorem Jy (F:DIn K mg "read_number" Ey)(T:Txt mg){aT:Addr}(O:OwnCls "NoText" aT bmV "ValueError.__new__" mg base):Er P w K mg base:=by
 refine F.okE K8 bn1 (fun vs H Q E h=>(Hz h).trans rfl) (fun _ cdv A outer s H0 vs Q E hr h=>?_);obtain ⟨G0,⟨word_,⟨⟩⟩,res,sg0,⟨Gj,_,rfl,BK,rfl⟩,hm,q⟩:=h;replace BK:Rp.rel K G0 Gj word_:=BK;replace hm:As word_=some res:=hm;unfold As at hm;have xt:Ext G0 H0 G0 H0:=Ext.refl sg0
 refine ⟨_,(A3 (Ax (PW.pt (E8 (AJ BQ (pv 0) AK (AT _)) (E8 (AJ Iu (BM K T.len_ (pv 0)) (IJ rfl T.MOST_FIGURES) (AT _)) (Dm (Cz (BI K (Ai (FO (K:=K) rfl rfl) (by rfl) T.all_ K9 (A2 (CU (cn:=[]) (cap:=[]) rfl ⟨by decide +kernel,rfl,by decide +kernel,BV rfl⟩ rfl (by decide +kernel) trivial (B6 (K:=K) rfl (pv 0)) (fun C s0 H0 fp=>⟨Bb,(Gh Ld (pv 0) (pe_globS rfl T.FIGURES) rfl)⟩)) A5)))))))) (A3 (GG O rfl rfl CL AK)
   A4) A4)
   (A3 (AN (Bi QX (by rfl) T.int_ bt_int (A2 (pv 0) A5)))
   A4)),?_⟩
 clear 2 b10 h11;refine B1 (EC (AI (K:=K) (DQ (A6 BK) B5)) (EC (AI (K:=K) (GI (Oz (A6 BK)) Ag)) (Cw (GA (K:=K) (KP (FV.ev (CD (cap:=[]) (fe:=fun (JU:Str)=>(some (inS JU ("0123456789" : Str)))) (O9 (A6 BK)) fun xc4 JU Gc1 sc2 rc3=>(ev_inS (A6 rc3) B5)))))))) h11 xt.gh fun G12 H13 x14=>?_;clear 1 x14 BK
 cases b10 with
 | true =>
  clear 3;cases hm;exact q aT G12 H13 O.bound xt
 | false =>
  clear 4;clear 2 x hx;cases hm;exact AR (K:=K) (ev_intW (A6 BK)) hx xt.gh fun v16 G17 H18 x19 r20=>q v16 G17 H18 (xt.trans x19) r20
theorem Jb (F:DIn K mg "read_numbers" E7)(T:Txt mg)(CT:Er P w K mg base):GZ P w K mg base:=by
 refine F.okE Jg bn1 (fun vs H Q E h=>(Hz h).trans rfl) (fun _ cdv A outer s H0 vs Q E hr h=>?_);obtain ⟨G0,⟨word_,⟨⟩⟩,res,sg0,⟨Gj,_,rfl,BK,rfl⟩,hm,q⟩:=h;replace BK:Rp.rel K G0 Gj word_:=BK;replace hm:Aw word_=some res:=hm;unfold Aw at hm;have xt:Ext G0 H0 G0 H0:=Ext.refl sg0
 refine ⟨_,(A3 (AN (pe_compX CL rfl rfl (cn:=[]) (cap:=[]) rfl ⟨by decide +kernel,rfl,by decide +kernel,BV rfl⟩ rfl (by decide +kernel) trivial (B6 (K:=K) rfl (pv 0)) (fun C s0 H0 fp=>⟨Bb,(Ea CT hr (by decide) rfl Q7 (A2 (pv 0) A5))⟩)))
   A4),?_⟩
 exact sx_ret (K:=K) (mg:=mg) (evx_map (cap:=[]) (Bu (A6 BK)) fun xc4 w_ Gc1 sc2 rc3=>Cr (m:=Cv) (A6 rc3)) hm xt.gh q
theorem O5 (F:DIn K mg "lay_row" Io)(T:Txt mg){aT:Addr}(O:OwnCls "NoText" aT bmV "ValueError.__new__" mg base)(En:HC P w K mg base)(DE:GZ P w K mg base)(CT:Er P w K mg base):M5 P w K mg base:=by
 refine F.okE OZ bn2 (fun vs H Q E h=>(spQX_len h).trans rfl) (fun _ cdv A outer s H0 vs Q E hr h=>?_);obtain ⟨G0,Nz,us,p0,p1,p2,p3,machine_,⟨words_,⟨⟩⟩,res,rfl,sg0,o,⟨v_words_,_,rfl,B0,rfl⟩,hm,q⟩:=h;replace B0:Rp.rel K G0 v_words_ words_:=B0;replace hm:B8 machine_ words_=some res:=hm;unfold B8 at hm;have xt:Ext G0 (era H0 [p0,p1,p2,p3]) G0 H0:=Ext.begin sg0
 refine ⟨_,(A3 (Ax (PW.pt (MS (AJ BQ (Au K (pv 1) A8) AK (AT _)) (Jk (AJ BQ (BM K T.len_ (pv 1)) A8 (AT _))))) (A3 (Bx (Bk K (Au K (pv 0) A8) (Ea En hr (by decide) rfl CL (A2 (Au K (pv 1) A8) A5)))) A4)
   (A3 (Ax (AJ BQ (Au K (pv 1) A8) AK (AT _)) (A3 (Bx (Bk K (Au K (pv 0) A8) (Bi (QA (K:=K) rfl) (by rfl) T.tuple_ Kk (A2 (Ea DE hr (by decide) rfl CL (A2 (BW (Bv (K:=K) rfl) (pv 1) (Ba A8) CI) A5)) A5)))) A4)
   (A3 (Ax (PW.pt (MS (AJ BQ (Au K (pv 1) A8) AK (AT _)) (Jk (AJ BQ (BM K T.len_ (pv 1)) A8 (AT _))))) (A3 (Bx (Bk K (Au K (pv 0) A8) (Ea CT hr (by decide) rfl CL (A2 (Au K (pv 1) A8) A5)))) A4)
   (A3 (Ax (AJ BQ (Au K (pv 1) A8) AK (AT _)) (A3 (Bx (Bk K (Au K (pv 0) A8) (Ea DE hr (by decide) rfl CL (A2 (BW (Bv (K:=K) rfl) (pv 1) (Ba A8) CI) A5)))) A4)
   (A3 (GG O rfl rfl CL AK) A4)) A4)) A4)) A4)) A4),?_⟩
 clear 2 b5 h6;refine B1 (Mu (AI (K:=K) (DQ (Du (A6 B0) Ag) B5)) (AI (K:=K) (Bp (He (A6 B0)) Ag))) h6 xt.gh fun G7 H8 x9=>?_;clear 1 x9 B0 2 o
 cases b5 with
 | true =>
  clear 3;rcases Gu hm with ⟨n,hx,rfl⟩ | ⟨x,z,hx,hz,rfl⟩
  ·exact Mj (K:=K) (mg:=mg) (j:=0) rfl o (by simp) (Cr (m:=Dt) (Du (A6 B0) Ag)) hx xt.gh (Raises.pre q xt)
  obtain ⟨l,hl,hz⟩:=qaA.mp hz;cases hz;refine PC (K:=K) rfl o (EVX.ok (mg:=mg) (Cr (m:=Dt) (Du (A6 B0) Ag)) hx) rfl hl xt.gh fun G9 Ha Hb y e o=>?_;obtain ⟨_,oo⟩:=o.o0;exact q _ _ ((xt.trans y).alt (Kr (by simp)) oo.g e) o
 | false =>
  clear 4;clear 2 b5 h6;refine B1 (AI (K:=K) (DQ (Du (A6 B0) Ag) B5)) h6 xt.gh fun G7 H8 x9=>?_;clear 1 x9 B0 2 o
  cases b5 with
  | true =>
   clear 3;rcases Gu hm with ⟨n,hx,rfl⟩ | ⟨x,z,hx,hz,rfl⟩
   ·exact Mj (K:=K) (mg:=mg) (j:=1) rfl o (by simp) (Lu (Cr (m:=CA) (FV.ev (C1 (A6 B0) (BL (K:=K) Ag) Bz)))) hx xt.gh (Raises.pre q xt)
   obtain ⟨l,hl,hz⟩:=qaA.mp hz;cases hz;refine Pd (K:=K) rfl o (EVX.ok (mg:=mg) (Lu (Cr (m:=CA) (FV.ev (C1 (A6 B0) (BL (K:=K) Ag) Bz)))) hx) rfl hl xt.gh fun G9 Ha Hb y e o=>?_;obtain ⟨_,oo⟩:=o.o1;exact q _ _ ((xt.trans y).alt (Kr (by simp)) oo.g e) o
  | false =>
   clear 4;clear 2 b5 h6;refine B1 (Mu (AI (K:=K) (DQ (Du (A6 B0) Ag) B5)) (AI (K:=K) (Bp (He (A6 B0)) Ag))) h6 xt.gh fun G7 H8 x9=>?_;clear 1 x9 B0 2 o
   cases b5 with
   | true =>
    clear 3;rcases Gu hm with ⟨n,hx,rfl⟩ | ⟨x,z,hx,hz,rfl⟩
    ·exact Mj (K:=K) (mg:=mg) (j:=2) rfl o (by simp) (Cr (m:=Cv) (Du (A6 B0) Ag)) hx xt.gh (Raises.pre q xt)
    obtain ⟨l,hl,hz⟩:=qaA.mp hz;cases hz;refine P5 (K:=K) rfl o (EVX.ok (mg:=mg) (Cr (m:=Cv) (Du (A6 B0) Ag)) hx) rfl hl xt.gh fun G9 Ha Hb y e o=>?_;obtain ⟨_,oo⟩:=o.o2;exact q _ _ ((xt.trans y).alt (Kr (by simp)) oo.g e) o
   | false =>
    clear 4;clear 2 b5 h6;refine B1 (AI (K:=K) (DQ (Du (A6 B0) Ag) B5)) h6 xt.gh fun G7 H8 x9=>?_;clear 1 x9 B0 2 o
    cases b5 with
    | true =>
     clear 3;rcases Gu hm with ⟨n,hx,rfl⟩ | ⟨x,z,hx,hz,rfl⟩
     ·exact Mj (K:=K) (mg:=mg) (j:=3) rfl o (by simp) (Cr (m:=CA) (FV.ev (C1 (A6 B0) (BL (K:=K) Ag) Bz))) hx xt.gh (Raises.pre q xt)
     obtain ⟨l,hl,hz⟩:=qaA.mp hz;cases hz;refine P4 (K:=K) rfl o (EVX.ok (mg:=mg) (Cr (m:=CA) (FV.ev (C1 (A6 B0) (BL (K:=K) Ag) Bz))) hx) rfl hl xt.gh fun G9 Ha Hb y e o=>?_;obtain ⟨_,oo⟩:=o.o3;exact q _ _ ((xt.trans y).alt (Kr (by simp)) oo.g e) o
    | false =>
     clear 4;cases hm;exact q aT _ _ O.bound xt
theorem Kt (F:DIn K mg "show_moment" Eo)(T:Txt mg):HF P w K mg base:=by
 refine F.okM1 (m:=C5) Kd fun _ _ _ _ _ H0 _ _ hr G0 Ch res Q2 xt Gs hm q=>?_;unfold C5 at hm
 refine ⟨_,(A3 (Ax (AJ BQ (pv 0) AK (AT _)) (A3 (AN AK)
   A4) A4)
   (A3 (AN (pv 0))
   A4)),?_⟩
 clear 2 b1 h2;refine B1 (AI (K:=K) (DQ (A6 Gs) B5)) h2 xt.gh fun G3 H4 x5=>?_;clear 1 x5 Gs
 cases b1 with
 | true =>
  clear 3;exact AR (K:=K) (rest:=CZ) (σ:=[some Q2]) B5 hm xt.gh fun v6 G7 H8 x9 r10=>q v6 G7 H8 (xt.trans x9) r10
 | false =>
  clear 4;exact AR (K:=K) (A6 Gs) hm xt.gh fun v11 G12 H13 x14 r15=>q v11 G12 H13 (xt.trans x14) r15
theorem JY (F:DIn K mg "show_machine" EI)(T:Txt mg)(F3:HF P w K mg base)(Bd:ER P w K mg base):Ge P w K mg base:=by
 refine F.okM1 (m:=CF) Fs fun _ _ _ _ _ H0 _ _ hr G0 machine_ res Nz xt C3 hm q=>?_;unfold CF at hm
 refine ⟨_,(A3 (D1 (i:=1) (Fy Fs) rfl (Or.inl rfl) (cn:=[]) (cap:=[]) rfl ⟨by decide +kernel,rfl,by decide +kernel,BV rfl⟩ rfl (by decide +kernel) trivial (B6 (K:=K) rfl (Au K (pv 0) A8)) (fun C s0 H0 fp=>⟨Bb,(BU (A2 AK (A2 (AY F3 hr (by decide) rfl (A2 (pv 0) A5)) A5)))⟩))
   (A3 (Bx (CC (K:=K) rfl PySem.F.plainAttrs_list PySem.F.slot_list_extend PySem.F.type_list_extend Ir (pv 1) (A2 (CU (cn:=[]) (cap:=[]) rfl ⟨by decide +kernel,rfl,by decide +kernel,BV rfl⟩ rfl (by decide +kernel) trivial (B6 (K:=K) rfl (Au K (pv 0) A8)) (fun C s0 H0 fp=>⟨Bb,(AG K (BU (A2 AK A5)) (AY Bd hr (by decide) rfl (A2 (pv 0) A5)))⟩)) A5)))
   (A3 (Bx (CC (K:=K) rfl PySem.F.plainAttrs_list PySem.F.slot_list_extend PySem.F.type_list_extend Ir (pv 1) (A2 (CU (cn:=[]) (cap:=[]) rfl ⟨by decide +kernel,rfl,by decide +kernel,BV rfl⟩ rfl (by decide +kernel) trivial (B6 (K:=K) rfl (Au K (pv 0) A8)) (fun C s0 H0 fp=>⟨Bb,(BU (A2 AK (A2 (Bi D7 (by rfl) T.str_ Dr (A2 (pv 0) A5)) A5)))⟩)) A5)))
   (A3 (Bx (CC (K:=K) rfl PySem.F.plainAttrs_list PySem.F.slot_list_extend PySem.F.type_list_extend Ir (pv 1) (A2 (CU (cn:=[]) (cap:=[]) rfl ⟨by decide +kernel,rfl,by decide +kernel,BV rfl⟩ rfl (by decide +kernel) trivial (B6 (K:=K) rfl (Au K (pv 0) A8)) (fun C s0 H0 fp=>⟨Bb,(AG K (BU (A2 AK A5)) (AY Bd hr (by decide) rfl (A2 (pv 0) A5)))⟩)) A5)))
   (A3 (AN (CC (K:=K) rfl PySem.F.plainAttrs_str PySem.F.slot_str_join PySem.F.type_str_join (Cp (K:=K) rfl) AK (A2 (CU (cn:=[]) (cap:=[]) rfl ⟨by decide +kernel,rfl,by decide +kernel,BV rfl⟩ rfl (by decide +kernel) trivial (B6 (K:=K) rfl (pv 1)) (fun C s0 H0 fp=>⟨Bb,(CC (K:=K) rfl PySem.F.plainAttrs_str PySem.F.slot_str_join PySem.F.type_str_join (Cp (K:=K) rfl) AK (A2 (pv 0) A5))⟩)) A5)))
   A4))))),?_⟩
 clear 2 rows_ h16;refine Js (K:=K) (CD (cap:=[]) (fe:=fun (Ch:Str)=>((((some Ch).bind fun t5=>C5 t5).bind fun t6=>(some [t6])).bind fun t7=>(some (("state" : Str)::t7)))) (Bu (ev_p41 (A6 C3))) fun xc4 Ch Gc1 sc2 rc3=>(FV.ev (C8 (AW B5 (AW (BN (m:=Fw) (A6 rc3)) (C4 (α:=Str))))))) h16 xt.gh fun p9 vs10 G11 H12 x13 hz14 o15=>?_;clear 1 x13 C3 4 hz14;clear 2 a33 h34 z41 h35;refine JH (K:=K) rfl o15 (CD (cap:=[]) (fe:=fun (way_:(Tp Int))=>((some [("way" : Str)]).bind fun t30=>((some (ToD.to way_)).bind fun t29=>Ac t29).bind fun t31=>EB t30 t31)) (Bu (ev_p42 (A6 C3))) fun xc28 way_ Gc25 sc26 rc27=>(FV.ev (D4 (FV.ev (C8 (AW B5 (C4 (α:=Str))))) (BN (m:=CM) (B3 (A6 rc27)))))) h34 h35 xt.gh fun G36 H37 w38 x39 o40=>?_;have xt:Ext G0 H0 G36 (upd H37 p9 (.lst (vs10++w38))):=(xt.trans x39).put hz14 o40.g;clear 0 x39 C3;clear 2 a58 h59 z66 h60;refine JH (K:=K) rfl o40 (CD (cap:=[]) (fe:=fun (Me:Int)=>((((some Me).bind fun t54=>Cq t54).bind fun t55=>(some [t55])).bind fun t56=>(some (("from" : Str)::t56)))) (Bu (ev_p43 (A6 C3))) fun xc53 Me Gc50 sc51 rc52=>(FV.ev (C8 (AW B5 (AW (ET (A6 rc52)) (C4 (α:=Str))))))) h59 h60 xt.gh fun G61 H62 w63 x64 o65=>?_;have xt:Ext G0 H0 G61 (upd H62 p9 (.lst ((vs10++w38)++w63))):=(xt.trans x64).put hz14 o65.g;clear 0 x64 C3;clear 2 a83 h84 z91 h85;refine JH (K:=K) rfl o65 (CD (cap:=[]) (fe:=fun (GR:(List Int))=>((some [("mark" : Str)]).bind fun t80=>((some (ToD.to GR)).bind fun t79=>Ac t79).bind fun t81=>EB t80 t81)) (Bu (ev_p44 (A6 C3))) fun xc78 GR Gc75 sc76 rc77=>(FV.ev (D4 (FV.ev (C8 (AW B5 (C4 (α:=Str))))) (BN (m:=CM) (B3 (A6 rc77)))))) h84 h85 xt.gh fun G86 H87 w88 x89 o90=>?_;have xt:Ext G0 H0 G86 (upd H87 p9 (.lst (((vs10++w38)++w63)++w88))):=(xt.trans x89).put hz14 o90.g;have sf:=Same.new (o:=.lst (((vs10++w38)++w63)++w88)) o90.g;have xt:=xt.frz hz14 o90.g o90.h;have r101:=o90.tell;exact AR (K:=K) (Dc B5 (FV.ev (CD (cap:=[]) (fe:=fun (row_:(List Str))=>((some (" " : Str)).bind fun t106=>(some row_).bind fun t107=>D8 t106 t107)) (Bu (A6 r101)) fun xc105 row_ Gc102 sc103 rc104=>(Dc B5 (A6 rc104))))) hm xt.gh fun v111 G112 H113 x114 r115=>q v111 G112 H113 (xt.trans x114) r115
theorem Jc (F:DIn K mg "read_machine" EO)(T:Txt mg){aT:Addr}(O:OwnCls "NoText" aT bmV "ValueError.__new__" mg base)(Cb:Dd P w K mg base)(JI:M5 P w K mg base)(Cj:Fh P w K mg base)(EG:Ge P w K mg base):ED P w K mg base:=by
 refine F.okE Dk bn1 (fun vs H Q E h=>(Hz h).trans rfl) (fun _ cdv A outer s H0 vs Q E hr h=>?_);obtain ⟨G0,⟨text_,⟨⟩⟩,res,sg0,⟨EZ,_,rfl,AL,rfl⟩,hm,q⟩:=h;replace AL:Rp.rel K G0 EZ text_:=AL;replace hm:Aj text_=some res:=hm;unfold Aj at hm;have xt:Ext G0 H0 G0 H0:=Ext.refl sg0
 refine ⟨_,(A3 (Bx (Ea Cb hr (by decide) rfl CL (A2 (pv 0) A5)))
   (A3 (AO (i:=1) Dk (Ix (A2 (BU A5) (A2 (BU A5) (A2 (BU A5) (A2 (BU A5) A5))))))
   (A3 (DV PassesOwn.leaving rfl (B6 (K:=K) rfl (CC (K:=K) rfl PySem.F.plainAttrs_str PySem.F.slot_str_split PySem.F.type_str_split GD (pv 0) (A2 AK A5))) (CB (i:=2) Dk) (A3 (Bx (Ea JI hr (by decide) rfl CL (A2 (pv 1) (A2 (CC (K:=K) rfl PySem.F.plainAttrs_str PySem.F.slot_str_split PySem.F.type_str_split GD (pv 2) (A2 AK A5)) A5))))
   A4))
   (A3 (Ax (PW.pt (E8 (Cz (BI K (AY Cj hr (by decide) rfl (A2 (pv 1) A5)))) (Dm (AJ Ls (AY EG hr (by decide) rfl (A2 (pv 1) A5)) (pv 0) (AT _))))) (A3 (GG O rfl rfl CL AK)
   A4) A4)
   (A3 (AN (pv 1))
   A4))))),?_⟩
 clear 2 r0 h3;refine sx_drop (K:=K) (mg:=mg) (Cr (m:=KQ) (A6 AL)) h3 xt.gh ?_
 cases r0 with
 | error n =>
  cases hm;exact q
 | ok u0 =>
 intro G4 H5 x6;clear 1 x6 AL;refine Oo (K:=K) (α:=Str) (β:=Tp Int) (γ:=Int) (δ:=List Int) xt.gh fun vq p0 p1 p2 p3 G7 H8 x9 z0 z1 z2 z3 o=>?_;clear 1 x9 AL 4 z0 z1 z2 z3;clear 2 as3 h4 fl5 h6;refine sv_forX (K:=K) (RR:=fun r v G' H'=>False) (Bu (FV.ev (GF (DJ (A6 AL)) B5))) h4 h6 xt.gh fun G7 H8 x9=>⟨fun s10 S' G' H'=>∃ (v11:Option V),Ext G0 H0 G' H'/\Same G7 G'/\S'=[some EZ,some vq,v11]/\OwnQ K G' H' vq p0 p1 p2 p3 s10,?_,?_,?_,?_,?_⟩
 ·exact ⟨_,xt.trans x9,Same.refl _,rfl,o.ext x9⟩
 ·rintro _ S' G' H' ⟨v11,xt,mk12,rfl,o⟩;exact ⟨mk12,xt.gh⟩
 ·rintro xv13 a14 s10 _ G17 H18 fl15 - ⟨v11,xt,mk12,rfl,o⟩ rx16 hm1 hres D' kN19 kC20 kB21 kR22;refine Cg ?_;obtain ⟨ca,hc,hm1⟩:=qaA.mp hm1;obtain ⟨rz,hz,hm1⟩:=qaA.mp hm1;have zz:∀ b∈[p0,p1,p2,p3],H0 b=none:=fun b hb=>by simp only [qmA,qyB,or_false] at hb;rcases hb with e|e|e|e<;>(rw [e];assumption)
  refine Q1 (K:=K) (mg:=mg) (m:=Fx) rfl o (av_cons (FV.ev (GF (A6 rx16) B5)) av_nil) hc hz xt.gh ?_
  cases rz with
  | error n =>
   cases hm1;have e:=hres n rfl;subst e;cases hm;exact fun G44 H45 x48 D G2 H2 hD y=>q D G2 H2 hD ((xt.trans x48).past (C:=[p0,p1,p2,p3]) zz y)
  | ok z =>
  cases hm1;intro G1 H1 G2 H2 x y o;have xt:=(xt.trans x).past (C:=[p0,p1,p2,p3]) zz y;have mk12:=mk12.trans (x.gg.trans y.gg);exact kN19 _ _ _ _ rfl ⟨_,xt,mk12,rfl,o⟩
 ·rintro s10 _ G65 H66 rfl ⟨v63,xt,mk64,rfl,o⟩;refine FK ?_;have AL:=Rp.mono (x9.gg.trans mk64) AL;obtain ⟨G',sg',xt',r5,n5⟩:=o.tell xt z0 z1 z2 z3;clear 9 sg' AL;clear 2 b12 h13;refine B1 (EC (Cw (GA (K:=K) (BN (m:=Eu) (B3 (A6 r5))))) (AI (K:=K) (N2 (BN (m:=Fp) (A6 r5)) (DJ (A6 AL))))) h13 xt'.gh fun G14 H15 x16=>?_;have xt:=xt'.trans x16
  cases b12 with
  | true =>
   clear 3;cases hm;exact q aT _ _ O.bound xt
  | false =>
   clear 4;cases hm;exact ⟨_,rfl,q _ _ _ xt (ToD.rel (Rp.mono x16.gg r5))⟩
 ·rintro r v G' H' rfl h;cases h
theorem LF (D_:ED P w K mg base):GO P w K mg base:=D_.to0 fun vs H Q E h=>by
 obtain ⟨G,⟨t,⟨⟩⟩,r,sg,⟨v,_,rfl,rv,rfl⟩,hm,q⟩:=h;clear 2 x hx
 cases x with
 | error n=>cases hm
 | ok b =>
  cases hm;exact ⟨G,(D.str t,()),.ok _,sg,⟨v,_,rfl,ToD.rel (α:=Str) rv,rfl⟩,hx,q⟩
theorem KN (F:DIn K mg "_law_classes" F2)(T:Txt mg){aS aT aR aW aM aE aC aX aN:Addr}(W:XT K mg aS aT aR aW aM aE aC aX aN):HG P w K mg base aT:=by
 refine F.okH EL bn1 (fun vs H Q E h=>by obtain ⟨_,_,rfl,_⟩:=h;rfl) (fun _ cdv A outer s H0 vs Q h=>?_);obtain ⟨G0,v0,rfl,sg0,r0,q⟩:=h;have xt:Ext G0 H0 G0 H0:=Ext.refl sg0
 refine ⟨_,(A3 (MQ (i:=1) (Fy EL) rfl (Or.inl rfl) (BU (A2 (Ai (CG (K:=K) rfl) (by rfl) T.isinstance_ AU (A2 (pv 0) (A2 (Db (v:=.ref aT) rfl W.naT rfl) A5))) (A2 (Ai (CG (K:=K) rfl) (by rfl) T.isinstance_ AU (A2 (pv 0) (A2 (Ci (v:=.ty "ValueError") rfl T.ValueError_ L5 rfl) A5))) (A2 (Ai (CG (K:=K) rfl) (by rfl) T.isinstance_ AU (A2 (pv 0) (A2 (Db (v:=.ref aR) rfl W.naR rfl) A5))) A5)))))
   (A3 (MQ (i:=1) (Fy EL) rfl (Or.inl rfl) (AG K (pv 1) (BU (A2 (Ai (CG (K:=K) rfl) (by rfl) T.isinstance_ AU (A2 (pv 0) (A2 (Db (v:=.ref aW) rfl W.naW rfl) A5))) (A2 (Ai (CG (K:=K) rfl) (by rfl) T.isinstance_ AU (A2 (pv 0) (A2 (Db (v:=.ref aM) rfl W.naM rfl) A5))) (A2 (Ai (CG (K:=K) rfl) (by rfl) T.isinstance_ AU (A2 (pv 0) (A2 (Db (v:=.ref aE) rfl W.naE rfl) A5))) A5))))))
   (A3 (AN (AG K (pv 1) (BU (A2 (Ai (CG (K:=K) rfl) (by rfl) T.isinstance_ AU (A2 (pv 0) (A2 (Db (v:=.ref aC) rfl W.naC rfl) A5))) (A2 (Ai (CG (K:=K) rfl) (by rfl) T.isinstance_ AU (A2 (pv 0) (A2 (Db (v:=.ref aX) rfl W.naX rfl) A5))) (A2 (Ai (CG (K:=K) rfl) (by rfl) T.isinstance_ AU (A2 (pv 0) (A2 (Db (v:=.ref aN) rfl W.naN rfl) A5))) A5)))))) A4))),?_⟩
 refine Ab (K:=K) (FV.ev (C8 (AW (DG W.kit W.kT EW (A6 r0)) (AW (DG W.kit W.kV rel_ty (A6 r0)) (AW (DG W.kit W.kR EW (A6 r0)) (C4 (α:=Bool))))))) rfl xt.gh fun v1 G1 H1 x1 r1=>?_;clear 1 x1 r0;refine Ab (K:=K) (FV.ev (D4 (A6 r1) (FV.ev (C8 (AW (DG W.kit W.kW EW (A6 r0)) (AW (DG W.kit W.kM EW (A6 r0)) (AW (DG W.kit W.kE EW (A6 r0)) (C4 (α:=Bool))))))))) rfl xt.gh fun v2 G2 H2 x2 r2=>?_;clear 1 x2 r0;exact AR (K:=K) (FV.ev (D4 (A6 r2) (FV.ev (C8 (AW (DG W.kit W.kC EW (A6 r0)) (AW (DG W.kit W.kX EW (A6 r0)) (AW (DG W.kit W.kN EW (A6 r0)) (C4 (α:=Bool))))))))) rfl xt.gh fun v3 G3 H3 x3 r3=>q v3 G3 H3 (xt.trans x3) r3
theorem K2 (F:DIn K mg "_law_no_text" Ei)(T:Txt mg){aS aT aR aW aM aE aC aX aN:Addr}(W:XT K mg aS aT aR aW aM aE aC aX aN)(Y_:ED P w K mg base)(Eg:HG P w K mg base aT):HN P w K mg base:=by
 refine F.okM1 (m:=C6) DD fun _ _ _ _ _ H0 _ _ hr G0 AZ res Az xt AD hm q=>?_;unfold C6 at hm
 refine ⟨_,(A3 (AO (i:=1) DD (BU A5))
   (A3 (ps_try (i:=2) rfl rfl rfl W.naS (Fy DD) rfl rfl
    (fun pn xe E L=>A3 (Bx (Ea Y_ hr (by decide) rfl L (A2 (pv 0) A5))) A4)
    (fun pn ea=>A3 (MQ (i:=1) (Fy DD) rfl (Or.inl rfl) (pe_defH Eg ((hr.mono (by decide)).han _) rfl (A2 (pv 2) A5))) A4))
   (A3 (AN (Gh (op_eqK (K:=K) rfl (List Bool) hr (by decide)) (pv 1) (AG K (BU (A2 De (A2 De A5))) (An op_repR (BU (A2 De A5)) A8)) (AT _)))
   A4))),?_⟩
 clear 2 r hr1
 cases r with
 | ok b=>cases hm
 | error n =>
 obtain ⟨rfl,rfl⟩:=B2 hm;refine Ab (K:=K) (FV.ev (C8 (C4 (α:=Bool)))) rfl xt.gh fun v1 G1 H1 x1 r1=>?_;clear 1 x1 AD;refine ⟨Az,rfl,G1,(AZ,()),.error "NoText",xt.gh,⟨Az,_,rfl,AD,rfl⟩,hr1,fun D' G2 H2 hD x2=>?_⟩;obtain rfl:aT=D':=by have:=W.naT.symm.trans hD;cases this;rfl
 refine ⟨W.ex,fun ea hea=>?_⟩;have x3:=x2.trans (Ext.new (o:=Exo ea (.ref aT)) x2.gh hea);clear 1 x3;refine ⟨.ref ea,rfl,_,.ref ea,rfl,x3.gh,⟨ea,rfl,AQ⟩,fun v4 G4 H4 x4 r4=>?_⟩;clear 1 x4;exact AR (K:=K) (σ:=[some Az,some v4,none]) (rest:=CZ) (ev_eq (A6 r4) (FV.ev (D4 (FV.ev (C8 (AW Gv (AW Gv (C4 (α:=Bool)))))) (FV.ev (fv_rep (FV.ev (C8 (AW Gv (C4 (α:=Bool))))) Ag))))) (by decide +kernel) xt.gh fun v10 G11 H12 x13 r14=>q v10 G11 H12 (xt.trans x13) r14
seal eval in
theorem ok_law {f:Addr}{fd:FuncData}(F:Fun K "law" "law" s_law f fd)(T:Txt mg)(F8:HR P w K mg base)(D2:EF P w K mg base)(Em:HJ P w K mg base)(El:HI P w K mg base)(Ez:HS P w K mg base)(F1:HE P w K mg base)(Ah:FR P w K mg base)(Et:HN P w K mg base)(DH:GO P w K mg base):FnOk P w K mg base CX0 7 f fd ["_law_script"] (spM K mm_law):=by
 refine F.ok Fg (fun vs H Q E h=>(MM h).trans rfl) (fun cdv A outer s H0 vs Q E hr h=>?_);obtain ⟨G0,⟨script_,⟨⟩⟩,res,sg0,⟨Bg,_,rfl,A7,rfl⟩,hm,q⟩:=h;replace A7:Rp.rel K G0 Bg script_:=A7;replace hm:Nm script_=some res:=hm;unfold Nm at hm;have xt:Ext G0 H0 G0 H0:=Ext.refl sg0
 refine ⟨_,(A3 (AO (i:=1) Fg (AY F8 hr (by decide) rfl (A2 (pv 0) (A2 (AY Em hr (by decide) rfl (A2 (An B4 (AY Ah hr (by decide) rfl (A2 (pv 0) (A2 A8 A5))) A8) A5)) A5))))
   (A3 (AO (i:=2) Fg (AY D2 hr (by decide) rfl (A2 (pv 1) A5)))
   (A3 (AO (i:=3) Fg (pv 2))
   (A3 (DV PassesOwn.never rfl (DA rfl T.range_ (A2 (An B4 (AY Ah hr (by decide) rfl (A2 (pv 0) (A2 A8 A5))) A8) A5)) (CB (i:=4) Fg) (A3 (AO (i:=3) Fg (AY El hr (by decide) rfl (A2 (pv 3) (A2 (Ai Q5 (by rfl) T.abs_ bt_abs (A2 (AY Ah hr (by decide) rfl (A2 (pv 0) (A2 (AG K A8 (pv 4)) A5))) A5)) A5))))
   A4))
   (A3 (Ax (AJ BQ (An B4 (An CY (AY Ah hr (by decide) rfl (A2 (pv 0) (A2 A8 A5))) A8) A8) A8 (AT _)) (A3 (AO (i:=3) Fg (Au K (BU (A2 D0 (pa_cI (A2 (BU (A2 AK A5)) (A2 (pv 1) (A2 De (A2 pe_dnewK (A2 AK (A2 AK (A2 AK A5)))))))))) (An B4 (AY Ah hr (by decide) rfl (A2 (pv 0) (A2 A8 A5))) A8)))
   A4) A4)
   (A3 (AO (i:=5) Fg D0)
   (A3 (Ax (BI K (Ai (Bl (K:=K) rfl) (by rfl) T.isinstance_ AU (A2 (pv 3) (A2 (Ci (v:=.ty "str") rfl T.str_ Dr rfl) A5)))) (A3 (AO (i:=5) Fg (AY Ez hr (by decide) rfl (A2 (pv 3) A5)))
   A4) A4)
   (A3 (Ax (AJ op_isN (pv 5) D0 (AT _)) (A3 (Ax (Cz (BI K (AY Et hr (by decide) rfl (A2 (pv 3) A5)))) (A3 (AN De)
   A4) A4)
   A4) (A3 (Ax (AJ (op_neS hr) (AY DH hr (by decide) rfl (A2 (pv 3) A5)) (pv 5) (AT _)) (A3 (AN De)
   A4) A4)
   A4))
   (A3 (AN (Hq (Gh (op_eqS hr) (AY DH hr (by decide) rfl (A2 (pv 2) A5)) (pv 1) (AT _)) (JJ (AY F1 hr (by decide) rfl (A2 (pv 0) A5)))))
   A4))))))))),?_⟩
 clear 2 machine_here_ h12;refine Ab (K:=K) (Ap (m:=GM) (A6 A7) (BN (m:=GS) (B7 (Ap (m:=Ak) (A6 A7) Ag)))) h12 xt.gh fun v7 G8 H9 x10 r11=>?_;clear 1 x10 A7;clear 2 text_ h19;refine Ab (K:=K) (BN (m:=Dw) (A6 r11)) h19 xt.gh fun v14 G15 H16 x17 r18=>?_;clear 1 x17 A7 r11;clear 2 Dg h25;refine Ab (K:=K) (B3 (A6 r18)) h25 xt.gh fun v20 G21 H22 x23 r24=>?_;clear 1 x23 A7 r11 r18;clear 2 as30 h31 fl32 h33;refine Dn (K:=K) (RR:=fun r v G' H'=>Ext G0 H0 G' H'/\Rp.rel K G' v r) (Ec (B7 (Ap (m:=Ak) (A6 A7) Ag))) h31 h33 xt.gh fun G34 H35 x36=>⟨fun s37 S' G' H'=>∃ (v38:V) (v39:Option V),Ext G0 H0 G' H'/\Same G34 G'/\S'=[some Bg,some v7,some v14,some v38,v39,none]/\Rp.rel K G' v38 (s37:D),?_,?_,?_,?_,?_⟩
 ·clear 1 x36 r24;exact ⟨v20,_,xt,(Same.refl _),rfl,r24⟩
 ·rintro _ S' G' H' ⟨v38,v39,xt,mk40,rfl,r41⟩;exact ⟨mk40,xt.gh⟩
 ·rintro xv42 a43 s37 _ G46 H47 fl44 - ⟨v38,v39,xt,mk40,rfl,r41⟩ rx45 hm D' kN48 kC49 kB50 kR51;have A7:=Rp.mono (x36.gg.trans mk40) A7;refine Cg ?_;clear 2 Dg h64;refine Ab (K:=K) (B3 (Ap (m:=GX) (DJ (A6 r41)) (ev_abs (Ap (m:=Ak) (A6 A7) (BS Ag (A6 rx45)))))) h64 xt.gh fun v59 G60 H61 x62 r63=>?_;clear 1 x62 3 mk40;cases hm;exact kN48 _ _ _ _ rfl ⟨v59,_,xt,mk40,rfl,r63⟩
 ·rintro s37 _ G69 H70 rfl ⟨v65,v66,xt,mk67,rfl,r68⟩;refine FK ?_;have A7:=Rp.mono (x36.gg.trans mk67) A7;have r11:=Rp.mono (x36.gg.trans mk67) r11;have r18:=Rp.mono (x36.gg.trans mk67) r18;clear 2 b76 h77 s81 h82
  try (with_reducible refine nxt_ ?_;dsimp only)
  refine EY (t:=Jt _ _ _) (fun S100 H99=>∃ (G98:Hp) (v84:V),Ext G0 H0 G98 H99/\Same G69 G98/\S100=[some Bg,some v7,some v14,some v84,v66,none]/\Rp.rel K G98 v84 (s81:D)) (fun nx kn86=>?_) ?_
  ·refine B1 (AI (K:=K) (Bp (B7 (CV (Ap (m:=Ak) (A6 A7) Ag))) Ag)) h77 xt.gh fun G78 H79 x80=>?_;clear 1 x80 A7 r11 r68;have mk83:Same G69 G78:=x80.gg;have hm:=h82
   cases b76 with
   | true =>
    clear 3;clear 2 Dg h97;refine Ab (K:=K) (Du (FV.ev (C8 (AW (B3 MW) (AW (B3 Ag) (AW (B3 (FV.ev (C8 (AW (B3 B5) (C4 (α:=D)))))) (AW (B3 (A6 r11)) (AW (B3 Gv) (AW ev_dnewE (AW (B3 B5) (AW (B3 B5) (AW (B3 B5) (C4 (α:=D))))))))))))) (B7 (Ap (m:=Ak) (A6 A7) Ag))) h97 xt.gh fun v92 G93 H94 x95 r96=>?_;clear 1 x95 3 mk83;cases hm;exact kn86 _ _ ⟨G93,v92,xt,mk83,rfl,r96⟩
   | false =>
    clear 4;cases hm;exact kn86 _ _ ⟨G78,v65,xt,mk83,rfl,r68⟩
  ·rintro _ H99 ⟨G98,v84,xt,mk83,rfl,r85⟩;clear 9 mk83 A7 r11 r18;clear 2 due_ h106;refine Ab (K:=K) (B3 MW) h106 xt.gh fun v101 G102 H103 x104 r105=>?_;clear 1 x104 A7 r11 r18 r85;clear 2 b107 h108 s112 h113
   try (with_reducible refine nxt_ ?_;dsimp only)
   refine EY (t:=Jt _ _ _) (fun S128 H127=>∃ (G126:Hp) (v115:V),Ext G0 H0 G126 H127/\Same G102 G126/\S128=[some Bg,some v7,some v14,some v84,v66,some v115]/\Rp.rel K G126 v115 (s112:D)) (fun nx kn117=>?_) ?_
   ·refine B1 (GA (K:=K) (Cd (by decide) (A6 r85))) h108 xt.gh fun G109 H110 x111=>?_;clear 1 x111 r85 r105;have mk114:Same G102 G109:=x111.gg;have hm:=h113
    cases b107 with
    | true =>
     clear 3;clear 2 due_ h125;refine Ab (K:=K) (BN (m:=Gc) (DJ (A6 r85))) h125 xt.gh fun v120 G121 H122 x123 r124=>?_;clear 1 x123 3 mk114;cases hm;exact kn117 _ _ ⟨G121,v120,xt,mk114,rfl,r124⟩
    | false =>
     clear 4;cases hm;exact kn117 _ _ ⟨G109,v101,xt,mk114,rfl,r105⟩
   ·rintro _ H127 ⟨G126,v115,xt,mk114,rfl,r116⟩;clear 9 mk114 A7 r11 r18 r85;clear 2 b129 h130;refine B1 (AI (K:=K) (Ox (A6 r116))) h130 xt.gh fun G131 H132 x133=>?_;clear 1 x133 A7 r11 r18 r85 r116
    cases b129 with
    | true =>
     clear 3;clear 2 b136 h137;refine B1 (Cw (GA (K:=K) (BN (m:=Gb) (A6 r85)))) h137 xt.gh fun G138 H139 x140=>?_;clear 1 x140 A7 r11 r18
     cases b136 with
     | true =>
      clear 3;exact AR (K:=K) (rest:=CZ) (σ:=[some Bg,some v7,some v14,some v84,v66,some v115]) Gv hm xt.gh fun v141 G142 H143 x144 r145=>q v141 G142 H143 (xt.trans x144) r145
     | false =>
      clear 4;exact AR (K:=K) (GV (PV (BN (m:=Cs) (A6 r18)) (B3 (A6 r11))) (BN (m:=EN) (A6 A7))) hm xt.gh fun v151 G152 H153 x154 r155=>q v151 G152 H153 (xt.trans x154) r155
    | false =>
     clear 4;clear 2 b160 h161;refine B1 (AI (K:=K) (ev_neDD (BN (m:=Cs) (DJ (A6 r85))) (A6 r116))) h161 xt.gh fun G162 H163 x164=>?_;clear 1 x164 A7 r11 r18
     cases b160 with
     | true =>
      clear 3;exact AR (K:=K) (rest:=CZ) (σ:=[some Bg,some v7,some v14,some v84,v66,some v115]) Gv hm xt.gh fun v165 G166 H167 x168 r169=>q v165 G166 H167 (xt.trans x168) r169
     | false =>
      clear 4;exact AR (K:=K) (GV (PV (BN (m:=Cs) (A6 r18)) (B3 (A6 r11))) (BN (m:=EN) (A6 A7))) hm xt.gh fun v175 G176 H177 x178 r179=>q v175 G176 H177 (xt.trans x178) r179
 ·clear 5
end
def abcN:List Nat:=List.range' 97 26
def one (c:Nat):Str:=⟨#[c]⟩
theorem one_len (c:Nat):(one c).length=1:=rfl
theorem Oq:("abcdefghijklmnopqrstuvwxyz" : Str).cps.toList=abcN:=by decide +kernel
theorem FF (x:Str):EK x=x.cps.toList.map one:=rfl
theorem M2:EK "abcdefghijklmnopqrstuvwxyz" = abcN.map one:=by rw [FF,Oq]
theorem abc_pw:abcN.Pairwise (· < ·):=List.pairwise_lt_range'
def Mom (x:Str):Prop:=x.cps.toList.Sublist abcN
theorem N0 (c:Nat)(x:Str):inS (one c) x=decide (c∈x.cps.toList):=by
 unfold inS one;exact StrLaws.found_one x c
theorem Mom.pw {x:Str}(h:Mom x):x.cps.toList.Pairwise (· < ·):=abc_pw.sublist h
theorem Mom.len {x:Str}(h:Mom x):x.length<=26:=by
 have:=List.Sublist.length_le h;exact this
theorem pw_eq {a b:List Nat}(ha:a.Pairwise (· < ·))(hb:b.Pairwise (· < ·))(h:∀ x,x∈a ↔ x∈b):a=b :=
 List.Perm.eq_of_pairwise (le:=(· < ·)) (fun x y _ _ h1 h2=>absurd h1 (Nat.lt_asymm h2)) ha hb ((List.perm_ext_iff_of_nodup (ha.imp fun h=>qxB h) (hb.imp fun h=>qxB h)).mpr h)
theorem OL (f:Nat->Bool){x:Str}(h:x.cps.toList=abcN.filter f):Mom x:=by
 unfold Mom;rw [h];exact List.filter_sublist
theorem Nj (cs:List Nat)(h:cs.length<=1000):D8 "" (cs.map one)=some (Txt.join "" (cs.map one)):=by
 refine if_pos ?_;have e:("" : Str).length=0:=by decide
 have:((cs.map one).map (·.length)).sum=cs.length:=Nw cs;rw [e,Nat.mul_zero,this];omega
theorem Ou (cs:List Nat):(Txt.join "" (cs.map one)).cps.toList=cs:=O1 cs
theorem leS_one {a b:Nat}(h:a<=b):leS (one a) (one b)=true:=by
 unfold leS one;rw [Bool.not_eq_true',decide_eq_false_iff_not];intro q;have:=(Pi b a).mp q;omega
theorem sortS_eq {ys zs:List Str}(hp:zs.Perm ys)(hz:zs.Pairwise fun a b=>leS a b=true):Kb ys=zs :=
 (List.Perm.eq_of_pairwise (fun a b _ _ h1 h2=>N8 h1 h2) hz (List.pairwise_mergeSort J0 Lx ys) (hp.trans (EA ys).symm)).symm
theorem Kh (cs:List Nat)(p:Str->Bool):(cs.map one).filter p=(cs.filter fun c=>p (one c)).map one:=by rw [List.filter_map];rfl
theorem OJ {n i:Nat}{a:Int}(h:((List.range n).map fun (i:Nat)=>(0:Int)+(i:Int))[i]? = some a):i<n/\a=(i:Int):=by
 have hi:i<n:=by simpa using (quA.mp h).1
 refine ⟨hi,?_⟩;simp [hi] at h;omega
theorem FQ (n:Nat):((List.range n).map fun (i:Nat)=>(0:Int)+(i:Int)).length=n:=by rw [qeA,qiA]
theorem Bw (s:Scr)(k:Int)(h0:0<=k)(h1:k<=100){P:Int->Prop}(hp:∀ n,P n):OK (AX s k) P:=by
 unfold AX;simp only [qmB,AA,Aa];refine AM (fun h=>Lr h0 (of_decide_eq_true h) fun x _=>hp x) fun _=>?_;refine C9 (P:=fun z:Int=>-(2 ^ 64)<z/\z<2 ^ 64) (AM (fun h=>?_) fun _=>A9 (by omega)) fun z hz=>AC (ok_mul (.inl hz) (A9 (hp _)));have h:=of_decide_eq_true h;refine AC (HU h (AC (Lr (qoB _ (by omega)) (qpB _ h) fun x _=>A9 ?_)));have a0:=qoB (x * 48271+k * 7919) (b:=2147483647) (by decide);have a1:=qpB (x * 48271+k * 7919) (b:=2147483647) (by decide);omega
theorem memE_eq (x:Int × Int)(l:List (Int × Int)):memE x l=decide (x∈l):=decide_eq_decide.mpr Iff.rfl
def nm (k:Int):Str:=Str.ofString (toString k)
theorem ten_cps:("0123456789" : Str).cps.toList=List.range' 48 10:=by decide +kernel
def Dgt (c:Nat):Prop:=48<=c/\c<=57
theorem dg_in (c:Nat):inS (one c) "0123456789" = decide (c∈List.range' 48 10):=(N0 c _).trans (by rw [ten_cps])
theorem dg_iff {c:Nat}:c∈List.range' 48 10 ↔ Dgt c:=by
 rw [List.mem_range'_1];unfold Dgt;omega
theorem find_dg:∀ k:Nat,k<10->(Txt.find ("0123456789" : Str) (one (48+k)):Int)=(k:Int):=by decide +kernel
def dv (l:List Nat):Nat:=l.foldl (fun a c=>10 * a+(c - 48)) 0
theorem PD (l:List Nat)(c:Nat):dv (l++[c])=10 * dv l+(c - 48):=by
 unfold dv;rw [List.foldl_append]
 rfl
theorem dc_nat:∀ d:Nat,d<10->(Nat.digitChar d).toNat=48+d:=by decide
theorem nm_one {d:Nat}(h:d<10):(nm (d:Int)).cps.toList=[48+d]:=by
 unfold nm;rw [PySem.W.KIN.signs_num,Nat.toDigits_of_lt_base h,List.map_singleton,dc_nat d h]
theorem nm_snoc {m d:Nat}(hm:0<m)(h:d<10):(nm ((10 * m+d:Nat):Int)).cps.toList=(nm (m:Int)).cps.toList++[48+d]:=by
 unfold nm;rw [PySem.W.KIN.signs_num,PySem.W.KIN.signs_num,<- Nat.toDigits_append_toDigits (by decide) hm h,qzA,Nat.toDigits_of_lt_base h,List.map_singleton,dc_nat d h]
theorem canon:∀ (n:Nat) (l:List Nat),l.length=n->l ≠ []->(∀ c∈l,Dgt c)->l.head?≠some 48->0<dv l/\(nm (dv l:Int)).cps.toList=l
 | 0,l,hn,h0,_,_=>absurd (List.length_eq_zero_iff.mp hn) h0
 | n+1,l,hn,h0,hd,hh=>by
  obtain ⟨r,c,rfl⟩:∃ r c,l=r++[c]:=⟨l.dropLast,l.getLast h0,(List.dropLast_concat_getLast h0).symm⟩;have hc:=hd c (by simp);unfold Dgt at hc;rw [PD]
  cases r with
  | nil =>
   have hc48:c≠48:=fun e=>hh (by rw [e];rfl);have e0:dv []=0:=rfl;rw [e0,Nat.mul_zero,Nat.zero_add];refine ⟨by omega,?_⟩;rw [nm_one (by omega),show 48+(c - 48)=c by omega]
   rfl
  | cons a t =>
   obtain ⟨h1,h2⟩:=canon n (a::t) (by simpa using hn) (fun z=>nomatch z) (fun x hx=>hd x (List.mem_append_left _ hx)) hh;refine ⟨by omega,?_⟩;rw [nm_snoc h1 (by omega),h2,show 48+(c - 48)=c by omega]
theorem J8 {x y:Str}(h:x.cps.toList=y.cps.toList):x=y:=by
 apply Str.ext';exact Array.toList_inj.mp h
theorem OH (w:Str):OK (Ae w) fun r=>∀ n,r=some n->1<=w.length/\w=nm n:=by
 unfold Ae;simp only [qmB,AA,Aa];have e0:("" : Str).cps.toList=[]:=by decide +kernel
 have z0:("0" : Str).cps.toList=[48]:=by decide +kernel
 refine C9 (P:=fun b=>b=false->w.cps.toList ≠ []/\(w.cps.toList.head? = some 48->w = "0")) (AM (fun _=>A9 fun z=>nomatch z) fun h=>?_) fun b hb=>AM (fun _=>A9 fun n z=>nomatch z) fun h=>?_
 ·have hw:w.cps.toList ≠ []:=fun e=>of_decide_eq_false h (J8 (e.trans e0.symm));obtain ⟨c,r,hl⟩:=List.exists_cons_of_ne_nil hw;have ea:atI w.cps.toList (0:Int)=some c:=by rw [hl];exact Ee (j:=0) rfl
  rw [ea,AA];refine AM (fun _=>A9 fun q=>⟨hw,fun _=>?_⟩) fun q=>A9 fun _=>⟨hw,fun z=>?_⟩
  ·simpa using q
  ·rw [hl] at z;have:c=48:=qgB z;exact absurd (J8 (x:=⟨#[c]⟩) (y := "0") (by rw [z0,this])) (of_decide_eq_false q)
 ·obtain ⟨hw,hz⟩:=hb h;rw [FF];refine AC (Ke (fun i (s:Int)=>s=(dv (w.cps.toList.take i):Int)/\∀ c∈w.cps.toList.take i,Dgt c) (fun _=>False) (fun r=>r=none) ⟨rfl,fun c hc=>by simp at hc⟩ (fun i a s ha ⟨hI,hJ⟩=>?_) (fun s ⟨hI,hJ⟩=>A9 fun n hn=>?_) (fun _ h=>h.elim) fun r hr=>A9 fun n hn=>by rw [hr] at hn;cases hn)
  ·rw [qxA] at ha;obtain ⟨c,h1,h2⟩:=qfB.mp ha;subst h2;rw [dg_in];refine AM (fun _=>A9 rfl) fun q=>?_;have q:Dgt c:=dg_iff.mp (by simpa using q);have q':=q;unfold Dgt at q';refine A9 ⟨?_,fun x hx=>?_⟩
   ·have:=find_dg (c - 48) (by omega);rw [show 48+(c - 48)=c by omega] at this;rw [this,hI,List.take_add_one,h1];show _=((dv (w.cps.toList.take i++[c]):Nat):Int);rw [PD];omega
   ·rw [List.take_add_one,h1] at hx;rcases qkA.mp hx with hx|hx
    ·exact hJ x hx
    ·have:x=c:=by simpa using hx
     rw [this];exact q
  ·cases hn;rw [qeA,List.take_of_length_le (qcB _)] at hI hJ;refine ⟨?_,?_⟩
   ·have:=List.length_pos_iff.mpr hw
    rwa [qwB] at this
   subst hI;by_cases h48:w.cps.toList.head? = some 48
   ·have:=hz h48;subst this
    decide +kernel
   ·exact J8 (canon _ _ rfl hw hJ h48).2.symm
def isOkI (r:Option (Except Str Int))(k:Int):Bool:=match r with
 | some (.ok n)=>decide (n=k)
 | _=>false
theorem isOkI_eq {r:Option (Except Str Int)}{k:Int}(h:isOkI r k=true):r=some (.ok k):=by
 unfold isOkI at h;split at h
 ·rw [of_decide_eq_true h]
 ·cases h
theorem La:∀ k:Nat,k<24->Ae (nm (k:Int))=some (some (k:Int))/\isOkI (As (nm (k:Int))) (k:Int)=true/\(¬ 32∈(nm (k:Int)).cps.toList)/\(¬ 59∈(nm (k:Int)).cps.toList)/\(nm (k:Int)).length<=2:=by decide +kernel
theorem Lz (w:Str):(∃ n,As w=some (.ok n))\/As w=some (.error "NoText"):=by
 have key:OK (As w) fun r=>(∃ n,r = .ok n)\/r = .error "NoText" := by
  unfold As;simp only [qmB,AA,Aa]
  have em:Bt (fun (JU:Str)=>(some (inS JU ("0123456789" : Str)))) (EK w)=some (w.cps.toList.map fun c=>decide (c∈List.range' 48 10)):=by
   have:=OK.eq (m:=Bt (fun (JU:Str)=>(some (inS JU ("0123456789" : Str)))) (EK w)) (Es (g:=fun x=>inS x ("0123456789" : Str)) (fun _ _=>rfl) rfl);rw [this,FF,List.map_map]
   congr 1
   refine List.map_congr_left fun c _=>?_;exact dg_in c
  rw [em];refine C9 (P:=fun b=>b=false->w.cps.toList ≠ []/\w.length<=60/\∀ c∈w.cps.toList,Dgt c) (AM (fun _=>A9 fun z=>nomatch z) fun h=>AM (fun _=>A9 fun z=>nomatch z) fun h2=>AC (A9 (A9 fun h3=>⟨fun e=>?_,?_,fun c hc=>?_⟩))) fun b hb=>AM (fun _=>A9 (.inr rfl)) fun h=>?_
  ·have e0:("" : Str).cps.toList=[]:=by decide +kernel
   exact of_decide_eq_false h (J8 (e.trans e0.symm))
  ·have:=of_decide_eq_false h2;omega
  ·have h3:(w.cps.toList.map fun c=>decide (c∈List.range' 48 10)).all id=true:=by simpa using h3
   have:=List.all_eq_true.mp h3 _ (qnA.mpr ⟨c,hc,rfl⟩);exact dg_iff.mp (of_decide_eq_true this)
  ·obtain ⟨h1,h2,h3⟩:=hb h;have e:=PySem.intText_digits (x:=w) (fun c hc=>by have:=h3 c hc;unfold Dgt at this;exact this) h1 (by omega);unfold intW;rw [if_pos (by omega),e];exact AC (A9 (A9 (.inl ⟨_,rfl⟩)))
 obtain ⟨r,h1,h2⟩:=key;rcases h2 with ⟨n,rfl⟩|rfl
 ·exact .inl ⟨n,h1⟩
 ·exact .inr h1
theorem Go (a b:Nat):decide ([a] < [b])=decide (a<b):=decide_eq_decide.mpr (Pi a b)
theorem EX {x:Str}(h:Mom x):BA (.str x)=some true:=by
 refine OK.eq ?_;unfold BA;have e1:isK "str" (.str x)=true:=by simp [isK,dk]
 simp only [qmB,AA,Aa,e1,Bool.not_true,cond_false,Df];have hp:=h.pw
 have hm:∀ c∈x.cps.toList,97<=c/\c<=122:=fun c hc=>by
  have:=(List.Sublist.subset h) hc;unfold abcN at this;have:=List.mem_range'_1.mp this;omega
 have a1:("a" : Str).cps.toList=[97]:=by decide +kernel
 have z1:("z" : Str).cps.toList=[122]:=by decide +kernel
 have e0:("" : Str).cps.toList=[]:=by decide +kernel
 rw [FF];refine AC (Gq (fun i (s:Str)=>(i=0/\s = "")\/∃ c,x.cps.toList[i - 1]? = some c/\s=one c/\0<i) (.inl ⟨rfl,rfl⟩) (fun i a s ha hI=>?_) fun s _=>A9 rfl)
 obtain ⟨c,hc,rfl⟩:∃ c,x.cps.toList[i]? = some c/\a=D.str (one c):=by
  rw [List.map_map,qxA] at ha;obtain ⟨c,h1,h2⟩:=qfB.mp ha;exact ⟨c,h1,h2.symm⟩
 have hcb:=hm c (qtA hc);have oc:(one c).cps.toList=[c]:=rfl
 have hlast:decide (s.cps.toList<(one c).cps.toList)=true:=by
  rcases hI with ⟨_,rfl⟩ | ⟨d,hd,rfl,h0⟩
  ·rw [e0,oc]
   rfl
  ·show decide ([d] < [c])=true;rw [Go,decide_eq_true_iff];obtain ⟨h1,h2⟩:=quA.mp hc;obtain ⟨h3,h4⟩:=quA.mp hd;have:=List.pairwise_iff_getElem.mp hp (i - 1) i h3 h1 (by omega);rw [h2,h4] at this;exact this
 simp only [Dv,AA];rw [hlast,a1,z1,oc,Go,Go,decide_eq_false (by omega),decide_eq_false (by omega)];simp only [Bool.not_true,AA,cond_false];exact A9 ⟨_,rfl,.inr ⟨c,by simpa using hc,rfl,by omega⟩⟩
theorem dp_up {n:Nat}{d:D}(h:Dp n d):Dp (n+1) d:=by
 induction h with
 | non n=>exact .non _
 | bl n b=>exact .bl _ _
 | int n b=>exact .int _ _
 | str n b=>exact .str _ _
 | emp n=>exact .emp _
 | lst h ih=>exact .lst ih
 | tup h ih=>exact .tup ih
def mo (x:Str):Str:=if x = "" then "-" else x
theorem mom_nil:Mom "" := by
 unfold Mom;rw [show ("" : Str).cps.toList=[] from by decide +kernel];exact List.nil_sublist _
instance (x:Str):Decidable (Mom x):=inferInstanceAs (Decidable (List.Sublist _ _))
def Good (l:List Nat)(i:Nat):Prop:=∀ c,l[i]? = some c->97<=c/\c<=122/\∀ d,0<i->l[i - 1]? = some d->d<c
theorem good_mom {x:Str}(h:∀ i,i<x.cps.toList.length->Good x.cps.toList i):Mom x:=by
 generalize hx:x.cps.toList=l at h
 have step:∀ (j i:Nat) (hj:j<l.length) (hi:i<l.length),i<j->l[i]<l[j]:=by
  intro j
  induction j with
  | zero=>intro i hj hi h0;omega
  | succ j ih =>
   intro i hj hi hij;have h1:=(h (j+1) hj l[j+1] (qvA hj)).2.2 l[j] (by omega) (qvA (by omega));by_cases e:i=j
   ·subst e;exact h1
   ·exact Nat.lt_trans (ih i (by omega) hi (by omega)) h1
 have pw:l.Pairwise (· < ·):=List.pairwise_iff_getElem.mpr fun i j hi hj hij=>step j i hj hi hij
 have mem:∀ c∈l,c∈abcN:=fun c hc=>by
  obtain ⟨i,hi,e⟩:=List.getElem_of_mem hc;have:=h i hi c (by rw [qvA hi,e]);unfold abcN;exact List.mem_range'_1.mpr ⟨this.1,by omega⟩
 unfold Mom;rw [hx]
 have:l=abcN.filter (fun c=>decide (c∈l)):=pw_eq pw (abc_pw.sublist List.filter_sublist) fun x=>by
  rw [qoA];exact ⟨fun h=>⟨mem x h,decide_eq_true h⟩,fun h=>of_decide_eq_true h.2⟩
 exact this ▸ List.filter_sublist
theorem Ii (x:Str):BA (.str x)=some (decide (Mom x)):=by
 by_cases hM:Mom x
 ·rw [decide_eq_true hM];exact EX hM
 rw [decide_eq_false hM];refine OK.eq ?_;unfold BA;have e1:isK "str" (.str x)=true:=by simp [isK,dk]
 simp only [qmB,AA,Aa,e1,Bool.not_true,cond_false,Df];have a1:("a" : Str).cps.toList=[97]:=by decide +kernel
 have z1:("z" : Str).cps.toList=[122]:=by decide +kernel
 rw [FF];refine AC (Ke (fun i (s:Str)=>((i=0/\s = "")\/∃ c,x.cps.toList[i - 1]? = some c/\s=one c/\0<i)/\∀ j,j<i->Good x.cps.toList j) (fun _=>False) (fun r=>r=false) ⟨.inl ⟨rfl,rfl⟩,fun j hj=>absurd hj (Nat.not_lt_zero _)⟩ (fun i a s ha ⟨hI,hJ⟩=>?_) (fun s ⟨_,hJ⟩=>?_) (fun _ h=>h.elim) fun r hr=>A9 hr)
 ·obtain ⟨c,hc,rfl⟩:∃ c,x.cps.toList[i]? = some c/\a=D.str (one c):=by
   rw [List.map_map,qxA] at ha;obtain ⟨c,h1,h2⟩:=qfB.mp ha;exact ⟨c,h1,h2.symm⟩
  have oc:(one c).cps.toList=[c]:=rfl;simp only [Dv,AA];rw [a1,z1,oc,Go,Go];refine C9 (P:=fun b=>b=false->97<=c/\c<=122/\decide (s.cps.toList < [c])=true) (AM (fun _=>A9 fun z=>nomatch z) fun h1=>AM (fun _=>A9 fun z=>nomatch z) fun h2=>A9 fun h3=>⟨?_,?_,?_⟩) fun b hb=>AM (fun _=>A9 rfl) fun h=>A9 ⟨.inr ⟨c,by simpa using hc,rfl,by omega⟩,fun j hj=>?_⟩
  ·have:=of_decide_eq_false h1;omega
  ·have:=of_decide_eq_false h2;omega
  ·simpa using h3
  by_cases e:j=i
  ·subst e;obtain ⟨g1,g2,g3⟩:=hb h;intro c' hc';obtain rfl:c=c':=qgB (hc.symm.trans hc');refine ⟨by omega,by omega,fun d h0 hd=>?_⟩;rcases hI with ⟨h1,_⟩ | ⟨d',hd',rfl,_⟩
   ·omega
   ·obtain rfl:d=d':=qgB (hd.symm.trans hd');rw [show (one d).cps.toList=[d] from rfl,Go] at g3;exact of_decide_eq_true g3
  ·exact hJ j (by omega)
 ·refine absurd (good_mom fun i hi=>hJ i ?_) hM
  rwa [qeA,qeA]
theorem mof_any (w:Str):OK (BR w) fun r=>∀ x,r=some x->Mom x/\w=mo x:=by
 unfold BR;simp only [qmB,AA,Aa];refine AM (fun h=>A9 fun x hx=>?_) fun h=>?_
 ·cases hx;exact ⟨mom_nil,by rw [of_decide_eq_true h];decide +kernel⟩
 refine AC (PL (c:=fun l:Str=>inS l w) (g:=id) (fun _ _=>rfl) (fun _ _ _=>rfl) ?_);rw [List.map_id,M2,Kh];simp only [N0];rw [Nj _ (qdB (List.length_filter_le ..) (by decide))];have hm:=OL (fun c=>decide (c∈w.cps.toList)) (Ou (abcN.filter fun c=>decide (c∈w.cps.toList)));generalize (Txt.join "" ((abcN.filter fun c=>decide (c∈w.cps.toList)).map one))=z at hm;refine AC (A9 (AM (fun q=>A9 fun x hx=>?_) fun _=>A9 fun x hx=>nomatch hx));cases hx;rw [qeC] at q;have e:=of_decide_eq_true q.1;refine ⟨hm,?_⟩;rw [e];unfold mo;rw [if_neg fun z0=>by rw [e,z0] at q;simp at q]
theorem mof_mo {x:Str}(h:Mom x):BR (mo x)=some (some x):=by
 refine OK.eq ?_;unfold BR;simp only [qmB,AA,Aa];refine AM (fun q=>A9 ?_) fun q=>?_
 ·have q:=of_decide_eq_true q;unfold mo at q;split at q
  ·rename_i e;rw [e]
  ·have:(45:Nat)∈x.cps.toList:=by rw [q];decide +kernel
   have:=List.mem_range'_1.mp (h.subset this);omega
 have q:=of_decide_eq_false q;have hx:x ≠ "" := fun e=>q (by rw [e];rfl);have em:mo x=x:=if_neg hx;rw [em];refine AC (PL (c:=fun l:Str=>inS l x) (g:=id) (fun _ _=>rfl) (fun _ _ _=>rfl) ?_);rw [List.map_id,M2,Kh];simp only [N0];rw [Nj _ (qdB (List.length_filter_le ..) (by decide))]
 have e:Txt.join "" ((abcN.filter fun c=>decide (c∈x.cps.toList)).map one)=x:=J8 (by
  rw [Ou]
  exact (pw_eq h.pw (abc_pw.sublist List.filter_sublist) fun c=>by
   rw [qoA]
   exact ⟨fun hc=>⟨h.subset hc,decide_eq_true hc⟩,fun hc=>of_decide_eq_true hc.2⟩).symm)
 rw [e];refine AC (A9 (AM (fun _=>A9 rfl) fun z=>?_));simp [hx] at z
theorem QW (w:Str):(∃ x,BE w=some (.ok x))\/BE w=some (.error "NoText"):=by
 have key:OK (BE w) fun r=>(∃ n,r = .ok n)\/r = .error "NoText" := by
  unfold BE;simp only [qmB,AA,Aa];refine AM (fun _=>A9 (.inl ⟨_,rfl⟩)) fun _=>?_;refine C9 (P:=fun _=>True) (AM (fun _=>A9 trivial) fun _=>?_) fun b _=>AM (fun _=>A9 (.inr rfl)) fun _=>A9 (.inl ⟨_,rfl⟩);rw [show (ToD.to w:D) = .str w from rfl,Ii];exact AC (A9 (A9 trivial))
 obtain ⟨r,h1,h2⟩:=key;rcases h2 with ⟨n,rfl⟩|rfl
 ·exact .inl ⟨n,h1⟩
 ·exact .inr h1
theorem rdmom_mo {x:Str}(h:Mom x):BE (mo x)=some (.ok x):=by
 unfold BE mo;simp only [qmB,AA,Aa];by_cases hx:x = ""
 ·rw [if_pos hx];refine OK.eq (AM (fun _=>A9 (by rw [hx])) fun q=>?_);exact absurd q (by decide)
 ·rw [if_neg hx]
  have hd:x≠("-" : Str):=fun e=>by
   have:(45:Nat)∈x.cps.toList:=by rw [e];decide +kernel
   have:=List.mem_range'_1.mp (h.subset this);omega
  refine OK.eq (AM (fun q=>absurd (of_decide_eq_true q) hd) fun _=>?_);refine C9 (P:=fun b=>b=false) (AM (fun q=>absurd (of_decide_eq_true q) hx) fun _=>AC (OK.of (EX h) (A9 rfl))) fun b hb=>AM (fun q=>absurd (hb.symm.trans q) Bool.noConfusion) fun _=>A9 rfl
def HV (c:Int):D->Bool
 | .int i=>decide (0<=i) && decide (i<c)
 | _=>false
theorem FA (d:D)(c:Int):Al d c=some (HV c d):=by
 unfold Al
 cases d with
 | int i =>
  have e1:isK "int" (.int i)=true:=by simp [isK,dk]
  have e2:isK "bool" (.int i)=false:=by simp [isK,dk]
  simp only [AA,e1,e2,Bool.not_false,cond_true];show cond (decide (0<=i)) (some (decide (i<c))) (some false)=some (decide (0<=i) && decide (i<c));cases decide (0<=i)<;>rfl
 | bl b =>
  have e1:isK "int" (.bl b)=true:=by simp [isK,dk]
  have e2:isK "bool" (.bl b)=true:=by simp [isK,dk]
  simp only [AA,e1,e2,Bool.not_true,cond_true,cond_false]
  rfl
 | _ =>
  simp only [AA,isK,dk]
  rfl
def QB (c:Int):D->Bool
 | .tup [a,b]=>HV c a && HV c b
 | _=>false
theorem kT (l:List D):isK "tuple" (.tup l)=true:=by simp [isK,dk]
theorem kL (l:List D):isK "list" (.lst l)=true:=by simp [isK,dk]
theorem way_eq (d:D)(c:Int):EQ d c=some (QB c d):=by
 unfold EQ
 cases d with
 | tup l =>
  simp only [AA,kT,Bool.not_true,cond_false,DO]
  match l with
  | []=>rfl
  | [a]=>rfl
  | [a,b] =>
   show Option.bind (Al a c) (fun t22=>cond t22 (Al b c) (some false))=some (HV c a && HV c b);rw [FA,FA,AA];cases HV c a<;>rfl
  | a::b::e::r =>
   have:decide (((a::b::e::r).length:Int)=2)=false:=decide_eq_false (by simp;omega);rw [this]
   rfl
 | _ =>
  simp only [AA,isK,dk]
  rfl
theorem D6 {α β:Type}{f:α->Option β}{g:α->β}:∀ (l:List α),(∀ x∈l,f x=some (g x))->Bt f l=some (l.map g):=fun l h=>OK.eq (Es (g:=g) h rfl)
theorem Jh {α:Type}{g:α->Bool}{l:List α}(h:∃ x∈l,g x=false):(l.map g).all id=false:=by
 obtain ⟨x,hx,e⟩:=h;rw [Bool.eq_false_iff];intro q;rw [List.all_eq_true] at q;have:=q (g x) (qnA.mpr ⟨x,hx,rfl⟩);rw [e] at this;cases this
theorem IF {α:Type}{g:α->Bool}{l:List α}(h:∀ x∈l,g x=true):(l.map g).all id=true:=by
 rw [List.all_eq_true];intro b hb;obtain ⟨x,hx,rfl⟩:=qnA.mp hb;exact h x hx
theorem once_bad {ds:List D}{c:Int}(h:∃ d∈ds,HV c d=false):AH (.lst ds) c=some false:=by
 unfold AH;simp only [qmB,AA,kL,Bool.not_true,cond_false,Df,FA];rw [D6 (g:=HV c) ds (fun _ _=>rfl)];simp only [AA,Jh h,Bool.not_false,cond_true]
theorem LQ:∀ l:List Int,LR (l.map D.int)=some l
 | []=>rfl
 | a::l=>by
  show (LR (l.map D.int)).map (a::·)=some (a::l);rw [LQ l]
  rfl
theorem Mg {c:Int}{k:Int}(h:0<=k/\k<c):HV c (.int k)=true:=by
 show (decide (0<=k) && decide (k<c))=true;rw [decide_eq_true h.1,decide_eq_true h.2]
 rfl
theorem NY {l:List Int}{c:Int}(h:∀ k∈l,0<=k/\k<c)(hl:l.length<4000):AH (.lst (l.map D.int)) c=some (decide (((Ja l).length:Int)=(l.length:Int))):=by
 unfold AH;simp only [qmB,AA,kL,Bool.not_true,cond_false,Df,FA];rw [D6 (g:=HV c) (l.map D.int) (fun _ _=>rfl)]
 rw [AA,IF (fun d hd=>by
  obtain ⟨k,hk,rfl⟩:=qnA.mp hd
  exact Mg (h k hk))]
 simp only [AA,Bool.not_true,cond_false,OU,Le,DO,qeA];rw [LQ,AA];unfold MG;rw [if_pos hl,AA]
theorem ways_bad {ds:List D}{c:Int}(h:∃ d∈ds,QB c d=false):BO (.lst ds) c=some false:=by
 unfold BO;simp only [qmB,AA,kL,Bool.not_true,cond_false,Df,way_eq,DO]
 cases decide ((24:Int)<(ds.length:Int)) with
 | true=>rfl
 | false =>
  rw [cond_false,D6 (g:=QB c) ds (fun _ _=>rfl)];simp only [AA,Jh h,cond_false]
theorem QR {ds:List D}{c:Int}(h:24<ds.length):BO (.lst ds) c=some false:=by
 unfold BO;simp only [AA,kL,Bool.not_true,cond_false,DO];rw [decide_eq_true (show (24:Int)<(ds.length:Int) by omega)]
 rfl
def toP (p:Int × Int):D:=.tup [.int p.1,.int p.2]
theorem NE:∀ l:List (Int × Int),Oh (l.map toP)=some l
 | []=>rfl
 | a::l=>by
  show (Oh (l.map toP)).map ((a.1,a.2)::·)=some (a::l);rw [NE l]
  rfl
theorem Nr {l:List (Int × Int)}{c:Int}(hc:c<=8)(h:∀ p∈l,(0<=p.1/\p.1<c)/\0<=p.2/\p.2<c)(hl:l.length<=24):BO (.lst (l.map toP)) c=some (decide (((GL [] l).length:Int)=(l.length:Int))):=by
 unfold BO;simp only [qmB,AA,kL,Bool.not_true,cond_false,Df,way_eq,DO,qeA];rw [decide_eq_false (show ¬ (24:Int)<(l.length:Int) by omega),cond_false,D6 (g:=QB c) (l.map toP) (fun _ _=>rfl)]
 rw [AA,IF (fun d hd=>by
  obtain ⟨p,hp,rfl⟩:=qnA.mp hd;show (HV c (.int p.1) && HV c (.int p.2))=true;rw [Mg (h p hp).1,Mg (h p hp).2]
  rfl)]
 simp only [cond_true,asPrs,Le,AA];rw [NE,AA];unfold Ks;rw [if_pos,AA];rw [qeC,List.all_eq_true];refine ⟨fun p hp=>decide_eq_true ?_,decide_eq_true (by omega)⟩;have:=h p hp;exact ⟨this.1.1,by omega,this.2.1,by omega⟩
theorem QZ {ds:List D}{c:Int}(hd:∀ d∈ds,∃ b,AH d c=some b)(h:∃ d∈ds,AH d c=some false):BH (.lst ds) c=some false:=by
 unfold BH;simp only [qmB,AA,kL,Bool.not_true,cond_false,Df,DO]
 cases decide ((3:Int)<(ds.length:Int)) with
 | true=>rfl
 | false =>
  rw [cond_false,D6 (g:=fun d=>AH d c == some true) ds (fun d hx=>by
   obtain ⟨b,e⟩:=hd d hx;rw [e]
   cases b<;>rfl)]
  rw [AA,Jh];obtain ⟨d,hx,e⟩:=h;exact ⟨d,hx,by rw [e];rfl⟩
theorem Jx {ds:List D}{c:Int}(hl:ds.length<=3)(hd:∀ d∈ds,AH d c=some true):BH (.lst ds) c=some true:=by
 unfold BH;simp only [qmB,AA,kL,Bool.not_true,cond_false,Df,DO];rw [decide_eq_false (show ¬ (3:Int)<(ds.length:Int) by omega),cond_false,D6 (g:=fun _=>true) ds hd,AA,IF (fun _ _=>rfl)]
theorem Oc {ds:List D}{c:Int}(h:3<ds.length):BH (.lst ds) c=some false:=by
 unfold BH;simp only [AA,kL,Bool.not_true,cond_false,DO];rw [decide_eq_true (show (3:Int)<(ds.length:Int) by omega)]
 rfl
theorem moms_bad {ds:List D}(hd:∀ d∈ds,∃ b,BA d=some b)(h:∃ d∈ds,BA d=some false):Ao (.lst ds)=some false:=by
 unfold Ao;simp only [qmB,AA,kL,Bool.not_true,cond_false,Df,DO]
 cases decide ((ds.length:Int)=0) with
 | true=>rfl
 | false =>
  rw [cond_false]
  cases decide ((8:Int)<(ds.length:Int)) with
  | true=>rfl
  | false =>
   rw [AA,cond_false,D6 (g:=fun d=>BA d == some true) ds (fun d hx=>by
    obtain ⟨b,e⟩:=hd d hx;rw [e]
    cases b<;>rfl)]
   rw [AA,Jh];obtain ⟨d,hx,e⟩:=h;exact ⟨d,hx,by rw [e];rfl⟩
theorem LS {ds:List D}(h1:1<=ds.length)(h8:ds.length<=8)(hd:∀ d∈ds,BA d=some true):Ao (.lst ds)=some true:=by
 unfold Ao;simp only [qmB,AA,kL,Bool.not_true,cond_false,Df,DO];rw [decide_eq_false (show ¬ (ds.length:Int)=0 by omega),cond_false,decide_eq_false (show ¬ (8:Int)<(ds.length:Int) by omega),AA,cond_false,D6 (g:=fun _=>true) ds hd,AA,IF (fun _ _=>rfl)]
theorem moms_len {ds:List D}(h:ds.length=0\/8<ds.length):Ao (.lst ds)=some false:=by
 unfold Ao;simp only [AA,kL,Bool.not_true,cond_false,DO];rcases h with h|h
 ·rw [h]
  rfl
 ·rw [decide_eq_false (show ¬ (ds.length:Int)=0 by omega),cond_false,decide_eq_true (show (8:Int)<(ds.length:Int) by omega)]
  rfl
theorem mach_4 (a b c d:D):Av (.tup [a,b,c,d])=(Ao a).bind fun x=>cond x ((DO a).bind fun n=>(BO b n).bind fun y=>cond y ((AH c n).bind fun z=>cond z ((DO b).bind fun k=>BH d k) (some false)) (some false)) (some false):=by
 unfold Av;simp only [qmB,AA,kT,Bool.not_true,cond_false];show (Ao a).bind _=_
 cases Ao a with
 | none=>rfl
 | some x =>
  cases x with
  | false=>rfl
  | true =>
   simp only [AA,Bool.not_true,cond_false,cond_true]
   cases h1:DO a with
   | none=>rfl
   | some n =>
    simp only [AA]
    cases BO b n with
    | none=>rfl
    | some y =>
     cases y with
     | false=>rfl
     | true =>
      simp only [AA,Bool.not_true,cond_false,cond_true]
      rfl
abbrev Mac:=T4 (List Str) (List (Int × Int)) (List Int) (List (List Int))
def In (m:Nat)(k:Int):Prop:=0<=k/\k<(m:Int)
structure Gd (M:Mac):Prop where
 a1:1<=M.a.length
 a8:M.a.length<=8
 am:∀ x∈M.a,Mom x
 bn:M.b.Nodup
 b24:M.b.length<=24
 bm:∀ w∈M.b,In M.a.length w.1/\In M.a.length w.2
 cn:M.c.Nodup
 cm:∀ s∈M.c,In M.a.length s
 d3:M.d.length<=3
 dn:∀ m∈M.d,m.Nodup
 dm:∀ m∈M.d,∀ n∈m,In M.b.length n
theorem few {m:Nat}{l:List Int}(nd:l.Nodup)(h:∀ x∈l,In m x):l.length<=m:=by
 have:=FU (m:=(List.range m).map fun (i:Nat)=>(i:Int)) nd fun x hx=>by
  obtain ⟨h1,h2⟩:=h x hx;exact qnA.mpr ⟨x.toNat,qsA.mpr (by omega),by omega⟩
 rwa [qeA,qiA] at this
theorem dp_strs (l:List Str):Dp 1 (.lst (l.map D.str)):=.lst fun d hd=>by
 obtain ⟨x,_,rfl⟩:=qnA.mp hd;exact .str _ _
theorem PK (l:List Int):Dp 1 (.lst (l.map D.int)):=.lst fun d hd=>by
 obtain ⟨x,_,rfl⟩:=qnA.mp hd;exact .int _ _
theorem dp_p (p:Int × Int):Dp 1 (toP p):=.tup fun d hd=>by
 rcases qmA.mp hd with rfl|hd
 ·exact .int _ _
 ·rw [qpA.mp hd];exact .int _ _
theorem dp_prs (l:List (Int × Int)):Dp 2 (.lst (l.map toP)):=.lst fun d hd=>by
 obtain ⟨x,_,rfl⟩:=qnA.mp hd;exact dp_p x
def toL (l:List Int):D:=.lst (l.map D.int)
theorem dp_mks (l:List (List Int)):Dp 2 (.lst (l.map toL)):=.lst fun d hd=>by
 obtain ⟨x,_,rfl⟩:=qnA.mp hd;exact PK x
theorem dp_4 {a b c d:D}{n:Nat}(h1:Dp n a)(h2:Dp n b)(h3:Dp n c)(h4:Dp n d):Dp (n+1) (.tup [a,b,c,d]):=.tup fun x hx=>by
 simp only [qmA,qyB,or_false] at hx;rcases hx with rfl|rfl|rfl|rfl<;>assumption
def toM (M:Mac):D:=.tup [.lst (M.a.map D.str),.lst (M.b.map toP),.lst (M.c.map D.int),.lst (M.d.map toL)]
theorem toM_eq (M:Mac):(ToD.to M:D)=toM M:=rfl
theorem dp_M (M:Mac):Dp 3 (toM M):=dp_4 (dp_up (dp_strs _)) (dp_prs _) (dp_up (PK _)) (dp_mks _)
theorem g_mom {M:Mac}(g:Gd M):Ao (.lst (M.a.map D.str))=some true:=LS (by rw [qeA];exact g.a1) (by rw [qeA];exact g.a8) fun d hd=>by
 obtain ⟨x,hx,rfl⟩:=qnA.mp hd;exact EX (g.am x hx)
theorem ded_len {l:List Int}(nd:l.Nodup):(Ja l).length=l.length:=((List.perm_ext_iff_of_nodup (K4 l) nd).mpr fun x=>mem_dedA).length_eq
theorem nd_lt:∀ (l m:List Int),m.Nodup->(∀ x∈m,x∈l)->¬ l.Nodup->m.length<l.length
 | [],m,_,_,h=>absurd List.nodup_nil h
 | a::t,m,nd,hs,h=>by
  rw [qgA];by_cases ha:a∈t
  ·have:=FU (m:=t) nd fun x hx=>by
    rcases qmA.mp (hs x hx) with rfl|q
    ·exact ha
    ·exact q
   omega
  ·have ht:¬ t.Nodup:=fun q=>h (List.nodup_cons.mpr ⟨ha,q⟩)
   have:=nd_lt t (m.erase a) (nd.erase a) (fun x hx=>by
    have h1:=(List.Nodup.mem_erase_iff nd).mp hx;rcases qmA.mp (hs x h1.2) with q|q
    ·exact absurd q h1.1
    ·exact q) ht
   have:=List.length_erase (a:=a) (l:=m);split at this<;>omega
theorem ded_ne {l:List Int}(nd:¬ l.Nodup):(Ja l).length≠l.length:=qxB (nd_lt l _ (K4 l) (fun x hx=>mem_dedA.mp hx) nd)
theorem Pa:∀ (ps ks:List (Int × Int)),(ks++ps).Nodup->GL ks ps=ks++ps
 | [],ks,_=>by simp [GL]
 | p::ps,ks,h=>by
  have hn:p ∉ ks:=fun hp=>(List.nodup_append.mp h).2.2 p hp p (by simp) rfl;unfold GL;rw [if_neg hn,Pa ps (ks++[p]) (by rw [qaB];exact h),qaB]
  rfl
theorem Ph:∀ (ps ks:List (Int × Int)),ks.Nodup->¬ (ks++ps).Nodup->(GL ks ps).length<ks.length+ps.length
 | [],ks,h1,h2=>absurd h1 (by simpa using h2)
 | p::ps,ks,h1,h2=>by
  unfold GL;by_cases hp:p∈ks
  ·rw [if_pos hp,qgA];have:=MA ps ks;omega
  ·rw [if_neg hp,qgA];have:=Ph ps (ks++[p]) (List.nodup_append.mpr ⟨h1,by simp,fun a ha b hb e=>hp (by rw [qpA.mp hb] at e;rw [<- e];exact ha)⟩) (by rw [qaB];exact h2);rw [qfA,qhA] at this;omega
theorem g_way {M:Mac}(g:Gd M):BO (.lst (M.b.map toP)) (M.a.length:Int)=some true:=by
 have:=g.a8;rw [Nr (by omega) g.bm g.b24,Pa _ _ (by simpa using g.bn)];simp
theorem Li {m:Nat}{l:List Int}(hm:m<=100)(nd:l.Nodup)(h:∀ x∈l,In m x):AH (.lst (l.map D.int)) (m:Int)=some true:=by
 have:=few nd h;rw [NY h (by omega),ded_len nd];simp
theorem g_mks {M:Mac}(g:Gd M):BH (.lst (M.d.map toL)) (M.b.length:Int)=some true:=Jx (by rw [qeA];exact g.d3) fun d hd=>by
 obtain ⟨l,hl,rfl⟩:=qnA.mp hd;have:=g.b24;exact Li (by omega) (g.dn l hl) (g.dm l hl)
theorem NI (l:List Str):DO (.lst (l.map D.str))=some (l.length:Int):=by
 show some ((l.map D.str).length:Int)=_;rw [qeA]
theorem len_prs (l:List (Int × Int)):DO (.lst (l.map toP))=some (l.length:Int):=by
 show some ((l.map toP).length:Int)=_;rw [qeA]
theorem g_mach {M:Mac}(g:Gd M):Av (toM M)=some true:=by
 have:=g.a8;unfold toM;rw [mach_4,g_mom g,AA,cond_true,NI,AA,g_way g,AA,cond_true,Li (by omega) g.cn g.cm,AA,cond_true,len_prs,AA,g_mks g]
def NG (l:List Int):D:=.tup (l.map D.int)
def R4M (a:List Str)(b:List (List Int))(c:List Int)(d:List (List Int)):D:=.tup [.lst (a.map D.str),.lst (b.map NG),.lst (c.map D.int),.lst (d.map toL)]
theorem moms_any (a:List Str):∃ r,Ao (.lst (a.map D.str))=some r/\(r=true->1<=a.length/\a.length<=8/\∀ x∈a,Mom x):=by
 by_cases h0:a.length=0\/8<a.length
 ·exact ⟨false,moms_len (by rw [qeA];exact h0),fun z=>nomatch z⟩
 by_cases hm:∀ x∈a,Mom x
 ·refine ⟨true,LS (by rw [qeA];omega) (by rw [qeA];omega) fun d hd=>?_,fun _=>⟨by omega,by omega,hm⟩⟩;obtain ⟨x,hx,rfl⟩:=qnA.mp hd;exact EX (hm x hx)
 ·refine ⟨false,moms_bad (fun d hd=>?_) ?_,fun z=>nomatch z⟩
  ·obtain ⟨x,hx,rfl⟩:=qnA.mp hd;exact ⟨_,Ii x⟩
  ·have:∃ x∈a,¬ Mom x:=by
    refine Classical.byContradiction fun q=>hm fun x hx=>Classical.byContradiction fun z=>q ⟨x,hx,z⟩
   obtain ⟨x,hx,hn⟩:=this;exact ⟨_,qnA.mpr ⟨x,hx,rfl⟩,by rw [Ii,decide_eq_false hn]⟩
theorem numB_iff {c k:Int}:HV c (.int k)=true ↔ 0<=k/\k<c:=by
 show (decide (0<=k) && decide (k<c))=true ↔ _;rw [qeC,decide_eq_true_iff,decide_eq_true_iff]
theorem Hv {l:List Int}{m:Nat}(hl:l.length<4000):∃ r,AH (.lst (l.map D.int)) (m:Int)=some r/\(r=true->l.Nodup/\∀ x∈l,In m x):=by
 by_cases h:∀ x∈l,In m x
 ·refine ⟨_,NY h hl,fun e=>⟨Classical.byContradiction fun nd=>?_,h⟩⟩;have:=of_decide_eq_true e;have:=ded_ne nd;omega
 ·refine ⟨false,once_bad ?_,fun z=>nomatch z⟩;refine Classical.byContradiction fun q=>h fun x hx=>Classical.byContradiction fun z=>q ⟨.int x,qnA.mpr ⟨x,hx,rfl⟩,?_⟩;rw [Bool.eq_false_iff];exact fun e=>z (numB_iff.mp e)
theorem wayB_iff {c:Int}{l:List Int}(h:QB c (NG l)=true):∃ p q,l=[p,q]/\(0<=p/\p<c)/\0<=q/\q<c:=by
 match l,h with
 | [],h=>cases h
 | [a],h=>cases h
 | [a,b],h =>
  have h:(HV c (.int a) && HV c (.int b))=true:=h;rw [qeC] at h;exact ⟨a,b,rfl,numB_iff.mp h.1,numB_iff.mp h.2⟩
 | a::b::e::r,h=>cases h
theorem ways_any {b:List (List Int)}{m:Nat}(hm:m<=8):∃ r,BO (.lst (b.map NG)) (m:Int)=some r/\(r=true->∃ ps:List (Int × Int),b=ps.map (fun p=>[p.1,p.2])/\ps.Nodup/\ps.length<=24/\∀ p∈ps,In m p.1/\In m p.2):=by
 by_cases h24:24<b.length
 ·exact ⟨false,QR (by rw [qeA];exact h24),fun z=>nomatch z⟩
 by_cases h:∀ l∈b,QB (m:Int) (NG l)=true
 ·obtain ⟨ps,rfl,hp⟩:∃ ps:List (Int × Int),b=ps.map (fun p=>[p.1,p.2])/\∀ p∈ps,In m p.1/\In m p.2:=by
   clear h24
   induction b with
   | nil=>exact ⟨[],rfl,fun p hp=>nomatch hp⟩
   | cons l b ih =>
    obtain ⟨ps,rfl,hp⟩:=ih fun x hx=>h x (qrA _ hx);obtain ⟨p,q,rfl,h1,h2⟩:=wayB_iff (h l qqA);refine ⟨(p,q)::ps,rfl,fun x hx=>?_⟩;rcases qmA.mp hx with rfl|hx
    ·exact ⟨h1,h2⟩
    ·exact hp x hx
  rw [qeA] at h24
  have e:(ps.map (fun p=>[p.1,p.2])).map NG=ps.map toP:=by
   rw [List.map_map]
   rfl
  rw [e];refine ⟨_,Nr (by omega) hp (by omega),fun e=>⟨ps,rfl,Classical.byContradiction fun nd=>?_,by omega,hp⟩⟩;have:=of_decide_eq_true e;have:=Ph ps [] List.nodup_nil (by simpa using nd);rw [List.length_nil] at this;omega
 ·refine ⟨false,ways_bad ?_,fun z=>nomatch z⟩;refine Classical.byContradiction fun q=>h fun l hl=>Classical.byContradiction fun z=>q ⟨NG l,qnA.mpr ⟨l,hl,rfl⟩,?_⟩;rw [Bool.eq_false_iff];exact z
theorem Pq {d:List (List Int)}{m:Nat}(hd:∀ l∈d,l.length<4000):∃ r,BH (.lst (d.map toL)) (m:Int)=some r/\(r=true->d.length<=3/\∀ l∈d,l.Nodup/\∀ x∈l,In m x):=by
 by_cases h3:3<d.length
 ·exact ⟨false,Oc (by rw [qeA];exact h3),fun z=>nomatch z⟩
 by_cases h:∀ l∈d,AH (toL l) (m:Int)=some true
 ·refine ⟨true,Jx (by rw [qeA];omega) fun x hx=>?_,fun _=>⟨by omega,fun l hl=>?_⟩⟩
  ·obtain ⟨l,hl,rfl⟩:=qnA.mp hx;exact h l hl
  ·obtain ⟨r,e,k⟩:=Hv (m:=m) (hd l hl);have:=h l hl;unfold toL at this;rw [e] at this;exact k (qgB this)
 ·refine ⟨false,QZ (fun x hx=>?_) ?_,fun z=>nomatch z⟩
  ·obtain ⟨l,hl,rfl⟩:=qnA.mp hx;obtain ⟨r,e,_⟩:=Hv (m:=m) (hd l hl);exact ⟨r,e⟩
  ·refine Classical.byContradiction fun q=>h fun l hl=>Classical.byContradiction fun z=>q ⟨toL l,qnA.mpr ⟨l,hl,rfl⟩,?_⟩;obtain ⟨r,e,_⟩:=Hv (m:=m) (hd l hl)
   cases r with
   | true=>exact absurd e z
   | false=>exact e
theorem NH (a:List Str)(b:List (List Int))(c:List Int)(d:List (List Int))(hc:c.length<4000)(hd:∀ l∈d,l.length<4000) :
  ∃ r,Av (R4M a b c d)=some r/\(r=true->∃ M:Mac,Gd M/\a=M.a/\b=M.b.map (fun p=>[p.1,p.2])/\c=M.c/\d=M.d):=by
 unfold R4M;rw [mach_4];obtain ⟨r1,e1,k1⟩:=moms_any a;rw [e1,AA]
 cases r1 with
 | false=>exact ⟨false,rfl,fun z=>nomatch z⟩
 | true =>
 obtain ⟨a1,a8,am⟩:=k1 rfl;rw [cond_true,NI,AA];obtain ⟨r2,e2,k2⟩:=ways_any (b:=b) a8;rw [e2,AA]
 cases r2 with
 | false=>exact ⟨false,rfl,fun z=>nomatch z⟩
 | true =>
 obtain ⟨ps,rfl,pn,p24,pm⟩:=k2 rfl;obtain ⟨r3,e3,k3⟩:=Hv (m:=a.length) hc;rw [cond_true,e3,AA]
 cases r3 with
 | false=>exact ⟨false,rfl,fun z=>nomatch z⟩
 | true =>
 obtain ⟨cn,cm⟩:=k3 rfl
 have el:DO (.lst ((ps.map (fun p=>[p.1,p.2])).map NG))=some (ps.length:Int):=by
  show some ((((ps.map (fun p=>[p.1,p.2])).map NG).length:Nat):Int)=_;rw [qeA,qeA]
 obtain ⟨r4,e4,k4⟩:=Pq (m:=ps.length) hd;rw [cond_true,el,AA,e4];refine ⟨r4,rfl,fun h=>?_⟩;obtain ⟨d3,dm⟩:=k4 h;exact ⟨T4.mk a ps c d,⟨a1,a8,am,pn,p24,pm,cn,cm,d3,fun l hl=>(dm l hl).1,fun l hl=>(dm l hl).2⟩,rfl,rfl,rfl,rfl⟩
theorem toM_R4 (M:Mac):R4M M.a (M.b.map fun p=>[p.1,p.2]) M.c M.d=toM M:=by
 unfold R4M toM;rw [List.map_map]
 rfl
open Builtin Builtin.Str in
theorem K7 (x y:Str)(c0:Nat)(r:List Nat)(hy:y.cps.toList=c0::r):∀ (ps:List Str) (a:Nat) (cuts:List Nat) (f:Nat),ps ≠ []->(∀ p∈ps,c0 ∉ p.cps.toList)->x.cps.toList.drop a=(Str.join y ps).cps.toList ->
  StrLaws.ChainG x y x.length a cuts f->(∀ k,f<=k->¬ StrLaws.At x y x.length k)->StrLaws.partsFrom x y.length a cuts=ps
 | [],_,_,_,h,_,_,_,_=>absurd rfl h
 | [p],a,cuts,f,_,hf,hd,hG,hn=>by
  have hL:x.cps.toList.length=x.length:=qwB;have hd:x.cps.toList.drop a=p.cps.toList:=hd
  have no:∀ k,a<=k->¬ StrLaws.At x y x.length k:=fun k hk hA=>by
   have e:=eq_of_beq ((StrLaws.subAt_eq x y k).symm.trans hA.2);rw [hy] at e;have hyl:y.length=(c0::r).length:=by rw [<- hy];exact qwB.symm
   have e2:x.cps.toList.drop k=p.cps.toList.drop (k - a):=by rw [<- hd,List.drop_drop];congr 1;omega
   have hm:c0∈p.cps.toList:=by
    have:c0∈(x.cps.toList.drop k).take y.length:=by rw [e];exact qqA
    rw [e2] at this;exact List.mem_of_mem_drop (List.mem_of_mem_take this)
   exact hf p qqA hm
  cases cuts with
  | cons c cs=>exact absurd hG.2.1 (no c hG.1)
  | nil =>
   show [strSub x a x.length]=[p]
   congr 1
   apply Str.ext';apply Array.toList_inj.mp;rw [StrLaws.strSub_toList,hd];refine List.take_of_length_le ?_;rw [<- hd,List.length_drop,hL];omega
 | p::q::ps,a,cuts,f,_,hf,hd,hG,hn=>by
  have hL:x.cps.toList.length=x.length:=qwB;have hyl:y.length=(c0::r).length:=by rw [<- hy];exact qwB.symm
  have hyp:1<=y.length:=by rw [hyl,qgA];omega
  have hpl:p.cps.toList.length=p.length:=qwB
  have hd:x.cps.toList.drop a=p.cps.toList++((c0::r)++(Str.join y (q::ps)).cps.toList):=by
   rw [hd];show (p++y++Str.join y (q::ps)).cps.toList=_;simp only [Str.cps_append,Array.toList_append,hy,qaB]
  have hlen:x.length - a=p.length+(y.length+(Str.join y (q::ps)).cps.toList.length):=by
   have:=congrArg List.length hd;rw [List.length_drop,hL,qfA,qfA,hpl,<- hyl] at this;exact this
  have hc:StrLaws.At x y x.length (a+p.length):=by
   refine ⟨by omega,?_⟩;rw [StrLaws.subAt_eq,<- List.drop_drop,hd,<- hpl,List.drop_left,hyl,List.take_left,<- hy];exact beq_self_eq_true _
  have no:∀ k,a<=k->k<a+p.length->¬ StrLaws.At x y x.length k:=fun k hk hk2 hA=>by
   have e:=eq_of_beq ((StrLaws.subAt_eq x y k).symm.trans hA.2)
   have e2:x.cps.toList.drop k=p.cps.toList.drop (k - a)++((c0::r)++(Str.join y (q::ps)).cps.toList):=by
    rw [<- List.drop_append_of_le_length (by rw [hpl];omega),<- hd,List.drop_drop]
    congr 1
    omega
   rw [hy,e2,hyl] at e
   cases hz:p.cps.toList.drop (k - a) with
   | nil =>
    have:=congrArg List.length hz;rw [List.length_drop,hpl,List.length_nil] at this;omega
   | cons z zs =>
    rw [hz,List.cons_append,qgA,List.take_succ_cons] at e;have e3:=(List.cons.inj e).1;subst e3;exact hf p qqA (List.mem_of_mem_drop (hz ▸ qqA))
  cases cuts with
  | nil =>
   have e:f=a:=hG;exact absurd hc (hn _ (by omega))
  | cons c cs =>
   obtain ⟨h1,h2,h3,h4⟩:=hG
   have ec:c=a+p.length:=by
    by_cases h:c<a+p.length
    ·exact absurd h2 (no c h1 h)
    ·by_cases h':a+p.length<c
     ·exact absurd hc (h3 _ (by omega) h')
     ·omega
   subst ec;show strSub x a (a+p.length)::StrLaws.partsFrom x y.length (a+p.length+y.length) cs=_;rw [K7 x y c0 r hy (q::ps) _ cs f (fun z=>nomatch z) (fun z hz=>hf z (qrA _ hz)) ?_ h4 hn]
   ·congr 1
    apply Str.ext';apply Array.toList_inj.mp;rw [StrLaws.strSub_toList,hd,Nat.add_sub_cancel_left,<- hpl,List.take_left]
   ·rw [<- List.drop_drop,<- List.drop_drop,hd,<- hpl,List.drop_left,hyl,List.drop_left]
open Builtin Builtin.Str in
theorem O6 (y:Str)(c0:Nat)(r:List Nat)(hy:y.cps.toList=c0::r)(ps:List Str)(h0:ps ≠ [])(hf:∀ p∈ps,c0 ∉ p.cps.toList):Txt.split (Str.join y ps) y=ps:=by
 generalize hx:Str.join y ps=x;have hyl:y.length=(c0::r).length:=by rw [<- hy];exact qwB.symm
 obtain ⟨f,hG,hn⟩:=StrLaws.occ_tight x y (by rw [hyl,qgA];omega);have key:=K7 x y c0 r hy ps 0 _ f h0 hf (by rw [hx];rfl) hG hn
 have one:∀ {z:Bool},occurrences x y 0 x.length (x.length+1)=[]->[x]=ps:=fun e=>by
  rw [e] at key;rw [<- key];show [x]=[strSub x 0 x.length];rw [StrLaws.sub_whole]
 unfold Txt.split
 cases ho:occurrences x y 0 x.length (x.length+1) with
 | nil =>
  have o:=one (z:=true) ho;split
  ·exact o
  ·rw [if_pos (show ([]:List Nat).isEmpty=true from rfl)];exact o
 | cons c cs =>
  rw [ho] at hG;have hA:=hG.2.1
  have k1:¬ (decide (x.length<y.length) || decide (strKind x<strKind y))=true:=by
   rw [Bool.or_eq_true,decide_eq_true_eq,decide_eq_true_eq];rintro (h|h)
   ·have:=hA.1;omega
   ·have:=PySem.W.kind_le x y hA.2;omega
  rw [if_neg k1,if_neg (by simp),StrLaws.partsBetween_eq,<- ho];exact key
theorem Lg {y:Str}{c0:Nat}{r:List Nat}(hy:y.cps.toList=c0::r){ps:List Str}(h0:ps ≠ [])(hf:∀ p∈ps,c0 ∉ p.cps.toList)(hl:(Str.join y ps).length<=100000):FD (Str.join y ps) y=some ps:=by
 have hs:sizeLine=16777216:=qkB;have hyl:y.length=(c0::r).length:=by rw [<- hy];exact qwB.symm
 have e:=O6 y c0 r hy ps h0 hf;have l1:=split_le (Str.join y ps) y;unfold FD;rw [e] at l1 ⊢;refine if_pos ⟨?_,by omega,?_,by omega,?_⟩
 ·rw [hyl,qgA];omega
 ·rw [len_partsBetween];have:=StrLaws.occ_length_le_len (Str.join y ps) y 0 (Str.join y ps).length ((Str.join y ps).length+1);omega
 ·refine List.all_eq_true.mpr fun z hz=>decide_eq_true ?_;have:=part_short (x:=Str.join y ps) (y:=y) (by rw [e];exact hz);omega
theorem IQ {z:Str}{ys:List Str}(h:(ys.map (·.length)).sum+ys.length * z.length<=16777216):D8 z ys=some (Str.join z ys):=by
 unfold D8;rw [if_pos h];exact congrArg some (StrLaws.glued_eq_join z ys)
theorem join2 (y a b:Str)(r:List Str):Str.join y (a::b::r)=a++y++Str.join y (b::r):=rfl
theorem NV {y:Str}{c:Nat}:∀ {ps:List Str},c∈(Str.join y ps).cps.toList->c∈y.cps.toList\/∃ p∈ps,c∈p.cps.toList
 | [],h=>by cases h
 | [p],h=>.inr ⟨p,qqA,h⟩
 | p::q::ps,h=>by
  rw [join2] at h;simp only [Str.cps_append,Array.toList_append,qkA] at h;rcases h with (h|h)|h
  ·exact .inr ⟨p,qqA,h⟩
  ·exact .inl h
  ·rcases NV h with h | ⟨z,hz,h⟩
   ·exact .inl h
   ·exact .inr ⟨z,qrA _ hz,h⟩
theorem JB {l:List Str}{k:Nat}(h:∀ x∈l,x.length<=k):(l.map (·.length)).sum<=l.length * k:=by
 induction l with
 | nil=>exact qdC _
 | cons a l ih =>
  have h1:=h a qqA;have h2:=ih fun x hx=>h x (qrA _ hx);rw [qyA,List.sum_cons,qgA,Nat.succ_mul];omega
theorem IM {y:Str}{l:List Str}{k n:Nat}(h:∀ x∈l,x.length<=k)(hn:l.length<=n):(l.map (·.length)).sum+l.length * y.length<=n * (k+y.length):=by
 have:=JB h
 have:l.length * k+l.length * y.length<=n * (k+y.length):=by
  rw [<- Nat.mul_add];exact Nat.mul_le_mul_right _ hn
 omega
def Wd (w:Str):Prop:=32 ∉ w.cps.toList/\59 ∉ w.cps.toList/\w.length<=26
theorem EH {k:Int}{m:Nat}(h:In m k)(hm:m<=24):Cq k=some (nm k)/\As (nm k)=some (.ok k)/\Wd (nm k):=by
 obtain ⟨n,rfl⟩:=qnB h.1;have h2:=h.2;have:=La n (by omega);exact ⟨if_pos ⟨by omega,by omega⟩,isOkI_eq this.2.1,this.2.2.1,this.2.2.2.1,by omega⟩
theorem Jr {k:Int}{m:Nat}(h:In m k)(hm:m<=24):Ae (nm k)=some (some k)/\(nm k).length<=2:=by
 obtain ⟨n,rfl⟩:=qnB h.1;have h2:=h.2;have:=La n (by omega);exact ⟨this.1,this.2.2.2.2⟩
theorem mo_wd {x:Str}(h:Mom x):Wd (mo x):=by
 have hd:Wd ("-" : Str):=by unfold Wd;decide +kernel
 unfold mo;split
 ·exact hd
 ·refine ⟨fun hc=>?_,fun hc=>?_,h.len⟩
  ·have:=List.mem_range'_1.mp (h.subset hc);omega
  ·have:=List.mem_range'_1.mp (h.subset hc);omega
def rw1 (x:Str):List Str:=["state",mo x]
def rw2 (w:Int × Int):List Str:=["way",nm w.1,nm w.2]
def rw3 (s:Int):List Str:=["from",nm s]
def rw4 (m:List Int):List Str := "mark" :: m.map nm
def rows (M:Mac):List (List Str):=M.a.map rw1++(M.b.map rw2++(M.c.map rw3++M.d.map rw4))
def jn (r:List Str):Str:=Str.join " " r
def txt (M:Mac):Str:=Str.join "; " ((rows M).map jn)
theorem w_state:Wd ("state" : Str):=by unfold Wd;decide +kernel
theorem w_way:Wd ("way" : Str):=by unfold Wd;decide +kernel
theorem w_from:Wd ("from" : Str):=by unfold Wd;decide +kernel
theorem w_mark:Wd ("mark" : Str):=by unfold Wd;decide +kernel
def Wr (r:List Str):Prop:=r ≠ []/\r.length<=25/\∀ w∈r,Wd w
theorem wr1 {M:Mac}(g:Gd M){x:Str}(h:x∈M.a):Wr (rw1 x):=⟨(fun z=>nomatch z),by show 2<=25;decide,fun w hw=>by
 rcases qmA.mp hw with rfl|hw
 ·exact w_state
 ·rw [qpA.mp hw];exact mo_wd (g.am x h)⟩
theorem wr2 {M:Mac}(g:Gd M){x:Int × Int}(h:x∈M.b):Wr (rw2 x):=⟨(fun z=>nomatch z),by show 3<=25;decide,fun w hw=>by
 have a8:=g.a8;rcases qmA.mp hw with rfl|hw
 ·exact w_way
 ·rcases qmA.mp hw with rfl|hw
  ·exact (EH (g.bm x h).1 (by omega)).2.2
  ·rw [qpA.mp hw];exact (EH (g.bm x h).2 (by omega)).2.2⟩
theorem wr3 {M:Mac}(g:Gd M){x:Int}(h:x∈M.c):Wr (rw3 x):=⟨(fun z=>nomatch z),by show 2<=25;decide,fun w hw=>by
 have a8:=g.a8;rcases qmA.mp hw with rfl|hw
 ·exact w_from
 ·rw [qpA.mp hw];exact (EH (g.cm x h) (by omega)).2.2⟩
theorem wr4 {M:Mac}(g:Gd M){x:List Int}(h:x∈M.d):Wr (rw4 x):=⟨(fun z=>nomatch z),by
 have:=few (g.dn x h) (g.dm x h);have:=g.b24;show (x.map nm).length+1<=25;rw [qeA]
 omega,fun w hw=>by
 rcases qmA.mp hw with rfl|hw
 ·exact w_mark
 ·obtain ⟨k,hk,rfl⟩:=qnA.mp hw
  exact (EH (g.dm x h k hk) g.b24).2.2⟩
theorem MV {M:Mac}(g:Gd M):∀ r∈rows M,Wr r:=fun r hr=>by
 unfold rows at hr;rcases qkA.mp hr with h|h
 ·obtain ⟨x,hx,rfl⟩:=qnA.mp h;exact wr1 g hx
 rcases qkA.mp h with h|h
 ·obtain ⟨x,hx,rfl⟩:=qnA.mp h;exact wr2 g hx
 rcases qkA.mp h with h|h
 ·obtain ⟨x,hx,rfl⟩:=qnA.mp h;exact wr3 g hx
 ·obtain ⟨x,hx,rfl⟩:=qnA.mp h;exact wr4 g hx
theorem NW {M:Mac}(g:Gd M):1<=(rows M).length/\(rows M).length<=43:=by
 have c8:=few g.cn g.cm;have:=g.a1;have:=g.a8;have:=g.b24;have:=g.d3;unfold rows;simp only [qfA,qeA];omega
theorem Di:(" " : Str).length=1:=by decide +kernel
theorem Fa:("; " : Str).length=2:=by decide +kernel
theorem sp_cps:(" " : Str).cps.toList=32::[]:=by decide +kernel
theorem sc_cps:("; " : Str).cps.toList=59::[32]:=by decide +kernel
theorem jn_eq {r:List Str}(h:Wr r):D8 " " r=some (jn r):=IQ (by
 have:=IM (y := " ") (fun x hx=>(h.2.2 x hx).2.2) h.2.1;rw [Di] at this ⊢
 omega)
theorem jn_len {r:List Str}(h:Wr r):(jn r).length<=675:=by
 have h1:=StrLaws.join_length_le " " r;have h2:=IM (y := " ") (fun x hx=>(h.2.2 x hx).2.2) h.2.1;rw [Di] at h1 h2;exact qdB h1 (by omega)
theorem jn_no {r:List Str}(h:Wr r):59 ∉ (jn r).cps.toList:=fun hc=>by
 rcases NV hc with h1 | ⟨p,hp,h1⟩
 ·rw [sp_cps] at h1;rcases qmA.mp h1 with h1|h1
  ·exact absurd h1 (by decide)
  ·cases h1
 ·exact (h.2.2 p hp).2.1 h1
theorem Ju {r:List Str}(h:Wr r):FD (jn r) " " = some r:=Lg sp_cps h.1 (fun p hp=>(h.2.2 p hp).1) (qdB (jn_len h) (by decide))
theorem Oy {M:Mac}(g:Gd M):(((rows M).map jn).map (·.length)).sum+((rows M).map jn).length * ("; " : Str).length<=43 * 677:=by
 have h2:=IM (y := "; ") (l:=(rows M).map jn) (k:=675) (n:=43) (fun x hx=>by
  obtain ⟨r,hr,rfl⟩:=qnA.mp hx
  exact jn_len (MV g r hr)) (by rw [qeA];exact (NW g).2)
 rw [Fa] at h2 ⊢;omega
theorem txt_eq {M:Mac}(g:Gd M):D8 "; " ((rows M).map jn)=some (txt M):=IQ (qdB (Oy g) (by decide))
theorem On {M:Mac}(g:Gd M):FD (txt M) "; " = some ((rows M).map jn):=Lg sc_cps (fun e=>by
  have:=congrArg List.length e;rw [qeA,List.length_nil] at this;have:=(NW g).1
  omega) (fun p hp=>by
  obtain ⟨r,hr,rfl⟩:=qnA.mp hp
  exact jn_no (MV g r hr)) (qdB (StrLaws.join_length_le _ _) (qdB (Oy g) (by decide)))
theorem jn1_len {M:Mac}(g:Gd M){x:Str}(h:x∈M.a):(jn (rw1 x)).length<=32:=by
 have h1:=(mo_wd (g.am x h)).2.2;have h2:("state" : Str).length=5:=by decide +kernel
 unfold jn rw1;rw [PyProof.Rows.len_join_cons,Di];simp only [qyA,List.map_nil,List.sum_cons,List.sum_nil,qgA,List.length_nil];omega
theorem jn2_len {M:Mac}(g:Gd M){x:Int × Int}(h:x∈M.b):(jn (rw2 x)).length<=9:=by
 have a8:=g.a8;have h1:=(Jr (g.bm x h).1 (by omega)).2;have h3:=(Jr (g.bm x h).2 (by omega)).2;have h2:("way" : Str).length=3:=by decide +kernel
 unfold jn rw2;rw [PyProof.Rows.len_join_cons,Di];simp only [qyA,List.map_nil,List.sum_cons,List.sum_nil,qgA,List.length_nil];omega
theorem jn3_len {M:Mac}(g:Gd M){x:Int}(h:x∈M.c):(jn (rw3 x)).length<=7:=by
 have a8:=g.a8;have h1:=(Jr (g.cm x h) (by omega)).2;have h2:("from" : Str).length=4:=by decide +kernel
 unfold jn rw3;rw [PyProof.Rows.len_join_cons,Di];simp only [qyA,List.map_nil,List.sum_cons,List.sum_nil,qgA,List.length_nil];omega
theorem jn4_len {M:Mac}(g:Gd M){x:List Int}(h:x∈M.d):(jn (rw4 x)).length<=76:=by
 have h0:=few (g.dn x h) (g.dm x h);have b24:=g.b24
 have h1:=JB (l:=x.map nm) (k:=2) fun w hw=>by
  obtain ⟨k,hk,rfl⟩:=qnA.mp hw;exact (Jr (g.dm x h k hk) b24).2
 have h2:("mark" : Str).length=4:=by decide +kernel
 unfold jn rw4;rw [PyProof.Rows.len_join_cons,Di];rw [qeA] at h1 ⊢;simp only [qyA,List.sum_cons];omega
theorem txt_len {M:Mac}(g:Gd M):(txt M).length<=842:=by
 have c8:=few g.cn g.cm;have a8:=g.a8;have b24:=g.b24;have d3:=g.d3;refine qdB (StrLaws.join_length_le _ _) ?_;rw [Fa];unfold rows;simp only [qzA,List.sum_append,qfA,qeA,List.map_map]
 have e1:=JB (l:=M.a.map fun x=>jn (rw1 x)) (k:=32) fun w hw=>by
  obtain ⟨k,hk,rfl⟩:=qnA.mp hw;exact jn1_len g hk
 have e2:=JB (l:=M.b.map fun x=>jn (rw2 x)) (k:=9) fun w hw=>by
  obtain ⟨k,hk,rfl⟩:=qnA.mp hw;exact jn2_len g hk
 have e3:=JB (l:=M.c.map fun x=>jn (rw3 x)) (k:=7) fun w hw=>by
  obtain ⟨k,hk,rfl⟩:=qnA.mp hw;exact jn3_len g hk
 have e4:=JB (l:=M.d.map fun x=>jn (rw4 x)) (k:=76) fun w hw=>by
  obtain ⟨k,hk,rfl⟩:=qnA.mp hw;exact jn4_len g hk
 rw [List.map_map,qeA] at e1 e2 e3 e4;have f1:M.a.map ((fun x=>x.length)∘jn∘rw1)=M.a.map ((fun x=>x.length)∘fun x=>jn (rw1 x)):=rfl;have f2:M.b.map ((fun x=>x.length)∘jn∘rw2)=M.b.map ((fun x=>x.length)∘fun x=>jn (rw2 x)):=rfl;have f3:M.c.map ((fun x=>x.length)∘jn∘rw3)=M.c.map ((fun x=>x.length)∘fun x=>jn (rw3 x)):=rfl;have f4:M.d.map ((fun x=>x.length)∘jn∘rw4)=M.d.map ((fun x=>x.length)∘fun x=>jn (rw4 x)):=rfl;rw [f1,f2,f3,f4];omega
theorem P0 {m:Nat}(hm:m<=24){l:List Int}(h:∀ k∈l,In m k):Bt (fun (BF:D)=>(Im BF).bind fun t7=>Cq t7) (l.map D.int)=some (l.map nm):=by
 have e:=OK.eq (m:=Bt (fun (BF:D)=>(Im BF).bind fun t7=>Cq t7) (l.map D.int)) (Es (g:=fun d:D=>match d with | .int k=>nm k|_ => "") (fun d hd=>by
  obtain ⟨k,hk,rfl⟩:=qnA.mp hd
  exact (EH (h k hk) hm).1) rfl)
 rw [e,List.map_map]
 rfl
theorem Mf {m:Nat}(hm:m<=24){l:List Int}(h:∀ k∈l,In m k):Ac (ToD.to l)=some (l.map nm):=by
 unfold Ac;simp only [qmB,AA];exact P0 hm h
abbrev RL:=T4 (List Str) (List (Tp Int)) (List Int) (List (List Int))
def RM (M:Mac):RL:=T4.mk M.a (M.b.map fun p=>Tp.mk [p.1,p.2]) M.c M.d
theorem shown_p {m:Nat}(hm:m<=24){w:Int × Int}(h:In m w.1/\In m w.2):Ac (ToD.to (Tp.mk [w.1,w.2]))=some [nm w.1,nm w.2]:=by
 unfold Ac;simp only [qmB,AA]
 exact P0 (l:=[w.1,w.2]) hm fun k hk=>by
  rcases qmA.mp hk with rfl|hk
  ·exact h.1
  ·rw [qpA.mp hk];exact h.2
theorem mo_eq (x:Str):C5 x=some (mo x):=by
 unfold C5 mo;rw [AA];by_cases h:x = ""
 ·rw [if_pos h,decide_eq_true h];rfl
 ·rw [if_neg h,decide_eq_false h];rfl
theorem Oi {α:Type}{a b:List α}{P:List α->Prop}(hb:a.length+b.length<=sizeLine)(h:P (a++b)):OK (extO a b) P:=⟨_,if_pos hb,h⟩
theorem Pj {M:Mac}(g:Gd M):CF (RM M)=some (txt M):=by
 have hs:sizeLine=16777216:=qkB;have c8:=few g.cn g.cm;have a8:=g.a8;have b24:=g.b24;have d3:=g.d3;refine OK.eq ?_;unfold CF;simp only [qmB,AA,Aa];show OK ((Bt _ M.a).bind _) _;refine AC (Es (g:=rw1) (fun x _=>by rw [mo_eq];rfl) ?_)
 have eb:Bt (fun (way_:Tp Int)=>(Ac (ToD.to way_)).bind fun t31=>EB [("way" : Str)] t31) (RM M).b=some (M.b.map rw2):=by
  have:∀ l:List (Int × Int),(∀ w∈l,In M.a.length w.1/\In M.a.length w.2)->Bt (fun (way_:Tp Int)=>(Ac (ToD.to way_)).bind fun t31=>EB [("way" : Str)] t31) (l.map fun p=>Tp.mk [p.1,p.2])=some (l.map rw2):=fun l=>by
   induction l with
   | nil=>exact fun _=>rfl
   | cons w l ih =>
    intro h
    have e1:(Ac (ToD.to (Tp.mk [w.1,w.2]))).bind (fun t31=>EB [("way" : Str)] t31)=some (rw2 w):=by
     rw [shown_p (by omega) (h w qqA)];exact OK.eq (Jj (by show 1+2<=sizeLine;omega) rfl)
    have e2:=ih fun x hx=>h x (qrA _ hx);show ((Ac (ToD.to (Tp.mk [w.1,w.2]))).bind (fun t31=>EB [("way" : Str)] t31)).bind (fun b=>(Bt _ (l.map fun p=>Tp.mk [p.1,p.2])).bind fun bs=>some (b::bs))=_;rw [e1,AA,e2,AA]
    rfl
  exact this M.b g.bm
 have rc:(RM M).c=M.c:=rfl;have rd:(RM M).d=M.d:=rfl;rw [eb,AA,rc,rd];refine AC (Oi (by rw [qeA,qeA];omega) ?_);refine AC (Es (g:=rw3) (fun w hw=>?_) ?_)
 ·rw [(EH (g.cm w hw) (by omega)).1];rfl
 refine AC (Oi (by rw [qfA,qeA,qeA,qeA];omega) ?_);refine AC (Es (g:=rw4) (fun w hw=>?_) ?_)
 ·rw [Mf b24 (g.dm w hw)];have:=few (g.dn w hw) (g.dm w hw);exact OK.eq (Jj (by rw [qeA];show 1+w.length<=sizeLine;omega) rfl)
 refine AC (Oi (by simp only [qfA,qeA];omega) ?_);have er:M.a.map rw1++M.b.map rw2++M.c.map rw3++M.d.map rw4=rows M:=by unfold rows;simp only [qaB]
 rw [er];refine AC (Es (g:=jn) (fun r hr=>jn_eq (MV g r hr)) ?_);rw [txt_eq g];exact A9 rfl
theorem IS {α β ρ:Type}{f:α->List β->Option (Fl (List β) ρ)}{h:α->β}{as:List α}{s0:List β}(hf:∀ a∈as,∀ s:List β,s.length<=1000->f a s=some (.nx (s++[h a])))(hl:s0.length+as.length<=1000){P:Fl (List β) ρ->Prop}(hp:P (.nx (s0++as.map h))):OK (CK f as s0) P:=by
 refine Gq (fun i s=>s=s0++(as.take i).map h) (by simp) (fun i a s ha hI=>?_) fun s hI=>?_
 ·have hi:=(quA.mp ha).1;rw [hf a (qtA ha) s (by rw [hI,qfA,qeA,qjA];omega)];refine A9 ⟨_,rfl,?_⟩;rw [hI,List.take_add_one,ha,qzA,qaB]
  rfl
 ·rw [hI,List.take_of_length_le (qcB _)];exact hp
theorem t_state (x:Str):("state " : Str)++mo x=jn (rw1 x):=by
 show _=("state" : Str) ++ " " ++ mo x;rw [show (("state" : Str)++(" " : Str)) = "state " from by decide +kernel]
theorem t_from (x:Int):("from " : Str)++nm x=jn (rw3 x):=by
 show _=("from" : Str) ++ " " ++ nm x;rw [show (("from" : Str)++(" " : Str)) = "from " from by decide +kernel]
theorem Ho (a b c:Str):a++b++c=a++(b++c):=by
 apply Str.ext';simp only [Str.cps_append,Array.append_assoc]
theorem t_way (x:Int × Int):("way " : Str)++nm x.1 ++ " " ++ nm x.2=jn (rw2 x):=by
 show _=("way" : Str) ++ " " ++ (nm x.1 ++ " " ++ nm x.2);rw [show (("way" : Str)++(" " : Str)) = "way " from by decide +kernel,Ho,Ho,Ho]
theorem Jo {β:Type}{s:List β}(h:s.length<=1000)(x:β):Ce s x=some (s++[x]):=by
 have hs:sizeLine=16777216:=qkB;exact if_pos (by omega)
theorem Jv {a b:Str}(h:a.length+b.length<=10000):Hd a b=some (a++b):=by
 have hs:sizeLine=16777216:=qkB;exact if_pos (by omega)
theorem text_ok {M:Mac}(g:Gd M):BY M=some (txt M):=by
 have hs:sizeLine=16777216:=qkB;have c8:=few g.cn g.cm;have a8:=g.a8;have b24:=g.b24;have d3:=g.d3;have l1:("state " : Str).length=6:=by decide +kernel
 have l2:("way " : Str).length=4:=by decide +kernel
 have l3:("from " : Str).length=5:=by decide +kernel
 refine OK.eq ?_;unfold BY;simp only [qmB,AA,Aa];refine AC (IS (h:=fun x=>jn (rw1 x)) (fun x hx s hl=>?_) (by rw [List.length_nil];omega) ?_)
 ·have em:(cond (!decide (x=("" : Str))) (some x) (some ("-" : Str)))=some (mo x):=by
   unfold mo;by_cases h:x = ""
   ·rw [if_pos h,decide_eq_true h];rfl
   ·rw [if_neg h,decide_eq_false h];rfl
  rw [em,AA,Jv (by have:=(mo_wd (g.am x hx)).2.2;omega),AA,Jo hl,AA,t_state]
 refine AC (IS (h:=fun x=>jn (rw2 x)) (fun x hx s hl=>?_) (by rw [List.nil_append,qeA];omega) ?_)
 ·have n1:=EH (g.bm x hx).1 (by omega);have n2:=EH (g.bm x hx).2 (by omega);have w1:=n1.2.2.2.2;have w2:=n2.2.2.2.2;rw [n1.1,AA,Jv (by omega),AA,Jv (by rw [Str.length_append,Di];omega),AA,n2.1,AA,Jv (by rw [Str.length_append,Str.length_append,Di];omega),AA,Jo hl,AA,t_way]
 refine AC (IS (h:=fun x=>jn (rw3 x)) (fun x hx s hl=>?_) (by rw [List.nil_append,qfA,qeA,qeA];omega) ?_)
 ·have n1:=EH (g.cm x hx) (by omega);have w1:=n1.2.2.2.2;rw [n1.1,AA,Jv (by omega),AA,Jo hl,AA,t_from]
 refine AC (IS (h:=fun x=>jn (rw4 x)) (fun x hx s hl=>?_) (by simp only [List.nil_append,qfA,qeA];omega) ?_)
 ·have em:Bt (fun (k_:Int)=>Cq k_) x=some (x.map nm):=OK.eq (Es (g:=nm) (fun k hk=>(EH (g.dm x hx k hk) b24).1) rfl);have:=few (g.dn x hx) (g.dm x hx);rw [em,AA,OK.eq (Jj (a:=[("mark" : Str)]) (b:=x.map nm) (P:=fun z=>z=rw4 x) (by rw [qeA];show 1+x.length<=sizeLine;omega) rfl),AA,jn_eq (wr4 g hx),AA,Jo hl,AA]
 have er:([]++M.a.map (fun x=>jn (rw1 x))++M.b.map (fun x=>jn (rw2 x))++M.c.map (fun x=>jn (rw3 x))++M.d.map (fun x=>jn (rw4 x)))=(rows M).map jn:=by
  unfold rows;simp only [qzA,List.map_map,List.nil_append,qaB]
  rfl
 show OK (D8 "; " _) _;rw [er,txt_eq g];exact A9 rfl
theorem Fk {α S ρ:Type}{f:α->S->Option (Fl S ρ)}(nb:∀ a s t,f a s≠some (.bk t)):∀ {as bs:List α}{s s':S},CK f as s=some (.nx s')->CK f (as++bs) s=CK f bs s'
 | [],bs,s,s',h=>by
  have:Fl.nx s=(Fl.nx s':Fl S ρ):=qgB h;cases this
  rfl
 | a::as,bs,s,s',h=>by
  obtain ⟨fl,hf,h⟩:=qaA.mp h;show (f a s).bind _=_;rw [hf,AA]
  cases fl with
  | nx t=>exact Fk nb (as:=as) (bs:=bs) (s:=t) (s':=s') h
  | bk t=>exact absurd hf (nb _ _ _)
  | rt r=>cases h
theorem Hr {α β S ρ:Type}{f:α->S->Option (Fl S ρ)}{g:β->α}{put:S->List β->S}(p0:∀ s,put s []=s)(p1:∀ s x xs,put (put s [x]) xs=put s (x::xs)){z:S->Nat}(pz:∀ s x,z (put s [x])=z s+1):∀ {xs:List β}{s:S},(∀ x∈xs,∀ s,z s<=1000->f (g x) s=some (.nx (put s [x])))->z s+xs.length<=1000->CK f (xs.map g) s=some (.nx (put s xs))
 | [],s,_,_=>by rw [p0];rfl
 | x::xs,s,h,hz=>by
  rw [qgA] at hz;show (f (g x) s).bind _=_;rw [h x qqA s (by omega),AA];exact (Hr (s:=put s [x]) p0 p1 pz (fun y hy=>h y (qrA _ hy)) (by rw [pz];omega)).trans (by rw [p1])
theorem at0 (a:Str)(r:List Str):atI (a::r) (0:Int)=some a:=Ee (j:=0) rfl
theorem at1 (a b:Str)(r:List Str):atI (a::b::r) (1:Int)=some b:=Ee (j:=1) rfl
theorem ON (a:Str)(r:List Str):E3 (a::r) (some (1:Int)) none=r:=by
 unfold E3;have h1:HT.sIx (a::r).length 0 (some (1:Int))=1:=(HT.sIx_nat (a::r).length 0 1).trans (by rw [qgA];omega);have h2:HT.sIx (a::r).length (a::r).length none=(a::r).length:=rfl;rw [h1,h2];exact List.take_of_length_le (by rw [List.length_drop];omega)
theorem d_sw:decide (("way" : Str) = "state")=false:=by decide +kernel
theorem d_sf:decide (("from" : Str) = "state")=false:=by decide +kernel
theorem d_sm:decide (("mark" : Str) = "state")=false:=by decide +kernel
theorem d_wf:decide (("from" : Str) = "way")=false:=by decide +kernel
theorem d_wm:decide (("mark" : Str) = "way")=false:=by decide +kernel
theorem d_fm:decide (("mark" : Str) = "from")=false:=by decide +kernel
theorem KY {b:Bool}{α:Type}{x y:Option α}{P:α->Prop}(h:b=true)(k:OK x P):OK (cond b x y) P:=by subst h;exact k
theorem E2 {b:Bool}{α:Type}{x y:Option α}{P:α->Prop}(h:b=false)(k:OK y P):OK (cond b x y) P:=by subst h;exact k
def szR (s:RL):Nat:=s.a.length+s.b.length+s.c.length+s.d.length
def pt1 (s:RL)(x:List Str):RL:=T4.mk (s.a++x) s.b s.c s.d
def pt2 (s:RL)(x:List (Int × Int)):RL:=T4.mk s.a (s.b++x.map fun p=>Tp.mk [p.1,p.2]) s.c s.d
def pt3 (s:RL)(x:List Int):RL:=T4.mk s.a s.b (s.c++x) s.d
def pt4 (s:RL)(x:List (List Int)):RL:=T4.mk s.a s.b s.c (s.d++x)
theorem mapX_c {α β:Type}{f:α->Option (Except Str β)}{a:α}{as:List α}{b:β}{bs:List β}(h1:f a=some (.ok b))(h2:LD f as=some (.ok bs)):LD f (a::as)=some (.ok (b::bs)):=by
 simp only [LD,h1,h2,AA]
theorem Ot {l:List Int}{m:Nat}(hm:m<=24)(h:∀ k∈l,In m k):Aw (l.map nm)=some (.ok l):=by
 unfold Aw;simp only [AA]
 induction l with
 | nil=>rfl
 | cons k l ih=>exact mapX_c (EH (h k qqA) hm).2.1 (ih fun x hx=>h x (qrA _ hx))
theorem Eb {α β:Type}{e:Option (Except Str α)}{f:α->Option β}{x:α}{z:β}(h:e=some (.ok x))(hf:f x=some z):Mw e f=some (.ok z):=by
 unfold Mw;simp only [h,hf,AA]
theorem Cn {α:Type}{l:List α}{x:α}(h:l.length<=5000):Ce l x=some (l++[x]):=by
 have hs:sizeLine=16777216:=qkB;exact if_pos (by omega)
theorem lay1 {M:Mac}(g:Gd M){x:Str}(hx:x∈M.a){s:RL}(hz:szR s<=1000):B8 s (rw1 x)=some (.ok (pt1 s [x])):=by
 unfold szR at hz;refine OK.eq ?_;unfold B8 rw1;simp only [qmB,AA,Aa,at0,at1];exact C9 (P:=fun b=>b=true) (KY (decide_eq_true trivial) (A9 rfl)) fun b hb=>KY hb (OK.of (Eb (rdmom_mo (g.am x hx)) (by rw [Cn (by omega),AA];rfl)) rfl)
theorem lay2 {M:Mac}(g:Gd M){x:Int × Int}(hx:x∈M.b){s:RL}(hz:szR s<=1000):B8 s (rw2 x)=some (.ok (pt2 s [x])):=by
 unfold szR at hz;have a8:=g.a8
 have e:Aw [nm x.1,nm x.2]=some (.ok [x.1,x.2]):=Ot (l:=[x.1,x.2]) (m:=M.a.length) (by omega) fun k hk=>by
  rcases qmA.mp hk with rfl|hk
  ·exact (g.bm x hx).1
  ·rw [qpA.mp hk];exact (g.bm x hx).2
 refine OK.eq ?_;unfold B8 rw2;simp only [qmB,AA,Aa,at0,ON,e];exact C9 (P:=fun b=>b=false) (E2 d_sw (A9 rfl)) fun b hb=>E2 hb (KY (decide_eq_true trivial) (OK.of (Eb (x:=Tp.mk [x.1,x.2]) rfl (by rw [Cn (by omega),AA];rfl)) rfl))
theorem lay3 {M:Mac}(g:Gd M){x:Int}(hx:x∈M.c){s:RL}(hz:szR s<=1000):B8 s (rw3 x)=some (.ok (pt3 s [x])):=by
 unfold szR at hz;have a8:=g.a8;refine OK.eq ?_;unfold B8 rw3;simp only [qmB,AA,Aa,at0,at1];exact C9 (P:=fun b=>b=false) (E2 d_sf (A9 rfl)) fun b hb=>E2 hb (E2 d_wf (C9 (P:=fun b=>b=true) (KY (decide_eq_true trivial) (A9 rfl)) fun b hb=>KY hb (OK.of (Eb (EH (g.cm x hx) (by omega)).2.1 (by rw [Cn (by omega),AA];rfl)) rfl)))
theorem lay4 {M:Mac}(g:Gd M){x:List Int}(hx:x∈M.d){s:RL}(hz:szR s<=1000):B8 s (rw4 x)=some (.ok (pt4 s [x])):=by
 unfold szR at hz;refine OK.eq ?_;unfold B8 rw4;simp only [qmB,AA,Aa,at0,ON];exact C9 (P:=fun b=>b=false) (E2 d_sm (A9 rfl)) fun b hb=>E2 hb (E2 d_wm (C9 (P:=fun b=>b=false) (E2 d_fm (A9 rfl)) fun b hb=>E2 hb (KY (decide_eq_true trivial) (OK.of (Eb (Ot g.b24 (g.dm x hx)) (by rw [Cn (by omega),AA];rfl)) rfl))))
theorem Ol (a:Str)(s t:RL):lfx a s≠some (.bk t):=fun e=>by
 obtain ⟨_,_,e⟩:=qaA.mp e;obtain ⟨r,_,e⟩:=qaA.mp e;cases r<;>cases e
theorem IY {r:List Str}{s s':RL}(hr:Wr r)(e:B8 s r=some (.ok s')):lfx (jn r) s=some (.nx s'):=by
 unfold lfx;simp only [AA];show ((FD (jn r) " ").bind fun c=>some (c,())).bind _=_;rw [Ju hr,AA,AA];show (B8 s r).bind _=_;rw [e,AA]
theorem toR (s:RL):(ToD.to s:D)=R4M s.a (s.b.map Tp.l) s.c s.d:=by
 unfold R4M;rw [List.map_map]
 rfl
theorem toR_M (M:Mac):(ToD.to (RM M):D)=toM M:=by
 rw [toR,<- toM_R4];show R4M M.a ((M.b.map fun p=>Tp.mk [p.1,p.2]).map Tp.l) M.c M.d=_;rw [List.map_map]
 rfl
theorem KU (t:Str):DU (.str t)=some (.ok ()):=by
 unfold DU;have e1:isK "str" (.str t)=true:=by simp [isK,dk]
 simp only [AA,e1,Bool.not_true,cond_false]
theorem OB {d:D}(h:isK "str" d=false):Aj d=some (.error "NoText"):=by
 unfold Aj DU;simp only [AA,h,Bool.not_false,cond_true]
theorem prog_ok {M:Mac}(g:Gd M):Aj (.str (txt M))=some (.ok (toM M)):=by
 have c8:=few g.cn g.cm;have a8:=g.a8;have b24:=g.b24;have d3:=g.d3;refine OK.eq ?_;unfold Aj;simp only [qmB,AA,Aa,KU,Dv];rw [On g,AA];have e1:∀ s,szR s+M.a.length<=1000->CK lfx (M.a.map fun x=>jn (rw1 x)) s=some (.nx (pt1 s M.a)):=fun s h=>Hr (put:=pt1) (z:=szR) (fun s=>by unfold pt1;rw [qbB]) (fun s x xs=>by unfold pt1;simp only [qaB];rfl) (fun s x=>by unfold pt1 szR;simp only [qfA,qhA];omega) (fun x hx s hz=>IY (wr1 g hx) (lay1 g hx hz)) h;have e2:∀ s,szR s+M.b.length<=1000->CK lfx (M.b.map fun x=>jn (rw2 x)) s=some (.nx (pt2 s M.b)):=fun s h=>Hr (put:=pt2) (z:=szR) (fun s=>by unfold pt2;rw [List.map_nil,qbB]) (fun s x xs=>by unfold pt2;simp only [qaB,qyA,List.map_nil];rfl) (fun s x=>by unfold pt2 szR;simp only [qfA,qyA,List.map_nil,qhA];omega) (fun x hx s hz=>IY (wr2 g hx) (lay2 g hx hz)) h;have e3:∀ s,szR s+M.c.length<=1000->CK lfx (M.c.map fun x=>jn (rw3 x)) s=some (.nx (pt3 s M.c)):=fun s h=>Hr (put:=pt3) (z:=szR) (fun s=>by unfold pt3;rw [qbB]) (fun s x xs=>by unfold pt3;simp only [qaB];rfl) (fun s x=>by unfold pt3 szR;simp only [qfA,qhA];omega) (fun x hx s hz=>IY (wr3 g hx) (lay3 g hx hz)) h;have e4:∀ s,szR s+M.d.length<=1000->CK lfx (M.d.map fun x=>jn (rw4 x)) s=some (.nx (pt4 s M.d)):=fun s h=>Hr (put:=pt4) (z:=szR) (fun s=>by unfold pt4;rw [qbB]) (fun s x xs=>by unfold pt4;simp only [qaB];rfl) (fun s x=>by unfold pt4 szR;simp only [qfA,qhA];omega) (fun x hx s hz=>IY (wr4 g hx) (lay4 g hx hz)) h
 have er:(rows M).map jn=M.a.map (fun x=>jn (rw1 x))++(M.b.map (fun x=>jn (rw2 x))++(M.c.map (fun x=>jn (rw3 x))++M.d.map (fun x=>jn (rw4 x)))):=by
  unfold rows;simp only [qzA,List.map_map]
  rfl
 have key:CK lfx ((rows M).map jn) (T4.mk [] [] [] [])=some (.nx (RM M)):=by
  rw [er,Fk Ol (e1 _ (by show 0+0+0+0+_<=_;omega)),Fk Ol (e2 _ (by unfold pt1 szR;simp only [qfA,List.length_nil];omega)),Fk Ol (e3 _ (by unfold pt2 pt1 szR;simp only [qfA,List.length_nil,qeA];omega)),e4 _ (by unfold pt3 pt2 pt1 szR;simp only [qfA,List.length_nil,qeA];omega)]
  rfl
 rw [key];refine AC (A9 ?_);show OK ((Av (ToD.to (RM M))).bind _) _;rw [toR_M];refine AC (OK.of (g_mach g) ?_);refine C9 (P:=fun b=>b=false) (E2 rfl (AC (OK.of (Pj g) (A9 (by rw [decide_eq_true rfl];rfl))))) fun b hb=>E2 hb (A9 rfl)
theorem IN {t y:Str}(hy:1<=y.length)(ht:t.length<=1000000):FD t y=some (Txt.split t y):=by
 have hs:sizeLine=16777216:=qkB;have l1:=split_le t y;unfold FD;refine if_pos ⟨by omega,by omega,?_,by omega,?_⟩
 ·rw [len_partsBetween];have:=StrLaws.occ_length_le_len t y 0 t.length (t.length+1);omega
 ·refine List.all_eq_true.mpr fun z hz=>decide_eq_true ?_;have:=part_short (x:=t) (y:=y) hz;omega
theorem Kq (t y:Str):Txt.split t y ≠ []:=by
 unfold Txt.split;split
 ·exact fun z=>nomatch z
 ·split
  ·exact fun z=>nomatch z
  ·rw [StrLaws.partsBetween_eq]
   cases h:Builtin.Str.occurrences t y 0 t.length (t.length+1) with
   | nil=>exact fun z=>nomatch z
   | cons a l=>exact fun z=>nomatch z
theorem NP {t:Str}(ht:t.length<=7000):(Txt.split t "; ").length<=3501:=by
 have h:=congrArg Str.length (StrLaws.join_split t "; ")
 cases hs:Txt.split t "; " with
 | nil=>exact absurd hs (Kq _ _)
 | cons a l =>
  rw [hs,PyProof.Rows.len_join_cons,Fa] at h;rw [qgA];omega
theorem LO {t r:Str}(h:r∈Txt.split t "; "):r.length<=t.length:=by
 exact part_short h
theorem LK {r:Str}{w:Str}{ws:List Str}(h:Txt.split r " " = w::ws)(h1:∀ x∈ws,1<=x.length)(hr:r.length<=7000):ws.length<=3500:=by
 have e:=congrArg Str.length (StrLaws.join_split r " ");rw [h,PyProof.Rows.len_join_cons,Di] at e
 have:ws.length<=(ws.map (·.length)).sum:=by
  clear h e hr
  induction ws with
  | nil=>exact qdC _
  | cons a l ih =>
   have:=h1 a qqA;have:=ih fun x hx=>h1 x (qrA _ hx);rw [qyA,List.sum_cons,qgA];omega
 simp only [qyA,List.sum_cons] at e;omega
theorem row_jn {r:Str}{ws:List Str}(h:Txt.split r " " = ws):r=jn ws:=by
 rw [<- h];exact (StrLaws.join_split r " ").symm
theorem Hk:∀ (ws:List Str),(∃ ns,Aw ws=some (.ok ns)/\ns.length=ws.length/\∀ w∈ws,1<=w.length)\/Aw ws=some (.error "NoText")
 | []=>.inl ⟨[],rfl,rfl,fun w hw=>nomatch hw⟩
 | w::ws=>by
  have ih:=Hk ws;unfold Aw at ih ⊢;simp only [AA] at ih ⊢;rcases Lz w with ⟨n,hn⟩|hn
  ·have h1:1<=w.length:=by
    refine Classical.byContradiction fun q=>?_
    have:w = "" := J8 (by
     have:w.cps.toList.length=0:=by rw [qwB];exact Nat.lt_one_iff.mp (Nat.lt_of_not_le q)
     rw [List.length_eq_zero_iff.mp this]
     decide +kernel)
    subst this
    have e:As "" = some (.error "NoText"):=by
     unfold As
     rfl
    rw [e] at hn;cases hn
   rcases ih with ⟨ns,e,el,e1⟩|e
   ·refine .inl ⟨n::ns,mapX_c hn e,by rw [qgA,qgA,el],fun x hx=>?_⟩;rcases qmA.mp hx with rfl|hx
    ·exact h1
    ·exact e1 x hx
   ·refine .inr ?_;simp only [LD,hn,e,AA]
  ·refine .inr ?_;simp only [LD,hn,AA]
def Few (i:Nat)(s:RL):Prop:=s.a.length<=i/\s.b.length<=i/\s.c.length<=i/\s.d.length<=i/\∀ l∈s.d,l.length<4000
def LayR (i:Nat)(r:Except Str RL):Prop:=r = .error "NoText" \/ ∃ s',r = .ok s'/\Few (i+1) s'
theorem Hx {α β:Type}{e:Option (Except Str α)}{f:α->Option β}{n:Str}(h:e=some (.error n)):Mw e f=some (.error n):=by
 unfold Mw;simp only [h,AA]
theorem lay_any {i:Nat}{s:RL}{w:Str}{ws:List Str}(hI:Few i s)(hi:i<=3600)(hw:(∀ x∈ws,1<=x.length)->ws.length<=3500):OK (B8 s (w::ws)) (LayR i):=by
 obtain ⟨h1,h2,h3,h4,h5⟩:=hI;unfold B8;simp only [qmB,AA,Aa,at0,ON];have sg:∀ {α:Type}{l:List α}{x:α},l.length<=i->(l++[x]).length<=i+1:=fun h=>by rw [qfA,qhA];omega
 have two:(((w::ws).length:Int)=2)->∃ x,ws=[x]:=fun h=>by
  match ws,h with
  | [],h=>simp at h
  | [x],_=>exact ⟨x,rfl⟩
  | x::y::r,h=>simp at h;omega
 refine C9 (P:=fun b=>b=true->∃ x,ws=[x]) (AM (fun _=>A9 fun h=>two (of_decide_eq_true h)) fun _=>A9 fun z=>nomatch z) fun b hb=>AM (fun h=>?_) fun _=>AM (fun h=>?_) fun _=>C9 (P:=fun b=>b=true->∃ x,ws=[x]) (AM (fun _=>A9 fun h=>two (of_decide_eq_true h)) fun _=>A9 fun z=>nomatch z) fun b hb=>AM (fun h=>?_) fun _=>AM (fun h=>?_) fun _=>A9 (.inl rfl)
 ·obtain ⟨x,rfl⟩:=hb h;rw [at1,AA];rcases QW x with ⟨z,hz⟩|hz
  ·exact OK.of (Eb (z:=T4.mk (s.a++[z]) s.b s.c s.d) hz (by rw [Cn (by omega),AA])) (.inr ⟨_,rfl,sg h1,by show s.b.length<=_;omega,by show s.c.length<=_;omega,by show s.d.length<=_;omega,h5⟩)
  ·exact OK.of (Hx hz) (.inl rfl)
 ·rcases Hk ws with ⟨ns,hz,_,_⟩|hz
  ·rw [hz];exact OK.of (Eb (z:=T4.mk s.a (s.b++[Tp.mk ns]) s.c s.d) (x:=Tp.mk ns) rfl (by rw [Cn (by omega),AA])) (.inr ⟨_,rfl,by show s.a.length<=_;omega,sg h2,by show s.c.length<=_;omega,by show s.d.length<=_;omega,h5⟩)
  ·rw [hz];exact OK.of (Hx (n := "NoText") rfl) (.inl rfl)
 ·obtain ⟨x,rfl⟩:=hb h;rw [at1,AA];rcases Lz x with ⟨z,hz⟩|hz
  ·exact OK.of (Eb (z:=T4.mk s.a s.b (s.c++[z]) s.d) hz (by rw [Cn (by omega),AA])) (.inr ⟨_,rfl,by show s.a.length<=_;omega,by show s.b.length<=_;omega,sg h3,by show s.d.length<=_;omega,h5⟩)
  ·exact OK.of (Hx hz) (.inl rfl)
 ·rcases Hk ws with ⟨ns,hz,hl,hn⟩|hz
  ·refine OK.of (Eb (z:=T4.mk s.a s.b s.c (s.d++[ns])) hz (by rw [Cn (by omega),AA])) (.inr ⟨_,rfl,by show s.a.length<=_;omega,by show s.b.length<=_;omega,by show s.c.length<=_;omega,sg h4,fun l hl'=>?_⟩);rcases qkA.mp hl' with h|h
   ·exact h5 l h
   ·rw [qpA.mp h];have:=hw hn;omega
  ·exact OK.of (Hx hz) (.inl rfl)
theorem prog_any {t:Str}(ht:t.length<=7000):Aj (.str t)=some (.error "NoText")\/∃ M,Gd M/\t=txt M/\Aj (.str t)=some (.ok (toM M)):=by
 have key:OK (Aj (.str t)) fun r=>r = .error "NoText" \/ ∃ M,Gd M/\t=txt M/\r = .ok (toM M):=by
  unfold Aj;simp only [qmB,AA,Aa,KU,Dv];rw [IN (by rw [Fa];decide) (by omega),AA];have hr:=NP ht;have h0:Few 0 (T4.mk [] [] [] []:RL):=⟨qcB _,qcB _,qcB _,qcB _,fun l hl=>nomatch hl⟩;refine AC (Ke (fun i (s:RL)=>Few i s) (fun _=>False) (fun (r:Str)=>r=("NoText" : Str)) h0 (fun i a s ha hI=>?_) (fun s hI=>?_) (fun _ h=>h.elim) fun r hr=>A9 (.inl (by rw [hr])))
  ·have hi:=(quA.mp ha).1;have hs:=LO (qtA ha);unfold lfx;simp only [AA];show OK (((FD a " ").bind fun c=>some (c,())).bind _) _;rw [IN (by rw [Di];decide) (by omega),AA,AA];obtain ⟨w,ws,hw⟩:=List.exists_cons_of_ne_nil (Kq a " ");rw [hw];show OK ((B8 s (w::ws)).bind _) _;refine C9 (lay_any (i:=i) hI (by omega) fun h1=>LK hw h1 (by omega)) fun r h=>?_;rcases h with rfl | ⟨s',rfl,h⟩
   ·exact A9 rfl
   ·exact A9 h
  ·obtain ⟨h1,h2,h3,h4,h5⟩:=hI;show OK ((Av (ToD.to s)).bind _) _;rw [toR];obtain ⟨r,e,k⟩:=NH s.a (s.b.map Tp.l) s.c s.d (by omega) h5;rw [e,AA]
   cases r with
   | false=>exact A9 (.inl rfl)
   | true =>
    obtain ⟨M,g,ea,eb,ec,ed⟩:=k rfl
    have es:s=RM M:=by
     have:s.b=M.b.map fun p=>Tp.mk [p.1,p.2]:=by
      have:=congrArg (List.map Tp.mk) eb;rw [List.map_map,List.map_map] at this;have e2:List.map (Tp.mk∘Tp.l) s.b=s.b:=(List.map_congr_left fun x _=>rfl).trans (List.map_id s.b);rw [e2] at this;exact this
     obtain ⟨sa,sb,sc,sd⟩:=s;dsimp only at ea this ec ed;subst ea this ec ed
     rfl
    rw [es];refine C9 (P:=fun b=>b=false->t=txt M) (E2 rfl (AC (OK.of (Pj g) (A9 fun h=>?_)))) fun b hb=>AM (fun _=>A9 (.inl rfl)) fun h=>A9 (.inr ⟨M,g,hb h,?_⟩)
    ·have:txt M=t:=by simpa using h
     exact this.symm
    ·rw [<- toR,toR_M]
 obtain ⟨r,h1,h2⟩:=key;rcases h2 with rfl | ⟨M,g,e,rfl⟩
 ·exact .inl h1
 ·exact .inr ⟨M,g,e,h1⟩
def J5 (row_:Str)(s24:TD4 × Int):Option (Fl (TD4 × Int) D) :=
   ((some row_).bind fun t43=>(some (" " : Str)).bind fun t44=>FD t43 t44).bind fun parts_ =>
   (some (-(1:Int))).bind fun Ed =>
   ((some (4:Int)).bind fun t57=>Jd 0 t57).bind fun as58=>(CK (S:=(Int)) (ρ:=D) (fun (k_:Int) s65 =>
     (((some parts_).bind fun t80=>(some (0:Int)).bind fun t81=>atI t80 t81).bind fun t86=>((some [("state" : Str),("way" : Str),("from" : Str),("mark" : Str)]).bind fun t84=>(some k_).bind fun t85=>atI t84 t85).bind fun t87=>(some (decide (t86=t87)))).bind fun b88=>cond b88
      ((some k_).bind fun Ed =>
      some (Fl.nx Ed))
      (some (Fl.nx s65))) as58 Ed).bind fun fl60=>match fl60 with
    | .nx s65 =>
     (some (decide (s65<s24.2))).bind fun b105=>cond b105
      ((some (ToD.to ())).bind fun rr115=>some (Fl.rt rr115))
      ((some s65).bind fun FN =>
      ((some parts_).bind fun t123=>(some s65).bind fun t124=>Ad t123 t124).bind fun Lb =>
      (some (F6 Lb)).bind fun b131=>cond b131
       ((some (ToD.to ())).bind fun rr141=>some (Fl.rt rr141))
       ((some Lb).bind fun a143=>(Ih s24.1 s65 a143).bind fun z151 =>
       some (Fl.nx (z151,FN))))
    | .rt r=>some (Fl.rt r)
    | .bk _=>none
theorem M3 (t:Str):BD t=(FD t "; ").bind fun as17=>(CK J5 as17 (T4.mk [] [] [] [],0)).bind fun fl19=>match fl19 with
  | .nx s24=>(Av (ToD.to s24.1)).bind fun t166=>cond t166 (some (ToD.to s24.1)) (some (ToD.to ()))
  | .rt r=>some r
  | .bk _=>none:=rfl
def DI (p:Str):Int:=cond (decide (p = "mark")) 3 (cond (decide (p = "from")) 2 (cond (decide (p = "way")) 1 (cond (decide (p = "state")) 0 (-1))))
theorem rng4:Jd 0 4=some [0,1,2,3]:=by decide +kernel
abbrev nm4:List Str:=["state","way","from","mark"]
theorem n40:atI nm4 0=some ("state" : Str):=Ee (j:=0) rfl
theorem n41:atI nm4 1=some ("way" : Str):=Ee (j:=1) rfl
theorem n42:atI nm4 2=some ("from" : Str):=Ee (j:=2) rfl
theorem n43:atI nm4 3=some ("mark" : Str):=Ee (j:=3) rfl
theorem sort_ok (p:Str)(r:List Str):CK (S:=Int) (ρ:=D) (fun (k_:Int) s65 =>
     ((atI (p::r) 0).bind fun t86=>(atI [("state" : Str),("way" : Str),("from" : Str),("mark" : Str)] k_).bind fun t87=>(some (decide (t86=t87)))).bind fun b88=>cond b88
      (some (Fl.nx k_))
      (some (Fl.nx s65))) [0,1,2,3] (-1)=some (.nx (DI p)):=by
 unfold DI;simp only [CK,at0,n40,n41,n42,n43,AA];generalize decide (p = "state")=b0;generalize decide (p = "way")=b1;generalize decide (p = "from")=b2;generalize decide (p = "mark")=b3;cases b0<;>cases b1<;>cases b2<;>cases b3<;>rfl
theorem IK {row:Str}{p:Str}{r:List Str}{s:TD4}{l:Int}(h:FD row " " = some (p::r)):J5 row (s,l)=cond (decide (DI p<l)) (some (.rt .non)) ((Ad (p::r) (DI p)).bind fun told=>cond (F6 told) (some (.rt .non)) ((Ih s (DI p) told).bind fun z=>some (.nx (z,DI p)))):=by
 unfold J5;simp only [AA];rw [h,AA,rng4,AA,sort_ok,AA]
 rfl
theorem OW:DI "state" = 0:=by decide +kernel
theorem sort_way:DI "way" = 1:=by decide +kernel
theorem QV:DI "from" = 2:=by decide +kernel
theorem QJ:DI "mark" = 3:=by decide +kernel
def p1 (s:TD4)(x:Str):TD4:=T4.mk (s.a++[.str x]) s.b s.c s.d
def p2 (s:TD4)(x:Int × Int):TD4:=T4.mk s.a (s.b++[toP x]) s.c s.d
def p3 (s:TD4)(x:Int):TD4:=T4.mk s.a s.b (s.c++[.int x]) s.d
def p4 (s:TD4)(x:List Int):TD4:=T4.mk s.a s.b s.c (s.d++[toL x])
def sz4 (s:TD4):Nat:=s.a.length+s.b.length+s.c.length+s.d.length
theorem put0 {s:TD4}{d:D}(h:s.a.length<=5000):Ih s 0 d=some (T4.mk (s.a++[d]) s.b s.c s.d):=by
 unfold Ih;rw [if_pos rfl,Cn h,AA]
theorem put1 {s:TD4}{d:D}(h:s.b.length<=5000):Ih s 1 d=some (T4.mk s.a (s.b++[d]) s.c s.d):=by
 unfold Ih;rw [if_neg (by decide),if_pos rfl,Cn h,AA]
theorem put2 {s:TD4}{d:D}(h:s.c.length<=5000):Ih s 2 d=some (T4.mk s.a s.b (s.c++[d]) s.d):=by
 unfold Ih;rw [if_neg (by decide),if_neg (by decide),if_pos rfl,Cn h,AA]
theorem put3 {s:TD4}{d:D}(h:s.d.length<=5000):Ih s 3 d=some (T4.mk s.a s.b s.c (s.d++[d])):=by
 unfold Ih;rw [if_neg (by decide),if_neg (by decide),if_neg (by decide),if_pos rfl,Cn h,AA]
theorem KF {l:List Int}{m:Nat}(hm:m<=24)(h:∀ k∈l,In m k):Bt (fun (CN:Str)=>Ae CN) (l.map nm)=some (l.map some):=by
 induction l with
 | nil=>rfl
 | cons k l ih =>
  have e1:=(Jr (h k qqA) hm).1;have e2:=ih fun x hx=>h x (qrA _ hx);show ((Ae (nm k)).bind fun b=>(Bt _ (l.map nm)).bind fun bs=>some (b::bs))=_;rw [e1,AA,e2,AA]
  rfl
theorem memE_t {α:Type}[DecidableEq α]{a:α}{l:List α}(h:memE a l=true):a∈l:=of_decide_eq_true h
theorem memE_f {α:Type}[DecidableEq α]{a:α}{l:List α}(h:memE a l=false):a ∉ l:=of_decide_eq_false h
theorem Iv (l:List Int):memE none (l.map some)=false:=by
 rw [Bool.eq_false_iff];intro h;obtain ⟨x,_,e⟩:=qnA.mp (memE_t h);cases e
theorem ro1 {x:Str}(h:Mom x):Ad (rw1 x) 0=some (.str x):=by
 unfold Ad rw1;simp only [qmB,AA,Aa,at1,mof_mo h]
 rfl
theorem NO (l:List Int):(ToD.to (l.map some):D)=toL l:=by
 show D.lst ((l.map some).map _)=_;rw [List.map_map]
 rfl
theorem ro2 {m:Nat}(hm:m<=24){x:Int × Int}(h:In m x.1/\In m x.2):Ad (rw2 x) 1=some (toP x):=by
 have e:Bt (fun (CN:Str)=>Ae CN) [nm x.1,nm x.2]=some [some x.1,some x.2]:=KF (l:=[x.1,x.2]) hm fun k hk=>by
  rcases qmA.mp hk with rfl|hk
  ·exact h.1
  ·rw [qpA.mp hk];exact h.2
 have e2:memE none [some x.1,some x.2]=false:=Iv [x.1,x.2];refine OK.eq ?_;unfold Ad rw2;simp only [qmB,AA,Aa,ON,e,e2];exact E2 (by decide) (E2 rfl (KY (by decide) (KY (decide_eq_true rfl) (A9 rfl))))
theorem ro3 {m:Nat}(hm:m<=24){x:Int}(h:In m x):Ad (rw3 x) 2=some (.int x):=by
 have e:Bt (fun (CN:Str)=>Ae CN) [nm x]=some [some x]:=KF (l:=[x]) hm fun k hk=>by rw [qpA.mp hk];exact h
 have e2:memE none [some x]=false:=Iv [x];refine OK.eq ?_;unfold Ad rw3;simp only [qmB,AA,Aa,ON,e,e2];exact E2 (by decide) (E2 rfl (E2 (by decide) (KY (by decide) (KY (decide_eq_true rfl) (A9 rfl)))))
theorem ro4 {m:Nat}(hm:m<=24){x:List Int}(h:∀ k∈x,In m k):Ad (rw4 x) 3=some (toL x):=by
 refine OK.eq ?_;unfold Ad rw4;simp only [qmB,AA,Aa,ON,KF hm h,Iv];exact E2 (by decide) (E2 rfl (E2 (by decide) (E2 (by decide) (A9 (NO x)))))
theorem lf1 {M:Mac}(g:Gd M){x:Str}(hx:x∈M.a){s:TD4}{l:Int}(hl:l<=0)(hz:sz4 s<=1000):J5 (jn (rw1 x)) (s,l)=some (.nx (p1 s x,0)):=by
 unfold sz4 at hz;refine (IK (p := "state") (r:=[mo x]) (Ju (wr1 g hx))).trans ?_;rw [OW,decide_eq_false (by omega),cond_false];show (Ad (rw1 x) 0).bind _=_;rw [ro1 (g.am x hx),AA,put0 (by omega)]
 rfl
theorem lf2 {M:Mac}(g:Gd M){x:Int × Int}(hx:x∈M.b){s:TD4}{l:Int}(hl:l<=1)(hz:sz4 s<=1000):J5 (jn (rw2 x)) (s,l)=some (.nx (p2 s x,1)):=by
 unfold sz4 at hz;have a8:=g.a8;refine (IK (p := "way") (r:=[nm x.1,nm x.2]) (Ju (wr2 g hx))).trans ?_;rw [sort_way,decide_eq_false (by omega),cond_false];show (Ad (rw2 x) 1).bind _=_;rw [ro2 (by omega) (g.bm x hx),AA,put1 (by omega)]
 rfl
theorem lf3 {M:Mac}(g:Gd M){x:Int}(hx:x∈M.c){s:TD4}{l:Int}(hl:l<=2)(hz:sz4 s<=1000):J5 (jn (rw3 x)) (s,l)=some (.nx (p3 s x,2)):=by
 unfold sz4 at hz;have a8:=g.a8;refine (IK (p := "from") (r:=[nm x]) (Ju (wr3 g hx))).trans ?_;rw [QV,decide_eq_false (by omega),cond_false];show (Ad (rw3 x) 2).bind _=_;rw [ro3 (by omega) (g.cm x hx),AA,put2 (by omega)]
 rfl
theorem lf4 {M:Mac}(g:Gd M){x:List Int}(hx:x∈M.d){s:TD4}{l:Int}(hl:l<=3)(hz:sz4 s<=1000):J5 (jn (rw4 x)) (s,l)=some (.nx (p4 s x,3)):=by
 unfold sz4 at hz;refine (IK (p := "mark") (r:=x.map nm) (Ju (wr4 g hx))).trans ?_;rw [QJ,decide_eq_false (by omega),cond_false];show (Ad (rw4 x) 3).bind _=_;rw [ro4 g.b24 (g.dm x hx),AA,put3 (by omega)]
 rfl
theorem Hy {β:Type}{g:β->Str}{put:TD4->β->TD4}{k:Int}(pz:∀ s x,sz4 (put s x)=sz4 s+1):∀ (xs:List β) (s:TD4) (l:Int),(∀ x∈xs,∀ s l,l<=k->sz4 s<=1000->J5 (g x) (s,l)=some (.nx (put s x,k)))->l<=k->sz4 s+xs.length<=1000->∃ l',l'<=k/\CK J5 (xs.map g) (s,l)=some (.nx (xs.foldl put s,l'))
 | [],s,l,_,hl,_=>⟨l,hl,rfl⟩
 | x::xs,s,l,h,hl,hz=>by
  rw [qgA] at hz;obtain ⟨l',h1,h2⟩:=Hy pz xs (put s x) k (fun y hy=>h y (qrA _ hy)) (Int.le_refl _) (by rw [pz];omega);refine ⟨l',h1,?_⟩;show (J5 (g x) (s,l)).bind _=_;rw [h x qqA s l hl (by omega),AA];exact h2
theorem fo1:∀ (xs:List Str) (s:TD4),xs.foldl p1 s=T4.mk (s.a++xs.map D.str) s.b s.c s.d
 | [],s=>by rw [List.map_nil,qbB];rfl
 | x::xs,s=>by
  rw [qcC,fo1 xs];unfold p1;rw [qaB]
  rfl
theorem fo2:∀ (xs:List (Int × Int)) (s:TD4),xs.foldl p2 s=T4.mk s.a (s.b++xs.map toP) s.c s.d
 | [],s=>by rw [List.map_nil,qbB];rfl
 | x::xs,s=>by
  rw [qcC,fo2 xs];unfold p2;rw [qaB]
  rfl
theorem fo3:∀ (xs:List Int) (s:TD4),xs.foldl p3 s=T4.mk s.a s.b (s.c++xs.map D.int) s.d
 | [],s=>by rw [List.map_nil,qbB];rfl
 | x::xs,s=>by
  rw [qcC,fo3 xs];unfold p3;rw [qaB]
  rfl
theorem fo4:∀ (xs:List (List Int)) (s:TD4),xs.foldl p4 s=T4.mk s.a s.b s.c (s.d++xs.map toL)
 | [],s=>by rw [List.map_nil,qbB];rfl
 | x::xs,s=>by
  rw [qcC,fo4 xs];unfold p4;rw [qaB]
  rfl
theorem Mq (a:Str)(s t:TD4 × Int):J5 a s≠some (.bk t):=fun e=>by
 unfold J5 at e;obtain ⟨_,_,e⟩:=qaA.mp e;obtain ⟨_,_,e⟩:=qaA.mp e;obtain ⟨_,_,e⟩:=qaA.mp e;obtain ⟨fl,_,e⟩:=qaA.mp e
 cases fl with
 | nx s65 =>
  obtain ⟨b,_,e⟩:=qaA.mp e
  cases b with
  | true=>cases e
  | false =>
   obtain ⟨_,_,e⟩:=qaA.mp e;obtain ⟨b,_,e⟩:=qaA.mp e
   cases b with
   | true=>cases e
   | false =>
    obtain ⟨_,_,e⟩:=qaA.mp e;cases e
 | rt r=>cases e
 | bk r=>cases e
def TM (M:Mac):TD4:=T4.mk (M.a.map D.str) (M.b.map toP) (M.c.map D.int) (M.d.map toL)
theorem toD_T4 (s:TD4):(ToD.to s:D) = .tup [.lst s.a,.lst s.b,.lst s.c,.lst s.d]:=by
 show D.tup [.lst (s.a.map fun d=>d),.lst (s.b.map fun d=>d),.lst (s.c.map fun d=>d),.lst (s.d.map fun d=>d)]=_;simp only [List.map_id']
theorem law_ok {M:Mac}(g:Gd M):BD (txt M)=some (toM M):=by
 have c8:=few g.cn g.cm;have a8:=g.a8;have b24:=g.b24;have d3:=g.d3;rw [M3,On g,AA]
 have er:(rows M).map jn=M.a.map (fun x=>jn (rw1 x))++(M.b.map (fun x=>jn (rw2 x))++(M.c.map (fun x=>jn (rw3 x))++M.d.map (fun x=>jn (rw4 x)))):=by
  unfold rows;simp only [qzA,List.map_map]
  rfl
 obtain ⟨l1,k1,e1⟩:=Hy (put:=p1) (g:=fun x=>jn (rw1 x)) (k:=0) (fun s x=>by unfold p1 sz4;simp only [qfA,qhA];omega) M.a (T4.mk [] [] [] []) 0 (fun x hx s l hl hz=>lf1 g hx hl hz) (Int.le_refl _) (by show 0+0+0+0+_<=_;omega);obtain ⟨l2,k2,e2⟩:=Hy (put:=p2) (g:=fun x=>jn (rw2 x)) (k:=1) (fun s x=>by unfold p2 sz4;simp only [qfA,qhA];omega) M.b (M.a.foldl p1 (T4.mk [] [] [] [])) l1 (fun x hx s l hl hz=>lf2 g hx hl hz) (by omega) (by rw [fo1];unfold sz4;simp only [qfA,qeA,List.length_nil];omega);obtain ⟨l3,k3,e3⟩:=Hy (put:=p3) (g:=fun x=>jn (rw3 x)) (k:=2) (fun s x=>by unfold p3 sz4;simp only [qfA,qhA];omega) M.c (M.b.foldl p2 (M.a.foldl p1 (T4.mk [] [] [] []))) l2 (fun x hx s l hl hz=>lf3 g hx hl hz) (by omega) (by rw [fo2,fo1];unfold sz4;simp only [qfA,qeA,List.length_nil];omega);obtain ⟨l4,k4,e4⟩:=Hy (put:=p4) (g:=fun x=>jn (rw4 x)) (k:=3) (fun s x=>by unfold p4 sz4;simp only [qfA,qhA];omega) M.d (M.c.foldl p3 (M.b.foldl p2 (M.a.foldl p1 (T4.mk [] [] [] [])))) l3 (fun x hx s l hl hz=>lf4 g hx hl hz) (by omega) (by rw [fo3,fo2,fo1];unfold sz4;simp only [qfA,qeA,List.length_nil];omega)
 have ef:M.d.foldl p4 (M.c.foldl p3 (M.b.foldl p2 (M.a.foldl p1 (T4.mk [] [] [] []))))=TM M:=by
  rw [fo4,fo3,fo2,fo1]
  rfl
 rw [er,Fk Mq e1,Fk Mq e2,Fk Mq e3,e4,AA];show (Av (ToD.to (M.d.foldl p4 _))).bind (fun t166=>cond t166 (some (ToD.to (M.d.foldl p4 _))) (some (ToD.to ())))=_;rw [ef,toD_T4];show (Av (toM M)).bind _=_;rw [g_mach g,AA]
 rfl
theorem JL:∀ (ws:List Str),∃ rs:List (Option Int),Bt (fun (CN:Str)=>Ae CN) ws=some rs/\(none ∉ rs->∃ ns:List Int,rs=ns.map some/\ws=ns.map nm/\∀ w∈ws,1<=w.length)
 | []=>⟨[],rfl,fun _=>⟨[],rfl,rfl,fun w hw=>nomatch hw⟩⟩
 | w::ws=>by
  obtain ⟨r,h1,h2⟩:=OH w;obtain ⟨rs,h3,h4⟩:=JL ws;refine ⟨r::rs,?_,fun hn=>?_⟩
  ·show ((Ae w).bind fun b=>(Bt _ ws).bind fun bs=>some (b::bs))=_;rw [h1,AA,h3,AA]
  ·obtain ⟨ns,rfl,e2,e3⟩:=h4 fun z=>hn (qrA _ z)
   cases r with
   | none=>exact absurd qqA hn
   | some n =>
    obtain ⟨g1,g2⟩:=h2 n rfl;refine ⟨n::ns,rfl,by rw [qyA,<- g2,<- e2],fun x hx=>?_⟩;rcases qmA.mp hx with rfl|hx
    ·exact g1
    ·exact e3 x hx
def RowR (p:Str)(r:List Str)(k:Int)(d:D):Prop:=F6 d=true\/(k=0/\∃ x,Mom x/\r=[mo x]/\d = .str x)\/(k=1/\∃ q:Int × Int,r=[nm q.1,nm q.2]/\d=toP q)\/(k=2/\∃ n,r=[nm n]/\d = .int n)\/(k=3/\∃ ns:List Int,r=ns.map nm/\d=toL ns/\∀ w∈r,1<=w.length)
theorem row_any {p:Str}{r:List Str}{k:Int}(hk:0<=k/\k<=3):OK (Ad (p::r) k) (RowR p r k):=by
 unfold Ad;simp only [qmB,AA,Aa,ON];refine AM (fun h0=>?_) fun h0=>?_
 ·refine AM (fun h2=>?_) fun _=>A9 (.inl rfl);have h2:=of_decide_eq_true h2
  obtain ⟨x,rfl⟩:∃ x,r=[x]:=by
   match r,h2 with
   | [],h=>simp at h
   | [x],_=>exact ⟨x,rfl⟩
   | x::y::r,h=>simp at h;omega
  rw [at1,AA];refine C9 (mof_any x) fun z hz=>A9 ?_
  cases z with
  | none=>exact .inl rfl
  | some z =>
   obtain ⟨g1,g2⟩:=hz z rfl;exact .inr (.inl ⟨of_decide_eq_true h0,z,g1,by rw [g2],rfl⟩)
 ·obtain ⟨rs,e,ke⟩:=JL r;rw [e,AA];refine AM (fun _=>A9 (.inl rfl)) fun hm=>?_;obtain ⟨ns,rfl,rfl,h1⟩:=ke (memE_f hm);refine AM (fun hk1=>?_) fun hk1=>AM (fun hk2=>?_) fun hk2=>A9 (.inr (.inr (.inr (.inr ⟨?_,ns,rfl,NO ns,h1⟩))))
  ·refine AM (fun h2=>?_) fun _=>A9 (.inl rfl);have h2:=of_decide_eq_true h2;rw [qeA] at h2
   obtain ⟨a,b,rfl⟩:∃ a b,ns=[a,b]:=by
    match ns,h2 with
    | [],h=>simp at h
    | [x],h=>simp at h
    | [x,y],_=>exact ⟨x,y,rfl⟩
    | x::y::z::r,h=>simp at h;omega
   exact A9 (.inr (.inr (.inl ⟨of_decide_eq_true hk1,(a,b),rfl,rfl⟩)))
  ·refine AM (fun h2=>?_) fun _=>A9 (.inl rfl);have h2:=of_decide_eq_true h2;rw [qeA] at h2
   obtain ⟨a,rfl⟩:∃ a,ns=[a]:=by
    match ns,h2 with
    | [],h=>simp at h
    | [x],_=>exact ⟨x,rfl⟩
    | x::y::r,h=>simp at h;omega
   exact A9 (.inr (.inr (.inr (.inl ⟨of_decide_eq_true hk2,a,rfl,rfl⟩))))
  ·have:=of_decide_eq_false h0;have:=of_decide_eq_false hk1;have:=of_decide_eq_false hk2;omega
theorem sortN_le (p:Str):-1<=DI p/\DI p<=3:=by
 unfold DI;generalize decide (p = "state")=b0;generalize decide (p = "way")=b1;generalize decide (p = "from")=b2;generalize decide (p = "mark")=b3;cases b0<;>cases b1<;>cases b2<;>cases b3<;>decide
theorem sortN_of {p:Str}:(DI p=0->p = "state")/\(DI p=1->p = "way")/\(DI p=2->p = "from")/\(DI p=3->p = "mark"):=by
 unfold DI;have g3:decide (p = "mark")=true->p = "mark" := of_decide_eq_true;have g2:decide (p = "from")=true->p = "from" := of_decide_eq_true;have g1:decide (p = "way")=true->p = "way" := of_decide_eq_true;have g0:decide (p = "state")=true->p = "state" := of_decide_eq_true;generalize decide (p = "state")=b0 at g0 ⊢;generalize decide (p = "way")=b1 at g1 ⊢;generalize decide (p = "from")=b2 at g2 ⊢;generalize decide (p = "mark")=b3 at g3 ⊢;refine ⟨fun h=>g0 ?_,fun h=>g1 ?_,fun h=>g2 ?_,fun h=>g3 ?_⟩<;>clear g0 g1 g2 g3<;>revert h<;>cases b0<;>cases b1<;>cases b2<;>cases b3<;>decide
structure LI (R:List Str)(i:Nat)(s:TD4 × Int)(M:Mac):Prop where
 es:s.1=TM M
 er:R.take i=(rows M).map jn
 l0:0<=s.2
 l1:s.2<1->M.b=[]
 l2:s.2<2->M.c=[]
 l3:s.2<3->M.d=[]
 dm:∀ l∈M.d,l.length<4000
theorem LI.len {R:List Str}{i:Nat}{s:TD4 × Int}{M:Mac}(I:LI R i s M):M.a.length+(M.b.length+(M.c.length+M.d.length))<=i:=by
 have:=congrArg List.length I.er;unfold rows at this;simp only [qfA,qeA,qjA] at this;omega
theorem law_step {R:List Str}{i:Nat}{a:Str}{s:TD4 × Int}{M:Mac}(I:LI R i s M)(hi:i<=3600)(ha:R[i]? = some a)(hs:a.length<=7000):OK (J5 a s) fun fl=>fl = .rt .non\/∃ s' M',fl = .nx s'/\LI R (i+1) s' M':=by
 obtain ⟨w,ws,hw⟩:=List.exists_cons_of_ne_nil (Kq a " ");have hsp:FD a " " = some (w::ws):=by rw [IN (by rw [Di];decide) (by omega),hw]
 have ej:=row_jn hw;obtain ⟨s1,l⟩:=s;have hl:=I.len;obtain ⟨es,er,l0,l1,l2,l3,dm⟩:=I;dsimp only at es l0 l1 l2 l3;subst es;rw [IK hsp];refine AM (fun _=>A9 (.inl rfl)) fun h=>?_;have h:=of_decide_eq_false h;have hb:=sortN_le w;obtain ⟨k0,k1,k2,k3⟩:=sortN_of (p:=w);generalize DI w=k at h hb k0 k1 k2 k3;have et:R.take (i+1)=(rows M).map jn++[a]:=by rw [List.take_add_one,ha,er];rfl
 refine C9 (row_any (by omega)) fun d hd=>AM (fun _=>A9 (.inl rfl)) fun hn=>?_;rcases hd with hd | ⟨rfl,x,hx,rfl,rfl⟩ | ⟨rfl,q,rfl,rfl⟩ | ⟨rfl,n,rfl,rfl⟩ | ⟨rfl,ns,rfl,rfl,hn1⟩
 ·rw [hd] at hn;cases hn
 ·have b0:=l1 (by omega);have c0:=l2 (by omega);have d0:=l3 (by omega);have e1:=k0 rfl;subst e1;rw [put0 (by show (M.a.map D.str).length<=_;rw [qeA];omega),AA];refine A9 (.inr ⟨_,T4.mk (M.a++[x]) M.b M.c M.d,rfl,⟨?_,?_,Int.le_refl _,fun _=>b0,fun _=>c0,fun _=>d0,dm⟩⟩)
  ·unfold TM;simp only [qzA,qyA,List.map_nil]
  ·rw [et,ej];unfold rows;simp only [b0,c0,d0,qzA,qyA,List.map_nil,qbB]
   rfl
 ·have c0:=l2 (by omega);have d0:=l3 (by omega);have e1:=k1 rfl;subst e1;rw [put1 (by show (M.b.map toP).length<=_;rw [qeA];omega),AA];refine A9 (.inr ⟨_,T4.mk M.a (M.b++[q]) M.c M.d,rfl,⟨?_,?_,(by decide:(0:Int)<=1),fun h=>absurd h (by show ¬ (1:Int)<1;decide),fun _=>c0,fun _=>d0,dm⟩⟩)
  ·unfold TM;simp only [qzA,qyA,List.map_nil]
  ·rw [et,ej];unfold rows;simp only [c0,d0,qzA,qyA,List.map_nil,qbB,qaB]
   rfl
 ·have d0:=l3 (by omega);have e1:=k2 rfl;subst e1;rw [put2 (by show (M.c.map D.int).length<=_;rw [qeA];omega),AA];refine A9 (.inr ⟨_,T4.mk M.a M.b (M.c++[n]) M.d,rfl,⟨?_,?_,(by decide:(0:Int)<=2),fun h=>absurd h (by show ¬ (2:Int)<1;decide),fun h=>absurd h (by show ¬ (2:Int)<2;decide),fun _=>d0,dm⟩⟩)
  ·unfold TM;simp only [qzA,qyA,List.map_nil]
  ·rw [et,ej];unfold rows;simp only [d0,qzA,qyA,List.map_nil,qbB,qaB]
   rfl
 ·have e1:=k3 rfl;subst e1;have hf:=LK hw hn1 (by omega);rw [qeA] at hf;rw [put3 (by show (M.d.map toL).length<=_;rw [qeA];omega),AA];refine A9 (.inr ⟨_,T4.mk M.a M.b M.c (M.d++[ns]),rfl,⟨?_,?_,(by decide:(0:Int)<=3),fun h=>absurd h (by show ¬ (3:Int)<1;decide),fun h=>absurd h (by show ¬ (3:Int)<2;decide),fun h=>absurd h (by show ¬ (3:Int)<3;decide),fun l hl=>?_⟩⟩)
  ·unfold TM;simp only [qzA,qyA,List.map_nil]
  ·rw [et,ej];unfold rows;simp only [qzA,qyA,List.map_nil,qaB]
   rfl
  ·rcases qkA.mp hl with q|q
   ·exact dm l q
   ·rw [qpA.mp q];omega
theorem law_any {t:Str}(ht:t.length<=7000):BD t=some .non\/∃ M,Gd M/\t=txt M/\BD t=some (toM M):=by
 have key:OK (BD t) fun r=>r = .non\/∃ M,Gd M/\t=txt M/\r=toM M:=by
  rw [M3,IN (by rw [Fa];decide) (by omega),AA];have hr:=NP ht;have h0:∃ M,LI (Txt.split t "; ") 0 (T4.mk [] [] [] [],0) M:=⟨T4.mk [] [] [] [],rfl,rfl,Int.le_refl _,fun _=>rfl,fun _=>rfl,fun _=>rfl,fun l hl=>nomatch hl⟩;refine AC (Ke (fun i (s:TD4 × Int)=>∃ M,LI (Txt.split t "; ") i s M) (fun _=>False) (fun (r:D)=>r = .non) h0 (fun i a s ha ⟨M,I⟩=>?_) (fun s ⟨M,I⟩=>?_) (fun _ h=>h.elim) fun r hr=>A9 (.inl hr))
  ·have hi:=(quA.mp ha).1;have hs:=LO (qtA ha);refine (law_step I (by omega) ha (by omega)).mono fun fl h=>?_;rcases h with rfl | ⟨s',M',rfl,I'⟩
   ·rfl
   ·exact ⟨M',I'⟩
  ·have hl:=I.len
   have e:(ToD.to s.1:D)=toM M:=by
    rw [toD_T4,I.es]
    rfl
   show OK ((Av (ToD.to s.1)).bind _) _;rw [e];obtain ⟨r,e1,k⟩:=NH M.a (M.b.map fun p=>[p.1,p.2]) M.c M.d (by omega) I.dm;rw [toM_R4] at e1;rw [e1,AA]
   cases r with
   | false=>exact A9 (.inl rfl)
   | true =>
    obtain ⟨N,g,ea,eb,ec,ed⟩:=k rfl
    have en:M=N:=by
     have:M.b=N.b:=by
      have:=congrArg (List.map fun l:List Int=>(l.getD 0 0,l.getD 1 0)) eb;rw [List.map_map,List.map_map] at this;have e2:∀ l:List (Int × Int),List.map ((fun l:List Int=>(l.getD 0 0,l.getD 1 0))∘fun p:Int × Int=>[p.1,p.2]) l=l:=fun l=>(List.map_congr_left fun x _=>rfl).trans (List.map_id l)
      rwa [e2,e2] at this
     obtain ⟨ma,mb,mc,md⟩:=M;obtain ⟨na,nb,nc,nd⟩:=N;dsimp only at ea this ec ed;subst ea this ec ed
     rfl
    subst en;refine A9 (.inr ⟨M,g,?_,rfl⟩);have er:=I.er;rw [List.take_of_length_le (qcB _)] at er;unfold txt;rw [<- er];exact (StrLaws.join_split t "; ").symm
 obtain ⟨r,h1,h2⟩:=key;rcases h2 with rfl | ⟨M,g,e,rfl⟩
 ·exact .inl h1
 ·exact .inr ⟨M,g,e,h1⟩
theorem sr_nat (a b:Nat):sliceRange (a:Int) (b:Int) 1=(List.range (b - a)).map fun i=>a+i:=by
 unfold sliceRange
 have e:((if (1:Int) > 0 then (if (a:Int)<(b:Int) then ((b:Int) - a+1 - 1) / 1 else 0) else (if (a:Int) > b then ((a:Int) - b - 1 - 1) / (-1) else 0)):Int).toNat=b - a:=by
  rw [if_pos (by decide)];split
  ·rw [Int.ediv_one];omega
  ·omega
 show List.map _ (List.range _)=_;rw [e];refine List.map_congr_left fun k _=>?_;omega
theorem Np {x:Str}{l u:Option Int}{A B:Nat}(h:Builtin.Str.strSliceIndices l u 1 x.length=sliceRange (A:Int) (B:Int) 1)(hB:B<=x.length)(hA:A<=x.length):(Txt.slice x l u).cps.toList=(x.cps.toList.drop A).take (B - A):=by
 have hL:x.cps.toList.length=x.length:=qwB;rw [sr_nat] at h;unfold Txt.slice;rw [h];split
 ·rename_i e;rw [qeA,qiA] at e;have e:B - A=x.length:=by simpa using e
  have hA0:A=0:=by omega
  rw [hA0,List.drop_zero,List.take_of_length_le (by omega)]
 ·show (List.filterMap _ _).toArray.toList=_;rw [List.toList_toArray,<- StrLaws.picks x.cps.toList (B - A) A (by omega)]
  congr 1
  funext i
  exact (Array.getElem?_toList ..).symm
theorem Nc (i n:Nat):max (0:Int) (min (if (i:Int)<0 then (i:Int)+(n:Int) else (i:Int)) (n:Int))=((min i n:Nat):Int):=by
 rw [if_neg (by omega)];omega
theorem sl_to (x:Str)(k:Nat):(Txt.slice x none (some (k:Int))).cps.toList=x.cps.toList.take k:=by
 have hL:x.cps.toList.length=x.length:=qwB
 have e:Builtin.Str.strSliceIndices none (some (k:Int)) 1 x.length=sliceRange ((0:Nat):Int) ((min k x.length:Nat):Int) 1:=by
  unfold Builtin.Str.strSliceIndices;simp only [show (1:Int) > 0 by decide,if_true,Nc]
  rfl
 rw [Np e (by omega) (by omega),List.drop_zero,Nat.sub_zero];by_cases h:k<=x.length
 ·rw [Nat.min_eq_left h]
 ·rw [Nat.min_eq_right (by omega),List.take_of_length_le (by omega),List.take_of_length_le (by omega)]
theorem sl_from (x:Str)(k:Nat):(Txt.slice x (some (k:Int)) none).cps.toList=x.cps.toList.drop k:=by
 have hL:x.cps.toList.length=x.length:=qwB
 have e:Builtin.Str.strSliceIndices (some (k:Int)) none 1 x.length=sliceRange ((min k x.length:Nat):Int) ((x.length:Nat):Int) 1:=by
  unfold Builtin.Str.strSliceIndices;simp only [show (1:Int) > 0 by decide,if_true,Nc]
 rw [Np e (by omega) (by omega)];by_cases h:k<=x.length
 ·rw [Nat.min_eq_left h,List.take_of_length_le (by rw [List.length_drop];omega)]
 ·rw [Nat.min_eq_right (by omega),List.drop_of_length_le (by omega),List.drop_of_length_le (by omega),List.take_nil]
theorem to_len (t:Str)(k:Nat):(Txt.slice t none (some (k:Int))).length<=t.length:=by
 have h:=congrArg List.length (sl_to t k);rw [qwB,qjA,qwB] at h;show (Txt.slice t none (some (k:Int))).cps.size<=t.cps.size;omega
theorem NR (t:Str)(k:Nat):(Txt.slice t (some (k:Int)) none).length<=t.length:=by
 have h:=congrArg List.length (sl_from t k);rw [qwB,List.length_drop,qwB] at h;show (Txt.slice t (some (k:Int)) none).cps.size<=t.cps.size;omega
theorem sums_sub {a b:List Str}(h:a.Sublist b):(a.map (·.length)).sum+2 * a.length<=(b.map (·.length)).sum+2 * b.length:=by
 induction h with
 | slnil=>exact qcB _
 | cons x h ih =>
  simp only [qyA,List.sum_cons,qgA];omega
 | cons_cons x h ih =>
  simp only [qyA,List.sum_cons,qgA];omega
theorem cut_to (l:List Str)(h:Nat):E3 l none (some (h:Int))=l.take h:=by
 unfold E3;rw [HT.sIx_nat,show HT.sIx l.length 0 none=0 from rfl,List.drop_zero,Nat.sub_zero];exact List.take_eq_take_iff.mpr (by omega)
theorem KT (l:List Str)(h:Nat):E3 l (some (h:Int)) none=l.drop h:=by
 unfold E3;rw [HT.sIx_nat,show HT.sIx l.length l.length none=l.length from rfl,List.take_of_length_le (by rw [List.length_drop];omega)];by_cases hh:h<=l.length
 ·rw [Nat.min_eq_left hh]
 ·rw [Nat.min_eq_right (by omega),List.drop_length,List.drop_eq_nil_of_le (by omega)]
theorem Mt (l:List Str)(h k:Nat):(E3 l (some (h:Int)) (some (k:Int))).Sublist (l.drop h)/\(E3 l (some (h:Int)) (some (k:Int))).Sublist (l.take k):=by
 unfold E3;rw [HT.sIx_nat,HT.sIx_nat];refine ⟨(List.take_sublist ..).trans ?_,?_⟩
 ·by_cases hh:h<=l.length
  ·rw [Nat.min_eq_left hh];exact List.Sublist.refl _
  ·rw [Nat.min_eq_right (by omega),List.drop_length];exact List.nil_sublist _
 ·rw [<- List.drop_take];refine (List.drop_sublist ..).trans ?_;rw [List.take_eq_take_iff.mpr (show min (min k l.length) l.length=min k l.length by omega)];exact List.Sublist.refl _
def wt (l:List Str):Nat:=(l.map (·.length)).sum+2 * l.length
theorem HZ (a b:List Str):wt (a++b)=wt a+wt b:=by
 unfold wt;rw [qzA,List.sum_append,qfA];omega
theorem KJ {a b:List Str}(h:a.Sublist b):wt a<=wt b:=sums_sub h
theorem wt_td (l:List Str)(h:Nat):wt (l.take h)+wt (l.drop h)=wt l:=by rw [<- HZ,List.take_append_drop]
theorem wt_spl {t:Str}:wt (Txt.split t "; ")=t.length+2:=by
 have h:=congrArg Str.length (StrLaws.join_split t "; ");unfold wt
 cases hs:Txt.split t "; " with
 | nil=>exact absurd hs (Kq _ _)
 | cons a l =>
  rw [hs,PyProof.Rows.len_join_cons,Fa] at h;rw [qgA];omega
theorem M9 {l:List Str}{n:Nat}(h:wt l<=n)(hn:n<=100000){P:Str->Prop}(hp:∀ u:Str,u.length<=n->P u):OK (D8 "; " l) P:=by
 unfold wt at h;refine ⟨_,IQ (by rw [Fa];omega),hp _ (qdB (StrLaws.join_length_le _ _) (by rw [Fa];omega))⟩
theorem wt_len (l:List Str):2 * l.length<=wt l:=by unfold wt;omega
theorem JE {a b:List Str}{n:Nat}(h:wt a+wt b<=n)(hn:n<=100000){P:List Str->Prop}(hp:wt (a++b)<=n->P (a++b)):OK (EB a b) P:=by
 have hs:sizeLine=16777216:=qkB;have h1:=wt_len a;have h2:=wt_len b;exact Jj (by omega) (hp (by rw [HZ];exact h))
theorem sg_len:("0123456789012345  ;;--aabzmsAZ+_/," : Str).cps.toList.length=34:=by decide +kernel
theorem add_len:∀ x∈[("; " : Str),(";" : Str),(" " : Str),("; mark" : Str),("; from 0" : Str),("; mark 0" : Str),("; state a" : Str)],x.length<=9:=by decide +kernel
theorem OP (t:Str)(c:Int)(ht:t.length<=30000){P:Str->Prop}(hp:∀ u:Str,u.length<=2 * t.length+10->P u):OK (CO t c) P:=by
 have hs:sizeLine=16777216:=qkB;unfold CO;simp only [qmB,AA,Aa];have s0:=qoB (c / 8) (b:=34) (by decide);have s1:=qpB (c / 8) (b:=34) (by decide);refine AC (Lr s0 (by rw [sg_len];omega) fun z _=>?_);have hz:(⟨#[z]⟩:Str).length=1:=rfl;generalize (⟨#[z]⟩:Str)=new at hz;refine AC (HU (by omega) ?_);have a0:=qoB (c / 272 * 48271 % 2147483647) (b:=(t.length:Int)+1) (by omega);generalize (c / 272 * 48271 % 2147483647) % ((t.length:Int)+1)=at_ at a0;obtain ⟨k,rfl⟩:=qnB a0;rw [IN (by rw [Fa];decide) (by omega),AA];have hw:=wt_spl (t:=t);have hne:=Kq t "; ";generalize Txt.split t "; " = rows at hw hne;have hlen:0<rows.length:=List.length_pos_iff.mpr hne;refine AC (HU (by omega) ?_);have h0:=qoB (k:Int) (b:=(rows.length:Int)) (by omega);generalize (k:Int) % (rows.length:Int)=here at h0;obtain ⟨h,rfl⟩:=qnB h0;have q1:((k:Int)+1)=((k+1:Nat):Int):=by omega
 have q2:((h:Int)+1)=((h+1:Nat):Int):=by omega
 have q3:((h:Int)+2)=((h+2:Nat):Int):=by omega
 rw [q1,q2,q3];have t1:=to_len t k;have t2:=NR t k;have t3:=NR t (k+1);have w1:=wt_td rows h;have w2:=wt_td rows (h+1);have w3:=KJ (Mt rows h (h+1)).1;have w4:=KJ (Mt rows h (h+1)).2;have w5:=KJ (Mt rows (h+1) (h+2)).1;have w6:wt (rows.drop (h+1))<=wt (rows.drop h):=KJ (by rw [<- List.drop_drop];exact List.drop_sublist ..);have w7:wt (rows.drop (h+2))<=wt (rows.drop h):=KJ (by rw [<- List.drop_drop];exact List.drop_sublist ..);have e1:=cut_to rows h;have e2:=KT rows h;have e3:=KT rows (h+1);have e4:=KT rows (h+2);refine AM (fun _=>?_) fun _=>AM (fun _=>?_) fun _=>AM (fun _=>?_) fun _=>AM (fun _=>?_) fun _=>AM (fun _=>?_) fun _=>AM (fun _=>?_) fun _=>AM (fun _=>?_) fun _=>A9 (hp _ (by omega))
 ·refine AC (Fj (by omega) (Fj (by rw [Str.length_append];omega) (hp _ (by rw [Str.length_append,Str.length_append];omega))))
 ·refine AC (Fj (by omega) (Fj (by rw [Str.length_append];omega) (hp _ (by rw [Str.length_append,Str.length_append];omega))))
 ·refine Fj (by omega) (hp _ (by rw [Str.length_append];omega))
 ·rw [e1,e4];refine AC (JE (n:=2 * t.length+4) (by omega) (by omega) fun g=>?_);rw [HZ] at g;refine AC (JE (n:=2 * t.length+4) (by rw [HZ];omega) (by omega) fun g2=>?_);refine AC (JE (n:=2 * t.length+4) (by rw [HZ,HZ];omega) (by omega) fun g3=>?_);exact M9 g3 (by omega) fun u hu=>hp u (by omega)
 ·rw [e1,e2];refine AC (JE (n:=2 * t.length+4) (by omega) (by omega) fun g=>?_);refine AC (JE (n:=2 * t.length+4) (by rw [HZ];omega) (by omega) fun g2=>?_);exact M9 g2 (by omega) fun u hu=>hp u (by omega)
 ·rw [e1,e3];exact AC (JE (n:=2 * t.length+4) (by omega) (by omega) fun h=>M9 h (by omega) fun u hu=>hp u (by omega))
 ·have m0:=qoB (c / 8) (b:=7) (by decide);have m1:=qpB (c / 8) (b:=7) (by decide);refine AC (Lr m0 (by show _<((7:Nat):Int);omega) fun x hx=>?_);have:=add_len x (qtA hx);exact Fj (by omega) (hp _ (by rw [Str.length_append];omega))
def Ltr (l:List Str):Prop:=∃ cs:List Nat,l=cs.map one/\cs.length=4/\cs.Nodup/\∀ c∈cs,c∈abcN
theorem abc_at (k:Int){P:Str->Prop}(hp:P (one (97+(k % 26).toNat))):OK ((atI ("abcdefghijklmnopqrstuvwxyz" : Str).cps.toList (k % 26)).bind fun z=>some (⟨#[z]⟩:Str)) P:=by
 have h0:=qoB k (b:=26) (by decide);have h1:=qpB k (b:=26) (by decide);rw [Oq];refine AC (Lr h0 (by unfold abcN;rw [List.length_range'];exact h1) fun z hz=>A9 ?_);unfold abcN at hz;rw [List.getElem?_range' (by omega)] at hz;have e:=qgB hz;have e2:z=97+(k % 26).toNat:=by omega
 rw [e2];exact hp
theorem abc_mem (k:Int):97+(k % 26).toNat∈abcN:=by
 have h1:=qpB k (b:=26) (by decide);have h0:=qoB k (b:=26) (by decide);unfold abcN;exact List.mem_range'_1.mpr ⟨by omega,by omega⟩
theorem map4 {f:Int->Option Str}{g:Int->Nat}(hf:∀ k,f k=some (one (g k)))(l:List Int):Bt f l=some ((l.map g).map one):=by
 refine OK.eq (Es (g:=fun k=>one (g k)) (fun k _=>hf k) ?_);rw [List.map_map]
 rfl
theorem OR (c:Int)(h0:0<=c){P:List Str->Prop}(hp:∀ l:List Str,Ltr l->P l):OK (CS c) P:=by
 unfold CS;simp only [qmB,AA,Aa];rw [map4 (g:=fun k=>97+(k % 26).toNat) fun k=>OK.eq (abc_at k rfl)];refine A9 (hp _ ⟨_,rfl,rfl,?_,fun x hx=>?_⟩)
 ·simp only [qyA,List.map_nil,List.nodup_cons,qmA,qyB,or_false,not_or,not_false_eq_true,List.nodup_nil,and_true];have a0:=qoB (c / 26) (b:=8) (by decide);have a1:=qpB (c / 26) (b:=8) (by decide);have b0:=qoB (c / 208) (b:=8) (by decide);have b1:=qpB (c / 208) (b:=8) (by decide);have d0:=qoB (c / 1664) (b:=9) (by decide);have d1:=qpB (c / 1664) (b:=9) (by decide);generalize c / 26 % 8=a at *;generalize c / 208 % 8=b at *;generalize c / 1664 % 9=d at *;omega
 ·obtain ⟨k,_,rfl⟩:=qnA.mp hx;exact abc_mem k
theorem srt_ex {cs:List Nat}(hn:cs.Nodup):∃ ds:List Nat,ds.Perm cs/\ds.Pairwise (· < ·):=by
 refine ⟨cs.mergeSort (fun a b=>decide (a<=b)),List.mergeSort_perm _ _,?_⟩;have h1:=List.pairwise_mergeSort (le:=fun a b:Nat=>decide (a<=b)) (fun a b c h1 h2=>by simp at *;omega) (fun a b=>by simp;omega) cs;have h2:(cs.mergeSort (fun a b=>decide (a<=b))).Nodup:=(List.mergeSort_perm cs _).nodup_iff.mpr hn;exact (h1.and (List.nodup_iff_pairwise_ne.mp h2)).imp fun ⟨a,b⟩=>by simp at a;omega
theorem lit_ok (letters:List Str)(hL:Ltr letters)(bits:Int):OK (DW letters bits) Mom:=by
 have hs:sizeLine=16777216:=qkB;obtain ⟨cs,rfl,h4,hn,hm⟩:=hL;obtain ⟨ds,dp,dw⟩:=srt_ex hn;unfold DW;simp only [qmB,AA,Aa];have hd:ds.length=4:=by rw [dp.length_eq,h4]
 have es:Kb (cs.map one)=ds.map one:=sortS_eq (dp.map one) (List.pairwise_map.mpr (dw.imp fun h=>leS_one (Nat.le_of_lt h)))
 have eo:P9 (cs.map one)=some (ds.map one):=by
  unfold P9;rw [if_pos (by rw [qeA];omega),es]
 rw [eo];refine AC (A9 (AC (Gq (fun i (s:Int × Str)=>s.2.cps.toList.Sublist (ds.take i)) (List.Sublist.refl _) (fun i a s ha hI=>?_) fun s hI=>A9 ?_)))
 ·rw [qxA] at ha;obtain ⟨c,hc,rfl⟩:=qfB.mp ha;have hi:=(quA.mp hc).1;have et:ds.take (i+1)=ds.take i++[c]:=by rw [List.take_add_one,hc];rfl
  have hlen:s.2.length<=4:=by
   have:=hI.length_le;rw [qjA,qwB] at this;show s.2.cps.size<=4;omega
  refine C9 (P:=fun z:Str=>z.cps.toList.Sublist (ds.take (i+1))) (AM (fun _=>Fj (by rw [one_len];omega) ?_) fun _=>A9 (by rw [et];exact hI.trans (List.sublist_append_left _ _))) fun z hz=>A9 ⟨_,rfl,hz⟩;show (s.2++one c).cps.toList.Sublist _;rw [et,show (s.2++one c).cps.toList=s.2.cps.toList++[c] from by show (s.2.cps++#[c]).toList=_;simp];exact hI.append (List.Sublist.refl _)
 ·rw [qeA,List.take_of_length_le (qcB _)] at hI
  have:ds=abcN.filter (fun c=>decide (c∈ds)):=pw_eq dw (abc_pw.sublist List.filter_sublist) fun x=>by
   rw [qoA];exact ⟨fun h=>⟨hm x (dp.mem_iff.mp h),decide_eq_true h⟩,fun h=>of_decide_eq_true h.2⟩
  exact hI.trans (this ▸ List.filter_sublist)
theorem M0 (c:Int)(m:Nat)(hm:m<=100){P:List Int->Prop}(hp:∀ l:List Int,l.Nodup->(∀ n∈l,In m n)->P l):OK (C2 c (m:Int)) P:=by
 have hs:sizeLine=16777216:=qkB;unfold C2;simp only [qmB,AA,Aa];refine AC (Hj (n:=m) (by omega) (by omega) (by omega) ?_);refine AC (Gq (fun i (s:Int × List Int)=>s.2.length<=i/\s.2.Nodup/\∀ n∈s.2,In i n) ⟨qcB _,List.nodup_nil,fun n hn=>(by cases hn)⟩ (fun i a s ha ⟨h1,h0,h2⟩=>?_) fun s ⟨h1,h0,h2⟩=>A9 (hp _ h0 fun n hn=>by rw [FQ] at h2;exact h2 n hn));obtain ⟨hi,rfl⟩:=OJ ha;have up:∀ n∈s.2,In (i+1) n:=fun n hn=>by have:=h2 n hn;unfold In at *;omega
 refine C9 (P:=fun z:List Int=>z.length<=i+1/\z.Nodup/\∀ n∈z,In (i+1) n) (AM (fun _=>PF (by omega) ⟨?_,?_,fun n hn=>?_⟩) fun _=>A9 ⟨by omega,h0,up⟩) fun z ⟨z1,z0,z2⟩=>A9 ⟨_,rfl,z1,z0,z2⟩
 ·rw [qfA,qhA];omega
 ·refine List.nodup_append.mpr ⟨h0,(by simp),fun a ha b hb=>?_⟩;rw [qpA.mp hb];have:=h2 a ha;unfold In at this;omega
 ·rcases qkA.mp hn with h|h
  ·exact up n h
  ·rw [qpA.mp h];unfold In;omega
theorem QT {l:List Int}{x:Int}(h:x∈(JO l).reverse):x∈l:=(List.mergeSort_perm l leZ).mem_iff.mp (List.mem_reverse.mp h)
theorem sortR_nd {l:List Int}(h:l.Nodup):(JO l).reverse.Nodup:=((List.reverse_perm _).trans (List.mergeSort_perm l leZ)).nodup_iff.mpr h
theorem Px (c:Int){P:Int->Prop}(hp:∀ m:Nat,1<=m->m<=8->P (m:Int)):OK (Cm c) P:=by
 unfold Cm;simp only [AA];have a0:=qoB c (b:=8) (by decide);have a1:=qpB c (b:=8) (by decide);have b0:=qoB c (b:=4) (by decide);have b1:=qpB c (b:=4) (by decide);refine AM (fun _=>A9 ?_) fun _=>A9 ?_
 ·have:=hp (1+c % 8).toNat (by omega) (by omega)
  rwa [Int.toNat_of_nonneg (by omega)] at this
 ·have:=hp (1+c % 4).toNat (by omega) (by omega)
  rwa [Int.toNat_of_nonneg (by omega)] at this
theorem Ko (c:Int){m:Nat}(h:1<=m):In m (c % (m:Int)):=⟨qoB _ (by omega),qpB _ (by omega)⟩
theorem OQ (s:Scr)(letters:List Str)(hL:Ltr letters){P:Mac->Prop}(hp:∀ M:Mac,Gd M->P M):OK (CQ s letters) P:=by
 have hs:sizeLine=16777216:=qkB;unfold CQ;simp only [qmB,AA,Aa];refine AC (Bw s 1 (by decide) (by decide) fun c1=>AC (Px c1 fun m m1 m8=>AC (Bw s 2 (by decide) (by decide) fun c2=>?_)));refine C9 (P:=fun z:Int=>1<=z) (AM (fun _=>ok_mul (.inl ⟨by omega,by omega⟩) ?_) fun _=>A9 (by omega)) fun most hmost=>?_
 ·have:(1:Int) * 1<=(m:Int) * (m:Int):=Int.mul_le_mul (by omega) (by omega) (by decide) (by omega);omega
 ·refine AC (Bw s 2 (by decide) (by decide) fun c2'=>?_);have hpos:(0:Int)<(if most<24 then most else 24)+1:=by split<;>omega
  have hle:(if most<24 then most else 24)+1<=(25:Int):=by split<;>omega
  refine AC (HU hpos ?_);have a0:=qoB c2' (b:=(if most<24 then most else 24)+1) (by omega);have a1:=qpB c2' hpos;obtain ⟨n,hn⟩:=qnB a0;rw [hn] at a1 ⊢;refine AC (Hj (n:=n) (by omega) (by omega) (by omega) ?_);refine AC (Gq (fun i (w:List (Int × Int))=>w.length<=i/\w.Nodup/\∀ p∈w,In m p.1/\In m p.2) ⟨qdC _,List.nodup_nil,fun p hp=>(by cases hp)⟩ (fun i a w ha ⟨hI,hN,hJ⟩=>?_) fun W ⟨hW,hN,hV⟩=>?_)
  ·obtain ⟨hi,rfl⟩:=OJ ha;refine AC (Bw s _ (by omega) (by omega) fun ck=>AC (HU (by omega) (AC (HU (by omega) ?_))));refine C9 (P:=fun z:Int × Int=>In m z.1/\In m z.2) (AM (fun hk=>AC (HU (by omega) (A9 ⟨⟨by omega,of_decide_eq_true hk⟩,Ko _ m1⟩))) fun _=>A9 ⟨Ko _ m1,Ko _ m1⟩) fun way hway=>?_;rw [memE_eq];refine AM (fun hk=>AC (PF (by omega) (A9 ⟨_,rfl,by rw [qfA,qhA];omega,?_,fun p hp=>?_⟩))) fun _=>A9 ⟨_,rfl,by omega,hN,hJ⟩
   ·have hk:way ∉ w:=by simpa using hk
    refine List.nodup_append.mpr ⟨hN,(by simp),fun a ha b hb e=>hk ?_⟩;rw [qpA.mp hb] at e;exact e ▸ ha
   ·rcases qkA.mp hp with h|h
    ·exact hJ p h
    ·rw [qpA.mp h];exact hway
  ·rw [FQ] at hW;refine AC (Hj (n:=m) (by omega) (by omega) (by omega) ?_);refine AC (Ji (R:=fun _ x=>Mom x) (fun a ha=>?_) fun lits hlits hmm _=>?_)
   ·obtain ⟨k,hk,rfl⟩:=qnA.mp ha;have:=qsA.mp hk;exact AC (Bw s _ (by omega) (by omega) fun ck=>lit_ok letters hL _)
   ·refine AC (Bw s 3 (by decide) (by decide) fun c3=>AC (M0 c3 m (by omega) fun st s1 s2=>AC (Bw s 3 (by decide) (by decide) fun c3'=>?_)));have:=few s1 s2;refine C9 (P:=fun z:List Int=>z.Nodup/\∀ x∈z,In m x) (AM (fun _=>⟨_,if_pos (by omega),sortR_nd s1,fun x hx=>s2 x (QT hx)⟩) fun _=>A9 ⟨s1,s2⟩) fun starts hst=>?_;refine AC (Bw s 4 (by decide) (by decide) fun c4=>?_);have d0:=qoB c4 (b:=4) (by decide);have d1:=qpB c4 (b:=4) (by decide);obtain ⟨q,hq⟩:=qnB d0;rw [hq] at d1 ⊢;refine AC (Hj (n:=q) (by omega) (by omega) (by omega) ?_);rw [FQ] at hlits;refine AC (Ji (R:=fun _ b=>b.Nodup/\∀ n∈b,In W.length n) (fun a ha=>?_) fun marks hml hm _=>A9 (hp _ ⟨?_,?_,?_,hN,?_,?_,hst.1,?_,?_,?_,?_⟩))
    ·obtain ⟨k,hk,rfl⟩:=qnA.mp ha;have:=qsA.mp hk;exact AC (Bw s _ (by omega) (by omega) fun ck=>M0 ck W.length (by omega) fun l h1 h2=>⟨h1,h2⟩)
    ·show 1<=lits.length;omega
    ·show lits.length<=8;omega
    ·intro x hx;obtain ⟨_,_,h⟩:=hmm x hx;exact h
    ·show W.length<=24;omega
    ·intro w hw;show In lits.length w.1/\In lits.length w.2;rw [hlits];exact hV w hw
    ·intro w hw;show In lits.length w;rw [hlits];exact hst.2 w hw
    ·show marks.length<=3;rw [hml,FQ];omega
    ·intro x hx;obtain ⟨_,_,h⟩:=hm x hx;exact h.1
    ·intro x hx;obtain ⟨_,_,h⟩:=hm x hx;exact h.2
theorem PX {l:List Int}(h:∀ k∈l,In 8 k):Bt (fun (DS:Int)=>Cq DS) l=some (l.map nm):=OK.eq (Es (g:=nm) (fun k hk=>(EH (h k hk) (by decide)).1) rfl)
theorem walk_ok (s:Scr):Bq s=some true:=by
 have hs:sizeLine=16777216:=qkB;refine OK.eq ?_;unfold Bq;simp only [qmB,AA,Aa];refine AC (Bw s 42 (by decide) (by decide) fun c42=>?_);have a0:=qoB c42 (b:=21) (by decide);have a1:=qpB c42 (b:=21) (by decide);obtain ⟨n,hn⟩:=qnB a0;rw [hn] at a1 ⊢;refine AC (Hj (n:=n) (by omega) (by omega) (by omega) ?_);refine AC (Ji (R:=fun _ x=>In 8 x) (fun a ha=>?_) fun stem hsl hsm _=>?_)
 ·obtain ⟨k,hk,rfl⟩:=qnA.mp ha;have:=qsA.mp hk;exact AC (Bw s _ (by omega) (by omega) fun ck=>A9 (Ko ck (m:=8) (by decide)))
 rw [FQ] at hsl;refine AC (Bw s 43 (by decide) (by decide) fun c43=>?_);have b0:=qoB c43 (b:=20) (by decide);have b1:=qpB c43 (b:=20) (by decide);obtain ⟨m,hm⟩:=qnB b0;rw [hm] at b1 ⊢;refine AC (Hj (n:=m+1) (by omega) (by omega) (by omega) ?_);refine AC (Ji (R:=fun _ x=>In 8 x) (fun a ha=>?_) fun ring hrl hrm _=>?_)
 ·obtain ⟨k,hk,rfl⟩:=qnA.mp ha;have:=qsA.mp hk;exact AC (Bw s _ (by omega) (by omega) fun ck=>A9 (Ko _ (m:=8) (by decide)))
 rw [FQ] at hrl
 have h1:∀ x∈stem,In 8 x:=fun x hx=>by
  obtain ⟨_,_,h⟩:=hsm x hx;exact h
 have h2:∀ x∈ring,In 8 x:=fun x hx=>by
  obtain ⟨_,_,h⟩:=hrm x hx;exact h
 rw [PX h1,AA,Cn (by rw [qeA];omega),AA]
 have hw:∀ x∈(stem.map nm++[("/" : Str)])++ring.map nm,x.length<=26:=fun x hx=>by
  rcases qkA.mp hx with hx|hx
  ·rcases qkA.mp hx with hx|hx
   ·obtain ⟨k,hk,rfl⟩:=qnA.mp hx;exact (EH (h1 k hk) (by decide)).2.2.2.2
   ·rw [qpA.mp hx];decide +kernel
  ·obtain ⟨k,hk,rfl⟩:=qnA.mp hx;exact (EH (h2 k hk) (by decide)).2.2.2.2
 have ej:D8 " " ((stem.map nm++[("/" : Str)])++ring.map nm)=some (Str.join " " ((stem.map nm++[("/" : Str)])++ring.map nm)):=IQ (by
  have:=IM (y := " ") (n:=50) hw (by simp only [qfA,qeA,qhA];omega);rw [Di] at this ⊢
  omega)
 have ec1:EB (stem.map nm) [("/" : Str)]=some (stem.map nm++[("/" : Str)]):=if_pos (by rw [qeA,qhA];omega);have ec2:EB (stem.map nm++[("/" : Str)]) (ring.map nm)=some ((stem.map nm++[("/" : Str)])++ring.map nm):=if_pos (by rw [qfA,qeA,qhA,qeA];omega)
 have es:D9 stem ring=some (Str.join " " ((stem.map nm++[("/" : Str)])++ring.map nm)):=by
  unfold D9 DP;simp only [qmB,AA];rw [Mf (by decide) h1,AA,Mf (by decide) h2,AA,ec1,AA,ec2,AA,ej]
 rw [es,AA,PX h2,AA,ec2,AA,ej];exact KY rfl (AC (A9 (A9 (decide_eq_true rfl))))
theorem dp_up' {n k:Nat}{d:D}(h:Dp n d):Dp (n+k) d:=by
 induction k with
 | zero=>exact h
 | succ k ih=>exact dp_up ih
theorem dp_9 (M:Mac):Dp 9 (toM M):=dp_up' (k:=6) (dp_M M)
theorem read_M {M:Mac}(g:Gd M):Be (txt M)=some (toM M):=by
 unfold Be;rw [prog_ok g,AA]
theorem notext {d:D}(h:Aj d=some (.error "NoText")):C6 d=some true:=by
 unfold C6;rw [h,AA];exact if_pos rfl
theorem agree {u:Str}(hu:u.length<=7000):(BD u=some .non/\C6 (.str u)=some true)\/∃ M,Gd M/\BD u=some (toM M)/\Be u=some (toM M):=by
 rcases law_any hu with h | ⟨M,g,rfl,h⟩
 ·rcases prog_any hu with e | ⟨M,g,rfl,e⟩
  ·exact .inl ⟨h,notext e⟩
  ·rw [law_ok g] at h;cases h
 ·exact .inr ⟨M,g,h,read_M g⟩
theorem law_true (ns:List Int)(hl:ns.length<=63):Nm ⟨ns⟩=some true:=by
 have hs:sizeLine=16777216:=qkB;refine OK.eq ?_;unfold Nm;simp only [qmB,AA,Aa];refine AC (Bw _ 0 (by decide) (by decide) fun c0=>AC (OR _ (qoB _ (by decide)) fun ls hL=>AC (OQ _ ls hL fun M g=>?_)));rw [text_ok g,AA];refine AC (Bw _ 40 (by decide) (by decide) fun c40=>?_);have a0:=qoB c40 (b:=4) (by decide);have a1:=qpB c40 (b:=4) (by decide);obtain ⟨n,hn⟩:=qnB a0;rw [hn] at a1 ⊢;refine AC (Hj (n:=n) (by omega) (by omega) (by omega) ?_)
 have fin:OK ((Be (txt M)).bind fun t147=>(N9 t147 (ToD.to M)).bind fun t150=>cond t150 (Bq ⟨ns⟩) (some false)) fun b=>b=true:=by
  rw [read_M g,AA,toM_eq,Ql (dp_9 M),AA,cond_true,walk_ok];exact A9 rfl
 refine AC (Gq (fun i (s:D)=>∃ u:Str,s = .str u/\u.length+10<=852 * 2 ^ i) ⟨txt M,rfl,by have:=txt_len g;omega⟩ (fun i a s ha hI=>?_) fun s hI=>?_)
 ·obtain ⟨u,rfl,hu⟩:=hI;obtain ⟨hi,rfl⟩:=OJ ha
  have hp:2 ^ i<=4:=by
   have:i=0\/i=1\/i=2:=by omega
   rcases this with rfl|rfl|rfl<;>decide
  simp only [Dv,AA];refine AC (Bw _ _ (by omega) (by omega) fun ck=>AC (OP u _ (by omega) fun v hv=>A9 ⟨_,rfl,v,rfl,?_⟩));rw [Nat.pow_succ];omega
 ·obtain ⟨u,rfl,hu⟩:=hI;rw [FQ] at hu
  have hp:2 ^ n<=8:=by
   have:n=0\/n=1\/n=2\/n=3:=by omega
   rcases this with rfl|rfl|rfl|rfl<;>decide
  have hu:u.length<=7000:=by omega
  dsimp only;refine AC (Bw _ 40 (by decide) (by decide) fun c40'=>?_);refine C9 (P:=fun d:D=>isK "str" d=false\/∃ u:Str,d = .str u/\u.length<=7000) (AM (fun _=>AC (Bw _ 41 (by decide) (by decide) fun c41=>?_)) fun _=>A9 (.inr ⟨u,rfl,hu⟩)) fun d hd=>?_
  ·have m0:=qoB c41 (b:=9) (by decide);have m1:=qpB c41 (b:=9) (by decide);refine Lr m0 (by show _<((9:Nat):Int);omega) fun x hx=>?_;have hx:=qtA hx;simp only [qmA,qyB,or_false] at hx;rcases hx with rfl|rfl|rfl|rfl|rfl|rfl|rfl|rfl|rfl
   ·exact .inl (by decide +kernel)
   ·exact .inl (by decide +kernel)
   ·exact .inl (by decide +kernel)
   ·exact .inl (by rw [toM_eq];unfold toM;simp [isK,dk])
   ·exact .inl (by decide +kernel)
   ·exact .inl (by decide +kernel)
   ·exact .inr ⟨_,rfl,by decide +kernel⟩
   ·exact .inr ⟨_,rfl,by decide +kernel⟩
   ·exact .inr ⟨_,rfl,by decide +kernel⟩
  ·have en:F6 (ToD.to ():D)=true:=rfl;rcases hd with hd | ⟨v,rfl,hv⟩
   ·rw [hd,cond_false,AA,en,cond_true,notext (OB hd),AA];exact E2 rfl fin
   ·have e1:isK "str" (.str v)=true:=by simp [isK,dk]
    rw [e1,cond_true];simp only [Dv,AA];rcases agree hv with ⟨h1,h2⟩ | ⟨N,gN,h1,h2⟩
    ·rw [h1,AA,show F6 (.non:D)=true from rfl,cond_true,h2,AA];exact E2 rfl fin
    ·rw [h1,AA,show F6 (toM N)=false from rfl,cond_false,h2,AA,Qn (dp_9 N),AA,cond_false];exact fin
theorem law_imp {K:FZ9}{vs:List V}{H:Hp}{Q:VK}{E:XK}(h:MZ K vs H Q E):spM K mm_law vs H Q E:=by
 obtain ⟨a,ns,rfl,hS,hl,q⟩:=h;exact ⟨H,(⟨ns⟩,()),true,Same.refl H,⟨.ref a,[],rfl,⟨a,rfl,hS⟩,rfl⟩,law_true ns hl,fun v G2 H2 x r=>by cases r;exact q H2⟩
set_option maxHeartbeats 1000000 in
theorem all_mk {l:PySem.W.OpenLaw}{w:World}{K:FZ9}{h:Heap}{mg:Str->Option Value}{fa:Addr}(X:K.In h)(G:h.Ns mainGlobals mg)(hfa:mg "law" = some (.ref fa))
  (Z:DIn K mg "is_moment" GP/\DIn K mg "is_number_below" DK/\DIn K mg "are_numbers_once" Cy/\DIn K mg "is_way" Ka/\DIn K mg "are_moments" F9/\DIn K mg "are_ways" Hl/\DIn K mg "are_marks" GN/\DIn K mg "is_machine" Fb/\DIn K mg "show_moment" Eo/\DIn K mg "show_round" FS/\DIn K mg "show_numbers" EJ/\DIn K mg "show_walk" GH/\DIn K mg "show_machine" EI/\DIn K mg "refuse_other_kinds" Ca/\DIn K mg "read_moment" Ew/\DIn K mg "read_number" Ey/\DIn K mg "read_numbers" E7/\DIn K mg "lay_row" Io/\DIn K mg "read_machine" EO/\DIn K mg "_law_cell" HX/\DIn K mg "_law_letters" Ek/\DIn K mg "_law_lit" Iy/\DIn K mg "_law_chosen" Fi/\DIn K mg "_law_states" FP/\DIn K mg "_law_machine" F0/\DIn K mg "_law_machine_text" D5/\DIn K mg "_law_number_of" Ds/\DIn K mg "_law_moment_of" Do/\DIn K mg "_law_row_of" Fn/\DIn K mg "_law_read_of" Ep/\DIn K mg "_law_changed" Ev/\DIn K mg "_law_no_text" Ei/\DIn K mg "_law_classes" F2/\DIn K mg "_law_walk_so" F7/\DIn K mg "law" s_law)
  {tk0 tk1 tk2 tk3 tk4:Tok}
  (gv0:qsB K mainGlobals "MOST_STATES" = some (some (.int 8 tk0)))
  (gv1:qsB K mainGlobals "MOST_WAYS" = some (some (.int 24 tk1)))
  (gv2:qsB K mainGlobals "MOST_MARKS" = some (some (.int 3 tk2)))
  (gv3:qsB K mainGlobals "FIGURES" = some (some (.str "0123456789" tk3)))
  (gv4:qsB K mainGlobals "MOST_FIGURES" = some (some (.int 60 tk4)))
  (zs:Nn K "ValueError" /\ Nn K "abs" /\ Nn K "all" /\ Nn K "bool" /\ Nn K "int" /\ Nn K "isinstance" /\ Nn K "len" /\ Nn K "list" /\ Nn K "min" /\ Nn K "range" /\ Nn K "set" /\ Nn K "sorted" /\ Nn K "str" /\ Nn K "tuple")
  (XX:XC K) :
  ∃ fd:FuncData,(∀ (s:Shared) (v:Value),BindsTo s fd ⟨[v],[]⟩ [("_law_script",v)])/\∀ base:Heap,K.In base->base.Ns mainGlobals mg->FnOk l.prog w K mg base CX0 7 fa fd ["_law_script"] (MZ K):=by
 obtain ⟨z0,z1,z2,z3,z4,z5,z6,z7,z8,z9,z10,z11,z12,z13,z14,z15,z16,z17,z18,z19,z20,z21,z22,z23,z24,z25,z26,z27,z28,z29,z30,z31,z32,z33,z34⟩:=Z;obtain ⟨y0,y1,y2,y3,y4,y5,y6,y7,y8,y9,y10,y11,y12,y13⟩:=zs;obtain ⟨f,fd,a,F⟩:=z34.ex;cases hfa.symm.trans a;have T:Txt mg:=⟨PySem.W.mg_none_of X G y0,PySem.W.mg_none_of X G y1,PySem.W.mg_none_of X G y2,PySem.W.mg_none_of X G y3,PySem.W.mg_none_of X G y4,PySem.W.mg_none_of X G y5,PySem.W.mg_none_of X G y6,PySem.W.mg_none_of X G y7,PySem.W.mg_none_of X G y8,PySem.W.mg_none_of X G y9,PySem.W.mg_none_of X G y10,PySem.W.mg_none_of X G y11,PySem.W.mg_none_of X G y12,PySem.W.mg_none_of X G y13,⟨_,qtB X G gv0⟩,⟨_,qtB X G gv1⟩,⟨_,qtB X G gv2⟩,⟨_,qtB X G gv3⟩,⟨_,qtB X G gv4⟩⟩;refine ⟨fd,?_,fun base KB GB=>?_⟩
 ·obtain ⟨_,_,_,_,_,_,_,_,_,rfl,_⟩:=F.ex;exact fun s v=>.of_eq rfl
 obtain ⟨aS,aT,aR,aW,aM,aE,aC,aX,aN,⟨naS,naT,naR,naW,naM,naE,naC,naX,naN⟩,xe,xk,xm,xT,xV,xaR,xaW,xaM,xaE,xaC,xaX,xaN⟩:=XX;have O:OwnCls "NoText" aT bmV "ValueError.__new__" mg base:=own_in KB GB naT xe;have W:XT K mg aS aT aR aW aM aE aC aX aN:=⟨qtB X G naS,qtB X G naT,qtB X G naR,qtB X G naW,qtB X G naM,qtB X G naE,qtB X G naC,qtB X G naX,qtB X G naN,xk.to,xm,xT,xV,xaR,xaW,xaM,xaE,xaC,xaX,xaN⟩;have FW:=@LB l.prog w K mg base z23 T;have E4:=@L9 l.prog w K mg base z22 T;have Ah:=@NL l.prog w K mg base z19 T;have J9:=@OT l.prog w K mg base z21 T;have F8:=@K0 l.prog w K mg base z24 T FW E4 Ah J9;have D2:=@Gy l.prog w K mg base z25 T;have Em:=@Kg l.prog w K mg base z20 T;have El:=@KD l.prog w K mg base z30 T;have Dq:=@JF l.prog w K mg base z26 T;have Dl:=@Ip l.prog w K mg base z27 T;have Fe:=@L7 l.prog w K mg base z28 T Dq Dl;have BJ:=@HW l.prog w K mg base z1 T;have BX:=@HB l.prog w K mg base z2 T BJ;have GU:=@ML l.prog w K mg base z6 T BX;have DC:=@MH l.prog w K mg base z0 T;have F4:=@KL l.prog w K mg base z4 T DC;have Ki:=@Q0 l.prog w K mg base z3 T BJ;have Hm:=@Ni l.prog w K mg base z5 T Ki;have Cj:=@Kv l.prog w K mg base z7 T BX GU F4 Hm;have Ez:=@K1 l.prog w K mg base z29 T Fe Cj;have Fm:=@Kz l.prog w K mg base z9 T;have Bd:=@Je l.prog w K mg base z10 T;have GY:=@Ms l.prog w K mg base z11 T Fm Bd;have F1:=@Kj l.prog w K mg base z33 T GY Ah;have Cb:=@Fu l.prog w K mg base z13 T _ O;have En:=@KC l.prog w K mg base z14 T _ O DC;have CT:=@Jy l.prog w K mg base z15 T _ O;have DE:=@Jb l.prog w K mg base z16 T CT;have JI:=@O5 l.prog w K mg base z17 T _ O En DE CT;have F3:=@Kt l.prog w K mg base z8 T;have EG:=@JY l.prog w K mg base z12 T F3 Bd;have Y_:=@Jc l.prog w K mg base z18 T _ O Cb JI Cj EG;have DH:=LF Y_;have Eg:=@KN l.prog w K mg base z32 T _ _ _ _ _ _ _ _ _ W;have Et:=@K2 l.prog w K mg base z31 T _ _ _ _ _ _ _ _ _ W Y_ Eg;exact (ok_law F T F8 D2 Em El Ez F1 Ah Et DH).imp fun _ _ _ _ h=>law_imp h
theorem walk {l:PySem.W.OpenLaw}{q:Program}{loose:List Str}{XP:(Str->Option Value)->Heap->Prop}{YP:World->Heap->Prop}{d:DefRec}{K:Params->FZ9}(hn:l.most=some 63)(hdf:d.params.defaults=[])
  (hY:∀ (w:World) (h:Heap),YP w h->(K w.params).In h)
  (F:∀ (w:World) (mg:Str->Option Value) (fa:Addr) (h:Heap),(K w.params).In h->h.Ns mainGlobals mg->mg d.name=some (.ref fa) ->
   ∃ fd:FuncData,(∀ (s:Shared) (u:Value),BindsTo s fd ⟨[u],[]⟩ [("_law_script",u)])/\∀ base:Heap,(K w.params).In base->base.Ns mainGlobals mg->FnOk l.prog w (K w.params) mg base CX0 7 fa fd ["_law_script"] (MZ (K w.params))) :
  PySem.W.WalkO q loose XP YP l.row.toRowW d [] (fun f vs=>PySem.call f vs) :=
 L2.walk_of (n:=63) (k:=7) (x := "_law_script") (CX:=fun _=>CX0) (sp:=fun w=>MZ (K w.params)) hn (by decide) hdf ⟨rfl,by decide,by decide⟩ hY F (fun _ _ a ns hl _ hS=>⟨a,ns,rfl,hS,hl,fun _=>rfl⟩) fun _ _ _ _ _ z=>z
end My
open PySem PySem.W PyProof.Rows
theorem PySem.W.Fast.tw3208075857351094292:True:=trivial
theorem PySem.W.Fast.tw12596221959714932171:True:=trivial
theorem PySem.W.Fast.tw16305590292534463833:True:=trivial
theorem PySem.W.Fast.tw14024971798738722962:True:=trivial
theorem PySem.W.Fast.tw17660262802407814829:True:=trivial
theorem PySem.W.Fast.tw9700856179929339235:True:=trivial
theorem PySem.W.Fast.tw4046236301775872352:True:=trivial
theorem PySem.W.Fast.tw4175270134146032571:True:=trivial
theorem PySem.W.Fast.tw4355626115443237906:True:=trivial
theorem PySem.W.Fast.tw133554143645506853:True:=trivial
theorem PySem.W.Fast.tw11966761051333961779:True:=trivial
theorem PySem.W.Fast.tw18398178268652451192:True:=trivial
theorem PySem.W.Fast.tw9197501737534380281:True:=trivial
theorem PySem.W.Fast.tw5139487180638588538:True:=trivial
theorem PySem.W.Fast.tw4103592237435259294:True:=trivial
theorem PySem.W.Fast.tw5243692418900363314:True:=trivial
theorem PySem.W.Fast.tw14513985614985236796:True:=trivial
theorem PySem.W.Fast.tw8751972115608814708:True:=trivial
theorem PySem.W.Fast.tw10541244867224631541:True:=trivial
theorem PySem.W.Fast.tw3566990216025805674:True:=trivial
theorem PySem.W.Fast.tw11351797332024288519:True:=trivial
theorem PySem.W.Fast.tw9617044362747190590:True:=trivial
theorem PySem.W.Fast.tw11262848030220403931:True:=trivial
theorem PySem.W.Fast.tw4210076179916753060:True:=trivial
theorem PySem.W.Fast.tw14054599599230790901:True:=trivial
theorem PySem.W.Fast.tw17367484117323849746:True:=trivial
theorem PySem.W.Fast.tw6005022045819857691:True:=trivial
theorem PySem.W.Fast.tw14117619965124888216:True:=trivial
theorem PySem.W.Fast.tw16479663362290422553:True:=trivial
theorem PySem.W.Fast.tw4048977013140090918:True:=trivial
theorem PySem.W.Fast.tw8044541315008616381:True:=trivial
theorem PySem.W.Fast.tw16091792742507401311:True:=trivial
theorem PySem.W.Fast.tw9063962995060484353:True:=trivial
theorem PySem.W.Fast.tw17807463499199440438:True:=trivial
theorem PySem.W.Fast.tw17943526072331407273:True:=trivial
theorem PySem.W.Fast.tw17638500566325072821:True:=trivial
theorem PySem.W.Fast.tw1839861312738645936:True:=trivial
theorem PySem.W.Fast.tw12834439048550106401:True:=trivial
theorem PySem.W.Fast.tw16845287952763598916:True:=trivial
theorem PySem.W.Fast.tw13193688465459368924:True:=trivial
theorem PySem.W.Fast.tw13083239966687277399:True:=trivial
theorem PySem.W.Fast.tw8787194440977324893:True:=trivial
set_option maxRecDepth 100000 in
set_option maxHeartbeats 0 in
theorem PySem.Challenge.cw_lassoscribe_k89_machines_read_holds : PySem.Challenge.rw_lassoscribe_k89_machines_read.Holds := by
 w_on; o_law; k_head; (case hw => w_witness2)
 k_fill
 refine My.walk (l := PySem.Challenge.rw_lassoscribe_k89_machines_read) rfl rfl (fun w h Y => PySem.W.kIn_of Y) ?F
 case F =>
  intro w mg fa h KX G hmg;refine' My.all_mk KX G hmg ?zz ?gv0 ?gv1 ?gv2 ?gv3 ?gv4 ?zy ?xx
  (case zz =>
   refine ⟨?_, ?_, ?_, ?_, ?_, ?_, ?_, ?_, ?_, ?_, ?_, ?_, ?_, ?_, ?_, ?_, ?_, ?_, ?_, ?_, ?_, ?_, ?_, ?_, ?_, ?_, ?_, ?_, ?_, ?_, ?_, ?_, ?_, ?_, ?_⟩
   all_goals (refine' L2.din KX G ?a ?l ?c ?k; (case a => k_is); (case l => k_is); (case c => k_is); (case k => k_is)))
  (case gv0 => k_is)
  (case gv1 => k_is)
  (case gv2 => k_is)
  (case gv3 => k_is)
  (case gv4 => k_is)
  (case zy => refine ⟨?_, ?_, ?_, ?_, ?_, ?_, ?_, ?_, ?_, ?_, ?_, ?_, ?_, ?_⟩ <;> (unfold L2.Nn; k_is))
  (case xx =>
   refine' My.xc_mk ?n1 ?n2 ?n3 ?n4 ?n5 ?n6 ?n7 ?n8 ?n9 ?xe ?c1 ?c2 ?c3 ?c4 ?c5 ?c6 ?c7 ?c8 ?xm ?k1 ?k2 ?k3 ?k4 ?k5 ?k6 ?k7 ?k8 ?k9
   (case n1 => k_is)
   (case n2 => k_is)
   (case n3 => k_is)
   (case n4 => k_is)
   (case n5 => k_is)
   (case n6 => k_is)
   (case n7 => k_is)
   (case n8 => k_is)
   (case n9 => k_is)
   (case xe => k_exc)
   (case c1 => k_is)
   (case c2 => k_is)
   (case c3 => k_is)
   (case c4 => k_is)
   (case c5 => k_is)
   (case c6 => k_is)
   (case c7 => k_is)
   (case c8 => k_is)
   (case xm => kts_exm)
   (case k1 => kit_is)
   (case k2 => kit_is)
   (case k3 => kit_is)
   (case k4 => kit_is)
   (case k5 => kit_is)
   (case k6 => kit_is)
   (case k7 => kit_is)
   (case k8 => kit_is)
   (case k9 => kit_is))
end
