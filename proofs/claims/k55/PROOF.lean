import PyProof.Rows.All
import Wide.All
import OpenK.AllK
import Wide.FinOn
import HandS.ForMost
import HandS.ForExc
import HandS.ExcInit
import KE.KDictKeyed
import HandS.Set
import HandS.Dict
import HandS.Lambda
import HandS.TupAny
import PyProof.Rows.SortShellAny
import PyProof.Rows.StrMeet
import HandS.IsInst
import HandS.Zip
import HandS.Property
import HandS.Conv
import PyProof.ListStr
import HandS.Strs
import HandS.ExcField
import HandS.TupMul
import HandS.Text
import PyProof.TupleOfStr
import HandS.Base
import HandS.SetBool
import HandS.Comp
import KE.GoesSet
import HandS.DictComp
import HandS.More
import HandS.Star
import HandS.Codes
import HandS.TupSets
import KE.GoesMore
import KE.KUnpackStar
import KE.KeyNested
import PyProof.Rows.TupTab
import HandS.Style
import KE.KRevSl
import HandS.Flow
import HandS.Deep
import KE.SortData
import HandS.RaiseMore
import PyProof.ReprRoads
import HandS.MakeKw
import HandS.ExcIs
import KE.KExcIs
import KE.KExcMake
import HandS.OwnEq
import PyProof.InstNe
import HandS.DictEq
import HandS.DictTup
import HandS.Iter
import HandS.TupLen
import HandS.Finally
import HandS.Replace
import KE.DataMinKey
import KE.KMinKey
import HandS.EndTab
import HandS.MethStar
import KE.KDictCopyH
import HandS.Defaults
import HandS.CallSlots
import PyProof.MaxThree
import KE.KNestM
import KE.KDictZip
import KE.GoesZip
import KE.DataMinMax
import KE.KEqDict
import PyProof.NeKinds
import HandS.Sort
import KE.KEqNest
import KE.KDictOf
import HandS.TryMany
import PyProof.EqKinds
import PyProof.P3In
import HandS.Head2
import HandS.HeadHook4
import HandS.NestedK
import PySem.Challenge.RW_partstold_k55_known_rows
set_option linter.all false
set_option Elab.async false
set_option maxRecDepth 100000
set_option maxHeartbeats 4000000
set_option autoImplicit false
theorem EvA0.n {a b:Nat} (h:Nat.ble a b=true):a≤b:=Nat.le_of_ble_eq_true h
namespace Ev
end Ev
namespace EvT1
open PySem PySem.Spec PyProof.Rows L2
noncomputable def xJ (K:PySem.W.Frag) (y:Str):Addr×Addr:=(PySem.W.tabIn K y).getD (0,0)
end EvT1
namespace EvH
open PySem PySem.Spec PyProof.Rows L2
noncomputable def gf (K:PySem.W.Frag) (p:Addr):Addr:=match PySem.W.recIn K p "property" with
 | some (.ref f::_)=>f
 | _=>0
noncomputable def gfB (K:PySem.W.Frag) (p:Addr):Bool:=match PySem.W.recIn K p "property" with
 | some (.ref _::_)=>true
 | _=>false
noncomputable def intB (K:PySem.W.Frag) (x:Str) (i:Int):Bool:=match PySem.W.nsIn K mainGlobals x with
 | some (some (.int j _))=>decide (j=i)
 | _=>false
noncomputable def errB (K:PySem.W.Frag) (C:Addr):Bool:=match K.lookup C with
 | some ⟨.type "type",_,.cls cd,sl⟩=>(match cd.mro,sl.toList with
  | .ref D::bm,[_,_,_,_,some (.builtin n),_]=>decide (D=C)&&(decide (n="ValueError.__new__")&&(!cd.hasDel&&(cd.hasDict&&PySem.HandSPX.refsVE bm)))
  | _,_=>false)
 | _=>false
structure Dd where
 adr:PySem.W.Frag→Addr
 nm:Str
 qn:Str
 st:Stmt
 dn:Bool
noncomputable abbrev Row:Type:=Option (Str×Str×Arguments×FuncBody×Scope×Addr×List (Str×Addr)×Addr)
noncomputable def rowAt (K:PySem.W.Frag) (a:Addr):Row:=match K.lookup a with
 | some ⟨_,_,.func z,_⟩=>some ⟨z.name,z.qualname,z.params,z.body,z.scope,z.globals,z.closure,z.builtins⟩
 | _=>none
noncomputable def Dd.row (d:Dd):Row:=some ⟨d.nm,d.qn,defArgs d.st,.stmts (defBody d.st),defScope d.st,mainGlobals,[],builtinsNs⟩
noncomputable def bEm:Value→Bool
 | .none=>true
 | _=>false
noncomputable def Dd.good (K:PySem.W.Frag) (d:Dd):Bool:=PySem.W.keepIn K (.ref (d.adr K))&&(match K.lookup (d.adr K) with
 | some ⟨_,_,.func z,_⟩=>PySem.W.codeIn K z.code d.qn&&(match d.dn with
  | true=>He.dflB K z.defaults [.non]
  | false=>bEm z.defaults)
 | _=>false)
noncomputable abbrev Seen:Type:=Bool×List Row
noncomputable def tabB (g:Addr→Option Obj) (K:PySem.W.Frag) (y:Str):Bool:=PySem.W.codeHdIn K (EvT1.xJ K y).1 (EvT1.xJ K y).2&&(match g (EvT1.xJ K y).2 with
 | some o=>He.emptyTab o
 | none=>false)
noncomputable def bDh (ds:List Dd) (ys:List Str) (ex:PySem.W.Frag→Bool) (g:Addr→Option Obj) (K:PySem.W.Frag):Seen:=(ex K&&((ds.all fun d=>d.good K)&&ys.all fun y=>tabB g K y),ds.map fun d=>rowAt K (d.adr K))
section
variable {β:Type}
noncomputable def pinA:List Addr→(List Addr→β)→β
 | [],k=>k []
 | a::r,k=>HandSHeadRun.frNat a fun a=>pinA r fun r=>k (a::r)
theorem aP5:∀(l:List Addr) (k:List Addr→β),pinA l k=k l
 | [],_=>rfl
 | a::r,k=>by
  unfold pinA
  rw [HandSHeadRun.frNat_eq,aP5 r]
noncomputable def pinO (o:Obj) (k:Obj→β):β:=match o with
 | ⟨c,d,dt,sl⟩=>k ⟨c,d,dt,sl⟩
theorem bDx (o:Obj) (k:Obj→β):pinO o k=k o:=by cases o; rfl
noncomputable def pinK:PySem.W.Frag→(PySem.W.Frag→β)→β
 | [],k=>k []
 | (a,o)::r,k=>HandSHeadRun.frNat a fun a=>pinO o fun o=>pinK r fun r=>k ((a,o)::r)
theorem aYe:∀(l:PySem.W.Frag) (k:PySem.W.Frag→β),pinK l k=k l
 | [],_=>rfl
 | (a,o)::r,k=>by
  unfold pinK
  rw [HandSHeadRun.frNat_eq,bDx,aYe r]
noncomputable def grow (g:Addr→Option Obj):Nat→List Addr→List Addr→(List Addr→β)→β
 | 0,all,fr,k=>pinA (all++fr) k
 | n+1,all,fr,k=>pinA (fr.flatMap fun a=>match g a with
  | some o=>He.refsD o
  | none=>[]) fun fr2=>pinA (all++fr) fun all2=>grow g n all2 fr2 k
theorem aZ5 (g:Addr→Option Obj):∀(n:Nat) (all fr:List Addr),∃ as,∀ k:List Addr→β,grow g n all fr k=k as
 | 0,all,fr=>⟨all++fr,fun k=>by unfold grow; rw [aP5]⟩
 | n+1,all,fr=>by
  obtain⟨as,h⟩:=aZ5 g n (all++fr) (fr.flatMap fun a=>match g a with
   | some o=>He.refsD o
   | none=>[])
  exact⟨as,fun k=>by
   unfold grow
   rw [aP5,aP5]
   exact h k⟩
end
noncomputable def aWj (n:Nat) (ds:List Dd) (ys:List Str) (ex:PySem.W.Frag→Bool) (g:Addr→Option Obj):Seen:=grow g n [] [mainGlobals] fun as=>pinK (He.frT g as) fun K=>bDh ds ys ex g K
theorem bAn (n:Nat) (ds:List Dd) (ys:List Str) (ex:PySem.W.Frag→Bool) (g:Addr→Option Obj):∃ as,aWj n ds ys ex g=bDh ds ys ex g (He.frT g as):=by
 obtain⟨as,h⟩:=aZ5 (β:=Seen) g n [] [mainGlobals]
 exact⟨as,by unfold aWj; rw [h,aYe]⟩
structure Says (ds:List Dd) (ys:List Str) (ex:PySem.W.Frag→Bool) (h:Heap) (K:PySem.W.Frag):Prop where
 more:ex K=true
 good:∀ d∈ds,d.good K=true
 rows:∀ d∈ds,rowAt K (d.adr K)=d.row
 hd:∀ y∈ys,PySem.W.codeHdIn K (EvT1.xJ K y).1 (EvT1.xJ K y).2=true
 out:∀ y∈ys,K.lookup (EvT1.xJ K y).2=none
 tab:∀ y∈ys,h.get? (EvT1.xJ K y).2=some (PySem.W.tabObj #[])
theorem aYs {α β:Type} {f g:α→β}:∀ {l:List α},l.map f=l.map g→∀ d∈l,f d=g d
 | [],_,_,h=>by cases h
 | a::l,e,d,h=>by
  rw [List.map_cons,List.map_cons,List.cons.injEq] at e
  rcases List.mem_cons.mp h with rfl | h
  ·exact e.1
  ·exact aYs e.2 d h
theorem bAt {as:List Addr} {ds:List Dd} {ys:List Str} {ex:PySem.W.Frag→Bool} {h:Heap} (e:bDh ds ys ex h.get? (He.frT h.get? as)=(true,ds.map Dd.row)):Says ds ys ex h (He.frT h.get? as):=by
 have e1:=congrArg (fun z:Seen=>z.1) e
 have e2:=congrArg (fun z:Seen=>z.2) e
 obtain⟨h1,h2⟩:=He.ba e1
 obtain⟨h2,h3⟩:=He.ba h2
 have key:∀ y∈ys,PySem.W.codeHdIn (He.frT h.get? as) (EvT1.xJ (He.frT h.get? as) y).1 (EvT1.xJ (He.frT h.get? as) y).2=true∧∃ o,h.get? (EvT1.xJ (He.frT h.get? as) y).2=some o∧He.emptyTab o=true:=fun y hy=>by
  obtain⟨h4,h5⟩:=He.ba (List.all_eq_true.mp h3 y hy)
  refine⟨h4,?_⟩
  split at h5
  ·rename_i o q
   exact⟨o,q,h5⟩
  ·cases h5
 refine⟨h1,fun d hd=>List.all_eq_true.mp h2 d hd,fun d hd=>aYs e2 d hd,fun y hy=>(key y hy).1,fun y hy=>?_,fun y hy=>?_⟩
 ·obtain⟨_,o,q,z⟩:=key y hy
  exact He.frT_none q z
 ·obtain⟨_,o,q,z⟩:=key y hy
  rw [q,He.emptyTab_eq z]
theorem bDr {n:Nat} {ds:List Dd} {ys:List Str} {ex:PySem.W.Frag→Bool} {h:Heap} (e:aWj n ds ys ex h.get? =(true,ds.map Dd.row)):∃ K:PySem.W.Frag,K.In h∧Says ds ys ex h K:=by
 obtain⟨as,q⟩:=bAn n ds ys ex h.get?
 rw [q] at e
 exact⟨_,He.frT_in,bAt e⟩
noncomputable def hook (n:Nat) (ds:List Dd) (ys:List Str) (ex:PySem.W.Frag→Bool):PySem.W.Hook where
 α:=Seen
 obs:=fun s=>aWj n ds ys ex s.heap.get?
 val:=fun _=>(true,ds.map Dd.row)
 says:=fun _ h=>∃ K:PySem.W.Frag,K.In h∧Says ds ys ex h K
 of:=fun _ _ e=>bDr e
 keeps:=fun _ _ _ ⟨K,hK,c⟩ k=>⟨K,PySem.W.Frag.In.keeps hK k,⟨c.more,c.good,c.rows,c.hd,c.out,fun y hy=>k _ _ (c.tab y hy)⟩⟩
end EvH
namespace G
open PySem L2 Ev
noncomputable def top (i:Nat):Stmt:=PySem.Challenge.pw_partstold_k55_known_rows.main.body.getD i (.Pass ⟨0,0,0,0⟩)
noncomputable abbrev xK:Stmt:=top 75
noncomputable abbrev aAl:Stmt:=top 74
noncomputable abbrev jH:Stmt:=top 73
noncomputable abbrev jR:Stmt:=top 53
noncomputable abbrev xF:Stmt:=inClass (top 5) 0
noncomputable abbrev aBs:Stmt:=top 42
noncomputable abbrev uV:Stmt:=inClass (top 63) 4
noncomputable abbrev jF:Stmt:=inClass (top 63) 2
noncomputable abbrev tU:Stmt:=top 33
noncomputable abbrev vM:Stmt:=inClass (top 30) 0
noncomputable abbrev tT:Stmt:=top 18
noncomputable abbrev wZ:Stmt:=inClass (top 31) 1
noncomputable abbrev wH:Stmt:=inClass (top 11) 4
noncomputable abbrev tE:Stmt:=inClass (top 11) 2
noncomputable abbrev tD:Stmt:=inClass (top 14) 1
noncomputable abbrev uA:Stmt:=inClass (top 13) 0
noncomputable abbrev vN:Stmt:=inClass (top 11) 0
noncomputable abbrev xQ:Stmt:=inClass (top 14) 0
noncomputable abbrev wD:Stmt:=inClass (top 22) 1
noncomputable abbrev wG:Stmt:=inClass (top 13) 2
noncomputable abbrev aAm:Stmt:=inClass (top 13) 1
noncomputable abbrev jG:Stmt:=inClass (top 14) 3
noncomputable abbrev vP:Stmt:=inClass (top 11) 1
noncomputable abbrev xG:Stmt:=inClass (top 11) 6
noncomputable abbrev wY:Stmt:=inClass (top 11) 5
noncomputable abbrev uB:Stmt:=inClass (top 11) 3
noncomputable abbrev aAi:Stmt:=top 15
noncomputable abbrev uY:Stmt:=inClass (top 14) 2
noncomputable abbrev uD:Stmt:=top 16
noncomputable abbrev vU:Stmt:=top 17
noncomputable abbrev qR:Stmt:=inClass (top 63) 1
noncomputable abbrev aAp:Stmt:=inClass (top 62) 1
noncomputable abbrev qS:Stmt:=inClass (top 62) 2
noncomputable abbrev aIa:Stmt:=top 65
noncomputable abbrev uX:Stmt:=inClass (top 62) 7
noncomputable abbrev aAn:Stmt:=inClass (top 62) 6
noncomputable abbrev aGx:Stmt:=top 25
noncomputable abbrev jP:Stmt:=top 27
noncomputable abbrev tA:Stmt:=inClass (top 62) 3
noncomputable abbrev aGw:Stmt:=top 26
noncomputable abbrev kF:Stmt:=top 24
noncomputable abbrev aF1:Stmt:=top 28
noncomputable abbrev xW:Stmt:=inClass (top 22) 0
noncomputable abbrev aAa:Stmt:=top 23
noncomputable abbrev uN:Stmt:=inClass (top 22) 2
noncomputable abbrev vY:Stmt:=top 20
noncomputable abbrev xM:Stmt:=top 19
noncomputable abbrev aBq:Stmt:=top 32
noncomputable abbrev uC:Stmt:=inClass (top 31) 0
noncomputable abbrev xH:Stmt:=inClass (top 31) 2
noncomputable abbrev vX:Stmt:=inClass (top 6) 0
noncomputable abbrev aAk:Stmt:=top 8
noncomputable abbrev tG:Stmt:=top 9
noncomputable abbrev tH:Stmt:=top 52
noncomputable abbrev uM:Stmt:=inClass (top 30) 1
noncomputable abbrev jN:Stmt:=inClass (top 31) 3
noncomputable abbrev jQ:Stmt:=top 34
noncomputable abbrev vT:Stmt:=top 58
noncomputable abbrev jJ:Stmt:=top 56
noncomputable abbrev kH:Stmt:=top 57
noncomputable abbrev jS:Stmt:=top 55
noncomputable abbrev aAb:Stmt:=top 54
noncomputable abbrev aBr:Stmt:=top 35
noncomputable abbrev aQx:Stmt:=top 49
noncomputable abbrev aAc:Stmt:=top 51
noncomputable abbrev aDt:Stmt:=top 41
noncomputable abbrev aO4:Stmt:=top 50
noncomputable abbrev vK:Stmt:=inClass (top 4) 0
noncomputable abbrev kD:Stmt:=top 66
noncomputable abbrev aAo:Stmt:=inClass (top 62) 4
noncomputable abbrev aAj:Stmt:=top 67
noncomputable abbrev wX:Stmt:=inClass (top 63) 0
noncomputable abbrev vL:Stmt:=inClass (top 3) 0
noncomputable abbrev kE:Stmt:=top 43
noncomputable abbrev aBt:Stmt:=top 44
noncomputable abbrev tJ:Stmt:=top 45
noncomputable abbrev kG:Stmt:=top 46
noncomputable abbrev tS:Stmt:=top 47
noncomputable abbrev uZ:Stmt:=top 64
noncomputable abbrev uW:Stmt:=inClass (top 62) 0
noncomputable abbrev aGv:Stmt:=top 70
noncomputable abbrev aLg:Stmt:=top 69
noncomputable abbrev aLf:Stmt:=top 71
noncomputable abbrev aQy:Stmt:=top 76
end G
namespace G
open PySem L2 Ev
noncomputable def aAr:EvH.Dd:=⟨fun K=>He.ga K "_law_around_size","_law_around_size","_law_around_size",xK,false⟩
noncomputable def aJ7:EvH.Dd:=⟨fun K=>He.ga K "_law_draw","_law_draw","_law_draw",aAl,false⟩
noncomputable def aFl:EvH.Dd:=⟨fun K=>He.ga K "_law_source","_law_source","_law_source",jH,false⟩
noncomputable def aH3:EvH.Dd:=⟨fun K=>He.ga K "is_flicker","is_flicker","is_flicker",jR,false⟩
noncomputable def jB:EvH.Dd:=⟨fun K=>He.ma K (He.ga K "UnknownKind") "__init__","__init__","UnknownKind.__init__",xF,false⟩
noncomputable def aOb:EvH.Dd:=⟨fun K=>He.ga K "is_name","is_name","is_name",aBs,false⟩
noncomputable def aBb:EvH.Dd:=⟨fun K=>He.ma K (He.ga K "Book") "kind_named","kind_named","Book.kind_named",uV,false⟩
noncomputable def aFn:EvH.Dd:=⟨fun K=>EvH.gf K (He.ma K (He.ga K "Book") "states"),"states","Book.states",jF,false⟩
noncomputable def aFh:EvH.Dd:=⟨fun K=>He.ga K "unlike_ways","unlike_ways","unlike_ways",tU,false⟩
noncomputable def aAu:EvH.Dd:=⟨fun K=>He.ma K (He.ga K "Choices") "__init__","__init__","Choices.__init__",vM,false⟩
noncomputable def aFi:EvH.Dd:=⟨fun K=>He.ga K "least_parts","least_parts","least_parts",tT,false⟩
noncomputable def kN:EvH.Dd:=⟨fun K=>He.ma K (He.ga K "Ways") "least_parts_of","least_parts_of","Ways.least_parts_of",wZ,false⟩
noncomputable def qQ:EvH.Dd:=⟨fun K=>He.ma K (He.ga K "Waiting") "raise_last","raise_last","Waiting.raise_last",wH,false⟩
noncomputable def aE4:EvH.Dd:=⟨fun K=>He.ma K (He.ga K "Waiting") "wait","wait","Waiting.wait",tE,false⟩
noncomputable def aE5:EvH.Dd:=⟨fun K=>He.ma K (He.ga K "Search") "offer","offer","Search.offer",tD,false⟩
noncomputable def aCy:EvH.Dd:=⟨fun K=>He.ma K (He.ga K "Sums") "__init__","__init__","Sums.__init__",uA,false⟩
noncomputable def aAt:EvH.Dd:=⟨fun K=>He.ma K (He.ga K "Waiting") "__init__","__init__","Waiting.__init__",vN,false⟩
noncomputable def aBa:EvH.Dd:=⟨fun K=>He.ma K (He.ga K "Search") "__init__","__init__","Search.__init__",xQ,false⟩
noncomputable def qN:EvH.Dd:=⟨fun K=>He.ma K (He.ga K "Rule") "with_one_more","with_one_more","Rule.with_one_more",wD,false⟩
noncomputable def qP:EvH.Dd:=⟨fun K=>He.ma K (He.ga K "Sums") "with_one_more","with_one_more","Sums.with_one_more",wG,false⟩
noncomputable def aJ8:EvH.Dd:=⟨fun K=>He.ma K (He.ga K "Sums") "take","take","Sums.take",aAm,false⟩
noncomputable def aFm:EvH.Dd:=⟨fun K=>He.ma K (He.ga K "Search") "take","take","Search.take",jG,false⟩
noncomputable def aAs:EvH.Dd:=⟨fun K=>He.ma K (He.ga K "Waiting") "is_empty","is_empty","Waiting.is_empty",vP,false⟩
noncomputable def jC:EvH.Dd:=⟨fun K=>He.ma K (He.ga K "Waiting") "lesser_below","lesser_below","Waiting.lesser_below",xG,false⟩
noncomputable def kM:EvH.Dd:=⟨fun K=>He.ma K (He.ga K "Waiting") "lower_first","lower_first","Waiting.lower_first",wY,false⟩
noncomputable def aCx:EvH.Dd:=⟨fun K=>He.ma K (He.ga K "Waiting") "leave","leave","Waiting.leave",uB,false⟩
noncomputable def aIz:EvH.Dd:=⟨fun K=>He.ga K "unchained","unchained","unchained",aAi,false⟩
noncomputable def aB9:EvH.Dd:=⟨fun K=>He.ma K (He.ga K "Search") "find_all","find_all","Search.find_all",uY,false⟩
noncomputable def aCt:EvH.Dd:=⟨fun K=>He.ga K "least_counted","least_counted","least_counted",uD,false⟩
noncomputable def aBx:EvH.Dd:=⟨fun K=>He.ga K "least_branches","least_branches","least_branches",vU,false⟩
noncomputable def aH8:EvH.Dd:=⟨fun K=>EvH.gf K (He.ma K (He.ga K "Book") "names"),"names","Book.names",qR,false⟩
noncomputable def aJb:EvH.Dd:=⟨fun K=>EvH.gf K (He.ma K (He.ga K "Kind") "hand"),"hand","Kind.hand",aAp,false⟩
noncomputable def aH7:EvH.Dd:=⟨fun K=>EvH.gf K (He.ma K (He.ga K "Kind") "parts"),"parts","Kind.parts",qS,false⟩
noncomputable def aVq:EvH.Dd:=⟨fun K=>He.ga K "holds","holds","holds",aIa,false⟩
noncomputable def aD0:EvH.Dd:=⟨fun K=>He.ma K (He.ga K "Kind") "counting","counting","Kind.counting",uX,false⟩
noncomputable def aJ9:EvH.Dd:=⟨fun K=>He.ma K (He.ga K "Kind") "told","told","Kind.told",aAn,false⟩
noncomputable def aRm:EvH.Dd:=⟨fun K=>He.ga K "agreed","agreed","agreed",aGx,false⟩
noncomputable def aH5:EvH.Dd:=⟨fun K=>He.ga K "all_counts","all_counts","all_counts",jP,false⟩
noncomputable def aE6:EvH.Dd:=⟨fun K=>EvH.gf K (He.ma K (He.ga K "Kind") "clauses"),"clauses","Kind.clauses",tA,false⟩
noncomputable def aRl:EvH.Dd:=⟨fun K=>He.ga K "cap_of","cap_of","cap_of",aGw,false⟩
noncomputable def aJ4:EvH.Dd:=⟨fun K=>He.ga K "in_common","in_common","in_common",kF,false⟩
noncomputable def aRj:EvH.Dd:=⟨fun K=>He.ga K "listed","listed","listed",aF1,false⟩
noncomputable def aCz:EvH.Dd:=⟨fun K=>He.ma K (He.ga K "Rule") "__init__","__init__","Rule.__init__",xW,false⟩
noncomputable def aLp:EvH.Dd:=⟨fun K=>He.ga K "rules_of","rules_of","rules_of",aAa,false⟩
noncomputable def aBz:EvH.Dd:=⟨fun K=>He.ma K (He.ga K "Rule") "told_with","told_with","Rule.told_with",uN,false⟩
noncomputable def aCv:EvH.Dd:=⟨fun K=>He.ga K "chosen_others","chosen_others","chosen_others",vY,false⟩
noncomputable def aAq:EvH.Dd:=⟨fun K=>He.ga K "counts_of_others","counts_of_others","counts_of_others",xM,false⟩
noncomputable def aO9:EvH.Dd:=⟨fun K=>He.ga K "ways_of","ways_of","ways_of",aBq,false⟩
noncomputable def aCw:EvH.Dd:=⟨fun K=>He.ma K (He.ga K "Ways") "__init__","__init__","Ways.__init__",uC,false⟩
noncomputable def jD:EvH.Dd:=⟨fun K=>He.ma K (He.ga K "Ways") "possible_states","possible_states","Ways.possible_states",xH,false⟩
noncomputable def aA0:EvH.Dd:=⟨fun K=>He.ma K (He.ga K "BadState") "__init__","__init__","BadState.__init__",vX,false⟩
noncomputable def aJ2:EvH.Dd:=⟨fun K=>He.ga K "is_one_of","is_one_of","is_one_of",aAk,false⟩
noncomputable def aE3:EvH.Dd:=⟨fun K=>He.ga K "check_states","check_states","check_states",tG,false⟩
noncomputable def aE2:EvH.Dd:=⟨fun K=>He.ga K "checked_ways","checked_ways","checked_ways",tH,false⟩
noncomputable def aC0:EvH.Dd:=⟨fun K=>He.ma K (He.ga K "Choices") "unlike","unlike","Choices.unlike",uM,false⟩
noncomputable def aH6:EvH.Dd:=⟨fun K=>He.ma K (He.ga K "Ways") "steps","steps","Ways.steps",jN,false⟩
noncomputable def aH4:EvH.Dd:=⟨fun K=>He.ga K "climbed_on","climbed_on","climbed_on",jQ,false⟩
noncomputable def aBy:EvH.Dd:=⟨fun K=>He.ga K "choices_of_two","choices_of_two","choices_of_two",vT,false⟩
noncomputable def aFj:EvH.Dd:=⟨fun K=>He.ga K "least_pairs","least_pairs","least_pairs",jJ,false⟩
noncomputable def aJ0:EvH.Dd:=⟨fun K=>He.ga K "states_of","states_of","states_of",kH,false⟩
noncomputable def aLq:EvH.Dd:=⟨fun K=>He.ga K "joins_at","joins_at","joins_at",jS,false⟩
noncomputable def aLs:EvH.Dd:=⟨fun K=>He.ga K "forks_of","forks_of","forks_of",aAb,false⟩
noncomputable def aOa:EvH.Dd:=⟨fun K=>He.ga K "rows_at","rows_at","rows_at",aBr,false⟩
noncomputable def aZ3:EvH.Dd:=⟨fun K=>He.ga K "rows","rows","rows",aQx,false⟩
noncomputable def aLt:EvH.Dd:=⟨fun K=>He.ga K "flickers","flickers","flickers",aAc,false⟩
noncomputable def aOc:EvH.Dd:=⟨fun K=>He.ga K "is_list","is_list","is_list",aDt,false⟩
noncomputable def aZ4:EvH.Dd:=⟨fun K=>He.ga K "fork","fork","fork",aO4,false⟩
noncomputable def aAw:EvH.Dd:=⟨fun K=>He.ma K (He.ga K "BadBook") "__init__","__init__","BadBook.__init__",vK,false⟩
noncomputable def aJ6:EvH.Dd:=⟨fun K=>He.ga K "are_kinds","are_kinds","are_kinds",kD,false⟩
noncomputable def aJa:EvH.Dd:=⟨fun K=>EvH.gf K (He.ma K (He.ga K "Kind") "last"),"last","Kind.last",aAo,false⟩
noncomputable def aJ1:EvH.Dd:=⟨fun K=>He.ga K "states_in","states_in","states_in",aAj,false⟩
noncomputable def aD2:EvH.Dd:=⟨fun K=>He.ma K (He.ga K "Book") "__init__","__init__","Book.__init__",wX,false⟩
noncomputable def aAv:EvH.Dd:=⟨fun K=>He.ma K (He.ga K "BadKind") "__init__","__init__","BadKind.__init__",vL,false⟩
noncomputable def aJ5:EvH.Dd:=⟨fun K=>He.ga K "are_names","are_names","are_names",kE,false⟩
noncomputable def aLr:EvH.Dd:=⟨fun K=>He.ga K "is_digit","is_digit","is_digit",aBt,false⟩
noncomputable def aE1:EvH.Dd:=⟨fun K=>He.ga K "is_condition","is_condition","is_condition",tJ,false⟩
noncomputable def aJ3:EvH.Dd:=⟨fun K=>He.ga K "is_clause","is_clause","is_clause",kG,false⟩
noncomputable def aFk:EvH.Dd:=⟨fun K=>He.ga K "are_clauses","are_clauses","are_clauses",tS,false⟩
noncomputable def aCu:EvH.Dd:=⟨fun K=>He.ga K "copied_clause","copied_clause","copied_clause",uZ,false⟩
noncomputable def aD1:EvH.Dd:=⟨fun K=>He.ma K (He.ga K "Kind") "__init__","__init__","Kind.__init__",uW,false⟩
noncomputable def aRk:EvH.Dd:=⟨fun K=>He.ga K "lights","lights","lights",aGv,false⟩
noncomputable def aVp:EvH.Dd:=⟨fun K=>He.ga K "ticks","ticks","ticks",aLg,false⟩
noncomputable def aVo:EvH.Dd:=⟨fun K=>He.ga K "votes","votes","votes",aLf,false⟩
noncomputable def bCh:EvH.Dd:=⟨fun K=>He.ga K "law","law","law",aQy,false⟩
noncomputable def hds:List EvH.Dd:=[aAr,aJ7,aFl,aH3,jB,aOb,aBb,aFn,aFh,aAu,aFi,kN,qQ,aE4,aE5,aCy,aAt,aBa,qN,qP,aJ8,aFm,aAs,jC,kM,aCx,aIz,aB9,aCt,aBx,aH8,aJb,aH7,aVq,aD0,aJ9,aRm,aH5,aE6,aRl,aJ4,aRj,aCz,aLp,aBz,aCv,aAq,aO9,aCw,jD,aA0,aJ2,aE3,aE2,aC0,aH6,aH4,aBy,aFj,aJ0,aLq,aLs,aOa,aZ3,aLt,aOc,aZ4,aAw,aJ6,aJa,aJ1,aD2,aAv,aJ5,aLr,aE1,aJ3,aFk,aCu,aD1,aRk,aVp,aVo,bCh]
noncomputable def hys:List Str:=["least_parts"]
noncomputable def hx0 (K:PySem.W.Frag):Bool:=decide ((PySem.W.nsIn K mainGlobals "Book"=some (some (.ref (He.ga K "Book"))))∧(PySem.W.plainGet K (He.ga K "Book") Str.empty=true)∧(PySem.W.hasDictIn K (He.ga K "Book")=true)∧(PySem.W.plainOver K (He.ga K "Book")=true)∧(PySem.W.findIn K (.ref (He.ga K "Book")) "__setattr__"=some (some (.builtin "object.__setattr__")))∧(PySem.W.makesIn K (He.ga K "Book")=true)∧(PySem.W.keepIn K (.ref (He.ga K "Book"))=true)∧(PySem.W.nsIn K mainGlobals "Choices"=some (some (.ref (He.ga K "Choices"))))∧(PySem.W.plainGet K (He.ga K "Choices") Str.empty=true)∧(PySem.W.hasDictIn K (He.ga K "Choices")=true)∧(PySem.W.plainOver K (He.ga K "Choices")=true)∧(PySem.W.findIn K (.ref (He.ga K "Choices")) "__setattr__"=some (some (.builtin "object.__setattr__")))∧(PySem.W.makesIn K (He.ga K "Choices")=true)∧(PySem.W.keepIn K (.ref (He.ga K "Choices"))=true)∧(PySem.W.nsIn K mainGlobals "Kind"=some (some (.ref (He.ga K "Kind"))))∧(PySem.W.plainGet K (He.ga K "Kind") Str.empty=true))
noncomputable def hx1 (K:PySem.W.Frag):Bool:=decide ((PySem.W.hasDictIn K (He.ga K "Kind")=true)∧(PySem.W.plainOver K (He.ga K "Kind")=true)∧(PySem.W.findIn K (.ref (He.ga K "Kind")) "__setattr__"=some (some (.builtin "object.__setattr__")))∧(PySem.W.makesIn K (He.ga K "Kind")=true)∧(PySem.W.keepIn K (.ref (He.ga K "Kind"))=true)∧(PySem.W.nsIn K mainGlobals "Rule"=some (some (.ref (He.ga K "Rule"))))∧(PySem.W.plainGet K (He.ga K "Rule") Str.empty=true)∧(PySem.W.hasDictIn K (He.ga K "Rule")=true)∧(PySem.W.plainOver K (He.ga K "Rule")=true)∧(PySem.W.findIn K (.ref (He.ga K "Rule")) "__setattr__"=some (some (.builtin "object.__setattr__")))∧(PySem.W.makesIn K (He.ga K "Rule")=true)∧(PySem.W.keepIn K (.ref (He.ga K "Rule"))=true)∧(PySem.W.nsIn K mainGlobals "Search"=some (some (.ref (He.ga K "Search"))))∧(PySem.W.plainGet K (He.ga K "Search") Str.empty=true)∧(PySem.W.hasDictIn K (He.ga K "Search")=true)∧(PySem.W.plainOver K (He.ga K "Search")=true))
noncomputable def hx2 (K:PySem.W.Frag):Bool:=decide ((PySem.W.findIn K (.ref (He.ga K "Search")) "__setattr__"=some (some (.builtin "object.__setattr__")))∧(PySem.W.makesIn K (He.ga K "Search")=true)∧(PySem.W.keepIn K (.ref (He.ga K "Search"))=true)∧(PySem.W.nsIn K mainGlobals "Sums"=some (some (.ref (He.ga K "Sums"))))∧(PySem.W.plainGet K (He.ga K "Sums") Str.empty=true)∧(PySem.W.hasDictIn K (He.ga K "Sums")=true)∧(PySem.W.plainOver K (He.ga K "Sums")=true)∧(PySem.W.findIn K (.ref (He.ga K "Sums")) "__setattr__"=some (some (.builtin "object.__setattr__")))∧(PySem.W.makesIn K (He.ga K "Sums")=true)∧(PySem.W.keepIn K (.ref (He.ga K "Sums"))=true)∧(PySem.W.nsIn K mainGlobals "Waiting"=some (some (.ref (He.ga K "Waiting"))))∧(PySem.W.plainGet K (He.ga K "Waiting") Str.empty=true)∧(PySem.W.hasDictIn K (He.ga K "Waiting")=true)∧(PySem.W.plainOver K (He.ga K "Waiting")=true)∧(PySem.W.findIn K (.ref (He.ga K "Waiting")) "__setattr__"=some (some (.builtin "object.__setattr__")))∧(PySem.W.makesIn K (He.ga K "Waiting")=true))
noncomputable def hx3 (K:PySem.W.Frag):Bool:=decide ((PySem.W.keepIn K (.ref (He.ga K "Waiting"))=true)∧(PySem.W.nsIn K mainGlobals "Ways"=some (some (.ref (He.ga K "Ways"))))∧(PySem.W.plainGet K (He.ga K "Ways") Str.empty=true)∧(PySem.W.hasDictIn K (He.ga K "Ways")=true)∧(PySem.W.plainOver K (He.ga K "Ways")=true)∧(PySem.W.findIn K (.ref (He.ga K "Ways")) "__setattr__"=some (some (.builtin "object.__setattr__")))∧(PySem.W.makesIn K (He.ga K "Ways")=true)∧(PySem.W.keepIn K (.ref (He.ga K "Ways"))=true)∧(PySem.W.findIn K (.ref (He.ga K "Book")) "__class__"=some (some (.builtin "object.__class__")))∧(PySem.W.mroIn K (He.ga K "Book") (.type "object")=some true)∧(PySem.W.findIn K (.ref (He.ga K "Choices")) "__class__"=some (some (.builtin "object.__class__")))∧(PySem.W.mroIn K (He.ga K "Choices") (.type "object")=some true)∧(PySem.W.findIn K (.ref (He.ga K "Kind")) "__class__"=some (some (.builtin "object.__class__")))∧(PySem.W.mroIn K (He.ga K "Kind") (.type "object")=some true)∧(PySem.W.findIn K (.ref (He.ga K "Rule")) "__class__"=some (some (.builtin "object.__class__")))∧(PySem.W.mroIn K (He.ga K "Rule") (.type "object")=some true))
noncomputable def hx4 (K:PySem.W.Frag):Bool:=decide ((PySem.W.findIn K (.ref (He.ga K "Search")) "__class__"=some (some (.builtin "object.__class__")))∧(PySem.W.mroIn K (He.ga K "Search") (.type "object")=some true)∧(PySem.W.findIn K (.ref (He.ga K "Sums")) "__class__"=some (some (.builtin "object.__class__")))∧(PySem.W.mroIn K (He.ga K "Sums") (.type "object")=some true)∧(PySem.W.findIn K (.ref (He.ga K "Waiting")) "__class__"=some (some (.builtin "object.__class__")))∧(PySem.W.mroIn K (He.ga K "Waiting") (.type "object")=some true)∧(PySem.W.findIn K (.ref (He.ga K "Ways")) "__class__"=some (some (.builtin "object.__class__")))∧(PySem.W.mroIn K (He.ga K "Ways") (.type "object")=some true)∧(PySem.W.specialIn K (.builtin "object.__class__") "__get__"=some (some (.builtin "getset_descriptor.__get__")))∧(PySem.W.takesIn K (.builtin "object.__class__")=some true)∧(PySem.W.kitOne K (.type "NoneType") (.ref (He.ga K "Book"))=some false)∧(PySem.W.kitOne K (.type "bool") (.ref (He.ga K "Book"))=some false)∧(PySem.W.kitOne K (.type "int") (.ref (He.ga K "Book"))=some false)∧(PySem.W.kitOne K (.type "str") (.ref (He.ga K "Book"))=some false)∧(PySem.W.kitOne K (.type "tuple") (.ref (He.ga K "Book"))=some false)∧(PySem.W.kitOne K (.type "list") (.ref (He.ga K "Book"))=some false))
noncomputable def hx5 (K:PySem.W.Frag):Bool:=decide ((PySem.W.kitOne K (.type "dict") (.ref (He.ga K "Book"))=some false)∧(PySem.W.kitOne K (.ref (He.ga K "Book")) (.ref (He.ga K "Book"))=some true)∧(PySem.W.kitOne K (.ref (He.ga K "Choices")) (.ref (He.ga K "Book"))=some false)∧(PySem.W.kitOne K (.ref (He.ga K "Kind")) (.ref (He.ga K "Book"))=some false)∧(PySem.W.kitOne K (.ref (He.ga K "Rule")) (.ref (He.ga K "Book"))=some false)∧(PySem.W.kitOne K (.ref (He.ga K "Search")) (.ref (He.ga K "Book"))=some false)∧(PySem.W.kitOne K (.ref (He.ga K "Sums")) (.ref (He.ga K "Book"))=some false)∧(PySem.W.kitOne K (.ref (He.ga K "Waiting")) (.ref (He.ga K "Book"))=some false)∧(PySem.W.kitOne K (.ref (He.ga K "Ways")) (.ref (He.ga K "Book"))=some false)∧(PySem.W.kitOne K (.type "NoneType") (.ref (He.ga K "Kind"))=some false)∧(PySem.W.kitOne K (.type "bool") (.ref (He.ga K "Kind"))=some false)∧(PySem.W.kitOne K (.type "int") (.ref (He.ga K "Kind"))=some false)∧(PySem.W.kitOne K (.type "str") (.ref (He.ga K "Kind"))=some false)∧(PySem.W.kitOne K (.type "tuple") (.ref (He.ga K "Kind"))=some false)∧(PySem.W.kitOne K (.type "list") (.ref (He.ga K "Kind"))=some false)∧(PySem.W.kitOne K (.type "dict") (.ref (He.ga K "Kind"))=some false))
noncomputable def hx6 (K:PySem.W.Frag):Bool:=decide ((PySem.W.kitOne K (.ref (He.ga K "Book")) (.ref (He.ga K "Kind"))=some false)∧(PySem.W.kitOne K (.ref (He.ga K "Choices")) (.ref (He.ga K "Kind"))=some false)∧(PySem.W.kitOne K (.ref (He.ga K "Kind")) (.ref (He.ga K "Kind"))=some true)∧(PySem.W.kitOne K (.ref (He.ga K "Rule")) (.ref (He.ga K "Kind"))=some false)∧(PySem.W.kitOne K (.ref (He.ga K "Search")) (.ref (He.ga K "Kind"))=some false)∧(PySem.W.kitOne K (.ref (He.ga K "Sums")) (.ref (He.ga K "Kind"))=some false)∧(PySem.W.kitOne K (.ref (He.ga K "Waiting")) (.ref (He.ga K "Kind"))=some false)∧(PySem.W.kitOne K (.ref (He.ga K "Ways")) (.ref (He.ga K "Kind"))=some false)∧(PySem.W.nsIn K mainGlobals "BadBook"=some (some (.ref (He.ga K "BadBook"))))∧(EvH.errB K (He.ga K "BadBook")=true)∧(PySem.W.findIn K (.ref (He.ga K "BadBook")) "__setattr__"=some (some (.builtin "object.__setattr__")))∧(PySem.W.subIn K (.ref (He.ga K "BadBook")) (.type "BaseException")=some true)∧(PySem.W.typeIn K (.ref (He.ga K "BadBook"))=some (.type "type"))∧(PySem.W.keepIn K (.ref (He.ga K "BadBook"))=true)∧(PySem.W.findIn K (.ref (He.ga K "BadBook")) "place"=some none)∧(PySem.W.findIn K (.ref (He.ga K "BadBook")) "__getattribute__"=some (some (.builtin "BaseException.__getattribute__"))))
noncomputable def hx7 (K:PySem.W.Frag):Bool:=decide ((PySem.W.findIn K (.ref (He.ga K "BadBook")) "__getattr__"=some none)∧(PySem.W.hasDictIn K (He.ga K "BadBook")=true)∧(PySem.W.subIn K (.ref (He.ga K "BadBook")) (.ref (He.ga K "BadBook"))=some true)∧(PySem.W.nsIn K mainGlobals "BadKind"=some (some (.ref (He.ga K "BadKind"))))∧(EvH.errB K (He.ga K "BadKind")=true)∧(PySem.W.findIn K (.ref (He.ga K "BadKind")) "__setattr__"=some (some (.builtin "object.__setattr__")))∧(PySem.W.subIn K (.ref (He.ga K "BadKind")) (.type "BaseException")=some true)∧(PySem.W.typeIn K (.ref (He.ga K "BadKind"))=some (.type "type"))∧(PySem.W.keepIn K (.ref (He.ga K "BadKind"))=true)∧(PySem.W.findIn K (.ref (He.ga K "BadKind")) "place"=some none)∧(PySem.W.findIn K (.ref (He.ga K "BadKind")) "__getattribute__"=some (some (.builtin "BaseException.__getattribute__")))∧(PySem.W.findIn K (.ref (He.ga K "BadKind")) "__getattr__"=some none)∧(PySem.W.hasDictIn K (He.ga K "BadKind")=true)∧(PySem.W.subIn K (.ref (He.ga K "BadKind")) (.ref (He.ga K "BadKind"))=some true)∧(PySem.W.nsIn K mainGlobals "BadState"=some (some (.ref (He.ga K "BadState"))))∧(EvH.errB K (He.ga K "BadState")=true))
noncomputable def hx8 (K:PySem.W.Frag):Bool:=decide ((PySem.W.findIn K (.ref (He.ga K "BadState")) "__setattr__"=some (some (.builtin "object.__setattr__")))∧(PySem.W.subIn K (.ref (He.ga K "BadState")) (.type "BaseException")=some true)∧(PySem.W.typeIn K (.ref (He.ga K "BadState"))=some (.type "type"))∧(PySem.W.keepIn K (.ref (He.ga K "BadState"))=true)∧(PySem.W.findIn K (.ref (He.ga K "BadState")) "state"=some none)∧(PySem.W.findIn K (.ref (He.ga K "BadState")) "__getattribute__"=some (some (.builtin "BaseException.__getattribute__")))∧(PySem.W.findIn K (.ref (He.ga K "BadState")) "__getattr__"=some none)∧(PySem.W.hasDictIn K (He.ga K "BadState")=true)∧(PySem.W.subIn K (.ref (He.ga K "BadState")) (.ref (He.ga K "BadState"))=some true)∧(PySem.W.nsIn K mainGlobals "UnknownKind"=some (some (.ref (He.ga K "UnknownKind"))))∧(EvH.errB K (He.ga K "UnknownKind")=true)∧(PySem.W.findIn K (.ref (He.ga K "UnknownKind")) "__setattr__"=some (some (.builtin "object.__setattr__")))∧(PySem.W.subIn K (.ref (He.ga K "UnknownKind")) (.type "BaseException")=some true)∧(PySem.W.typeIn K (.ref (He.ga K "UnknownKind"))=some (.type "type"))∧(PySem.W.keepIn K (.ref (He.ga K "UnknownKind"))=true)∧(PySem.W.findIn K (.ref (He.ga K "UnknownKind")) "kind"=some none))
noncomputable def hx9 (K:PySem.W.Frag):Bool:=decide ((PySem.W.findIn K (.ref (He.ga K "UnknownKind")) "__getattribute__"=some (some (.builtin "BaseException.__getattribute__")))∧(PySem.W.findIn K (.ref (He.ga K "UnknownKind")) "__getattr__"=some none)∧(PySem.W.hasDictIn K (He.ga K "UnknownKind")=true)∧(PySem.W.subIn K (.ref (He.ga K "UnknownKind")) (.ref (He.ga K "UnknownKind"))=some true)∧(PySem.W.nsIn K mainGlobals "_law_around_size"=some (some (.ref (He.ga K "_law_around_size"))))∧(PySem.W.nsIn K mainGlobals "_law_draw"=some (some (.ref (He.ga K "_law_draw"))))∧(PySem.W.nsIn K mainGlobals "_law_source"=some (some (.ref (He.ga K "_law_source"))))∧(PySem.W.nsIn K mainGlobals "is_flicker"=some (some (.ref (He.ga K "is_flicker"))))∧(PySem.W.findIn K (.ref (He.ga K "UnknownKind")) "__init__"=some (some (.ref (He.ma K (He.ga K "UnknownKind") "__init__"))))∧(PySem.W.typeIn K (.ref (He.ma K (He.ga K "UnknownKind") "__init__"))=some (.type "function"))∧(PySem.W.nsIn K mainGlobals "is_name"=some (some (.ref (He.ga K "is_name"))))∧(PySem.W.findIn K (.ref (He.ga K "Book")) "kind_named"=some (some (.ref (He.ma K (He.ga K "Book") "kind_named"))))∧(PySem.W.isFn K (.ref (He.ma K (He.ga K "Book") "kind_named"))=true)∧(PySem.W.findIn K (.ref (He.ga K "Book")) "states"=some (some (.ref (He.ma K (He.ga K "Book") "states"))))∧(PySem.W.specialIn K (.ref (He.ma K (He.ga K "Book") "states")) "__get__"=some (some (.builtin "property.__get__")))∧(PySem.W.takesIn K (.ref (He.ma K (He.ga K "Book") "states"))=some true))
noncomputable def hx10 (K:PySem.W.Frag):Bool:=decide ((EvH.gfB K (He.ma K (He.ga K "Book") "states")=true)∧(PySem.W.nsIn K mainGlobals "unlike_ways"=some (some (.ref (He.ga K "unlike_ways"))))∧(PySem.W.findIn K (.ref (He.ga K "Choices")) "__init__"=some (some (.ref (He.ma K (He.ga K "Choices") "__init__"))))∧(PySem.W.isFn K (.ref (He.ma K (He.ga K "Choices") "__init__"))=true)∧(PySem.W.nsIn K mainGlobals "least_parts"=some (some (.ref (He.ga K "least_parts"))))∧(PySem.W.findIn K (.ref (He.ga K "Ways")) "least_parts_of"=some (some (.ref (He.ma K (He.ga K "Ways") "least_parts_of"))))∧(PySem.W.isFn K (.ref (He.ma K (He.ga K "Ways") "least_parts_of"))=true)∧(PySem.W.findIn K (.ref (He.ga K "Waiting")) "raise_last"=some (some (.ref (He.ma K (He.ga K "Waiting") "raise_last"))))∧(PySem.W.isFn K (.ref (He.ma K (He.ga K "Waiting") "raise_last"))=true)∧(PySem.W.findIn K (.ref (He.ga K "Waiting")) "wait"=some (some (.ref (He.ma K (He.ga K "Waiting") "wait"))))∧(PySem.W.isFn K (.ref (He.ma K (He.ga K "Waiting") "wait"))=true)∧(PySem.W.findIn K (.ref (He.ga K "Search")) "offer"=some (some (.ref (He.ma K (He.ga K "Search") "offer"))))∧(PySem.W.isFn K (.ref (He.ma K (He.ga K "Search") "offer"))=true)∧(PySem.W.findIn K (.ref (He.ga K "Sums")) "__init__"=some (some (.ref (He.ma K (He.ga K "Sums") "__init__"))))∧(PySem.W.isFn K (.ref (He.ma K (He.ga K "Sums") "__init__"))=true)∧(PySem.W.findIn K (.ref (He.ga K "Waiting")) "__init__"=some (some (.ref (He.ma K (He.ga K "Waiting") "__init__")))))
noncomputable def hx11 (K:PySem.W.Frag):Bool:=decide ((PySem.W.isFn K (.ref (He.ma K (He.ga K "Waiting") "__init__"))=true)∧(PySem.W.findIn K (.ref (He.ga K "Search")) "__init__"=some (some (.ref (He.ma K (He.ga K "Search") "__init__"))))∧(PySem.W.isFn K (.ref (He.ma K (He.ga K "Search") "__init__"))=true)∧(PySem.W.findIn K (.ref (He.ga K "Rule")) "with_one_more"=some (some (.ref (He.ma K (He.ga K "Rule") "with_one_more"))))∧(PySem.W.isFn K (.ref (He.ma K (He.ga K "Rule") "with_one_more"))=true)∧(PySem.W.findIn K (.ref (He.ga K "Sums")) "with_one_more"=some (some (.ref (He.ma K (He.ga K "Sums") "with_one_more"))))∧(PySem.W.isFn K (.ref (He.ma K (He.ga K "Sums") "with_one_more"))=true)∧(PySem.W.findIn K (.ref (He.ga K "Sums")) "take"=some (some (.ref (He.ma K (He.ga K "Sums") "take"))))∧(PySem.W.isFn K (.ref (He.ma K (He.ga K "Sums") "take"))=true)∧(PySem.W.findIn K (.ref (He.ga K "Search")) "take"=some (some (.ref (He.ma K (He.ga K "Search") "take"))))∧(PySem.W.isFn K (.ref (He.ma K (He.ga K "Search") "take"))=true)∧(PySem.W.findIn K (.ref (He.ga K "Waiting")) "is_empty"=some (some (.ref (He.ma K (He.ga K "Waiting") "is_empty"))))∧(PySem.W.isFn K (.ref (He.ma K (He.ga K "Waiting") "is_empty"))=true)∧(PySem.W.findIn K (.ref (He.ga K "Waiting")) "lesser_below"=some (some (.ref (He.ma K (He.ga K "Waiting") "lesser_below"))))∧(PySem.W.isFn K (.ref (He.ma K (He.ga K "Waiting") "lesser_below"))=true)∧(PySem.W.findIn K (.ref (He.ga K "Waiting")) "lower_first"=some (some (.ref (He.ma K (He.ga K "Waiting") "lower_first")))))
noncomputable def hx12 (K:PySem.W.Frag):Bool:=decide ((PySem.W.isFn K (.ref (He.ma K (He.ga K "Waiting") "lower_first"))=true)∧(PySem.W.findIn K (.ref (He.ga K "Waiting")) "leave"=some (some (.ref (He.ma K (He.ga K "Waiting") "leave"))))∧(PySem.W.isFn K (.ref (He.ma K (He.ga K "Waiting") "leave"))=true)∧(PySem.W.nsIn K mainGlobals "unchained"=some (some (.ref (He.ga K "unchained"))))∧(PySem.W.findIn K (.ref (He.ga K "Search")) "find_all"=some (some (.ref (He.ma K (He.ga K "Search") "find_all"))))∧(PySem.W.isFn K (.ref (He.ma K (He.ga K "Search") "find_all"))=true)∧(PySem.W.nsIn K mainGlobals "least_counted"=some (some (.ref (He.ga K "least_counted"))))∧(PySem.W.nsIn K mainGlobals "least_branches"=some (some (.ref (He.ga K "least_branches"))))∧(PySem.W.findIn K (.ref (He.ga K "Book")) "names"=some (some (.ref (He.ma K (He.ga K "Book") "names"))))∧(PySem.W.specialIn K (.ref (He.ma K (He.ga K "Book") "names")) "__get__"=some (some (.builtin "property.__get__")))∧(PySem.W.takesIn K (.ref (He.ma K (He.ga K "Book") "names"))=some true)∧(EvH.gfB K (He.ma K (He.ga K "Book") "names")=true)∧(PySem.W.findIn K (.ref (He.ga K "Kind")) "hand"=some (some (.ref (He.ma K (He.ga K "Kind") "hand"))))∧(PySem.W.specialIn K (.ref (He.ma K (He.ga K "Kind") "hand")) "__get__"=some (some (.builtin "property.__get__")))∧(PySem.W.takesIn K (.ref (He.ma K (He.ga K "Kind") "hand"))=some true)∧(EvH.gfB K (He.ma K (He.ga K "Kind") "hand")=true))
noncomputable def hx13 (K:PySem.W.Frag):Bool:=decide ((PySem.W.findIn K (.ref (He.ga K "Kind")) "parts"=some (some (.ref (He.ma K (He.ga K "Kind") "parts"))))∧(PySem.W.specialIn K (.ref (He.ma K (He.ga K "Kind") "parts")) "__get__"=some (some (.builtin "property.__get__")))∧(PySem.W.takesIn K (.ref (He.ma K (He.ga K "Kind") "parts"))=some true)∧(EvH.gfB K (He.ma K (He.ga K "Kind") "parts")=true)∧(PySem.W.nsIn K mainGlobals "holds"=some (some (.ref (He.ga K "holds"))))∧(PySem.W.findIn K (.ref (He.ga K "Kind")) "counting"=some (some (.ref (He.ma K (He.ga K "Kind") "counting"))))∧(PySem.W.isFn K (.ref (He.ma K (He.ga K "Kind") "counting"))=true)∧(PySem.W.findIn K (.ref (He.ga K "Kind")) "told"=some (some (.ref (He.ma K (He.ga K "Kind") "told"))))∧(PySem.W.isFn K (.ref (He.ma K (He.ga K "Kind") "told"))=true)∧(PySem.W.nsIn K mainGlobals "agreed"=some (some (.ref (He.ga K "agreed"))))∧(PySem.W.nsIn K mainGlobals "all_counts"=some (some (.ref (He.ga K "all_counts"))))∧(PySem.W.findIn K (.ref (He.ga K "Kind")) "clauses"=some (some (.ref (He.ma K (He.ga K "Kind") "clauses"))))∧(PySem.W.specialIn K (.ref (He.ma K (He.ga K "Kind") "clauses")) "__get__"=some (some (.builtin "property.__get__")))∧(PySem.W.takesIn K (.ref (He.ma K (He.ga K "Kind") "clauses"))=some true)∧(EvH.gfB K (He.ma K (He.ga K "Kind") "clauses")=true)∧(PySem.W.nsIn K mainGlobals "cap_of"=some (some (.ref (He.ga K "cap_of")))))
noncomputable def hx14 (K:PySem.W.Frag):Bool:=decide ((PySem.W.nsIn K mainGlobals "in_common"=some (some (.ref (He.ga K "in_common"))))∧(PySem.W.nsIn K mainGlobals "listed"=some (some (.ref (He.ga K "listed"))))∧(PySem.W.findIn K (.ref (He.ga K "Rule")) "__init__"=some (some (.ref (He.ma K (He.ga K "Rule") "__init__"))))∧(PySem.W.isFn K (.ref (He.ma K (He.ga K "Rule") "__init__"))=true)∧(PySem.W.nsIn K mainGlobals "rules_of"=some (some (.ref (He.ga K "rules_of"))))∧(PySem.W.findIn K (.ref (He.ga K "Rule")) "told_with"=some (some (.ref (He.ma K (He.ga K "Rule") "told_with"))))∧(PySem.W.isFn K (.ref (He.ma K (He.ga K "Rule") "told_with"))=true)∧(PySem.W.nsIn K mainGlobals "chosen_others"=some (some (.ref (He.ga K "chosen_others"))))∧(PySem.W.nsIn K mainGlobals "counts_of_others"=some (some (.ref (He.ga K "counts_of_others"))))∧(PySem.W.nsIn K mainGlobals "ways_of"=some (some (.ref (He.ga K "ways_of"))))∧(PySem.W.findIn K (.ref (He.ga K "Ways")) "__init__"=some (some (.ref (He.ma K (He.ga K "Ways") "__init__"))))∧(PySem.W.isFn K (.ref (He.ma K (He.ga K "Ways") "__init__"))=true)∧(PySem.W.findIn K (.ref (He.ga K "Ways")) "possible_states"=some (some (.ref (He.ma K (He.ga K "Ways") "possible_states"))))∧(PySem.W.isFn K (.ref (He.ma K (He.ga K "Ways") "possible_states"))=true)∧(PySem.W.findIn K (.ref (He.ga K "BadState")) "__init__"=some (some (.ref (He.ma K (He.ga K "BadState") "__init__"))))∧(PySem.W.typeIn K (.ref (He.ma K (He.ga K "BadState") "__init__"))=some (.type "function")))
noncomputable def hx15 (K:PySem.W.Frag):Bool:=decide ((PySem.W.nsIn K mainGlobals "is_one_of"=some (some (.ref (He.ga K "is_one_of"))))∧(PySem.W.nsIn K mainGlobals "check_states"=some (some (.ref (He.ga K "check_states"))))∧(PySem.W.nsIn K mainGlobals "checked_ways"=some (some (.ref (He.ga K "checked_ways"))))∧(PySem.W.findIn K (.ref (He.ga K "Choices")) "unlike"=some (some (.ref (He.ma K (He.ga K "Choices") "unlike"))))∧(PySem.W.isFn K (.ref (He.ma K (He.ga K "Choices") "unlike"))=true)∧(PySem.W.findIn K (.ref (He.ga K "Ways")) "steps"=some (some (.ref (He.ma K (He.ga K "Ways") "steps"))))∧(PySem.W.isFn K (.ref (He.ma K (He.ga K "Ways") "steps"))=true)∧(PySem.W.specialIn K (.ref (He.ma K (He.ga K "Ways") "steps")) "__get__"=some (some (.builtin "function.__get__")))∧(PySem.W.takesIn K (.ref (He.ma K (He.ga K "Ways") "steps"))=some false)∧(PySem.W.fnIn K (He.ma K (He.ga K "Ways") "steps")=true)∧(PySem.W.nsIn K mainGlobals "climbed_on"=some (some (.ref (He.ga K "climbed_on"))))∧(PySem.W.nsIn K mainGlobals "choices_of_two"=some (some (.ref (He.ga K "choices_of_two"))))∧(PySem.W.nsIn K mainGlobals "least_pairs"=some (some (.ref (He.ga K "least_pairs"))))∧(PySem.W.nsIn K mainGlobals "states_of"=some (some (.ref (He.ga K "states_of"))))∧(PySem.W.nsIn K mainGlobals "joins_at"=some (some (.ref (He.ga K "joins_at"))))∧(PySem.W.nsIn K mainGlobals "forks_of"=some (some (.ref (He.ga K "forks_of")))))
noncomputable def hx16 (K:PySem.W.Frag):Bool:=decide ((PySem.W.nsIn K mainGlobals "rows_at"=some (some (.ref (He.ga K "rows_at"))))∧(PySem.W.nsIn K mainGlobals "rows"=some (some (.ref (He.ga K "rows"))))∧(PySem.W.nsIn K mainGlobals "flickers"=some (some (.ref (He.ga K "flickers"))))∧(PySem.W.nsIn K mainGlobals "is_list"=some (some (.ref (He.ga K "is_list"))))∧(PySem.W.nsIn K mainGlobals "fork"=some (some (.ref (He.ga K "fork"))))∧(PySem.W.findIn K (.ref (He.ga K "BadBook")) "__init__"=some (some (.ref (He.ma K (He.ga K "BadBook") "__init__"))))∧(PySem.W.typeIn K (.ref (He.ma K (He.ga K "BadBook") "__init__"))=some (.type "function"))∧(PySem.W.nsIn K mainGlobals "are_kinds"=some (some (.ref (He.ga K "are_kinds"))))∧(PySem.W.findIn K (.ref (He.ga K "Kind")) "last"=some (some (.ref (He.ma K (He.ga K "Kind") "last"))))∧(PySem.W.specialIn K (.ref (He.ma K (He.ga K "Kind") "last")) "__get__"=some (some (.builtin "property.__get__")))∧(PySem.W.takesIn K (.ref (He.ma K (He.ga K "Kind") "last"))=some true)∧(EvH.gfB K (He.ma K (He.ga K "Kind") "last")=true)∧(PySem.W.nsIn K mainGlobals "states_in"=some (some (.ref (He.ga K "states_in"))))∧(PySem.W.findIn K (.ref (He.ga K "Book")) "__init__"=some (some (.ref (He.ma K (He.ga K "Book") "__init__"))))∧(PySem.W.isFn K (.ref (He.ma K (He.ga K "Book") "__init__"))=true)∧(PySem.W.findIn K (.ref (He.ga K "BadKind")) "__init__"=some (some (.ref (He.ma K (He.ga K "BadKind") "__init__")))))
noncomputable def hx17 (K:PySem.W.Frag):Bool:=decide ((PySem.W.typeIn K (.ref (He.ma K (He.ga K "BadKind") "__init__"))=some (.type "function"))∧(PySem.W.nsIn K mainGlobals "are_names"=some (some (.ref (He.ga K "are_names"))))∧(PySem.W.nsIn K mainGlobals "is_digit"=some (some (.ref (He.ga K "is_digit"))))∧(PySem.W.nsIn K mainGlobals "is_condition"=some (some (.ref (He.ga K "is_condition"))))∧(PySem.W.nsIn K mainGlobals "is_clause"=some (some (.ref (He.ga K "is_clause"))))∧(PySem.W.nsIn K mainGlobals "are_clauses"=some (some (.ref (He.ga K "are_clauses"))))∧(PySem.W.nsIn K mainGlobals "copied_clause"=some (some (.ref (He.ga K "copied_clause"))))∧(PySem.W.findIn K (.ref (He.ga K "Kind")) "__init__"=some (some (.ref (He.ma K (He.ga K "Kind") "__init__"))))∧(PySem.W.isFn K (.ref (He.ma K (He.ga K "Kind") "__init__"))=true)∧(PySem.W.nsIn K mainGlobals "lights"=some (some (.ref (He.ga K "lights"))))∧(PySem.W.nsIn K mainGlobals "ticks"=some (some (.ref (He.ga K "ticks"))))∧(PySem.W.nsIn K mainGlobals "votes"=some (some (.ref (He.ga K "votes"))))∧(PySem.W.nsIn K mainGlobals "law"=some (some (.ref (He.ga K "law"))))∧(PySem.W.nsIn K mainGlobals "all"=some none)∧(PySem.W.nsIn K mainGlobals "bool"=some none)∧(PySem.W.nsIn K mainGlobals "dict"=some none))
noncomputable def hx18 (K:PySem.W.Frag):Bool:=decide ((PySem.W.nsIn K mainGlobals "enumerate"=some none)∧(PySem.W.nsIn K mainGlobals "int"=some none)∧(PySem.W.nsIn K mainGlobals "isinstance"=some none)∧(PySem.W.nsIn K mainGlobals "len"=some none)∧(PySem.W.nsIn K mainGlobals "list"=some none)∧(PySem.W.nsIn K mainGlobals "max"=some none)∧(PySem.W.nsIn K mainGlobals "min"=some none)∧(PySem.W.nsIn K mainGlobals "range"=some none)∧(PySem.W.nsIn K mainGlobals "set"=some none)∧(PySem.W.nsIn K mainGlobals "sorted"=some none)∧(PySem.W.nsIn K mainGlobals "str"=some none)∧(PySem.W.nsIn K mainGlobals "sum"=some none)∧(PySem.W.nsIn K mainGlobals "tuple"=some none)∧(PySem.W.nsIn K mainGlobals "zip"=some none)∧(EvH.intB K "MOST_CLAUSES" 6=true)∧(EvH.intB K "MOST_CONDITIONS" 4=true))
noncomputable def hx19 (K:PySem.W.Frag):Bool:=decide ((EvH.intB K "MOST_DIGIT" 9=true)∧(EvH.intB K "MOST_KINDS" 4=true)∧(EvH.intB K "MOST_LETTERS" 8=true)∧(EvH.intB K "MOST_STATES" 8=true)∧(PySem.W.findIn K (.ref (He.ga K "Book")) "kinds_by_name"=some none)∧(PySem.W.findIn K (.ref (He.ga K "Book")) "name_row"=some none)∧(PySem.W.findIn K (.ref (He.ga K "Book")) "state_row"=some none)∧(PySem.W.findIn K (.ref (He.ga K "Choices")) "all_ways"=some none)∧(PySem.W.findIn K (.ref (He.ga K "Choices")) "ways_by_keys"=some none)∧(PySem.W.findIn K (.ref (He.ga K "Kind")) "clause_row"=some none)∧(PySem.W.findIn K (.ref (He.ga K "Kind")) "hand_states"=some none)∧(PySem.W.findIn K (.ref (He.ga K "Kind")) "last_state"=some none)∧(PySem.W.findIn K (.ref (He.ga K "Kind")) "part_kinds"=some none)∧(PySem.W.findIn K (.ref (He.ga K "Rule")) "caps"=some none)∧(PySem.W.findIn K (.ref (He.ga K "Rule")) "hand_states"=some none)∧(PySem.W.findIn K (.ref (He.ga K "Rule")) "part_kinds"=some none))
noncomputable def hx20 (K:PySem.W.Frag):Bool:=decide ((PySem.W.findIn K (.ref (He.ga K "Rule")) "places"=some none)∧(PySem.W.findIn K (.ref (He.ga K "Rule")) "state_row"=some none)∧(PySem.W.findIn K (.ref (He.ga K "Rule")) "telling"=some none)∧(PySem.W.findIn K (.ref (He.ga K "Search")) "found"=some none)∧(PySem.W.findIn K (.ref (He.ga K "Search")) "rules"=some none)∧(PySem.W.findIn K (.ref (He.ga K "Search")) "sizes"=some none)∧(PySem.W.findIn K (.ref (He.ga K "Search")) "sums"=some none)∧(PySem.W.findIn K (.ref (He.ga K "Search")) "waiting"=some none)∧(PySem.W.findIn K (.ref (He.ga K "Sums")) "chains"=some none)∧(PySem.W.findIn K (.ref (He.ga K "Sums")) "greatest"=some none)∧(PySem.W.findIn K (.ref (He.ga K "Sums")) "rule"=some none)∧(PySem.W.findIn K (.ref (He.ga K "Sums")) "taken"=some none)∧(PySem.W.findIn K (.ref (He.ga K "Waiting")) "heap"=some none)∧(PySem.W.findIn K (.ref (He.ga K "Waiting")) "things_of_size"=some none)∧(PySem.W.findIn K (.ref (He.ga K "Ways")) "choices"=some none)∧(PySem.W.findIn K (.ref (He.ga K "Ways")) "leasts"=some none))
noncomputable def hx21 (K:PySem.W.Frag):Bool:=decide ((PySem.W.findIn K (.ref (He.ga K "Ways")) "rules"=some none)∧(((["least_parts"]:List Str).all fun y=>(PySem.W.tabIn K y).isSome)=true)∧(decide (((["least_parts"]:List Str).map fun y=>(EvT1.xJ K y).2).Nodup)=true))
noncomputable def hex (K:PySem.W.Frag):Bool:=hx0 K&&(hx1 K&&(hx2 K&&(hx3 K&&(hx4 K&&(hx5 K&&(hx6 K&&(hx7 K&&(hx8 K&&(hx9 K&&(hx10 K&&(hx11 K&&(hx12 K&&(hx13 K&&(hx14 K&&(hx15 K&&(hx16 K&&(hx17 K&&(hx18 K&&(hx19 K&&(hx20 K&&(hx21 K&&(true))))))))))))))))))))))
noncomputable def hn0:List PySem.Str:=["_wall","PartsError","BadKind","BadBook","UnknownKind","BadState","is_one_of","check_states","Waiting","Sums","Search","unchained","least_counted","least_branches","least_parts","counts_of_others","chosen_others","Rule","rules_of","in_common"]
noncomputable def hn1:List PySem.Str:=["agreed","cap_of","all_counts","listed","Choices","Ways","ways_of","unlike_ways","climbed_on","rows_at","MOST_LETTERS","MOST_DIGIT","MOST_CLAUSES","MOST_CONDITIONS","is_list","is_name","are_names","is_digit","is_condition","is_clause"]
noncomputable def hn2:List PySem.Str:=["are_clauses","rows","fork","flickers","checked_ways","is_flicker","forks_of","joins_at","least_pairs","states_of","choices_of_two","MOST_KINDS","MOST_STATES","Kind","Book","copied_clause","holds","are_kinds","states_in","ticks"]
noncomputable def hn3:List PySem.Str:=["lights","votes","_law_source","_law_draw","_law_around_size"]
noncomputable def bCg:List PySem.Str:=hn0++hn1++hn2++hn3
@[reducible] def hR:PySem.W.OpenRow:=PySem.W.OpenLaw.row PySem.Challenge.rw_partstold_k55_known_rows
@[reducible] def hq:Program:=PySem.W.view hR.prog [76]
@[reducible] noncomputable def hk:PySem.W.Hook:=EvH.hook 6 hds hys hex
noncomputable def hob (s:PySem.W.SharedT):EvH.Seen:=EvH.aWj 6 hds hys hex (HandSHeadRun.getT s)
theorem hrun (w:World):HandSHeadRun.RunEq hR hq hk hob 12000 bCg w:=by
 intro os
 kernel_rfl
end G
namespace Ev
open PySem L2
class Wrl where
 P:Program
 w:World
 tabs:List (Addr×Str)
structure HereP (P:Program) (w:World) [W:Wrl]:Prop where
 p:W.P=P
 w:W.w=w
structure Here (X:Cx) [W:Wrl]:Prop where
 p:W.P=X.prog
 w:W.w=X.w
inductive T where
 | non | bl (b:Bool) | int (i:Int) | str (x:Str) | ty (n:String)
 | tup (xs:List T) | lst (xs:List T) | rls (xs:List T) | dct (ks:List Key) (vs:List T) | ins (C:Str) (ns:List Str) (vs:List T)
 | dcn (ks:List T) (vs:List T) | exc (C:Str) (ns:List Str) (vs:List T) | set (ks:List Key)
 | odd (k v:T)
 | fn (a c:Nat) (q:Str) (σ:List (Option V)) (bs:List Bool) (ts:List T)
 | loc (n:Nat)
inductive MO where
 | lst (ts:List T) | dct (ks:List Key) (vs:List T) | ins (C:Str) (ns:List Str) (vs:List T) | dcn (ks:List T) (vs:List T)
mutual
noncomputable def toNK:T→Option NestedKey
 | .non=>some .none
 | .bl b=>some (.num (if b then 1 else 0))
 | .int i=>some (.num i)
 | .str x=>some (.text x)
 | .tup ts=>(toNKs ts).map .tup
 | _=>none
noncomputable def toNKs:List T→Option (List NestedKey)
 | []=>some []
 | t::ts=>match toNK t,toNKs ts with
  | some k,some ks=>some (k::ks)
  | _,_=>none
end
noncomputable def keyM (e:Int×Value):Key:=match e.2 with
 | .int i _=> .inl i
 | .str x _=> .inr x
 | _=> .inl 0
noncomputable def aSq (P:Program) (w:World) (e:Int×Value):Prop:=∃ k:Key,RelV (kV k) e.2∧e.1=(mixKind P w).hash k
noncomputable def SetM (P:Program) (w:World) (h:Heap) (a:Addr) (ks:List Key):Prop:=∃ o es ep t,h.get? a=some o∧o.ExactSet∧o.data= .set es ep t∧(∀ e∈es.toList,aSq P w e)∧(es.toList.map keyM).Perm ks∧ks.Nodup∧
 ks.length < 4090∧t.fits es.size=true∧Ris t.place.toList∧(w.params.followText "set-order"=true∨t.led=true)
noncomputable def oddO (a:Addr) (x y:V):HO:= .ext fun h=>(a ==sysModules)=false∧∃(o:Obj) (e:DictEntry) (ep:Nat),h.get? a=some o∧o.ExactDict∧o.data= .dict #[e] ep∧RelV x e.key∧RelV y e.val
noncomputable def setO [Wrl] (a:Addr) (ks:List Key):HO:= .ext fun h=>SetM Wrl.P Wrl.w h a ks
noncomputable def eqNs:List Nat→List Nat→Bool
 | [],[]=>true
 | a::as,b::bs=>match Nat.beq a b with
  | true=>eqNs as bs
  | false=>false
 | _,_=>false
theorem aVv:∀ {a b:List Nat},eqNs a b=true↔a=b
 | [],[]=>by simp [eqNs]
 | [],_::_=>by simp [eqNs]
 | _::_,[]=>by simp [eqNs]
 | a::as,b::bs=>by
  unfold eqNs
  have ih:=aVv (a:=as) (b:=bs)
  cases h:Nat.beq a b with
  | true=>have:=Nat.eq_of_beq_eq_true h; simp [ih,this]
  | false=>have:=Nat.ne_of_beq_eq_false h; simp [this]
noncomputable def eqS (a b:Str):Bool:=eqNs a.cps.toList b.cps.toList
theorem uG {a b:Str}:eqS a b=true↔a=b:=by
 unfold eqS
 rw [aVv]
 exact⟨fun h=>by cases a; cases b; congr 1; exact Array.toList_inj.mp h,fun h=>by rw [h]⟩
theorem aPm (a b:Str) [Decidable (a=b)]:decide (a=b)=eqS a b:=by
 cases h:eqS a b with
 | true=>exact decide_eq_true (uG.mp h)
 | false=>exact decide_eq_false fun e=>by rw [uG.mpr e] at h; cases h
theorem bEu (a b:Str):(a ==b)=eqS a b:=by
 cases h:eqS a b with
 | true=>exact beq_iff_eq.mpr (uG.mp h)
 | false=>exact beq_eq_false_iff_ne.mpr fun e=>by rw [uG.mpr e] at h; cases h
noncomputable def aPd:Key→Key→Bool
 | .inl i,.inl j=>decide (i=j)
 | .inr x,.inr y=>eqS x y
 | _,_=>false
theorem tX {a b:Key}:aPd a b=true↔a=b:=by
 cases a<;>cases b<;>simp [aPd,uG]
theorem aRi (a b:Key) [Decidable (a=b)]:decide (a=b)=aPd a b:=by
 cases h:aPd a b with
 | true=>exact decide_eq_true (tX.mp h)
 | false=>exact decide_eq_false fun e=>by rw [tX.mpr e] at h; cases h
noncomputable def memK (ks:List Key) (k:Key):Bool:=ks.any fun j=>aPd j k
theorem aVj {ks:List Key} {k:Key}:memK ks k=true↔k∈ks:=by
 unfold memK
 rw [List.any_eq_true]
 exact⟨fun⟨j,h,e⟩=>tX.mp e▸h,fun h=>⟨k,h,tX.mpr rfl⟩⟩
noncomputable def addK (ks:List Key) (k:Key):List Key:=if memK ks k then ks else ks++[k]
theorem aUd {ks:List Key} {k:Key} (h:k∈ks):addK ks k=ks:=by unfold addK; rw [if_pos (aVj.mpr h)]
theorem aPz {ks:List Key} {k:Key} (h:k∉ks):addK ks k=ks++[k]:=by unfold addK; rw [if_neg fun z=>h (aVj.mp z)]
noncomputable abbrev EnN:=NestedKey×Addr×V
noncomputable def rawN [Wrl] (a:Addr) (es:List EnN):HO:= .ext fun h=>(a ==sysModules)=false∧es.length≤sizeLine∧(es.map (·.1)).Nodup∧(∀ e∈es,e.1.depth≤8)∧
 ∃ xs:List (NestedKey×Addr×Value),Paired (fun(e:EnN) x=>e.1=x.1∧e.2.1=x.2.1∧RelV e.2.2 x.2.2) es xs∧∃ o ds ep,h.get? a=some o∧o.ExactDict∧o.data= .dict ds ep∧ds.toList=xs.map (entryOfKey (nestedKind Wrl.P Wrl.w))
noncomputable abbrev Env:=List (Option T)
noncomputable abbrev Mem:=List (Option MO)
noncomputable def CAt (K:PySem.W.Frag) (c:Str) (C:Addr):Prop:=PySem.W.nsIn K mainGlobals c=some (some (.ref C))
theorem CAt.inj {K:PySem.W.Frag} {c:Str} {C D:Addr} (h:CAt K c C) (h':CAt K c D):C=D:=by
 unfold CAt at h h'
 rw [h] at h'
 simpa using h'
section
variable [Wrl]
mutual
noncomputable def Rep (K:PySem.W.Frag) (Z:Hp) (ρ:List Addr):T→V→Prop
 | .non,v=>v= .non
 | .bl b,v=>v= .bl b
 | .int i,v=>v= .int i
 | .str x,v=>v= .str x
 | .ty n,v=>v= .ty n
 | .tup ts,v=>∃ a vs,v= .ref a∧SqT K Z a vs∧Reps K Z ρ ts vs
 | .lst ts,v=>∃ a vs,v= .ref a∧Z a=some (.lst vs)∧Reps K Z ρ ts vs
 | .rls ts,v=>∃ a vs,v= .ref a∧SqL K Z a vs∧Reps K Z ρ ts vs
 | .dct ks ts,v=>∃ a vs o,v= .ref a∧Z a=some (.frz o (.dK (ks.zip vs)))∧ks.length=vs.length∧Reps K Z ρ ts vs
 | .ins c ns ts,v=>∃ a C dx vs,v= .ref a∧CAt K c C∧Z a=some (.ins C dx (ns.zip vs))∧ns.length=vs.length∧Reps K Z ρ ts vs
 | .dcn ks ts,v=>∃ a es o,v= .ref a∧toNKs ks=some (es.map (·.1))∧Z a=some (.frz o (rawN a es))∧Reps K Z ρ ks (es.map fun e=> .ref e.2.1)∧Reps K Z ρ ts (es.map (·.2.2))
 | .exc c ns ts,v=>∃ a C d vs,v= .ref a∧CAt K c C∧Z a=some (exo a C d)∧((d=none∧ns=[])∨∃ dx,d=some dx∧Z dx=some (exd dx (ns.zip vs)))∧ns.length=vs.length∧Reps K Z ρ ts vs
 | .set ks,v=>∃ a,v= .ref a∧Z a=some (setO a ks)
 | .odd k t,v=>∃ a x y o,v= .ref a∧Z a=some (.frz o (oddO a x y))∧Rep K Z ρ k x∧Rep K Z ρ t y
 | .fn a c q σ bs ts,v=>v= .ref a∧Z c=some (LamX.CodeO c q)∧bs.length=ts.length∧σ.length=ts.length∧∃ vs,Reps K Z ρ ts vs∧∀(i:Nat) (u:V),bs[i]? =some true→vs[i]? =some u→σ[i]? =some (some u)
 | .loc n,v=>∃ a,ρ[n]? =some a∧v= .ref a
noncomputable def Reps (K:PySem.W.Frag) (Z:Hp) (ρ:List Addr):List T→List V→Prop
 | [],vs=>vs=[]
 | t::ts,vs=>∃ v us,vs=v::us∧Rep K Z ρ t v∧Reps K Z ρ ts us
end
noncomputable def RepO (K:PySem.W.Frag) (Z:Hp) (ρ:List Addr) (a:Addr):MO→Option HO→Prop
 | .lst ts,o=>∃ vs,o=some (.lst vs)∧Reps K Z ρ ts vs
 | .dct ks ts,o=>∃ vs,o=some (.dK (ks.zip vs))∧ks.length=vs.length∧Reps K Z ρ ts vs
 | .ins c ns ts,o=>∃ C dx vs,o=some (.ins C dx (ns.zip vs))∧CAt K c C∧ns.length=vs.length∧Reps K Z ρ ts vs
 | .dcn ks ts,o=>∃ es,o=some (rawN a es)∧toNKs ks=some (es.map (·.1))∧Reps K Z ρ ks (es.map fun e=> .ref e.2.1)∧Reps K Z ρ ts (es.map (·.2.2))
end
theorem Same.sqt {K:PySem.W.Frag} {H H':Hp} {a:Addr} {xs:List V} (e:Same H H') (h:SqT K H a xs):SqT K H' a xs:=by
 rcases h with (h | ⟨o,h⟩) | h
 ·exact .inl (.inl (e _ _ h))
 ·exact .inl (.inr ⟨o,e _ _ h⟩)
 ·exact .inr h
theorem aYd {ρ ρ':List Addr} (h:ρ <+:ρ') {n:Nat} {a:Addr} (e:ρ[n]? =some a):ρ'[n]? =some a:=by
 obtain⟨t,rfl⟩:=h
 have hl:n < ρ.length:=(List.getElem?_eq_some_iff.mp e).1
 rw [List.getElem?_append_left hl]; exact e
section
variable [Wrl]
variable {K:PySem.W.Frag} {Z Z':Hp} {ρ ρ':List Addr}
mutual
theorem Rep.mono (hz:Same Z Z') (hp:ρ <+:ρ'):∀ {t:T} {v:V},Rep K Z ρ t v→Rep K Z' ρ' t v
 | .non,_,h=>by unfold Rep at h ⊢; exact h
 | .bl _,_,h=>by unfold Rep at h ⊢; exact h
 | .int _,_,h=>by unfold Rep at h ⊢; exact h
 | .str _,_,h=>by unfold Rep at h ⊢; exact h
 | .ty _,_,h=>by unfold Rep at h ⊢; exact h
 | .tup ts,_,h=>by
  unfold Rep at h ⊢
  obtain⟨a,vs,e,q,r⟩:=h
  exact⟨a,vs,e,Same.sqt hz q,Reps.mono hz hp r⟩
 | .lst ts,_,h=>by
  unfold Rep at h ⊢
  obtain⟨a,vs,e,q,r⟩:=h
  exact⟨a,vs,e,hz _ _ q,Reps.mono hz hp r⟩
 | .rls ts,_,h=>by
  unfold Rep at h ⊢
  obtain⟨a,vs,e,q,r⟩:=h
  exact⟨a,vs,e,hz.seq q,Reps.mono hz hp r⟩
 | .dct ks ts,_,h=>by
  unfold Rep at h ⊢
  obtain⟨a,vs,o,e,q,l,r⟩:=h
  exact⟨a,vs,o,e,hz _ _ q,l,Reps.mono hz hp r⟩
 | .ins C ns ts,_,h=>by
  unfold Rep at h ⊢
  obtain⟨a,C,dx,vs,e,k,q,l,r⟩:=h
  exact⟨a,C,dx,vs,e,k,hz _ _ q,l,Reps.mono hz hp r⟩
 | .dcn ks ts,_,h=>by
  unfold Rep at h ⊢
  obtain⟨a,es,o,e,k,q,r,r2⟩:=h
  exact⟨a,es,o,e,k,hz _ _ q,Reps.mono hz hp r,Reps.mono hz hp r2⟩
 | .exc c ns ts,_,h=>by
  unfold Rep at h ⊢
  obtain⟨a,C,d,vs,e,k,q,q2,l,r⟩:=h
  exact⟨a,C,d,vs,e,k,hz _ _ q,q2.imp (fun z=>z) (fun⟨dx,z1,z2⟩=>⟨dx,z1,hz _ _ z2⟩),l,Reps.mono hz hp r⟩
 | .set ks,_,h=>by
  unfold Rep at h ⊢
  obtain⟨a,e,q⟩:=h
  exact⟨a,e,hz _ _ q⟩
 | .odd k t,_,h=>by
  unfold Rep at h ⊢
  obtain⟨a,x,y,o,e,q,r1,r2⟩:=h
  exact⟨a,x,y,o,e,hz _ _ q,Rep.mono hz hp r1,Rep.mono hz hp r2⟩
 | .fn a c q σ bs ts,_,h=>by
  unfold Rep at h ⊢
  obtain⟨e,z,l1,l2,vs,r,g⟩:=h
  exact⟨e,hz _ _ z,l1,l2,vs,Reps.mono hz hp r,g⟩
 | .loc n,_,h=>by
  unfold Rep at h ⊢
  obtain⟨a,e,r⟩:=h
  exact⟨a,aYd hp e,r⟩
theorem Reps.mono (hz:Same Z Z') (hp:ρ <+:ρ'):∀ {ts:List T} {vs:List V},Reps K Z ρ ts vs→Reps K Z' ρ' ts vs
 | [],_,h=>by unfold Reps at h ⊢; exact h
 | t::ts,_,h=>by
  unfold Reps at h ⊢
  obtain⟨v,us,e,r,rs⟩:=h
  exact⟨v,us,e,Rep.mono hz hp r,Reps.mono hz hp rs⟩
end
theorem RepO.mono (hz:Same Z Z') (hp:ρ <+:ρ') {a:Addr}:∀ {o:MO} {h:Option HO},RepO K Z ρ a o h→RepO K Z' ρ' a o h
 | .lst ts,_,⟨vs,e,r⟩=>⟨vs,e,r.mono hz hp⟩
 | .dct ks ts,_,⟨vs,e,l,r⟩=>⟨vs,e,l,r.mono hz hp⟩
 | .ins C ns ts,_,⟨C',dx,vs,e,k,l,r⟩=>⟨C',dx,vs,e,k,l,r.mono hz hp⟩
 | .dcn _ _,_,⟨es,e,k,r,r2⟩=>⟨es,e,k,r.mono hz hp,r2.mono hz hp⟩
theorem Reps.length:∀ {ts:List T} {vs:List V},Reps K Z ρ ts vs→ts.length=vs.length
 | [],_,h=>by unfold Reps at h; subst h; rfl
 | t::ts,_,h=>by
  unfold Reps at h
  obtain⟨v,us,rfl,_,rs⟩:=h
  simp [Reps.length rs]
theorem Reps.nil:Reps K Z ρ [] []:=by unfold Reps; rfl
theorem Reps.cons {t:T} {ts:List T} {v:V} {vs:List V} (r:Rep K Z ρ t v) (rs:Reps K Z ρ ts vs):Reps K Z ρ (t::ts) (v::vs):=by
 unfold Reps; exact⟨v,vs,rfl,r,rs⟩
theorem Reps.append:∀ {ts us:List T} {vs ws:List V},Reps K Z ρ ts vs→Reps K Z ρ us ws→Reps K Z ρ (ts++us) (vs++ws)
 | [],us,_,ws,h,h'=>by unfold Reps at h; subst h; exact h'
 | t::ts,us,_,ws,h,h'=>by
  unfold Reps at h
  obtain⟨v,vs,rfl,r,rs⟩:=h
  exact .cons r (Reps.append rs h')
theorem Reps.get:∀ {ts:List T} {vs:List V} {i:Nat} {t:T},Reps K Z ρ ts vs→ts[i]? =some t→∃ v,vs[i]? =some v∧Rep K Z ρ t v
 | [],_,_,_,_,e=>by simp at e
 | t::ts,_,0,_,h,e=>by
  unfold Reps at h
  obtain⟨v,vs,rfl,r,rs⟩:=h
  simp at e; subst e; exact⟨v,rfl,r⟩
 | t::ts,_,i+1,_,h,e=>by
  unfold Reps at h
  obtain⟨v,vs,rfl,r,rs⟩:=h
  obtain⟨u,h1,h2⟩:=Reps.get (i:=i) rs (by simpa using e)
  exact⟨u,by simpa using h1,h2⟩
theorem Reps.getV:∀ {ts:List T} {vs:List V} {i:Nat} {v:V},Reps K Z ρ ts vs→vs[i]? =some v→∃ t,ts[i]? =some t∧Rep K Z ρ t v
 | [],_,_,_,h,e=>by unfold Reps at h; subst h; simp at e
 | t::ts,_,0,_,h,e=>by
  unfold Reps at h
  obtain⟨v,vs,rfl,r,rs⟩:=h
  simp at e; subst e; exact⟨t,rfl,r⟩
 | t::ts,_,i+1,_,h,e=>by
  unfold Reps at h
  obtain⟨v,vs,rfl,r,rs⟩:=h
  obtain⟨u,h1,h2⟩:=Reps.getV (i:=i) rs (by simpa using e)
  exact⟨u,by simpa using h1,h2⟩
theorem Reps.set:∀ {ts:List T} {vs:List V} {t:T} {v:V} (i:Nat),Reps K Z ρ ts vs→Rep K Z ρ t v→Reps K Z ρ (ts.set i t) (vs.set i v)
 | [],_,_,_,_,h,_=>by unfold Reps at h; subst h; exact .nil
 | t::ts,_,_,_,0,h,r'=>by
  unfold Reps at h
  obtain⟨v,vs,rfl,r,rs⟩:=h
  exact .cons r' rs
 | t::ts,_,_,_,i+1,h,r'=>by
  unfold Reps at h
  obtain⟨v,vs,rfl,r,rs⟩:=h
  exact .cons r (Reps.set i rs r')
theorem Reps.take:∀ {ts:List T} {vs:List V} (n:Nat),Reps K Z ρ ts vs→Reps K Z ρ (ts.take n) (vs.take n)
 | _,_,0,_=> .nil
 | [],_,_+1,h=>by unfold Reps at h; subst h; exact .nil
 | t::ts,_,n+1,h=>by
  unfold Reps at h
  obtain⟨v,vs,rfl,r,rs⟩:=h
  exact .cons r (Reps.take n rs)
theorem Reps.drop:∀ {ts:List T} {vs:List V} (n:Nat),Reps K Z ρ ts vs→Reps K Z ρ (ts.drop n) (vs.drop n)
 | ts,_,0,h=>h
 | [],_,_+1,h=>by unfold Reps at h; subst h; exact .nil
 | t::ts,_,n+1,h=>by
  unfold Reps at h
  obtain⟨v,vs,rfl,r,rs⟩:=h
  exact Reps.drop n rs
end
variable [Wrl]
noncomputable def TabR (Z H:Hp) (P:Addr) (q:Str):Prop:=∃ ps:Array Value,H P=some (.tbl ps)∧TriplesOk ps.toList∧∀(pos:Pos) (cv:Value),codeAmong pos ps.toList=some cv→∃ c,cv= .ref c∧Z c=some (LamX.CodeO c q)
theorem TabR.live {Z H:Hp} {P:Addr} {q:Str} (t:TabR Z H P q):H P≠none:=by
 obtain⟨ps,h,_⟩:=t
 rw [h]; exact fun z=>nomatch z
theorem TabR.to {Z Z' H H':Hp} {P:Addr} {q:Str} (t:TabR Z H P q) (e:Same Z Z') (h:H' P=H P):TabR Z' H' P q:=by
 obtain⟨ps,h1,h2,h3⟩:=t
 refine⟨ps,h.trans h1,h2,fun pos cv hc=>?_⟩
 obtain⟨c,e1,e2⟩:=h3 pos cv hc
 exact⟨c,e1,e _ _ e2⟩
structure Rel (K:PySem.W.Frag) (Φ Z:Hp) (ρ:List Addr) (H:Hp) (m:Mem):Prop where
 zin:∀ a o,Z a=some o→H a=some o
 fin:∀ a o,Φ a=some o→H a=some o∧Z a=none∧a∉ρ
 len:ρ.length=m.length
 nd:ρ.Nodup
 trk:∀ a∈ρ,H a≠none
 mem:∀(i:Nat) (o:MO) (a:Addr),m[i]? =some (some o)→ρ[i]? =some a→Z a=none∧RepO K Z ρ a o (H a)
 tab:∀ p∈Wrl.tabs,TabR Z H p.1 p.2∧Z p.1=none∧Φ p.1=none∧p.1∉ρ
structure Envs (K:PySem.W.Frag) (Z:Hp) (ρ:List Addr) (env:Env) (σ:St):Prop where
 len:env.length=σ.length
 get:∀(i:Nat) (t:T),env[i]? =some (some t)→∃ v:V,σ[i]? =some (some v)∧Rep K Z ρ t v
structure Fits (K:PySem.W.Frag) (Φ Z:Hp) (ρ:List Addr) (σ:St) (H:Hp) (env:Env) (m:Mem):Prop where
 rel:Rel K Φ Z ρ H m
 env:Envs K Z ρ env σ
inductive Out (α:Type) where
 | ok (a:α) (m:Mem) | ex (C:Str) (ns:List Str) (vs:List T) (m:Mem) | no
inductive SOut where
 | nx (env:Env) (m:Mem) | rt (t:T) (m:Mem) | bk (env:Env) (m:Mem) | ct (env:Env) (m:Mem)
 | ex (C:Str) (ns:List Str) (vs:List T) (env:Env) (m:Mem) | no
noncomputable abbrev EF:=Env→Mem→Out T
noncomputable abbrev SF:=Env→Mem→SOut
@[simp] def Out.bind {α β:Type} (x:Out α) (f:α→Mem→Out β):Out β:=match x with
 | .ok a m=>f a m
 | .ex C ns vs m=> .ex C ns vs m
 | .no=> .no
structure Ext (Z Z':Hp) (ρ ρ':List Addr):Prop where
 z:Same Z Z'
 p:ρ <+:ρ'
theorem Ext.refl {Z:Hp} {ρ:List Addr}:Ext Z Z ρ ρ:=⟨Same.refl _,List.prefix_refl _⟩
theorem Ext.trans {Z Z1 Z2:Hp} {ρ ρ1 ρ2:List Addr} (a:Ext Z Z1 ρ ρ1) (b:Ext Z1 Z2 ρ1 ρ2):Ext Z Z2 ρ ρ2:=⟨a.z.trans b.z,a.p.trans b.p⟩
theorem Rep.ext {K:PySem.W.Frag} {Z Z':Hp} {ρ ρ':List Addr} {t:T} {v:V} (r:Rep K Z ρ t v) (e:Ext Z Z' ρ ρ'):Rep K Z' ρ' t v:=r.mono e.z e.p
theorem Reps.ext {K:PySem.W.Frag} {Z Z':Hp} {ρ ρ':List Addr} {t:List T} {v:List V} (r:Reps K Z ρ t v) (e:Ext Z Z' ρ ρ'):Reps K Z' ρ' t v:=r.mono e.z e.p
theorem Envs.ext {K:PySem.W.Frag} {Z Z':Hp} {ρ ρ':List Addr} {env:Env} {σ:St} (r:Envs K Z ρ env σ) (e:Ext Z Z' ρ ρ'):Envs K Z' ρ' env σ:=
 ⟨r.len,fun i t h=>let ⟨v,h1,h2⟩:=r.get i t h; ⟨v,h1,h2.ext e⟩⟩
theorem Envs.set {K:PySem.W.Frag} {Z:Hp} {ρ:List Addr} {env:Env} {σ:St} {t:T} {v:V} (r:Envs K Z ρ env σ) (i:Nat) (h:Rep K Z ρ t v):Envs K Z ρ (env.set i (some t)) (σ.set i (some v)):=by
 refine⟨by simp [r.len],fun j u e=>?_⟩
 by_cases hj:i=j
 ·subst hj
  have hl:i < env.length:=by
   have:=(List.getElem?_eq_some_iff.mp e).1
   simpa using this
  rw [List.getElem?_set_self hl] at e
  have e':t=u:=by simpa using e
  subst e'
  exact⟨v,List.getElem?_set_self (by rw [←r.len]; exact hl),h⟩
 ·rw [List.getElem?_set_ne hj] at e
  obtain⟨w,h1,h2⟩:=r.get j u e
  exact⟨w,by rw [List.getElem?_set_ne hj]; exact h1,h2⟩
variable (K:PySem.W.Frag) (W:WX)
noncomputable def WR (c:Str) (d:Addr) (σ:St) (H:Hp):Prop:=∀ C,CAt K c C→W (.ref C) (some d) σ H
noncomputable def Post (Φ Z:Hp) (ρ:List Addr) (σ:St) (Q:VK):Out T→Prop
 | .ok t m=>∀ Z' ρ' H' v,Ext Z Z' ρ ρ'→Rel K Φ Z' ρ' H' m→Rep K Z' ρ' t v→Q v H'
 | .ex C ns ts m=>∀ Z' ρ' H' d vs,Ext Z Z' ρ ρ'→Rel K Φ Z' ρ' H' m→Reps K Z' ρ' ts vs→ns.length=vs.length→Z' d=some (.xd (ns.zip vs))→WR K W C d σ H'
 | .no=>False
noncomputable def aMe (Φ Z:Hp) (ρ:List Addr) (σ:St) (Q:List V→Hp→Prop):Out (List T)→Prop
 | .ok ts m=>∀ Z' ρ' H' vs,Ext Z Z' ρ ρ'→Rel K Φ Z' ρ' H' m→Reps K Z' ρ' ts vs→Q vs H'
 | .ex C ns ts m=>∀ Z' ρ' H' d vs,Ext Z Z' ρ ρ'→Rel K Φ Z' ρ' H' m→Reps K Z' ρ' ts vs→ns.length=vs.length→Z' d=some (.xd (ns.zip vs))→WR K W C d σ H'
 | .no=>False
noncomputable def aQ0 (Φ Z:Hp) (ρ:List Addr) (σ:St) (Q:Bool→Hp→Prop):Out Bool→Prop
 | .ok b m=>∀ Z' ρ' H',Ext Z Z' ρ ρ'→Rel K Φ Z' ρ' H' m→Q b H'
 | .ex C ns ts m=>∀ Z' ρ' H' d vs,Ext Z Z' ρ ρ'→Rel K Φ Z' ρ' H' m→Reps K Z' ρ' ts vs→ns.length=vs.length→Z' d=some (.xd (ns.zip vs))→WR K W C d σ H'
 | .no=>False
noncomputable def qC (Φ Z:Hp) (ρ:List Addr) (n:Nat) (D:Ends):SOut→Prop
 | .nx env m=>∀ Z' ρ' H' σ',Ext Z Z' ρ ρ'→Fits K Φ Z' ρ' σ' H' env m→σ'.length=n→D.nx σ' H'
 | .bk env m=>∀ Z' ρ' H' σ',Ext Z Z' ρ ρ'→Fits K Φ Z' ρ' σ' H' env m→σ'.length=n→D.bk σ' H'
 | .ct env m=>∀ Z' ρ' H' σ',Ext Z Z' ρ ρ'→Fits K Φ Z' ρ' σ' H' env m→σ'.length=n→D.ct σ' H'
 | .rt t m=>∀ Z' ρ' H' v,Ext Z Z' ρ ρ'→Rel K Φ Z' ρ' H' m→Rep K Z' ρ' t v→D.rt v H'
 | .ex C ns ts env m=>∀ Z' ρ' H' σ' d vs,Ext Z Z' ρ ρ'→Fits K Φ Z' ρ' σ' H' env m→Reps K Z' ρ' ts vs→ns.length=vs.length→Z' d=some (.xd (ns.zip vs))→WR K W C d σ' H'
 | .no=>False
noncomputable def tr (f:EF):TE:=fun σ H Q=>∃ Φ Z ρ env m,Fits K Φ Z ρ σ H env m∧Post K W Φ Z ρ σ Q (f env m)
noncomputable def trL (f:Env→Mem→Out (List T)):TA:=fun σ H Q=>∃ Φ Z ρ env m,Fits K Φ Z ρ σ H env m∧aMe K W Φ Z ρ σ Q (f env m)
noncomputable def trB (f:Env→Mem→Out Bool):TT:=fun σ H Q=>∃ Φ Z ρ env m,Fits K Φ Z ρ σ H env m∧aQ0 K W Φ Z ρ σ Q (f env m)
noncomputable def trS (g:SF):TS:=fun D σ H=>∃ Φ Z ρ env m,Fits K Φ Z ρ σ H env m∧qC K W Φ Z ρ σ.length D (g env m)
variable {K W}
variable {Φ Z Z':Hp} {ρ ρ':List Addr} {σ:St} {H:Hp}
theorem Post.ext {Q:VK} {o:Out T} (h:Post K W Φ Z ρ σ Q o) (e:Ext Z Z' ρ ρ'):Post K W Φ Z' ρ' σ Q o:=by
 cases o with
 | ok t m=>exact fun Z2 ρ2 H' v e2=>h Z2 ρ2 H' v (e.trans e2)
 | ex C ns ts m=>exact fun Z2 ρ2 H' d vs e2=>h Z2 ρ2 H' d vs (e.trans e2)
 | no=>exact h
theorem aMe.ext {Q:List V→Hp→Prop} {o:Out (List T)} (h:aMe K W Φ Z ρ σ Q o) (e:Ext Z Z' ρ ρ'):aMe K W Φ Z' ρ' σ Q o:=by
 cases o with
 | ok t m=>exact fun Z2 ρ2 H' v e2=>h Z2 ρ2 H' v (e.trans e2)
 | ex C ns ts m=>exact fun Z2 ρ2 H' d vs e2=>h Z2 ρ2 H' d vs (e.trans e2)
 | no=>exact h
theorem aQ0.ext {Q:Bool→Hp→Prop} {o:Out Bool} (h:aQ0 K W Φ Z ρ σ Q o) (e:Ext Z Z' ρ ρ'):aQ0 K W Φ Z' ρ' σ Q o:=by
 cases o with
 | ok t m=>exact fun Z2 ρ2 H' e2=>h Z2 ρ2 H' (e.trans e2)
 | ex C ns ts m=>exact fun Z2 ρ2 H' d vs e2=>h Z2 ρ2 H' d vs (e.trans e2)
 | no=>exact h
theorem qC.ext {n:Nat} {D:Ends} {o:SOut} (h:qC K W Φ Z ρ n D o) (e:Ext Z Z' ρ ρ'):qC K W Φ Z' ρ' n D o:=by
 cases o with
 | nx env m=>exact fun Z2 ρ2 H' v e2=>h Z2 ρ2 H' v (e.trans e2)
 | bk env m=>exact fun Z2 ρ2 H' v e2=>h Z2 ρ2 H' v (e.trans e2)
 | ct env m=>exact fun Z2 ρ2 H' v e2=>h Z2 ρ2 H' v (e.trans e2)
 | rt env m=>exact fun Z2 ρ2 H' v e2=>h Z2 ρ2 H' v (e.trans e2)
 | ex C ns ts env m=>exact fun Z2 ρ2 H' σ' d vs e2=>h Z2 ρ2 H' σ' d vs (e.trans e2)
 | no=>exact h
structure SE (X:Cx) (W:WX) (e:Expr) (f:EF):Prop where
 pe:PE X e (tr X.K W f)
structure SA (X:Cx) (W:WX) (es:List Expr) (f:Env→Mem→Out (List T)):Prop where
 pa:PA X es (trL X.K W f)
structure SB (X:Cx) (W:WX) (e:Expr) (f:Env→Mem→Out Bool):Prop where
 pt:PT X e (trB X.K W f)
structure SS (X:Cx) (W:WX) (st:Stmt) (g:SF):Prop where
 ps:PS X st (trS X.K W g)
structure SSs (X:Cx) (W:WX) (sts:List Stmt) (g:SF):Prop where
 ps:PSs X sts (trS X.K W g)
theorem xY {X:Cx} {e:Expr} {t u:TE} (h:PE X e t) (i:∀ σ H Q,u σ H Q→t σ H Q):PE X e u:=⟨fun pins s σ H Q I q=>h.run pins s σ H Q I (i σ H Q q)⟩
theorem aVb {X:Cx} {e:Expr} {t u:TT} (h:PT X e t) (i:∀ σ H Q,u σ H Q→t σ H Q):PT X e u:=⟨fun pins s σ H Q I q=>h.run pins s σ H Q I (i σ H Q q)⟩
theorem aVg {X:Cx} {e:List Expr} {t u:TA} (h:PA X e t) (i:∀ σ H Q,u σ H Q→t σ H Q):PA X e u:=⟨fun pos pins s σ H Q I q=>h.run pos pins s σ H Q I (i σ H Q q)⟩
theorem tY {X:Cx} {e:Stmt} {t u:TS} (h:PS X e t) (i:∀ D σ H,u D σ H→t D σ H):PS X e u:=⟨fun pins s σ H D I q=>h.run pins s σ H D I (i D σ H q)⟩
theorem aYb {X:Cx} {e:List Stmt} {t u:TS} (h:PSs X e t) (i:∀ D σ H,u D σ H→t D σ H):PSs X e u:=⟨fun pins s σ H D I q=>h.run pins s σ H D I (i D σ H q)⟩
theorem tr_bind {α:Type} {f:EF} {env:Env} {m:Mem} {k:T→Mem→Out α} {P:Out α→Prop} {R:V→Hp→Prop} (F:Fits K Φ Z ρ σ H env m)
  (hk:∀ t m1 Z1 ρ1 H1 v,f env m= .ok t m1→Ext Z Z1 ρ ρ1→Fits K Φ Z1 ρ1 σ H1 env m1→Rep K Z1 ρ1 t v→P (k t m1)→R v H1)
  (hx:∀ C ns vs m1,P (.ex C ns vs m1)→Post K W Φ Z ρ σ R (.ex C ns vs m1)) (hn:P .no→False)
  (h:P ((f env m).bind k)):tr K W f σ H R:=by
 refine⟨Φ,Z,ρ,env,m,F,?_⟩
 cases e:f env m with
 | ok t m1=>
  rw [e] at h
  exact fun Z1 ρ1 H1 v e1 r1 rep=>hk t m1 Z1 ρ1 H1 v e e1 ⟨r1,F.env.ext e1⟩ rep h
 | ex C ns vs m1=>
  rw [e] at h
  exact hx C ns vs m1 h
 | no=>
  rw [e] at h
  exact(hn h).elim
end Ev
namespace Ev
open PySem L2
variable [Wrl]
section
variable {K:PySem.W.Frag} {W:WX} {Φ Z Z':Hp} {ρ ρ':List Addr} {σ:St} {H:Hp} {m:Mem}
theorem Rel.zn (r:Rel K Φ Z ρ H m) {p:Addr} (hp:H p=none):Z p=none:=by
 cases e:Z p with
 | none=>rfl
 | some o=>rw [r.zin p o e] at hp; cases hp
theorem Rel.rn (r:Rel K Φ Z ρ H m) {p:Addr} (hp:H p=none):p∉ρ:=fun h=>r.trk p h hp
theorem aKm {Z:Hp} {p:Addr} {o:HO} (h:Z p=none):Same Z (upd Z p o):=fun b u e=>by
 rw [upd_ne (ne_of_none e h)]; exact e
theorem Rel.allocZ (r:Rel K Φ Z ρ H m) {p:Addr} (hp:H p=none) (o:HO):Rel K Φ (upd Z p o) ρ (upd H p o) m∧Ext Z (upd Z p o) ρ ρ:=by
 have hz:=r.zn hp
 have e:Ext Z (upd Z p o) ρ ρ:=⟨aKm hz,List.prefix_refl _⟩
 refine⟨⟨fun a u h=>?_,fun a u h=>?_,r.len,r.nd,fun a ha=>?_,fun i u a h1 h2=>?_,fun q hq=>?_⟩,e⟩
 ·by_cases hb:a=p
  ·subst hb; rw [upd_same] at h ⊢; exact h
  ·rw [upd_ne hb] at h ⊢; exact r.zin a u h
 ·obtain⟨h1,h2,h3⟩:=r.fin a u h
  have hb:=ne_of_none h1 hp
  exact⟨by rw [upd_ne hb]; exact h1,by rw [upd_ne hb]; exact h2,h3⟩
 ·have hb:a≠p:=fun z=>r.rn hp (z▸ha)
  rw [upd_ne hb]; exact r.trk a ha
 ·have ha:a∈ρ:=List.mem_of_getElem? h2
  have hb:a≠p:=fun z=>r.rn hp (z▸ha)
  obtain⟨h3,h4⟩:=r.mem i u a h1 h2
  rw [upd_ne hb,upd_ne hb]
  exact⟨h3,h4.mono e.z e.p⟩
 ·obtain⟨t,h1,h2,h3⟩:=r.tab q hq
  have hb:q.1≠p:=fun z=>t.live (by rw [z]; exact hp)
  exact⟨t.to e.z (upd_ne hb),by rw [upd_ne hb]; exact h1,h2,h3⟩
theorem Rel.allocC (r:Rel K Φ Z ρ H m) {p:Addr} (hp:H p=none) {o:HO} {u:MO} (ho:RepO K Z ρ p u (some o)):Rel K Φ Z (ρ++[p]) (upd H p o) (m++[some u])∧Ext Z Z ρ (ρ++[p]):=by
 have hz:=r.zn hp
 have e:Ext Z Z ρ (ρ++[p]):=⟨Same.refl _,List.prefix_append _ _⟩
 refine⟨⟨fun a u h=>?_,fun a u h=>?_,by simp [r.len],?_,fun a ha=>?_,fun i w a h1 h2=>?_,fun q hq=>?_⟩,e⟩
 ·have hb:a≠p:=fun z=>by subst z; rw [hz] at h; cases h
  rw [upd_ne hb]; exact r.zin a u h
 ·obtain⟨h1,h2,h3⟩:=r.fin a u h
  have hb:=ne_of_none h1 hp
  refine⟨by rw [upd_ne hb]; exact h1,h2,fun hm=>?_⟩
  rcases List.mem_append.mp hm with q | q
  ·exact h3 q
  ·exact hb (List.mem_singleton.mp q)
 ·refine List.nodup_append.mpr ⟨r.nd,by simp,fun a ha b hb=>?_⟩
  rw [List.mem_singleton.mp hb]
  exact fun z=>r.rn hp (z▸ha)
 ·rcases List.mem_append.mp ha with q | q
  ·have hb:a≠p:=fun z=>r.rn hp (z▸q)
   rw [upd_ne hb]; exact r.trk a q
  ·rw [List.mem_singleton.mp q,upd_same]; exact fun z=>nomatch z
 ·by_cases hi:i < m.length
  ·rw [List.getElem?_append_left hi] at h1
   rw [List.getElem?_append_left (by rw [r.len]; exact hi)] at h2
   have hb:a≠p:=fun z=>r.rn hp (z▸List.mem_of_getElem? h2)
   obtain⟨h3,h4⟩:=r.mem i w a h1 h2
   rw [upd_ne hb]
   exact⟨h3,h4.mono e.z e.p⟩
  ·have hl:=(List.getElem?_eq_some_iff.mp h1).1
   rw [List.length_append] at hl
   have hi':i=m.length:=by simp at hl; omega
   subst hi'
   have e1:u=w:=by simpa using h1
   subst e1
   rw [←r.len] at h2
   have e2:p=a:=by simpa using h2
   subst e2
   rw [upd_same]
   exact⟨hz,ho.mono e.z e.p⟩
 ·obtain⟨t,h1,h2,h3⟩:=r.tab q hq
  have hb:q.1≠p:=fun z=>t.live (by rw [z]; exact hp)
  exact⟨t.to e.z (upd_ne hb),h1,h2,fun hm=>(List.mem_append.mp hm).elim h3 fun z=>hb (List.mem_singleton.mp z)⟩
theorem Rel.write (r:Rel K Φ Z ρ H m) {n:Nat} {a:Addr} {u:MO} {o:HO} {w:MO} (hn:m[n]? =some (some w)) (ha:ρ[n]? =some a) (ho:RepO K Z ρ a u (some o)):Rel K Φ Z ρ (upd H a o) (m.set n (some u)):=by
 have hz:=(r.mem n w a hn ha).1
 have hm:a∈ρ:=List.mem_of_getElem? ha
 refine⟨fun b v h=>?_,fun b v h=>?_,by simp [r.len],r.nd,fun b hb=>?_,fun i v b h1 h2=>?_,fun q hq=>?_⟩
 ·have hb:b≠a:=fun z=>by subst z; rw [hz] at h; cases h
  rw [upd_ne hb]; exact r.zin b v h
 ·obtain⟨h1,h2,h3⟩:=r.fin b v h
  have hb:b≠a:=fun z=>h3 (z▸hm)
  exact⟨by rw [upd_ne hb]; exact h1,h2,h3⟩
 ·by_cases hb':b=a
  ·subst hb'; rw [upd_same]; exact fun z=>nomatch z
  ·rw [upd_ne hb']; exact r.trk b hb
 ·by_cases hi:n=i
  ·subst hi
   rw [ha] at h2; cases h2
   have hl:=(List.getElem?_eq_some_iff.mp hn).1
   rw [List.getElem?_set_self hl] at h1
   have e1:u=v:=by simpa using h1
   subst e1
   rw [upd_same]; exact⟨hz,ho⟩
  ·rw [List.getElem?_set_ne hi] at h1
   have hb:b≠a:=fun z=>hi (by
    subst z
    exact(nd_ix r.nd h2 ha).symm)
   rw [upd_ne hb]; exact r.mem i v b h1 h2
 ·obtain⟨t,h1,h2,h3⟩:=r.tab q hq
  have hb:q.1≠a:=fun z=>h3 (z▸hm)
  exact⟨t.to (Same.refl _) (upd_ne hb),h1,h2,h3⟩
theorem Rel.freeze (r:Rel K Φ Z ρ H m) {n:Nat} {a:Addr} {o:HO} {w:MO} (hn:m[n]? =some (some w)) (ha:ρ[n]? =some a) (ho:H a=some o):Rel K Φ (upd Z a o) ρ H (m.set n none)∧Ext Z (upd Z a o) ρ ρ:=by
 have hz:=(r.mem n w a hn ha).1
 have hm:a∈ρ:=List.mem_of_getElem? ha
 have e:Ext Z (upd Z a o) ρ ρ:=⟨aKm hz,List.prefix_refl _⟩
 refine⟨⟨fun b v h=>?_,fun b v h=>?_,by simp [r.len],r.nd,r.trk,fun i v b h1 h2=>?_,fun q hq=>?_⟩,e⟩
 ·by_cases hb:b=a
  ·subst hb; rw [upd_same] at h; rw [ho]; exact h
  ·rw [upd_ne hb] at h; exact r.zin b v h
 ·obtain⟨h1,h2,h3⟩:=r.fin b v h
  have hb:b≠a:=fun z=>h3 (z▸hm)
  exact⟨h1,by rw [upd_ne hb]; exact h2,h3⟩
 ·by_cases hi:n=i
  ·subst hi
   have hl:=(List.getElem?_eq_some_iff.mp hn).1
   rw [List.getElem?_set_self hl] at h1; cases h1
  ·rw [List.getElem?_set_ne hi] at h1
   have hb:b≠a:=fun z=>hi (by subst z; exact(nd_ix r.nd h2 ha).symm)
   obtain⟨h3,h4⟩:=r.mem i v b h1 h2
   rw [upd_ne hb]
   exact⟨h3,h4.mono e.z e.p⟩
 ·obtain⟨t,h1,h2,h3⟩:=r.tab q hq
  have hb:q.1≠a:=fun z=>h3 (z▸hm)
  exact⟨t.to e.z rfl,by rw [upd_ne hb]; exact h1,h2,h3⟩
theorem Rel.same (r:Rel K Φ Z ρ H m):Same Z H:=r.zin
theorem Rel.aside (r:Rel K Φ Z ρ H m) {p:Addr} (hp:H p=none) (o:HO):Rel K (upd Φ p o) Z ρ (upd H p o) m:=by
 have hz:=r.zn hp
 refine⟨fun a u h=>?_,fun a u h=>?_,r.len,r.nd,fun a ha=>?_,fun i w a h1 h2=>?_,fun q hq=>?_⟩
 ·have hb:a≠p:=fun z=>by subst z; rw [hz] at h; cases h
  rw [upd_ne hb]; exact r.zin a u h
 ·by_cases hb:a=p
  ·subst hb; rw [upd_same] at h ⊢; exact⟨h,hz,r.rn hp⟩
  ·rw [upd_ne hb] at h ⊢; exact r.fin a u h
 ·have hb:a≠p:=fun z=>r.rn hp (z▸ha)
  rw [upd_ne hb]; exact r.trk a ha
 ·have hb:a≠p:=fun z=>r.rn hp (z▸List.mem_of_getElem? h2)
  rw [upd_ne hb]; exact r.mem i w a h1 h2
 ·obtain⟨t,h1,h2,h3⟩:=r.tab q hq
  have hb:q.1≠p:=fun z=>t.live (by rw [z]; exact hp)
  exact⟨t.to (Same.refl _) (upd_ne hb),h1,by rw [upd_ne hb]; exact h2,h3⟩
theorem Rel.aside_set (r:Rel K Φ Z ρ H m) {p:Addr} {o u:HO} (hp:Φ p=some o):Rel K (upd Φ p u) Z ρ (upd H p u) m:=by
 obtain⟨hh,hz,hr⟩:=r.fin p o hp
 refine⟨fun a u h=>?_,fun a u h=>?_,r.len,r.nd,fun a ha=>?_,fun i w a h1 h2=>?_,fun q hq=>?_⟩
 ·have hb:a≠p:=fun z=>by subst z; rw [hz] at h; cases h
  rw [upd_ne hb]; exact r.zin a u h
 ·by_cases hb:a=p
  ·subst hb; rw [upd_same] at h ⊢; exact⟨h,hz,hr⟩
  ·rw [upd_ne hb] at h ⊢; exact r.fin a u h
 ·have hb:a≠p:=fun z=>hr (z▸ha)
  rw [upd_ne hb]; exact r.trk a ha
 ·have hb:a≠p:=fun z=>hr (z▸List.mem_of_getElem? h2)
  rw [upd_ne hb]; exact r.mem i w a h1 h2
 ·obtain⟨t,h1,h2,h3⟩:=r.tab q hq
  have hb:q.1≠p:=fun z=>by rw [z,hp] at h2; cases h2
  exact⟨t.to (Same.refl _) (upd_ne hb),h1,by rw [upd_ne hb]; exact h2,h3⟩
theorem Rel.back (r:Rel K Φ Z ρ H m) {Ψ:Hp} {p:Addr} {o:HO} (hp:Φ p=some o) (hΨ:∀ a u,Ψ a=some u→Φ a=some u∧a≠p):Rel K Ψ (upd Z p o) ρ H m∧Ext Z (upd Z p o) ρ ρ:=by
 obtain⟨hh,hz,hr⟩:=r.fin p o hp
 have e:Ext Z (upd Z p o) ρ ρ:=⟨aKm hz,List.prefix_refl _⟩
 refine⟨⟨fun b v h=>?_,fun b v h=>?_,r.len,r.nd,r.trk,fun i v b h1 h2=>?_,fun q hq=>?_⟩,e⟩
 ·by_cases hb:b=p
  ·subst hb; rw [upd_same] at h; rw [hh]; exact h
  ·rw [upd_ne hb] at h; exact r.zin b v h
 ·obtain⟨h1,h2⟩:=hΨ b v h
  obtain⟨h3,h4,h5⟩:=r.fin b v h1
  exact⟨h3,by rw [upd_ne h2]; exact h4,h5⟩
 ·have hb:b≠p:=fun z=>hr (z▸List.mem_of_getElem? h2)
  obtain⟨h3,h4⟩:=r.mem i v b h1 h2
  rw [upd_ne hb]
  exact⟨h3,h4.mono e.z e.p⟩
 ·obtain⟨t,h1,h2,h3⟩:=r.tab q hq
  have hb:q.1≠p:=fun z=>by rw [z,hp] at h2; cases h2
  have h4:Ψ q.1=none:=by
   cases eq:Ψ q.1 with
   | none=>rfl
   | some u=>have:=(hΨ _ _ eq).1; rw [h2] at this; cases this
  exact⟨t.to e.z rfl,by rw [upd_ne hb]; exact h1,h4,h3⟩
theorem Rel.backC (r:Rel K Φ Z ρ H m) {Ψ:Hp} {p:Addr} {o:HO} {u:MO} (hp:Φ p=some o) (hΨ:∀ a u,Ψ a=some u→Φ a=some u∧a≠p) (ho:RepO K Z ρ p u (some o)):Rel K Ψ Z (ρ++[p]) H (m++[some u])∧Ext Z Z ρ (ρ++[p]):=by
 obtain⟨hh,hz,hr⟩:=r.fin p o hp
 have e:Ext Z Z ρ (ρ++[p]):=⟨Same.refl _,List.prefix_append _ _⟩
 refine⟨⟨r.zin,fun b v h=>?_,by simp [r.len],?_,fun a ha=>?_,fun i w a h1 h2=>?_,fun q hq=>?_⟩,e⟩
 ·obtain⟨h1,h2⟩:=hΨ b v h
  obtain⟨h3,h4,h5⟩:=r.fin b v h1
  refine⟨h3,h4,fun hm=>?_⟩
  rcases List.mem_append.mp hm with q | q
  ·exact h5 q
  ·exact h2 (List.mem_singleton.mp q)
 ·refine List.nodup_append.mpr ⟨r.nd,by simp,fun a ha b hb=>?_⟩
  rw [List.mem_singleton.mp hb]
  exact fun z=>hr (z▸ha)
 ·rcases List.mem_append.mp ha with q | q
  ·exact r.trk a q
  ·rw [List.mem_singleton.mp q,hh]; exact fun z=>nomatch z
 ·by_cases hi:i < m.length
  ·rw [List.getElem?_append_left hi] at h1
   rw [List.getElem?_append_left (by rw [r.len]; exact hi)] at h2
   obtain⟨h3,h4⟩:=r.mem i w a h1 h2
   exact⟨h3,h4.mono e.z e.p⟩
  ·have hl:=(List.getElem?_eq_some_iff.mp h1).1
   rw [List.length_append] at hl
   have hi':i=m.length:=by simp at hl; omega
   subst hi'
   have e1:u=w:=by simpa using h1
   subst e1
   rw [←r.len] at h2
   have e2:p=a:=by simpa using h2
   subst e2
   rw [hh]
   exact⟨hz,ho.mono e.z e.p⟩
 ·obtain⟨t,h1,h2,h3⟩:=r.tab q hq
  have hb:q.1≠p:=fun z=>by rw [z,hp] at h2; cases h2
  have h4:Ψ q.1=none:=by
   cases eq:Ψ q.1 with
   | none=>rfl
   | some u=>have:=(hΨ _ _ eq).1; rw [h2] at this; cases this
  exact⟨t.to e.z rfl,h1,h4,fun hm=>(List.mem_append.mp hm).elim h3 fun z=>hb (List.mem_singleton.mp z)⟩
noncomputable def asL (m:Mem):T→Option (List T)
 | .lst ts=>some ts
 | .rls ts=>some ts
 | .loc n=>match m[n]? with
  | some (some (.lst ts))=>some ts
  | _=>none
 | _=>none
noncomputable def asO (m:Mem):T→Option (List T)
 | .lst ts=>some ts
 | .loc n=>match m[n]? with
  | some (some (.lst ts))=>some ts
  | _=>none
 | _=>none
noncomputable def asT:T→Option (List T)
 | .tup ts=>some ts
 | _=>none
theorem aHe (r:Rel K Φ Z ρ H m) {n:Nat} {ts:List T} {v:V} (hv:Rep K Z ρ (.loc n) v) (hn:m[n]? =some (some (.lst ts))):∃ a vs,v= .ref a∧ρ[n]? =some a∧H a=some (.lst vs)∧Reps K Z ρ ts vs:=by
 unfold Rep at hv
 obtain⟨a,ha,rfl⟩:=hv
 obtain⟨_,vs,e,rs⟩:=r.mem n _ a hn ha
 exact⟨a,vs,rfl,ha,e,rs⟩
theorem aPv (r:Rel K Φ Z ρ H m) {t:T} {ts:List T} {v:V} (hv:Rep K Z ρ t v) (h:asO m t=some ts):∃ a vs,v= .ref a∧H a=some (.lst vs)∧Reps K Z ρ ts vs:=by
 cases t with
 | lst us=>
  have e:us=ts:=by simpa [asO] using h
  subst e
  unfold Rep at hv
  obtain⟨a,vs,rfl,e,rs⟩:=hv
  exact⟨a,vs,rfl,r.zin _ _ e,rs⟩
 | loc n=>
  unfold asO at h
  simp only at h
  split at h
  ·rename_i us e
   cases h
   obtain⟨a,vs,e1,_,e2,rs⟩:=aHe r hv e
   exact⟨a,vs,e1,e2,rs⟩
  ·cases h
 | _=>simp [asO] at h
theorem aEg (r:Rel K Φ Z ρ H m) {t:T} {ts:List T} {v:V} (hv:Rep K Z ρ t v) (h:asL m t=some ts):∃ a vs,v= .ref a∧SqL K H a vs∧Reps K Z ρ ts vs:=by
 cases t with
 | lst us=>
  have e:us=ts:=by simpa [asL] using h
  subst e
  unfold Rep at hv
  obtain⟨a,vs,rfl,e,rs⟩:=hv
  exact⟨a,vs,rfl,.of (r.zin _ _ e),rs⟩
 | rls us=>
  have e:us=ts:=by simpa [asL] using h
  subst e
  unfold Rep at hv
  obtain⟨a,vs,rfl,e,rs⟩:=hv
  exact⟨a,vs,rfl,r.same.seq e,rs⟩
 | loc n=>
  unfold asL at h
  simp only at h
  split at h
  ·rename_i us e
   cases h
   obtain⟨a,vs,e1,_,e2,rs⟩:=aHe r hv e
   exact⟨a,vs,e1,.of e2,rs⟩
  ·cases h
 | _=>simp [asL] at h
theorem aBo (r:Rel K Φ Z ρ H m) {t:T} {ts:List T} {v:V} (hv:Rep K Z ρ t v) (h:asT t=some ts):∃ a vs,v= .ref a∧SqT K H a vs∧Reps K Z ρ ts vs:=by
 cases t with
 | tup us=>
  have e:us=ts:=by simpa [asT] using h
  subst e
  unfold Rep at hv
  obtain⟨a,vs,rfl,e,rs⟩:=hv
  exact⟨a,vs,rfl,Same.sqt r.same e,rs⟩
 | _=>simp [asT] at h
noncomputable def mk (mu:Bool) (ts:List T) (m:Mem):Out T:=if mu then .ok (.loc m.length) (m++[some (.lst ts)]) else .ok (.lst ts) m
theorem kB {mu:Bool} {ts:List T} {vs:List V} {Q:VK} (r:Rel K Φ Z ρ H m) (rs:Reps K Z ρ ts vs) (h:Post K W Φ Z ρ σ Q (mk mu ts m)) {p:Addr} (hp:H p=none):Q (.ref p) (upd H p (.lst vs)):=by
 cases mu with
 | false=>
  obtain⟨r',e⟩:=r.allocZ hp (.lst vs)
  refine h _ _ _ _ e r' ?_
  unfold Rep
  exact⟨p,vs,rfl,upd_same,rs.ext e⟩
 | true=>
  obtain⟨r',e⟩:=r.allocC hp (o:= .lst vs) (u:= .lst ts) ⟨vs,rfl,rs⟩
  refine h _ _ _ _ e r' ?_
  unfold Rep
  exact⟨p,by rw [←r.len]; simp,rfl⟩
theorem aF3 {ts:List T} {vs:List V} {Q:VK} (r:Rel K Φ Z ρ H m) (rs:Reps K Z ρ ts vs) (h:Post K W Φ Z ρ σ Q (.ok (.tup ts) m)) {p:Addr} (hp:H p=none):Q (.ref p) (upd H p (.tup vs)):=by
 obtain⟨r',e⟩:=r.allocZ hp (.tup vs)
 refine h _ _ _ _ e r' ?_
 unfold Rep
 exact⟨p,vs,rfl,.of upd_same,rs.ext e⟩
theorem yP {t:T} {v:V} {Q:VK} (r:Rel K Φ Z ρ H m) (rt:Rep K Z ρ t v) (h:Post K W Φ Z ρ σ Q (.ok t m)):Q v H:=h _ _ _ _ Ext.refl r rt
theorem wW {i:Int}:Rep K Z ρ (.int i) (.int i):=by unfold Rep; rfl
theorem tZ {i:Bool}:Rep K Z ρ (.bl i) (.bl i):=by unfold Rep; rfl
theorem aDw {i:Str}:Rep K Z ρ (.str i) (.str i):=by unfold Rep; rfl
theorem aIe:Rep K Z ρ .non .non:=by unfold Rep; rfl
theorem bFj {n:String}:Rep K Z ρ (.ty n) (.ty n):=by unfold Rep; rfl
end
end Ev
namespace Ev
open PySem L2
variable [Wrl]
section
variable {X:Cx} {W:WX}
noncomputable def eVar (i:Nat):EF:=fun env m=>match env[i]? with
 | some (some t)=> .ok t m
 | _=> .no
theorem aTc {e:Expr} {f:EF} {t:TE} (h:PE X e t) (i:∀ Φ Z ρ σ H env m Q,Fits X.K Φ Z ρ σ H env m→Post X.K W Φ Z ρ σ Q (f env m)→t σ H Q):SE X W e f:=
 ⟨xY h fun σ H Q ⟨Φ,Z,ρ,env,m,F,p⟩=>i Φ Z ρ σ H env m Q F p⟩
theorem zY (i:Nat) {x:Str} {pos:Pos} (hN:X.N[i]? =some x:=by rfl) (hv:Vis X.env.scope x:=by first | exact Or.inl rfl | exact Or.inr (Or.inl rfl) | exact Or.inr (Or.inr rfl)) (hd:(x ==("__debug__":Str))=false:=by decide)
  (hcd:(x ==("__classdict__":Str))=false:=by decide):SE X W (.Name x pos) (eVar i):=by
 refine aTc (pe_var hN hv hd hcd) fun Φ Z ρ σ H env m Q F p=>?_
 unfold eVar at p
 split at p
 ·rename_i t e
  obtain⟨v,h1,h2⟩:=F.env.get i t e
  exact⟨v,h1,yP F.rel h2 p⟩
 ·exact p.elim
noncomputable def eC (t:T):EF:=fun _ m=> .ok t m
theorem zN {i:Int} {j pos}:SE X W (.Constant (.int i) j pos) (eC (.int i)):=aTc pe_int fun _ _ _ _ _ _ _ _ F p=>yP F.rel wW p
theorem aBp {b:Bool} {j pos}:SE X W (.Constant (.bool b) j pos) (eC (.bl b)):=aTc pe_bl fun _ _ _ _ _ _ _ _ F p=>yP F.rel tZ p
theorem qB {j pos}:SE X W (.Constant .none j pos) (eC .non):=aTc pe_non fun _ _ _ _ _ _ _ _ F p=>yP F.rel aIe p
theorem zQ {x:Str} {j pos}:SE X W (.Constant (.str x) j pos) (eC (.str x)):=aTc pe_str fun _ _ _ _ _ _ _ _ F p=>yP F.rel aDw p
theorem bDn {x:Str} {t:T} {v:V} {u:Value} {pos:Pos} (hm:X.mg x=some u) (r:RelV v u) (ht:∀ Z ρ,Rep X.K Z ρ t v) (hg:Gl X x:=by rfl) (hd:(x ==("__debug__":Str))=false:=by decide):SE X W (.Name x pos) (eC t):=
 aTc (pe_glob hg hm r hd) fun _ _ _ _ _ _ _ _ F p=>yP F.rel (ht _ _) p
theorem aWk {x:Str} {n:String} {pos:Pos} (hm:X.mg x=none) (hv:bootBuiltins x=some (.type n)) (hg:Gl X x:=by rfl) (hn:x≠"__name__":=by decide) (hd:(x ==("__debug__":Str))=false:=by decide):SE X W (.Name x pos) (eC (.ty n)):=
 aTc (pe_bltn (v:= .ty n) hg hm hv rfl hn hd) fun _ _ _ _ _ _ _ _ F p=>yP F.rel bFj p
noncomputable def e2 (g:T→T→Mem→Out T) (fa fb:EF):EF:=fun env m=>(fa env m).bind fun x m1=>(fb env m1).bind fun y m2=>g x y m2
noncomputable def Sem2 (K:PySem.W.Frag) (g:T→T→Mem→Out T) (r:R2):Prop:=
 ∀(W:WX) (Φ Z:Hp) (ρ:List Addr) (σ:St) (H:Hp) (m:Mem) (Q:VK) (x y:T) (vx vy:V),Rel K Φ Z ρ H m→Rep K Z ρ x vx→Rep K Z ρ y vy→Post K W Φ Z ρ σ Q (g x y m)→r vx vy H Q
theorem bA6 {K:PySem.W.Frag} {g:T→T→Mem→Out T} {r:R2} (hg:Sem2 K g r) {fa fb:EF} {σ:St} {H:Hp} {Q:VK} (h:tr K W (e2 g fa fb) σ H Q):tOp r (tr K W fa) (tr K W fb) σ H Q:=by
 obtain⟨Φ,Z,ρ,env,m,F,p⟩:=h
 refine tr_bind (P:=Post K W Φ Z ρ σ Q) F (fun x m1 Z1 ρ1 H1 vx _ e1 F1 rx p1=>?_) (fun _ _ _ _ h=>h) (fun h=>h) p
 refine tr_bind (P:=Post K W Φ Z1 ρ1 σ Q) F1 (fun y m2 Z2 ρ2 H2 vy _ e2 F2 ry p2=>?_) (fun _ _ _ _ h=>h) (fun h=>h) (p1.ext e1)
 exact hg W Φ Z2 ρ2 σ H2 m2 Q x y vx vy F2.rel (rx.ext e2) ry (p2.ext e2)
theorem xV {op:Operator} {a b:Expr} {pos:Pos} {r:R2} {g:T→T→Mem→Out T} {fa fb:EF} (ho:OpR X (binaryOp op) r) (hg:Sem2 X.K g r) (ha:SE X W a fa) (hb:SE X W b fb):SE X W (.BinOp a op b pos) (e2 g fa fb):=
 ⟨xY (pe_op ho ha.pe hb.pe) fun _ _ _ h=>bA6 hg h⟩
theorem aDp {op:CmpOp} {a b:Expr} {pos:Pos} {r:R2} {g:T→T→Mem→Out T} {fa fb:EF} (ho:OpR X (compareOp op) r) (hg:Sem2 X.K g r) (ha:SE X W a fa) (hb:SE X W b fb) (hm:behindInMarks op b=false:=by first | exact nomark _ | rfl):SE X W (.Compare a [op] [b] pos) (e2 g fa fb):=
 ⟨xY (pe_cmpR ho ha.pe hb.pe hm) fun _ _ _ h=>bA6 hg h⟩
theorem yD {a b:Expr} {pos:Pos} {r:R2} {g:T→T→Mem→Out T} {fa fb:EF} (ho:IxR X r) (hg:Sem2 X.K g r) (ha:SE X W a fa) (hb:SE X W b fb) (hs:PlainIx b:=by exact fun _ _=>rfl):SE X W (.Subscript a b pos) (e2 g fa fb):=
 ⟨xY (pe_ix ho ha.pe hb.pe hs) fun _ _ _ h=>bA6 hg h⟩
noncomputable def e1 (g:T→Mem→Out T) (fa:EF):EF:=fun env m=>(fa env m).bind fun x m1=>g x m1
noncomputable abbrev LF:=Env→Mem→Out (List T)
noncomputable def lNil:LF:=fun _ m=> .ok [] m
noncomputable def zX (fa:EF) (fs:LF):LF:=fun env m=>(fa env m).bind fun x m1=>(fs env m1).bind fun xs m2=> .ok (x::xs) m2
theorem zW:SA X W [] lNil:=⟨aVg pa_nil fun σ H Q ⟨Φ,Z,ρ,env,m,F,p⟩=>p Z ρ H [] Ext.refl F.rel Reps.nil⟩
theorem trL_bind {α:Type} {K:PySem.W.Frag} {Φ Z:Hp} {ρ:List Addr} {σ:St} {H:Hp} {f:LF} {env:Env} {m:Mem} {k:List T→Mem→Out α} {P:Out α→Prop} {R:List V→Hp→Prop} (F:Fits K Φ Z ρ σ H env m)
  (hk:∀ t m1 Z1 ρ1 H1 v,f env m= .ok t m1→Ext Z Z1 ρ ρ1→Fits K Φ Z1 ρ1 σ H1 env m1→Reps K Z1 ρ1 t v→P (k t m1)→R v H1)
  (hx:∀ C ns vs m1,P (.ex C ns vs m1)→aMe K W Φ Z ρ σ R (.ex C ns vs m1)) (hn:P .no→False)
  (h:P ((f env m).bind k)):trL K W f σ H R:=by
 refine⟨Φ,Z,ρ,env,m,F,?_⟩
 cases e:f env m with
 | ok t m1=>
  rw [e] at h
  exact fun Z1 ρ1 H1 v e1 r1 rep=>hk t m1 Z1 ρ1 H1 v e e1 ⟨r1,F.env.ext e1⟩ rep h
 | ex C ns vs m1=>
  rw [e] at h
  exact hx C ns vs m1 h
 | no=>
  rw [e] at h
  exact(hn h).elim
theorem zZ {e:Expr} {es:List Expr} {fa:EF} {fs:LF} (ha:SE X W e fa) (hr:SA X W es fs) (hs:starEach (e::es) X.env=(false,eval e X.env)::starEach es X.env:=by rfl):SA X W (e::es) (zX fa fs):=by
 refine⟨aVg (pa_cons ha.pe hr.pa hs) fun σ H Q ⟨Φ,Z,ρ,env,m,F,p⟩=>?_⟩
 refine tr_bind (P:=aMe X.K W Φ Z ρ σ Q) F (fun x m1 Z1 ρ1 H1 vx _ e1 F1 rx p1=>?_) (fun _ _ _ _ h=>h) (fun h=>h) p
 refine trL_bind (P:=aMe X.K W Φ Z1 ρ1 σ Q) F1 (fun xs m2 Z2 ρ2 H2 vs _ e2 F2 rs p2=>?_) (fun _ _ _ _ h=>h) (fun h=>h) (p1.ext e1)
 exact(p2.ext e2) Z2 ρ2 H2 _ Ext.refl F2.rel (.cons (rx.ext e2) rs)
noncomputable def eOfL (g:List T→Mem→Out T) (fs:LF):EF:=fun env m=>(fs env m).bind g
noncomputable def SemL (K:PySem.W.Frag) (g:List T→Mem→Out T) (r:List V→Hp→VK→Prop):Prop:=
 ∀(W:WX) (Φ Z:Hp) (ρ:List Addr) (σ:St) (H:Hp) (m:Mem) (Q:VK) (xs:List T) (vs:List V),Rel K Φ Z ρ H m→Reps K Z ρ xs vs→Post K W Φ Z ρ σ Q (g xs m)→r vs H Q
theorem aQe {K:PySem.W.Frag} {g:List T→Mem→Out T} {r:List V→Hp→VK→Prop} (hg:SemL K g r) {fs:LF} {σ:St} {H:Hp} {Q:VK} (h:tr K W (eOfL g fs) σ H Q):trL K W fs σ H (fun vs H1=>r vs H1 Q):=by
 obtain⟨Φ,Z,ρ,env,m,F,p⟩:=h
 refine trL_bind (P:=Post K W Φ Z ρ σ Q) F (fun x m1 Z1 ρ1 H1 vx _ e1 F1 rx p1=>?_) (fun _ _ _ _ h=>h) (fun h=>h) p
 exact hg W Φ Z1 ρ1 σ H1 m1 Q x vx F1.rel rx (p1.ext e1)
noncomputable def lim:Nat:=1000000
theorem aB7 {n:Nat} (h:n≤lim):n≤sizeLine:=Nat.le_trans h (by decide)
theorem aLm {n:Nat} (h:n≤lim):n < sizeLine:=Nat.lt_of_le_of_lt h (by decide)
noncomputable def yW:List T→Mem→Out T:=fun ts m=>if ts.length≤lim then .ok (.tup ts) m else .no
noncomputable def xN (mu:Bool):List T→Mem→Out T:=fun ts m=>if ts.length≤lim then mk mu ts m else .no
theorem yZ {es:List Expr} {k:Nat} {pos:Pos} {fs:LF} (h:SA X W es fs):SE X W (.Tuple es k pos) (eOfL yW fs):=
 ⟨xY (pe_tup h.pa) fun σ H Q h=>aQe (r:=fun xs H1 Q=>xs.length≤sizeLine∧∀ p,H1 p=none→Q (.ref p) (upd H1 p (.tup xs))) (fun W Φ Z ρ σ H m Q xs vs r rs p=>by
  unfold yW at p
  split at p
  ·rename_i hl
   exact⟨by rw [←rs.length]; exact aB7 hl,fun q hq=>aF3 r rs p hq⟩
  ·exact p.elim) h⟩
theorem yC (mu:Bool) {es:List Expr} {pos:Pos} {fs:LF} (h:SA X W es fs):SE X W (.List es pos) (eOfL (xN mu) fs):=
 ⟨xY (pe_lst h.pa) fun σ H Q h=>aQe (r:=fun xs H1 Q=>xs.length≤sizeLine∧∀ p,H1 p=none→Q (.ref p) (upd H1 p (.lst xs))) (fun W Φ Z ρ σ H m Q xs vs r rs p=>by
  unfold xN at p
  split at p
  ·rename_i hl
   exact⟨by rw [←rs.length]; exact aB7 hl,fun q hq=>kB r rs p hq⟩
  ·exact p.elim) h⟩
structure Cok (X:Cx) (W:WX) (k:Nat):Prop where
 tk:Takes X W
 pass:PassesOwn (model X.prog X.w) X.A X.env X.xe
 calm:X.calm=true
 nd:X.N.Nodup
 room:Room k X.A
 here:Here X
noncomputable abbrev W0:WX:=fun _ _ _ _=>False
theorem zH {x:Str} {id:String} {r:List V→Hp→VK→Prop} {g:List T→Mem→Out T} {e:Expr} {es:List Expr} {fs:LF} {p pos:Pos} (hf:CallR X (.builtin id) r) (hg:SemL X.K g r) (hm:X.mg x=none) (ha:SA X W (e::es) fs)
  (hv:bootBuiltins x=some (.builtin id):=by decide+kernel) (hG:Gl X x:=by rfl) (hn:x≠"__name__":=by decide) (hdb:(x ==("__debug__":Str))=false:=by decide)
  (he:starEach (e::es) X.env=(false,eval e X.env)::starEach es X.env:=by rfl) (hpl:(backTo pos (starEach es X.env)).any (·.1)=false:=by rfl):SE X W (.Call (.Name x p) (e::es) [] pos) (eOfL g fs):=
 ⟨xY (pe_callB hf hG hm hv ha.pa hn hdb he hpl) fun σ H Q h=>aQe hg h⟩
theorem yB {x:Str} {id:String} {r:List V→Hp→VK→Prop} {g:List T→Mem→Out T} {e:Expr} {es:List Expr} {fs:LF} {p pos:Pos} (hf:CallR X (.type id) r) (hg:SemL X.K g r) (hm:X.mg x=none) (ha:SA X W (e::es) fs)
  (hv:bootBuiltins x=some (.type id):=by decide+kernel) (hG:Gl X x:=by rfl) (hn:x≠"__name__":=by decide) (hdb:(x ==("__debug__":Str))=false:=by decide)
  (he:starEach (e::es) X.env=(false,eval e X.env)::starEach es X.env:=by rfl) (hpl:(backTo pos (starEach es X.env)).any (·.1)=false:=by rfl):SE X W (.Call (.Name x p) (e::es) [] pos) (eOfL g fs):=
 ⟨xY (pe_callTy hf hG hm hv ha.pa hn hdb he hpl) fun σ H Q h=>aQe hg h⟩
noncomputable abbrev FS:=List T→Mem→Out T
noncomputable def spF (K:PySem.W.Frag) (n:Nat) (F:FS):Sp:=fun vs H Q E=>∃ Φ Z ρ m ts,Rel K Φ Z ρ H m∧Reps K Z ρ ts vs∧vs.length=n∧Post K (fun c d _ H'=>E c d H') Φ Z ρ [] Q (F ts m)
structure DefOk (P:Program) (w:World) (K:PySem.W.Frag) (mg:Str→Option Value) (base:Heap) (n k:Nat) (x:Str) (F:FS):Prop where
 ok:∃(f:Addr) (fd:FuncData) (ps:List Str),ps.length=n∧FnOk P w K mg base (L2.CX P w) k f fd ps (spF K n F)∧mg x=some (.ref f)∧PySem.W.keepIn K (.ref f)=true∧Binds K fd ps []
noncomputable def yU (n:Nat) (F:FS) (fs:LF):EF:=fun env m=>(fs env m).bind fun ts m1=>if ts.length=n then F ts m1 else .no
theorem aVd {K:PySem.W.Frag} {Φ Z:Hp} {ρ:List Addr} {σ:St} {Q:VK} {o:Out T} (h:Post K W Φ Z ρ σ Q o):Post K (fun c d _ H'=>WE W σ c d H') Φ Z ρ [] Q o:=by
 cases o<;>exact h
theorem zM {k j n:Nat} {F:FS} {x:Str} {e:Expr} {es:List Expr} {fs:LF} {p pos:Pos} (c:Cok X W k) (D:DefOk X.prog X.w X.K X.mg X.base n j x F) (ha:SA X W (e::es) fs) (hj:j≤k:=by decide)
  (hg:Gl X x:=by rfl) (hdb:(x ==("__debug__":Str))=false:=by decide) (he:starEach (e::es) X.env=(false,eval e X.env)::starEach es X.env:=by rfl) (hpl:(backTo pos (starEach es X.env)).any (·.1)=false:=by rfl):
  SE X W (.Call (.Name x p) (e::es) [] pos) (yU n F fs):=by
 obtain⟨f,fd,ps,hn,hF,hm,hk,hb⟩:=D.ok
 refine⟨xY (pe_callS hF (c.room.mono hj) hg hm hk hb (fun σ=>passAt c.tk σ) ha.pa hdb he hpl) fun σ H Q ⟨Φ,Z,ρ,env,m,Fi,p⟩=>?_⟩
 refine trL_bind (P:=Post X.K W Φ Z ρ σ Q) Fi (fun ts m1 Z1 ρ1 H1 vs _ e1 F1 rs p1=>?_) (fun _ _ _ _ h=>h) (fun h=>h) p
 split at p1
 ·rename_i hl
  exact⟨Φ,Z1,ρ1,m1,ts,F1.rel,rs,by rw [←rs.length]; exact hl,aVd (p1.ext e1)⟩
 ·exact p1.elim
noncomputable abbrev BF:=Env→Mem→Out Bool
noncomputable def bV (f:EF):BF:=fun env m=>(f env m).bind fun t m1=>match t with
 | .bl b=> .ok b m1
 | _=> .no
theorem bCw {K:PySem.W.Frag} {f:EF} {σ:St} {H:Hp} {Q:Bool→Hp→Prop} (h:trB K W (bV f) σ H Q):tr K W f σ H (fun x H'=>∃ k,x= .bl k∧Q k H'):=by
 obtain⟨Φ,Z,ρ,env,m,F,p⟩:=h
 refine tr_bind (P:=aQ0 K W Φ Z ρ σ Q) F (fun t m1 Z1 ρ1 H1 v _ e1 F1 r p1=>?_) (fun _ _ _ _ h=>h) (fun h=>h) p
 cases t with
 | bl b=>
  unfold Rep at r
  subst r
  exact⟨b,rfl,p1 _ _ _ e1 F1.rel⟩
 | _=>exact p1.elim
theorem vA {e:Expr} {f:EF} (h:SE X W e f) (he:∀ whole,isTrue e X.env whole=(do let v ←whole; standAt e.pos; holding [v] (truthy v)):=by intro _; rfl):SB X W e (bV f):=
 ⟨aVb (pt_val h.pe he) fun σ H Q h=>bCw h⟩
theorem yQ {op:CmpOp} {a b:Expr} {pos:Pos} {r:R2} {g:T→T→Mem→Out T} {fa fb:EF} (ho:OpR X (compareOp op) r) (hg:Sem2 X.K g r) (ha:SE X W a fa) (hb:SE X W b fb) (hm:behindInMarks op b=false:=by first | exact nomark _ | rfl):SB X W (.Compare a [op] [b] pos) (bV (e2 g fa fb)):=
 ⟨aVb (pt_cmpR ho ha.pe hb.pe hm) fun σ H Q h=>bA6 hg (bCw h)⟩
noncomputable def bNot (f:BF):BF:=fun env m=>(f env m).bind fun b m1=> .ok (!b) m1
theorem aKl {α:Type} {K:PySem.W.Frag} {Φ Z:Hp} {ρ:List Addr} {σ:St} {H:Hp} {f:BF} {env:Env} {m:Mem} {k:Bool→Mem→Out α} {P:Out α→Prop} {R:Bool→Hp→Prop} (F:Fits K Φ Z ρ σ H env m)
  (hk:∀ t m1 Z1 ρ1 H1,f env m= .ok t m1→Ext Z Z1 ρ ρ1→Fits K Φ Z1 ρ1 σ H1 env m1→P (k t m1)→R t H1)
  (hx:∀ C ns vs m1,P (.ex C ns vs m1)→aQ0 K W Φ Z ρ σ R (.ex C ns vs m1)) (hn:P .no→False)
  (h:P ((f env m).bind k)):trB K W f σ H R:=by
 refine⟨Φ,Z,ρ,env,m,F,?_⟩
 cases e:f env m with
 | ok t m1=>
  rw [e] at h
  exact fun Z1 ρ1 H1 e1 r1=>hk t m1 Z1 ρ1 H1 e e1 ⟨r1,F.env.ext e1⟩ h
 | ex C ns vs m1=>
  rw [e] at h
  exact hx C ns vs m1 h
 | no=>
  rw [e] at h
  exact(hn h).elim
theorem uP {a:Expr} {f:BF} {pos:Pos} (ha:SB X W a f):SB X W (.UnaryOp .Not a pos) (bNot f):=
 ⟨aVb (pt_not ha.pt) fun σ H Q ⟨Φ,Z,ρ,env,m,F,p⟩=>
  aKl (P:=aQ0 X.K W Φ Z ρ σ Q) (k:=fun b m1=> .ok (!b) m1) F (fun b m1 Z1 ρ1 H1 _ e1 F1 p1=>p1 _ _ _ e1 F1.rel) (fun _ _ _ _ h=>h) (fun h=>h) p⟩
structure SW (X:Cx) (W:WX) (e:Expr) (f:BF):Prop where
 pw:PW X e (trB X.K W f)
theorem bCa {X:Cx} {e:Expr} {t u:TT} (h:PW X e t) (i:∀ σ H Q,u σ H Q→t σ H Q):PW X e u:=⟨fun wh pins s σ H Q I q=>h.run wh pins s σ H Q I (i σ H Q q)⟩
theorem SW.sb {e:Expr} {f:BF} (h:SW X W e f):SB X W e f:=⟨h.pw.pt⟩
noncomputable def bAnd (f g:BF):BF:=fun env m=>(f env m).bind fun b m1=>if b then g env m1 else .ok false m1
noncomputable def bOr (f g:BF):BF:=fun env m=>(f env m).bind fun b m1=>if b then .ok true m1 else g env m1
theorem aFu {a:Expr} {f:BF} {pos:Pos} (ha:SB X W a f):SW X W (.BoolOp .And [a] pos) f:=⟨pw_and1 ha.pt⟩
theorem qT {a:Expr} {f:BF} {pos:Pos} (ha:SB X W a f):SW X W (.BoolOp .Or [a] pos) f:=⟨pw_or1 ha.pt⟩
theorem aKx {a b:Expr} {rest:List Expr} {f g:BF} {pos:Pos} (ha:SB X W a f) (hb:SW X W (.BoolOp .And (b::rest) pos) g):SW X W (.BoolOp .And (a::b::rest) pos) (bAnd f g):=
 ⟨bCa (pw_and ha.pt hb.pw) fun σ H Q ⟨Φ,Z,ρ,env,m,F,p⟩=>
  aKl (P:=aQ0 X.K W Φ Z ρ σ Q) F (fun b m1 Z1 ρ1 H1 _ e1 F1 p1=>by
   cases b with
   | true=>exact⟨Φ,Z1,ρ1,env,m1,F1,p1.ext e1⟩
   | false=>exact p1 _ _ _ e1 F1.rel) (fun _ _ _ _ h=>h) (fun h=>h) p⟩
theorem aDa {a b:Expr} {rest:List Expr} {f g:BF} {pos:Pos} (ha:SB X W a f) (hb:SW X W (.BoolOp .Or (b::rest) pos) g):SW X W (.BoolOp .Or (a::b::rest) pos) (bOr f g):=
 ⟨bCa (pw_or ha.pt hb.pw) fun σ H Q ⟨Φ,Z,ρ,env,m,F,p⟩=>
  aKl (P:=aQ0 X.K W Φ Z ρ σ Q) F (fun b m1 Z1 ρ1 H1 _ e1 F1 p1=>by
   cases b with
   | true=>exact p1 _ _ _ e1 F1.rel
   | false=>exact⟨Φ,Z1,ρ1,env,m1,F1,p1.ext e1⟩) (fun _ _ _ _ h=>h) (fun h=>h) p⟩
noncomputable def eAnd (f g:EF):EF:=fun env m=>(f env m).bind fun t m1=>match t with
 | .bl true=>g env m1
 | .bl false=> .ok (.bl false) m1
 | _=> .no
noncomputable def eOr (f g:EF):EF:=fun env m=>(f env m).bind fun t m1=>match t with
 | .bl true=> .ok (.bl true) m1
 | .bl false=>g env m1
 | _=> .no
noncomputable def eNot (f:EF):EF:=fun env m=>(f env m).bind fun t m1=>match t with
 | .bl b=> .ok (.bl (!b)) m1
 | _=> .no
theorem aO2 {op:BoolOp} {a:Expr} {f:EF} {pos:Pos} (h:SE X W a f):SE X W (.BoolOp op [a] pos) f:=⟨pe_one h.pe⟩
theorem aO3 {a b:Expr} {rest:List Expr} {f g:EF} {pos:Pos} (ha:SE X W a f) (hb:SE X W (.BoolOp .And (b::rest) pos) g):SE X W (.BoolOp .And (a::b::rest) pos) (eAnd f g):=
 ⟨xY (pe_and ha.pe hb.pe) fun σ H Q ⟨Φ,Z,ρ,env,m,F,p⟩=>
  tr_bind (P:=Post X.K W Φ Z ρ σ Q) F (fun t m1 Z1 ρ1 H1 v _ e1 F1 r p1=>by
   split at p1
   ·unfold Rep at r; subst r; exact⟨true,rfl,Φ,Z1,ρ1,env,m1,F1,p1.ext e1⟩
   ·unfold Rep at r; subst r; exact⟨false,rfl,p1 _ _ _ _ e1 F1.rel tZ⟩
   ·exact p1.elim) (fun _ _ _ _ h=>h) (fun h=>h) p⟩
theorem bH6 {a b:Expr} {rest:List Expr} {f g:EF} {pos:Pos} (ha:SE X W a f) (hb:SE X W (.BoolOp .Or (b::rest) pos) g):SE X W (.BoolOp .Or (a::b::rest) pos) (eOr f g):=
 ⟨xY (pe_or ha.pe hb.pe) fun σ H Q ⟨Φ,Z,ρ,env,m,F,p⟩=>
  tr_bind (P:=Post X.K W Φ Z ρ σ Q) F (fun t m1 Z1 ρ1 H1 v _ e1 F1 r p1=>by
   split at p1
   ·unfold Rep at r; subst r; exact⟨true,rfl,p1 _ _ _ _ e1 F1.rel tZ⟩
   ·unfold Rep at r; subst r; exact⟨false,rfl,Φ,Z1,ρ1,env,m1,F1,p1.ext e1⟩
   ·exact p1.elim) (fun _ _ _ _ h=>h) (fun h=>h) p⟩
theorem bC5 {a:Expr} {f:EF} {pos:Pos} (ha:SE X W a f):SE X W (.UnaryOp .Not a pos) (eNot f):=
 ⟨xY (pe_not ha.pe) fun σ H Q ⟨Φ,Z,ρ,env,m,F,p⟩=>
  tr_bind (P:=Post X.K W Φ Z ρ σ Q) F (fun t m1 Z1 ρ1 H1 v _ e1 F1 r p1=>by
   split at p1
   ·unfold Rep at r; subst r; exact⟨_,rfl,p1 _ _ _ _ e1 F1.rel tZ⟩
   ·exact p1.elim) (fun _ _ _ _ h=>h) (fun h=>h) p⟩
noncomputable def eIf (c:BF) (f g:EF):EF:=fun env m=>(c env m).bind fun b m1=>if b then f env m1 else g env m1
theorem aXy {c a b:Expr} {fc:BF} {f g:EF} {pos:Pos} (hc:SB X W c fc) (ha:SE X W a f) (hb:SE X W b g):SE X W (.IfExp c a b pos) (eIf fc f g):=
 ⟨xY (pe_ifExp hc.pt ha.pe hb.pe) fun σ H Q ⟨Φ,Z,ρ,env,m,F,p⟩=>
  aKl (P:=Post X.K W Φ Z ρ σ Q) F (fun b m1 Z1 ρ1 H1 _ e1 F1 p1=>by
   cases b with
   | true=>exact⟨Φ,Z1,ρ1,env,m1,F1,p1.ext e1⟩
   | false=>exact⟨Φ,Z1,ρ1,env,m1,F1,p1.ext e1⟩) (fun _ _ _ _ h=>h) (fun h=>h) p⟩
noncomputable def sOf (f:EF) (k:T→Env→Mem→SOut):SF:=fun env m=>match f env m with
 | .ok t m1=>k t env m1
 | .ex C ns vs m1=> .ex C ns vs env m1
 | .no=> .no
theorem tV {K:PySem.W.Frag} {σ:St} {H:Hp} {D:Ends} {f:EF} {k:T→Env→Mem→SOut} {R:V→Hp→Prop}
  (hk:∀ Φ Z1 ρ1 H1 env m1 t v,Fits K Φ Z1 ρ1 σ H1 env m1→Rep K Z1 ρ1 t v→qC K W Φ Z1 ρ1 σ.length D (k t env m1)→R v H1)
  (h:trS K W (sOf f k) D σ H):tr K W f σ H R:=by
 obtain⟨Φ,Z,ρ,env,m,F,p⟩:=h
 refine⟨Φ,Z,ρ,env,m,F,?_⟩
 unfold sOf at p
 cases e:f env m with
 | ok t m1=>
  rw [e] at p
  exact fun Z1 ρ1 H1 v e1 r1 rep=>hk Φ Z1 ρ1 H1 env m1 t v ⟨r1,F.env.ext e1⟩ rep (p.ext e1)
 | ex C ns vs m1=>
  rw [e] at p
  exact fun Z1 ρ1 H1 d us e1 r1 rs hl hd=>p Z1 ρ1 H1 σ d us e1 ⟨r1,F.env.ext e1⟩ rs hl hd
 | no=>rw [e] at p; exact p
theorem yX {e:Expr} {f:EF} {pos:Pos} (h:SE X W e f):SS X W (.Return (some e) pos) (sOf f fun t _ m=> .rt t m):=
 ⟨tY (ps_ret h.pe) fun D σ H h=>tV (k:=fun t _ m=> .rt t m) (fun Φ Z1 ρ1 H1 env m1 t v F r p=>p _ _ _ _ Ext.refl F.rel r) h⟩
theorem wB {e:Expr} {f:EF} {pos:Pos} (h:SE X W e f) (hs:swapsWith e none pos.line X.env=pure false:=by rfl):SS X W (.Expr e pos) (sOf f fun _ env m=> .nx env m):=
 ⟨tY (ps_expr h.pe hs) fun D σ H h=>tV (k:=fun _ env m=> .nx env m) (fun Φ Z1 ρ1 H1 env m1 t v F r p=>p _ _ _ _ Ext.refl F rfl) h⟩
noncomputable def sNo:SF:=fun _ _=> .no
theorem yS {k:Nat} (i:Nat) {x:Str} {e:Expr} {f:EF} {p pos:Pos} (c:Cok X W k) (h:SE X W e f) (hi:X.N[i]? =some x:=by rfl) (hx:Loc X.env.scope x:=by first | exact Or.inl rfl | exact Or.inr rfl)
  (hs:swapsWith e (some (.Name x p)) pos.line X.env=pure false:=by rfl) (hf:X.fn x=true∨X.env.scope.names.lookup x=some .local:=by first | exact .inl rfl | exact .inr rfl):SS X W (.Assign [.Name x p] e pos) (sOf f fun t env m=> .nx (env.set i (some t)) m):=
 ⟨tY (ps_set c.nd hi hx h.pe hs hf) fun D σ H h=>tV (k:=fun t env m=> .nx (env.set i (some t)) m) (fun Φ Z1 ρ1 H1 env m1 t v F r p=>p _ _ _ _ Ext.refl ⟨F.rel,F.env.set i r⟩ (by simp)) h⟩
noncomputable def sIf (c:BF) (f g:SF):SF:=fun env m=>match c env m with
 | .ok b m1=>if b then f env m1 else g env m1
 | .ex C ns vs m1=> .ex C ns vs env m1
 | .no=> .no
theorem aXg {K:PySem.W.Frag} {σ:St} {H:Hp} {D:Ends} {c:BF} {f g:SF} {R:Bool→Hp→Prop}
  (hk:∀ Φ Z1 ρ1 H1 env m1 b,Fits K Φ Z1 ρ1 σ H1 env m1→qC K W Φ Z1 ρ1 σ.length D (if b then f env m1 else g env m1)→R b H1)
  (h:trS K W (sIf c f g) D σ H):trB K W c σ H R:=by
 obtain⟨Φ,Z,ρ,env,m,F,p⟩:=h
 refine⟨Φ,Z,ρ,env,m,F,?_⟩
 unfold sIf at p
 cases e:c env m with
 | ok t m1=>
  rw [e] at p
  exact fun Z1 ρ1 H1 e1 r1=>hk Φ Z1 ρ1 H1 env m1 t ⟨r1,F.env.ext e1⟩ (qC.ext (o:=if t=true then f env m1 else g env m1) p e1)
 | ex C ns vs m1=>
  rw [e] at p
  exact fun Z1 ρ1 H1 d us e1 r1 rs hl hd=>p Z1 ρ1 H1 σ d us e1 ⟨r1,F.env.ext e1⟩ rs hl hd
 | no=>rw [e] at p; exact p
theorem xA {c:Expr} {a b:List Stmt} {fc:BF} {f g:SF} {pos:Pos} (hc:SB X W c fc) (ha:SSs X W a f) (hb:SSs X W b g):SS X W (.If c a b pos) (sIf fc f g):=
 ⟨tY (ps_if hc.pt ha.ps hb.ps) fun D σ H h=>aXg (fun Φ Z1 ρ1 H1 env m1 b F p=>by
  cases b with
  | true=>exact⟨Φ,Z1,ρ1,env,m1,F,p⟩
  | false=>exact⟨Φ,Z1,ρ1,env,m1,F,p⟩) h⟩
noncomputable def sNil:SF:=fun env m=> .nx env m
noncomputable def sSeq (f g:SF):SF:=fun env m=>match f env m with
 | .nx env1 m1=>g env1 m1
 | r=>r
theorem yR:SSs X W [] sNil:=⟨aYb pss_nil fun D σ H ⟨Φ,Z,ρ,env,m,F,p⟩=>p _ _ _ _ Ext.refl F rfl⟩
theorem zV {st:Stmt} {rest:List Stmt} {f g:SF} (h1:SS X W st f) (h2:SSs X W rest g):SSs X W (st::rest) (sSeq f g):=by
 refine⟨aYb (pss_cons h1.ps h2.ps) fun D σ H ⟨Φ,Z,ρ,env,m,F,p⟩=>⟨Φ,Z,ρ,env,m,F,?_⟩⟩
 unfold sSeq at p
 cases e:f env m with
 | nx env1 m1=>
  rw [e] at p
  exact fun Z1 ρ1 H1 σ1 e1 F1 hl=>⟨Φ,Z1,ρ1,env1,m1,F1,by rw [hl]; exact qC.ext (o:=g env1 m1) p e1⟩
 | rt t m1=>rw [e] at p; exact p
 | bk _ _=>rw [e] at p; exact p
 | ct _ _=>rw [e] at p; exact p
 | ex _ _ _ _ _=>rw [e] at p; exact p
 | no=>rw [e] at p; exact p
theorem zT {st:Stmt} {f:SF} (h1:SS X W st f):SSs X W [st] f:=⟨pss_one h1.ps⟩
noncomputable def fnOf (n:Nat) (g:SF):FS:=fun ts m=>match g (ts.map some++List.replicate (n - ts.length) none) m with
 | .nx _ m1=> .ok .non m1
 | .rt t m1=> .ok t m1
 | .ex C ns vs _ m1=> .ex C ns vs m1
 | _=> .no
theorem aOe {K:PySem.W.Frag} {Z:Hp} {ρ:List Addr} {ts:List T} {vs:List V} (N:List Str) (r:Reps K Z ρ ts vs):Envs K Z ρ (ts.map some++List.replicate (N.length - ts.length) none) (L2.start N vs):=by
 have hl:=r.length
 refine⟨by unfold L2.start; simp [hl],fun i t e=>?_⟩
 by_cases hi:i < ts.length
 ·rw [List.getElem?_append_left (by simpa using hi),List.getElem?_map] at e
  obtain⟨u,e1,e2⟩:=Option.map_eq_some_iff.mp e
  cases e2
  obtain⟨v,h1,h2⟩:=r.get e1
  refine⟨v,?_,h2⟩
  unfold L2.start
  rw [List.getElem?_append_left (by simp; omega),List.getElem?_map,h1]; rfl
 ·rw [List.getElem?_append_right (by simpa using Nat.le_of_not_lt hi)] at e
  have:=List.mem_of_getElem? e
  have:=List.eq_of_mem_replicate this
  cases this
end
end Ev
namespace Ev
open PySem L2
variable [Wrl]
noncomputable def Wk (K:PySem.W.Frag) (Z:Hp) (ρ:List Addr) (J:It) (ts:List T):Prop:=
 ∀(Φ Z1:Hp) (ρ1:List Addr) (H:Hp) (m:Mem) (i:Nat),Ext Z Z1 ρ ρ1→Rel K Φ Z1 ρ1 H m→
  (i=ts.length→J.stop i H)∧∀ t,ts[i]? =some t→J.go i H∧∀ x H',J.yld i H x H'→∃ Z2,Ext Z1 Z2 ρ1 ρ1∧Rel K Φ Z2 ρ1 H' m∧Rep K Z2 ρ1 t x
noncomputable def aIr (K:PySem.W.Frag) (W:WX) (Φ Z:Hp) (ρ:List Addr) (σ:St) (R:It→Hp→Prop):Out (List T)→Prop
 | .ok ts m=>∀ Z' ρ' H' J,Ext Z Z' ρ ρ'→Rel K Φ Z' ρ' H' m→Wk K Z' ρ' J ts→R J H'
 | .ex C ns ts m=>∀ Z' ρ' H' d vs,Ext Z Z' ρ ρ'→Rel K Φ Z' ρ' H' m→Reps K Z' ρ' ts vs→ns.length=vs.length→Z' d=some (.xd (ns.zip vs))→WR K W C d σ H'
 | .no=>False
structure SI (X:Cx) (W:WX) (tg iter:Expr) (fi:LF):Prop where
 ex:∃ wi,PI X tg iter wi∧∀(Φ Z:Hp) (ρ:List Addr) (σ:St) (H:Hp) (env:Env) (m:Mem) (R:It→Hp→Prop),Fits X.K Φ Z ρ σ H env m→aIr X.K W Φ Z ρ σ R (fi env m)→wi σ H R
theorem aYf {X:Cx} {tg iter:Expr} {w1 w2:TI} (h1:PI X tg iter w1) (h2:PI X tg iter w2):PI X tg iter (fun σ H R=>w1 σ H R∨w2 σ H R):=
 ⟨fun pins s σ H R I h=>h.elim (h1.run pins s σ H R I) (h2.run pins s σ H R I)⟩
noncomputable def kT:Key→T
 | .inl i=> .int i
 | .inr x=> .str x
theorem bC7 {K:PySem.W.Frag} {Z:Hp} {ρ:List Addr} (k:Key):Rep K Z ρ (kT k) (kV k):=by cases k<;>first | exact wW | exact aDw
noncomputable def items:T→Option (List T)
 | .lst ts=>some ts
 | .rls ts=>some ts
 | .tup ts=>some ts
 | .str x=>some (x.cps.toList.map fun c=> .str ⟨#[c]⟩)
 | .dct ks _=>some (ks.map kT)
 | _=>none
noncomputable def iVal (f:EF):LF:=fun env m=>(f env m).bind fun t m1=>match items t with
 | some ts=> .ok ts m1
 | none=> .no
theorem aXc {K:PySem.W.Frag} {Z:Hp} {ρ:List Addr} {a:Addr} {vs:List V} {ts:List T} (h:SqL K Z a vs) (rs:Reps K Z ρ ts vs):Wk K Z ρ (Itl K a) ts:=fun Φ Z1 ρ1 H m i e r=>by
 have q:SqL K H a vs:=r.same.seq (e.z.seq h)
 refine⟨fun hi=>⟨vs,q,by rw [hi,rs.length]; exact Nat.le_refl _⟩,fun t ht=>?_⟩
 obtain⟨v,h1,h2⟩:=rs.get ht
 refine⟨⟨vs,v,q,h1⟩,fun x H' ⟨e1,y⟩=>?_⟩
 subst e1
 have e3:v=x:=by have:=y vs q; rw [h1] at this; exact Option.some.inj this
 subst e3
 exact⟨Z1,Ext.refl,r,h2.ext e⟩
theorem bF7 {K:PySem.W.Frag} {Z:Hp} {ρ:List Addr} {a:Addr} {vs:List V} {ts:List T} (h:SqT K Z a vs) (rs:Reps K Z ρ ts vs):Wk K Z ρ (Itt K a) ts:=fun Φ Z1 ρ1 H m i e r=>by
 have q:SqT K H a vs:=Same.sqt r.same (Same.sqt e.z h)
 refine⟨fun hi=>⟨vs,q,by rw [hi,rs.length]; exact Nat.le_refl _⟩,fun t ht=>?_⟩
 obtain⟨v,h1,h2⟩:=rs.get ht
 refine⟨⟨vs,v,q,h1⟩,fun x H' ⟨e1,y⟩=>?_⟩
 subst e1
 have e3:v=x:=by have:=y vs q; rw [h1] at this; exact Option.some.inj this
 subst e3
 exact⟨Z1,Ext.refl,r,h2.ext e⟩
theorem bF8 {K:PySem.W.Frag} {Z:Hp} {ρ:List Addr} {x:Str}:Wk K Z ρ (Its x) (x.cps.toList.map fun c=> .str ⟨#[c]⟩):=fun Φ Z1 ρ1 H m i e r=>by
 refine⟨fun hi=>?_,fun t ht=>?_⟩
 ·show x.cps.size≤i
  rw [hi]; simp
 ·rw [List.getElem?_map] at ht
  obtain⟨c,h1,h2⟩:=Option.map_eq_some_iff.mp ht
  have hl:=(List.getElem?_eq_some_iff.mp h1).1
  refine⟨by show i < x.cps.size; simpa using hl,fun y H' ⟨e1,c',h3,h4⟩=>?_⟩
  subst e1
  have:c=c':=by
   have h5:x.cps.toList[i]? =some c':=by simpa using h3
   rw [h1] at h5; exact Option.some.inj h5
  subst this
  subst h4; subst h2
  exact⟨Z1,Ext.refl,r,aDw⟩
theorem zip_get {ks:List Key} {vs:List V} {i:Nat} {k:Key} {v:V} (h:(ks.zip vs)[i]? =some (k,v)):ks[i]? =some k∧vs[i]? =some v:=by
 rw [List.getElem?_zip_eq_some] at h
 exact h
theorem bCq {K:PySem.W.Frag} {Z:Hp} {ρ:List Addr} {a:Addr} {o:Obj} {ks:List Key} {vs:List V} (h:Z a=some (.frz o (.dK (ks.zip vs)))) (hl:ks.length=vs.length):Wk K Z ρ (Itk a o (ks.zip vs)) (ks.map kT):=fun Φ Z1 ρ1 H m i e r=>by
 have q:=r.zin _ _ (e.z _ _ h)
 refine⟨fun hi=>⟨q,by rw [hi,List.length_map,List.length_zip,←hl,Nat.min_self]; exact Nat.le_refl _⟩,fun t ht=>?_⟩
 rw [List.getElem?_map] at ht
 obtain⟨k,h1,rfl⟩:=Option.map_eq_some_iff.mp ht
 have hi:=(List.getElem?_eq_some_iff.mp h1).1
 refine⟨⟨q,by rw [List.length_zip,←hl,Nat.min_self]; exact hi⟩,fun x H' ⟨e1,k2,v2,h3,h4⟩=>?_⟩
 subst e1
 have:=(zip_get h3).1
 rw [h1] at this
 cases this
 subst h4
 exact⟨Z1,Ext.refl,r,bC7 k⟩
section
variable {X:Cx} {W:WX}
theorem yN {tg e:Expr} {f:EF} (h:SE X W e f):SI X W tg e (iVal f):=by
 refine⟨_,aYf (aYf (aYf (pi_list h.pe) (pi_tup h.pe)) (pi_str h.pe)) (pi_keys h.pe),fun Φ Z ρ σ H env m R F p=>?_⟩
 have key:∀(R':V→Hp→Prop),(∀ t ts m1 Z1 ρ1 H1 v,f env m= .ok t m1→items t=some ts→Ext Z Z1 ρ ρ1→Fits X.K Φ Z1 ρ1 σ H1 env m1→Rep X.K Z1 ρ1 t v→(∀ J,Wk X.K Z1 ρ1 J ts→R J H1)→R' v H1)→tr X.K W f σ H R':=by
  intro R' hk
  refine tr_bind (P:=aIr X.K W Φ Z ρ σ R) F (fun t m1 Z1 ρ1 H1 v e0 e1 F1 r p1=>?_) (fun _ _ _ _ h=>h) (fun h=>h) p
  cases hi:items t with
  | none=>rw [hi] at p1; exact p1.elim
  | some ts=>
   rw [hi] at p1
   exact hk t ts m1 Z1 ρ1 H1 v e0 hi e1 F1 r fun J w=>p1 _ _ _ J e1 F1.rel w
 cases e0:f env m with
 | no=>unfold iVal at p; rw [e0] at p; exact p.elim
 | ex C ns vs m1=>
  refine .inl (.inl (.inl ?_))
  exact key _ fun t ts m1 Z1 ρ1 H1 v e1=>by rw [e0] at e1; cases e1
 | ok t m1=>
  cases t with
  | lst us=>
   refine .inl (.inl (.inl (key _ fun t ts m1 Z1 ρ1 H1 v e1 hi e F1 r hR=>?_)))
   rw [e0] at e1; cases e1
   have e2:us=ts:=by simpa [items] using hi
   subst e2
   unfold Rep at r
   obtain⟨a,vs,rfl,q,rs⟩:=r
   exact⟨a,rfl,⟨vs,.of (F1.rel.zin _ _ q)⟩,hR _ (aXc (.of q) rs)⟩
  | rls us=>
   refine .inl (.inl (.inl (key _ fun t ts m1 Z1 ρ1 H1 v e1 hi e F1 r hR=>?_)))
   rw [e0] at e1; cases e1
   have e2:us=ts:=by simpa [items] using hi
   subst e2
   unfold Rep at r
   obtain⟨a,vs,rfl,q,rs⟩:=r
   exact⟨a,rfl,⟨vs,F1.rel.same.seq q⟩,hR _ (aXc q rs)⟩
  | tup us=>
   refine .inl (.inl (.inr (key _ fun t ts m1 Z1 ρ1 H1 v e1 hi e F1 r hR=>?_)))
   rw [e0] at e1; cases e1
   have e2:us=ts:=by simpa [items] using hi
   subst e2
   unfold Rep at r
   obtain⟨a,vs,rfl,q,rs⟩:=r
   exact⟨a,rfl,⟨vs,Same.sqt F1.rel.same q⟩,hR _ (bF7 q rs)⟩
  | str y=>
   refine .inl (.inr (key _ fun t ts m1 Z1 ρ1 H1 v e1 hi e F1 r hR=>?_))
   rw [e0] at e1; cases e1
   have e2:ts=y.cps.toList.map fun c=> .str ⟨#[c]⟩:=by simpa [items] using hi.symm
   subst e2
   unfold Rep at r
   subst r
   exact⟨y,rfl,hR _ bF8⟩
  | dct ks us=>
   refine .inr (key _ fun t ts m1 Z1 ρ1 H1 v e1 hi e F1 r hR=>?_)
   rw [e0] at e1; cases e1
   have e2:ks.map kT=ts:=by simpa [items] using hi
   subst e2
   unfold Rep at r
   obtain⟨a,vs,o,rfl,q,hl,rs⟩:=r
   exact⟨a,o,rfl,.inl ⟨_,F1.rel.zin _ _ q,hR _ (bCq q hl)⟩⟩
  | _=>unfold iVal at p; rw [e0] at p; exact(show False from p).elim
theorem bA3 {K:PySem.W.Frag} {Z:Hp} {ρ:List Addr} {lo:Int} {n:Nat}:Wk K Z ρ (Itr lo n) ((List.range n).map fun i=> .int (lo+(i:Nat))):=fun Φ Z1 ρ1 H m i e r=>by
 refine⟨fun hi=>by show n≤i; rw [hi]; simp,fun t ht=>?_⟩
 rw [List.getElem?_map] at ht
 obtain⟨c,h1,h2⟩:=Option.map_eq_some_iff.mp ht
 have hl:=(List.getElem?_eq_some_iff.mp h1).1
 have hc:c=i:=by
  rw [List.getElem?_range (by simpa using hl)] at h1; exact(Option.some.inj h1).symm
 subst hc; subst h2
 refine⟨by show c < n; simpa using hl,fun y H' ⟨e1,e2⟩=>?_⟩
 subst e1; subst e2
 exact⟨Z1,Ext.refl,r,wW⟩
noncomputable def rng (lo hi:Int):List T:=(List.range (hi - lo).toNat).map fun i=> .int (lo+(i:Nat))
noncomputable def aH2 (fs:LF):LF:=fun env m=>(fs env m).bind fun ts m1=>match ts with
 | [.int n]=>if -1000000≤n∧n≤1000000 then .ok (rng 0 n) m1 else .no
 | _=> .no
noncomputable def aLo (fs:LF):LF:=fun env m=>(fs env m).bind fun ts m1=>match ts with
 | [.int a,.int b]=>if -1000000≤a∧a≤1000000∧ -1000000≤b∧b≤1000000 then .ok (rng a b) m1 else .no
 | _=> .no
theorem aL5 {tg a:Expr} {fs:LF} {p pos:Pos} (ha:SA X W [a] fs) (hm:X.mg "range"=none) (hg:Gl X "range":=by rfl) (hs:starEach [a] X.env=[(false,eval a X.env)]:=by rfl):
  SI X W tg (.Call (.Name "range" p) [a] [] pos) (aH2 fs):=by
 refine⟨_,pi_range1 hg hm ha.pa hs,fun Φ Z ρ σ H env m R F p=>?_⟩
 refine trL_bind (P:=aIr X.K W Φ Z ρ σ R) F (fun ts m1 Z1 ρ1 H1 vs e0 e1 F1 r p1=>?_) (fun _ _ _ _ h=>h) (fun h=>h) p
 split at p1
 ·rename_i n
  split at p1
  ·rename_i hb
   unfold Reps at r
   obtain⟨v,us,rfl,r1,r2⟩:=r
   unfold Reps at r2
   subst r2
   unfold Rep at r1
   subst r1
   refine⟨n,rfl,by omega,by omega,p1 _ _ _ _ e1 F1.rel ?_⟩
   have:rng 0 n=(List.range n.toNat).map fun i=>T.int (0+(i:Nat)):=by unfold rng; simp
   rw [this]
   exact bA3
  ·exact p1.elim
 ·exact p1.elim
end
noncomputable abbrev GF:=T→Env→Option Env
noncomputable def KG (K:PySem.W.Frag) (sl:List Nat) (gt:GF) (g:TG):Prop:=∀(Φ Z:Hp) (ρ:List Addr) (σ:St) (H:Hp) (env env1:Env) (m:Mem) (t:T) (v:V) (Q:St→Hp→Prop),Fits K Φ Z ρ σ H env m→Rep K Z ρ t v→gt t env=some env1→
  (∀ σ',Fits K Φ Z ρ σ' H env1 m→σ'.length=σ.length→(∀ vs:List Nat,(∀ i∈sl,i∈vs)→wipe σ' vs=wipe σ vs)→Q σ' H)→g v σ H Q
structure SG (X:Cx) (tg:Expr) (sl:List Nat) (gt:GF) (g:TG):Prop where
 pg:PG X tg g
 kg:KG X.K sl gt g
noncomputable def KGs (K:PySem.W.Frag) (sl:List Nat) (gt:List T→Env→Option Env) (g:TGs):Prop:=∀(Φ Z:Hp) (ρ:List Addr) (σ:St) (H:Hp) (env env1:Env) (m:Mem) (ts:List T) (vs:List V) (Q:St→Hp→Prop),Fits K Φ Z ρ σ H env m→Reps K Z ρ ts vs→gt ts env=some env1→
  (∀ σ',Fits K Φ Z ρ σ' H env1 m→σ'.length=σ.length→(∀ ws:List Nat,(∀ i∈sl,i∈ws)→wipe σ' ws=wipe σ ws)→Q σ' H)→g vs σ H Q
structure SGs (X:Cx) (tgs:List Expr) (sl:List Nat) (gt:List T→Env→Option Env) (g:TGs):Prop where
 pg:PGs X tgs g
 kg:KGs X.K sl gt g
theorem aC7 (σ:St) (i:Nat):∀ vs:List Nat,(wipe σ vs)[i]? =if i∈vs∧i < σ.length then some none else σ[i]?
 | []=>by simp [wipe]
 | v::vs=>by
  unfold wipe
  rw [List.getElem?_set,aC7 σ i vs,wipe_length]
  by_cases h1:v=i
  ·subst h1
   by_cases h2:v < σ.length
   ·simp [h2]
   ·simp [h2]
  ·have h3:¬i=v:=fun z=>h1 z.symm
   simp [h1,h3]
theorem aUn {σ:St} {i:Nat} {x:Option V} {vs:List Nat} (h:i∈vs):wipe (σ.set i x) vs=wipe σ vs:=by
 refine List.ext_getElem? fun j=>?_
 rw [aC7,aC7,List.length_set,List.getElem?_set]
 by_cases hj:i=j
 ·subst hj
  by_cases hl:i < σ.length
  ·simp [h,hl]
  ·simp [hl]
 ·simp [hj]
noncomputable def gN (i:Nat):GF:=fun t env=>some (env.set i (some t))
noncomputable def xX:List T→Env→Option Env
 | [],env=>some env
 | _,_=>none
noncomputable def zR (g:GF) (gs:List T→Env→Option Env):List T→Env→Option Env
 | t::ts,env=>(g t env).bind fun env1=>gs ts env1
 | _,_=>none
noncomputable def gT (n:Nat) (gs:List T→Env→Option Env):GF:=fun t env=>match t with
 | .tup ts=>if ts.length=n then gs ts env else none
 | _=>none
noncomputable def gTL (n:Nat) (gs:List T→Env→Option Env):GF:=fun t env=>match t with
 | .tup ts=>if ts.length=n then gs ts env else none
 | .lst ts=>if ts.length=n then gs ts env else none
 | .rls ts=>if ts.length=n then gs ts env else none
 | _=>none
section
variable {X:Cx} {W:WX}
theorem zU (i:Nat) {x:Str} {pos:Pos} (nd:X.N.Nodup) (hi:X.N[i]? =some x:=by rfl) (hx:Loc X.env.scope x:=by first | exact Or.inl rfl | exact Or.inr rfl) (hf:X.fn x=true∨X.env.scope.names.lookup x=some .local:=by first | exact .inl rfl | exact .inr rfl):SG X (.Name x pos) [i] (gN i) (gName i):=by
 refine⟨pg_name nd hi hx hf,fun Φ Z ρ σ H env env1 m t v Q F r e h=>?_⟩
 cases e
 exact h _ ⟨F.rel,F.env.set i r⟩ (by simp) fun vs hv=>aUn (hv i (by simp))
theorem yT:SGs X [] [] xX gNil:=by
 refine⟨pgs_nil,fun Φ Z ρ σ H env env1 m ts vs Q F r e h=>?_⟩
 cases ts with
 | nil=>
  unfold Reps at r
  cases e
  exact⟨r,h σ F rfl fun _ _=>rfl⟩
 | cons t ts=>cases e
theorem zS {e:Expr} {es:List Expr} {s1 s2:List Nat} {g:GF} {gs:List T→Env→Option Env} {w1:TG} {w2:TGs} (h1:SG X e s1 g w1) (h2:SGs X es s2 gs w2)
  (hs:(assignEach (e::es) X.env).map (·.2)=assign e X.env::(assignEach es X.env).map (·.2):=by rfl):SGs X (e::es) (s1++s2) (zR g gs) (gCons w1 w2):=by
 obtain⟨p1,k1⟩:=h1
 obtain⟨p2,k2⟩:=h2
 refine⟨pgs_cons p1 p2 hs,fun Φ Z ρ σ H env env1 m ts vs Q F r e h=>?_⟩
 cases ts with
 | nil=>cases e
 | cons t ts=>
  unfold Reps at r
  obtain⟨v,us,rfl,r1,rs⟩:=r
  unfold zR at e
  obtain⟨envA,ea,eb⟩:=Option.bind_eq_some_iff.mp e
  refine⟨v,us,rfl,k1 Φ Z ρ σ H env envA m t v _ F r1 ea fun σ1 F1 l1 w1'=>?_⟩
  refine k2 Φ Z ρ σ1 H envA env1 m ts us _ F1 rs eb fun σ2 F2 l2 w2'=>h σ2 F2 (l2.trans l1) fun ws hw=>?_
  exact(w2' ws fun i hi=>hw i (List.mem_append_right _ hi)).trans (w1' ws fun i hi=>hw i (List.mem_append_left _ hi))
theorem bH9 {tg:Expr} {g1 g2:TG} (h1:PG X tg g1) (h2:PG X tg g2):PG X tg (fun v σ H Q=>g1 v σ H Q∨g2 v σ H Q):=
 ⟨fun pins s σ H v u Q I r h=>h.elim (h1.run pins s σ H v u Q I r) (h2.run pins s σ H v u Q I r)⟩
theorem yF {es:List Expr} {kk n:Nat} {pos:Pos} {sl:List Nat} {gs:List T→Env→Option Env} {w:TGs} (hc:X.calm=true) (h:SGs X es sl gs w)
  (hn:(assignEach es X.env).length=n:=by rfl) (hst:(assignEach es X.env).findIdx? (·.1)=none:=by rfl):SG X (.Tuple es kk pos) sl (gT n gs) (gTup X.K n w):=by
 obtain⟨p,k⟩:=h
 refine⟨pg_tup hc p hn hst,fun Φ Z ρ σ H env env1 m t v Q F r e h=>?_⟩
 unfold gT at e
 split at e
 ·rename_i ts
  split at e
  ·rename_i hl
   unfold Rep at r
   obtain⟨a,vs,rfl,q,rs⟩:=r
   exact⟨a,vs,rfl,Same.sqt F.rel.same q,by rw [←rs.length]; exact hl,k Φ Z ρ σ H env env1 m ts vs Q F rs e h⟩
  ·cases e
 ·cases e
theorem aBl {es:List Expr} {kk n:Nat} {pos:Pos} {sl:List Nat} {gs:List T→Env→Option Env} {w:TGs} (hc:X.calm=true) (h:SGs X es sl gs w)
  (hn:(assignEach es X.env).length=n:=by rfl) (hst:(assignEach es X.env).findIdx? (·.1)=none:=by rfl):SG X (.Tuple es kk pos) sl (gTL n gs) (fun v σ H Q=>gTup X.K n w v σ H Q∨gLst X.K n w v σ H Q):=by
 obtain⟨p,k⟩:=h
 refine⟨bH9 (pg_tup hc p hn hst) (pg_lst hc p hn hst),fun Φ Z ρ σ H env env1 m t v Q F r e h=>?_⟩
 unfold gTL at e
 split at e
 ·rename_i ts
  split at e
  ·rename_i hl
   unfold Rep at r
   obtain⟨a,vs,rfl,q,rs⟩:=r
   exact .inl ⟨a,vs,rfl,Same.sqt F.rel.same q,by rw [←rs.length]; exact hl,k Φ Z ρ σ H env env1 m ts vs Q F rs e h⟩
  ·cases e
 ·rename_i ts
  split at e
  ·rename_i hl
   unfold Rep at r
   obtain⟨a,vs,rfl,q,rs⟩:=r
   exact .inr ⟨a,vs,rfl,.of (F.rel.zin _ _ q),by rw [←rs.length]; exact hl,k Φ Z ρ σ H env env1 m ts vs Q F rs e h⟩
  ·cases e
 ·rename_i ts
  split at e
  ·rename_i hl
   unfold Rep at r
   obtain⟨a,vs,rfl,q,rs⟩:=r
   exact .inr ⟨a,vs,rfl,F.rel.same.seq q,by rw [←rs.length]; exact hl,k Φ Z ρ σ H env env1 m ts vs Q F rs e h⟩
  ·cases e
 ·cases e
noncomputable def sAsg (f:EF) (g:GF):SF:=sOf f fun t env m=>match g t env with
 | some env1=> .nx env1 m
 | none=> .no
theorem aB3 {tg e:Expr} {sl:List Nat} {f:EF} {g:GF} {w:TG} {pos:Pos} (he:SE X W e f) (hg:SG X tg sl g w) (hs:swapsWithSole [tg] e pos.line X.env=pure false:=by rfl) (hw:swappedStores [tg] e X.env=pure none:=by rfl)
  (h1:(assignEach [tg] X.env).map (·.2)=[assign tg X.env]:=by rfl):SS X W (.Assign [tg] e pos) (sAsg f g):=by
 obtain⟨p,k⟩:=hg
 refine⟨tY (ps_asg he.pe p hs hw h1) fun D σ H h=>tV (k:=fun t env m=>match g t env with
  | some env1=> .nx env1 m
  | none=> .no) (fun Φ Z1 ρ1 H1 env m1 t v F r p=>?_) h⟩
 cases e:g t env with
 | none=>rw [e] at p; exact(show False from p).elim
 | some env1=>
  rw [e] at p
  exact k Φ Z1 ρ1 σ H1 env env1 m1 t v D.nx F r e fun σ' F' hl _=>p _ _ _ _ Ext.refl F' hl
noncomputable def loop (g:GF) (body:SF):List T→Env→Mem→SOut
 | [],env,m=> .nx env m
 | t::ts,env,m=>match g t env with
  | none=> .no
  | some env1=>match body env1 m with
   | .nx env2 m2=>loop g body ts env2 m2
   | .ct env2 m2=>loop g body ts env2 m2
   | .bk env2 m2=> .nx env2 m2
   | .rt t m2=> .rt t m2
   | .ex C ns vs env2 m2=> .ex C ns vs env2 m2
   | .no=> .no
noncomputable def sFor (fi:LF) (g:GF) (body:SF):SF:=fun env m=>match fi env m with
 | .ok ts m1=>loop g body ts env m1
 | .ex C ns vs m1=> .ex C ns vs env m1
 | .no=> .no
theorem wJ {k:Nat} {tg iter:Expr} {body:List Stmt} {sl:List Nat} {fi:LF} {g:GF} {fb:SF} {wg:TG} {pos:Pos} (c:Cok X W k) (hi:SI X W tg iter fi) (hg:SG X tg sl g wg) (hb:SSs X W body fb)
  (hs:∀ x,foldedSetIterable iter X.env x=pure x:=by intro _; rfl):SS X W (.For tg iter body [] pos) (sFor fi g fb):=by
 obtain⟨wi,pi,ki⟩:=hi.ex
 obtain⟨pg,kg⟩:=hg
 refine⟨tY (ps_for c.pass c.calm pi pg hb.ps hs) fun D σ H ⟨Φ,Z,ρ,env,m,F,p⟩=>ki Φ Z ρ σ H env m _ F ?_⟩
 unfold sFor at p
 cases e0:fi env m with
 | no=>rw [e0] at p; exact p
 | ex C ns us m1=>
  rw [e0] at p
  exact fun Z1 ρ1 H1 d us e1 r1 rs hl hd=>p Z1 ρ1 H1 σ d us e1 ⟨r1,F.env.ext e1⟩ rs hl hd
 | ok ts m1=>
  rw [e0] at p
  intro Z1 ρ1 H1 J e1 r1 wk
  let Pv:Nat→Nat→St→Hp→Prop:=fun i k σ2 H2=>k=ts.length - i∧i≤ts.length∧σ2.length=σ.length∧∃ Z2 ρ2 env2 m2,Ext Z1 Z2 ρ1 ρ2∧Fits X.K Φ Z2 ρ2 σ2 H2 env2 m2∧qC X.K W Φ Z2 ρ2 σ.length D (loop g fb (ts.drop i) env2 m2)
  refine⟨Pv,⟨ts.length,by simp,Nat.zero_le _,rfl,Z1,ρ1,env,m1,Ext.refl,⟨r1,F.env.ext e1⟩,by simpa using qC.ext (o:=loop g fb ts env m1) p e1⟩,?_⟩
  rintro i k σ2 H2 ⟨hk,hi,hl2,Z2,ρ2,env2,m2,e2,F2,p2⟩
  obtain⟨w1,w2⟩:=wk Φ Z2 ρ2 H2 m2 i e2 F2.rel
  by_cases hlt:i < ts.length
  ·have hti:ts[i]? =some ts[i]:=by simp [hlt]
   obtain⟨go,yld⟩:=w2 _ hti
   rw [List.drop_eq_getElem_cons hlt] at p2
   refine .inr ⟨go,fun σ' H'=>Pv (i+1) (ts.length - (i+1)) σ' H',fun σ' H' h'=>⟨_,by omega,h'⟩,fun x H3 y=>?_⟩
   obtain⟨Z3,e3,r3,rep⟩:=yld x H3 y
   unfold loop at p2
   cases eg:g ts[i] env2 with
   | none=>rw [eg] at p2; exact p2.elim
   | some env3=>
    rw [eg] at p2
    refine kg Φ Z3 ρ2 σ2 H3 env2 env3 m2 ts[i] x _ ⟨r3,F2.env.ext e3⟩ rep eg fun σ4 F4 hl4 _=>⟨Φ,Z3,ρ2,env3,m2,F4,?_⟩
    have fin:∀ env5 m5,qC X.K W Φ Z2 ρ2 σ.length D (loop g fb (ts.drop (i+1)) env5 m5)→∀ Z' ρ' H' σ',Ext Z3 Z' ρ2 ρ'→Fits X.K Φ Z' ρ' σ' H' env5 m5→σ'.length=σ4.length→Pv (i+1) (ts.length - (i+1)) σ' H':=
     fun env5 m5 q Z' ρ' H' σ' e' F' hl'=>⟨rfl,hlt,by rw [hl',hl4,hl2],Z',ρ',env5,m5,(e2.trans e3).trans e',F',q.ext (e3.trans e')⟩
    cases eb:fb env3 m2 with
    | nx env5 m5=>simp only [eb] at p2; exact fin env5 m5 p2
    | ct env5 m5=>simp only [eb] at p2; exact fin env5 m5 p2
    | bk env5 m5=>
     simp only [eb] at p2
     exact fun Z' ρ' H' σ' e' F' hl'=>p2 Z' ρ' H' σ' (e3.trans e') F' (by rw [hl',hl4,hl2])
    | rt t m5=>
     simp only [eb] at p2
     exact fun Z' ρ' H' v e'=>p2 Z' ρ' H' v (e3.trans e')
    | ex C ns us env5 m5=>
     simp only [eb] at p2
     exact fun Z' ρ' H' σ' d vs e'=>p2 Z' ρ' H' σ' d vs (e3.trans e')
    | no=>simp only [eb] at p2; exact p2.elim
  ·have hi':i=ts.length:=by omega
   refine .inl ⟨w1 hi',?_⟩
   rw [List.drop_eq_nil_of_le (by omega)] at p2
   exact p2 _ _ _ _ Ext.refl F2 hl2
noncomputable def qU (env:Env):List Nat→Env
 | []=>env
 | v::vs=>(qU env vs).set v none
theorem aHc {K:PySem.W.Frag} {Z:Hp} {ρ:List Addr} {env:Env} {σ:St} (r:Envs K Z ρ env σ):∀ vs:List Nat,Envs K Z ρ (qU env vs) (wipe σ vs)
 | []=>r
 | v::vs=>by
  have ih:=aHc r vs
  unfold qU wipe
  refine⟨by simp [ih.len],fun i t e=>?_⟩
  by_cases hi:v=i
  ·subst hi
   rw [List.getElem?_set] at e
   simp only [if_true] at e
   split at e<;>cases e
  ·rw [List.getElem?_set_ne hi] at e ⊢
   exact ih.get i t e
noncomputable def aU5 (g:GF) (tt:BF) (fe:EF) (env0:Env):List T→Mem→Out (List T)
 | [],m=> .ok [] m
 | t::ts,m=>match g t env0 with
  | none=> .no
  | some env1=>match tt env1 m with
   | .ok true m1=>match fe env1 m1 with
    | .ok y m2=>match aU5 g tt fe env0 ts m2 with
     | .ok ys m3=> .ok (y::ys) m3
     | _=> .no
    | _=> .no
   | .ok false m1=>aU5 g tt fe env0 ts m1
   | _=> .no
noncomputable def bYes:BF:=fun _ m=> .ok true m
noncomputable def uQ (mu:Bool) (sl:List Nat) (fi:LF) (g:GF) (tt:BF) (fe:EF):EF:=fun env m=>(fi env m).bind fun ts m1=>
 if ts.length≤lim then match aU5 g tt fe (qU env sl) ts m1 with
  | .ok ys m2=>mk mu ys m2
  | _=> .no
 else .no
structure STs (X:Cx) (W:WX) (ifs:List Expr) (tt:BF):Prop where
 pts:PTs X ifs (trB X.K W tt)
theorem yM:STs X W [] bYes:=⟨⟨fun pins s σ H Q I ⟨Φ,Z,ρ,env,m,F,p⟩=>pts_nil.run pins s σ H Q I (p _ _ _ Ext.refl F.rel)⟩⟩
theorem aDl {c:Expr} {f:BF} (h:SB X W c f):STs X W [c] f:=⟨pts_one h.pt⟩
theorem aXf {K:PySem.W.Frag} {σ:St} {H:Hp} {Q:VK} {mu:Bool} {sl:List Nat} {fi:LF} {g:GF} {tt:BF} {fe:EF} {wi:TI} {wg:TG}
  (ki:∀(Φ Z:Hp) (ρ:List Addr) (σ:St) (H:Hp) (env:Env) (m:Mem) (R:It→Hp→Prop),Fits K Φ Z ρ σ H env m→aIr K W Φ Z ρ σ R (fi env m)→wi σ H R)
  (kg:KG K sl g wg)
  (h:tr K W (uQ mu sl fi g tt fe) σ H Q):tLc wi wg (trB K W0 tt) (tr K W0 fe) sl σ H Q:=by
 obtain⟨Φ,Z,ρ,env,m,F,p⟩:=h
 refine ki Φ Z ρ σ H env m _ F ?_
 unfold uQ at p
 cases e0:fi env m with
 | no=>rw [e0] at p; exact p
 | ex C ns us m1=>rw [e0] at p; exact p
 | ok ts m1=>
  rw [e0] at p
  simp only [Out.bind] at p
  split at p
  rotate_left
  ·exact p.elim
  rename_i hlim
  intro Z1 ρ1 H1 J e1 r1 wk D hD
  have env1:Envs K Z1 ρ1 env σ:=F.env.ext e1
  let Pv:Nat→Nat→Hp→Prop:=fun i k H2=>k=ts.length - i∧i≤ts.length∧∃ Z2 ρ2 m2 acc vs,Ext Z1 Z2 ρ1 ρ2∧Rel K (upd Φ D (.lst vs)) Z2 ρ2 H2 m2∧Reps K Z2 ρ2 acc vs∧acc.length≤i∧
   Post K W Φ Z2 ρ2 σ Q (match aU5 g tt fe (qU env sl) (ts.drop i) m2 with
    | .ok ys m3=>mk mu (acc++ys) m3
    | _=> .no)
  have hΦD:Φ D=none:=by
   cases e:Φ D with
   | none=>rfl
   | some u=>rw [(r1.fin D u e).1] at hD; cases hD
  refine⟨Pv,⟨ts.length,by simp,Nat.zero_le _,Z1,ρ1,m1,[],[],Ext.refl,r1.aside hD _,.nil,Nat.le_refl _,by
   simp only [List.drop_zero,List.nil_append]
   exact Post.ext p e1⟩,?_⟩
  rintro i k H2 ⟨hk,hi,Z2,ρ2,m2,acc,vs,e2,r2,ra,hacc,p2⟩
  have hDv:(upd Φ D (.lst vs)) D=some (.lst vs):=upd_same
  obtain⟨w1,w2⟩:=wk _ Z2 ρ2 H2 m2 i e2 r2
  by_cases hlt:i < ts.length
  ·have hti:ts[i]? =some ts[i]:=by simp [hlt]
   obtain⟨go,yld⟩:=w2 _ hti
   rw [List.drop_eq_getElem_cons hlt] at p2
   refine .inr ⟨go,fun H'=>Pv (i+1) (ts.length - (i+1)) H',fun H' h'=>⟨_,by omega,h'⟩,fun x H3 y=>?_⟩
   obtain⟨Z3,e3,r3,rep⟩:=yld x H3 y
   unfold aU5 at p2
   cases eg:g ts[i] (qU env sl) with
   | none=>rw [eg] at p2; exact p2.elim
   | some env3=>
    rw [eg] at p2
    refine kg _ Z3 ρ2 (wipe σ sl) H3 (qU env sl) env3 m2 ts[i] x _ ⟨r3,(aHc env1 sl).ext (e2.trans e3)⟩ rep eg fun σ4 F4 hl4 hw=>⟨?_,_,Z3,ρ2,env3,m2,F4,?_⟩
    ·rw [hw sl fun _ h=>h]
     refine List.ext_getElem? fun j=>?_
     rw [aC7,aC7,wipe_length]
     by_cases hj:j∈sl∧j < σ.length
     ·simp [hj]
     ·simp only [hj,if_false]
    ·cases et:tt env3 m2 with
     | no=>simp only [et] at p2; exact p2.elim
     | ex _ _ _ _=>simp only [et] at p2; exact p2.elim
     | ok b m5=>
      intro Z5 ρ5 H5 e5 r5
      cases b with
      | false=>
       simp only [et] at p2
       simp only [Bool.false_eq_true,if_false]
       exact⟨rfl,hlt,Z5,ρ5,m5,acc,vs,(e2.trans e3).trans e5,r5,ra.ext (e3.trans e5),by omega,p2.ext (e3.trans e5)⟩
      | true=>
       simp only [et] at p2
       simp only [if_true]
       refine⟨_,Z5,ρ5,env3,m5,⟨r5,F4.env.ext e5⟩,?_⟩
       cases ee:fe env3 m5 with
       | no=>simp only [ee] at p2; exact p2.elim
       | ex _ _ _ _=>simp only [ee] at p2; exact p2.elim
       | ok z m6=>
        simp only [ee] at p2
        intro Z6 ρ6 H6 v6 e6 r6 rep6
        have hD6:H6 D=some (.lst vs):=(r6.fin D _ upd_same).1
        refine⟨vs,hD6,?_,rfl,hlt,Z6,ρ6,m6,acc++[z],vs++[v6],((e2.trans e3).trans e5).trans e6,?_,(ra.ext ((e3.trans e5).trans e6)).append (.cons rep6 .nil),by simp; omega,?_⟩
        ·rw [←ra.length]; exact aLm (by omega)
        ·have:=r6.aside_set (u:= .lst (vs++[v6])) (p:=D) upd_same
         rw [upd_upd] at this
         exact this
        ·refine Post.ext ?_ ((e3.trans e5).trans e6)
         cases el:aU5 g tt fe (qU env sl) (ts.drop (i+1)) m6 with
         | ok ys m7=>
          simp only [el] at p2
          simpa using p2
         | ex _ _ _ _=>simp only [el] at p2; exact p2.elim
         | no=>simp only [el] at p2; exact p2.elim
  ·have hi':i=ts.length:=by omega
   refine .inl ⟨w1 hi',?_⟩
   rw [List.drop_eq_nil_of_le (by omega)] at p2
   unfold aU5 at p2
   simp only [List.append_nil] at p2
   have hΨ:∀ a u,Φ a=some u→(upd Φ D (.lst vs)) a=some u∧a≠D:=fun a u e=>by
    have hb:=ne_of_none e hΦD
    exact⟨by rw [upd_ne hb]; exact e,hb⟩
   cases mu with
   | false=>
    obtain⟨r5,e5⟩:=r2.back (Ψ:=Φ) upd_same hΨ
    refine p2 _ _ _ _ e5 r5 ?_
    unfold Rep
    exact⟨D,vs,rfl,upd_same,ra.ext e5⟩
   | true=>
    obtain⟨r5,e5⟩:=r2.backC (Ψ:=Φ) (u:= .lst acc) upd_same hΨ ⟨vs,rfl,ra⟩
    refine p2 _ _ _ _ e5 r5 ?_
    unfold Rep
    exact⟨D,by rw [←r2.len]; simp,rfl⟩
section
variable {elt tg iter:Expr} {ifs:List Expr} {scope:Scope} {own:List (Str×Nat)} {pos:Pos} {fi:LF} {g:GF} {tt:BF} {fe:EF} {k:Nat} {wg:TG}
theorem Cok.blk (c:Cok X W k) (s:Shared) (H:Hp) (env:PySem.Env) (fp:List Addr):Cok (X.blk s H scope env fp) W0 k:=⟨takes0,PassesOwn.never,c.calm,c.nd,c.room,⟨c.here.p,c.here.w⟩⟩
structure CompOk (X:Cx) (scope:Scope) (own:List (Str×Nat)) (tg:Expr) (ifs:List Expr) (elt:Expr) (g:GF) (tt:BF) (fe:EF) (wg:TG):Prop where
 sg:∀(s:Shared) (H:Hp) (C:Addr) (cl:List (Str×Addr)) (fp:List Addr),SG (X.blk s H scope (compEnvC scope cl C X.env) fp) tg (own.map (·.2)) g wg
 kg:KG X.K (own.map (·.2)) g wg
 st:∀(s:Shared) (H:Hp) (C:Addr) (cl:List (Str×Addr)) (fp:List Addr),STs (X.blk s H scope (compEnvC scope cl C X.env) fp) W0 ifs tt
 se:∀(s:Shared) (H:Hp) (C:Addr) (cl:List (Str×Addr)) (fp:List Addr),SE (X.blk s H scope (compEnvC scope cl C X.env) fp) W0 elt fe
theorem xC (mu:Bool) (c:Cok X W k) (hi:SI X W tg iter fi) (ok:BlkOk X.N X.env.scope scope own) (hc:CompOk X scope own tg ifs elt g tt fe wg) (hs:∀ x,foldedSetIterable iter X.env x=pure x:=by intro _; rfl):
  SE X W (.ListComp elt [⟨tg,iter,ifs,0⟩] scope pos) (uQ mu (own.map (·.2)) fi g tt fe):=by
 obtain⟨wi,pi,ki⟩:=hi.ex
 have pg:=fun s H C cl fp=>(hc.sg s H C cl fp).pg
 have kg:=hc.kg
 exact⟨xY (pe_lc c.calm c.nd pi ok pg (fun s H C cl fp=>(hc.st s H C cl fp).pts) (fun s H C cl fp=>(hc.se s H C cl fp).pe) hs) fun σ H Q h=>aXf ki kg h⟩
theorem aI0 (mu:Bool) (i:Nat) {y:Str} {py spos:Pos} (c:Cok X W k) (hi:SI X W tg iter fi) (ok:BlkOk X.N X.env.scope scope own) (hc:CompOk X scope own tg ifs elt g tt fe wg)
  (hy:X.N[i]? =some y:=by rfl) (hyl:X.env.scope.names.lookup y=some .local:=by rfl) (hsw:swapsWith (.ListComp elt [⟨tg,iter,ifs,0⟩] scope pos) (some (.Name y py)) spos.line X.env=pure true:=by exact sw_true rfl rfl rfl (by decide+kernel)) (hs:∀ x,foldedSetIterable iter X.env x=pure x:=by intro _; rfl):
  SS X W (.Assign [.Name y py] (.ListComp elt [⟨tg,iter,ifs,0⟩] scope pos) spos) (sOf (uQ mu (own.map (·.2)) fi g tt fe) fun t env m=> .nx (env.set i (some t)) m):=by
 obtain⟨wi,pi,ki⟩:=hi.ex
 have pg:=fun s H C cl fp=>(hc.sg s H C cl fp).pg
 have kg:=hc.kg
 exact⟨tY (ps_setLc c.calm c.nd hy hyl hsw pi ok pg (fun s H C cl fp=>(hc.st s H C cl fp).pts) (fun s H C cl fp=>(hc.se s H C cl fp).pe) hs) fun D σ H h=>
  aXf ki kg (tV (k:=fun t env m=> .nx (env.set i (some t)) m) (fun Φ Z1 ρ1 H1 env m1 t v F r p=>p _ _ _ _ Ext.refl ⟨F.rel,F.env.set i r⟩ (by simp)) h)⟩
end
end
end Ev
namespace Ev
open PySem L2
variable [Wrl]
section
variable {K:PySem.W.Frag} {W:WX} {Φ Z:Hp} {ρ:List Addr} {σ:St} {H:Hp} {m:Mem}
noncomputable def small (k:Nat) (i:Int):Bool:=decide (-(2 ^ k) < i)&&decide (i < 2 ^ k)
noncomputable def gAdd (mu:Bool):T→T→Mem→Out T
 | .int i,.int j,m=> .ok (.int (i+j)) m
 | .str i,.str j,m=>if i.length+j.length≤lim then .ok (.str (i++j)) m else .no
 | .tup xs,.tup ys,m=>if xs.length+ys.length≤lim then .ok (.tup (xs++ys)) m else .no
 | x,y,m=>match asO m x,asO m y with
  | some xs,some ys=>if xs.length+ys.length≤lim then mk mu (xs++ys) m else .no
  | _,_=> .no
noncomputable def rAdd (K:PySem.W.Frag):R2:=fun x y H Q=>((rI0 (fun i j=> .int (i+j)) x y H Q∨(∃ i j,x= .str i∧y= .str j∧i.length+j.length≤sizeLine∧Q (.str (i++j)) H))∨rCatA K x y H Q)∨rCat x y H Q
theorem xS {X:Cx}:OpR X (binaryOp .Add) (rAdd X.K):=((op_add.or op_add_str).or op_catA).or op_cat
theorem xT {mu:Bool}:Sem2 K (gAdd mu) (rAdd K):=by
 intro W Φ Z ρ σ H m Q x y vx vy r rx ry p
 unfold gAdd at p
 split at p
 ·unfold Rep at rx ry; subst rx; subst ry
  exact .inl (.inl (.inl ⟨_,_,rfl,rfl,yP r wW p⟩))
 ·unfold Rep at rx ry; subst rx; subst ry
  split at p
  ·rename_i h
   exact .inl (.inl (.inr ⟨_,_,rfl,rfl,aB7 h,yP r aDw p⟩))
  ·exact p.elim
 ·rename_i xs ys
  split at p
  ·rename_i h
   obtain⟨a,vs,rfl,qa,ra⟩:=aBo r rx (ts:=xs) rfl
   obtain⟨b,ws,rfl,qb,rb⟩:=aBo r ry (ts:=ys) rfl
   refine .inl (.inr ⟨a,b,vs,ws,rfl,rfl,qa,qb,by rw [←ra.length,←rb.length]; exact aB7 h,fun e=>?_,fun e1 e2=>?_,fun e1 e2 q hq=>?_⟩)
   ·have:xs=[]:=List.eq_nil_of_length_eq_zero (by rw [ra.length,e]; rfl)
    subst this
    exact yP r ry p
   ·have:ys=[]:=List.eq_nil_of_length_eq_zero (by rw [rb.length,e2]; rfl)
    subst this
    rw [List.append_nil] at p
    exact yP r rx p
   ·exact aF3 r (ra.append rb) p hq
  ·exact p.elim
 ·split at p
  ·rename_i xs ys hx hy
   split at p
   ·rename_i h
    obtain⟨a,vs,rfl,qa,ra⟩:=aPv r rx hx
    obtain⟨b,ws,rfl,qb,rb⟩:=aPv r ry hy
    exact .inr ⟨a,b,vs,ws,rfl,rfl,qa,qb,by rw [←ra.length,←rb.length]; exact aB7 h,fun q hq=>kB r (ra.append rb) p hq⟩
   ·exact p.elim
  ·exact p.elim
noncomputable def gSub:T→T→Mem→Out T
 | .int i,.int j,m=> .ok (.int (i - j)) m
 | _,_,_=> .no
theorem aL7:Sem2 K gSub (rI0 fun i j=> .int (i - j)):=by
 intro W Φ Z ρ σ H m Q x y vx vy r rx ry p
 unfold gSub at p
 split at p
 ·unfold Rep at rx ry; subst rx; subst ry
  exact⟨_,_,rfl,rfl,yP r wW p⟩
 ·exact p.elim
theorem aL4 {k:Nat} {i:Int} (h:small k i=true): -(2 ^ k) < i∧i < 2 ^ k:=by
 unfold small at h
 simpa using h
noncomputable def gMul (mu:Bool):T→T→Mem→Out T
 | .int i,.int j,m=>if small 64 i||small 64 j then .ok (.int (i*j)) m else .no
 | x,.int j,m=>match asO m x with
  | some xs=>if small 62 j&&decide (xs.length*j.toNat≤lim) then mk mu (List.replicate j.toNat xs).flatten m else .no
  | none=> .no
 | _,_,_=> .no
noncomputable def rMul:R2:=fun x y H Q=>rI CMul (fun i j=> .int (i*j)) x y H Q∨rRep x y H Q
theorem aDz {X:Cx}:OpR X (binaryOp .Mult) rMul:=op_mul.or op_rep
theorem Reps.rep {ts:List T} {vs:List V} (r:Reps K Z ρ ts vs):∀ n:Nat,Reps K Z ρ (List.replicate n ts).flatten (List.replicate n vs).flatten
 | 0=> .nil
 | n+1=>by
  rw [List.replicate_succ,List.replicate_succ,List.flatten_cons,List.flatten_cons]
  exact r.append (Reps.rep r n)
theorem aDn {mu:Bool}:Sem2 K (gMul mu) rMul:=by
 intro W Φ Z ρ σ H m Q x y vx vy r rx ry p
 unfold gMul at p
 split at p
 ·unfold Rep at rx ry; subst rx; subst ry
  split at p
  ·rename_i h
   refine .inl ⟨_,_,rfl,rfl,?_,yP r wW p⟩
   rw [Bool.or_eq_true] at h
   exact h.imp aL4 aL4
  ·exact p.elim
 ·split at p
  ·rename_i xs hx
   split at p
   ·rename_i h
    rw [Bool.and_eq_true,decide_eq_true_eq] at h
    obtain⟨a,vs,rfl,qa,ra⟩:=aPv r rx hx
    unfold Rep at ry; subst ry
    have h1:=aL4 h.1
    exact .inr ⟨a,_,vs,rfl,rfl,qa,by omega,by omega,by rw [←ra.length]; exact aB7 h.2,fun q hq=>kB r (ra.rep _) p hq⟩
   ·exact p.elim
  ·exact p.elim
 ·exact p.elim
noncomputable def gMod:T→T→Mem→Out T
 | .int i,.int j,m=>if 0 < j then .ok (.int (i % j)) m else .no
 | _,_,_=> .no
theorem aL8:Sem2 K gMod (rI (fun _ j=>0 < j) fun i j=> .int (i % j)):=by
 intro W Φ Z ρ σ H m Q x y vx vy r rx ry p
 unfold gMod at p
 split at p
 ·unfold Rep at rx ry; subst rx; subst ry
  split at p
  ·exact⟨_,_,rfl,rfl,by assumption,yP r wW p⟩
  ·exact p.elim
 ·exact p.elim
noncomputable def gDiv:T→T→Mem→Out T
 | .int i,.int j,m=>if 0 < j∧j < 1073741824 then .ok (.int (i / j)) m else .no
 | _,_,_=> .no
theorem aOw:Sem2 K gDiv (rI CDiv fun i j=> .int (i / j)):=by
 intro W Φ Z ρ σ H m Q x y vx vy r rx ry p
 unfold gDiv at p
 split at p
 ·unfold Rep at rx ry; subst rx; subst ry
  split at p
  ·exact⟨_,_,rfl,rfl,by assumption,yP r wW p⟩
  ·exact p.elim
 ·exact p.elim
noncomputable def gPow:T→T→Mem→Out T
 | .int i,.int j,m=>if 0≤j∧j≤100∧i.natAbs < 2 ^ 64 then .ok (.int (i ^ j.toNat)) m else .no
 | _,_,_=> .no
theorem aTb:Sem2 K gPow (rI CPow fun i j=> .int (i ^ j.toNat)):=by
 intro W Φ Z ρ σ H m Q x y vx vy r rx ry p
 unfold gPow at p
 split at p
 ·unfold Rep at rx ry; subst rx; subst ry
  split at p
  ·rename_i h
   exact⟨_,_,rfl,rfl,⟨h.1,by omega,h.2.2⟩,yP r wW p⟩
  ·exact p.elim
 ·exact p.elim
noncomputable def gOrd (fi:Int→Int→Bool) (fs:List Nat→List Nat→Bool):T→T→Mem→Out T
 | .int i,.int j,m=> .ok (.bl (fi i j)) m
 | .str i,.str j,m=> .ok (.bl (fs i.cps.toList j.cps.toList)) m
 | _,_,_=> .no
noncomputable def rOrd (fi:Int→Int→Bool) (fs:List Nat→List Nat→Bool):R2:=fun x y H Q=>rI0 (fun i j=> .bl (fi i j)) x y H Q∨∃ i j,x= .str i∧y= .str j∧Q (.bl (fs i.cps.toList j.cps.toList)) H
theorem xZ {fi:Int→Int→Bool} {fs:List Nat→List Nat→Bool}:Sem2 K (gOrd fi fs) (rOrd fi fs):=by
 intro W Φ Z ρ σ H m Q x y vx vy r rx ry p
 unfold gOrd at p
 split at p
 ·unfold Rep at rx ry; subst rx; subst ry
  exact .inl ⟨_,_,rfl,rfl,yP r tZ p⟩
 ·unfold Rep at rx ry; subst rx; subst ry
  exact .inr ⟨_,_,rfl,rfl,yP r tZ p⟩
 ·exact p.elim
noncomputable def gLt:=gOrd (fun i j=>decide (i < j)) fun i j=>decide (i < j)
noncomputable def gLe:=gOrd (fun i j=>decide (i≤j)) fun i j=>!decide (j < i)
noncomputable def gGt:=gOrd (fun i j=>decide (j < i)) fun i j=>decide (j < i)
noncomputable def gGe:=gOrd (fun i j=>decide (j≤i)) fun i j=>!decide (i < j)
variable {X:Cx}
theorem aIy:OpR X (compareOp .Lt) (rOrd (fun i j=>decide (i < j)) fun i j=>decide (i < j)):=op_lt.or op_lt_str
theorem aFf:OpR X (compareOp .LtE) (rOrd (fun i j=>decide (i≤j)) fun i j=>!decide (j < i)):=op_le.or op_le_str
theorem aBv:OpR X (compareOp .Gt) (rOrd (fun i j=>decide (j < i)) fun i j=>decide (j < i)):=op_gt.or op_gt_str
theorem bCb:OpR X (compareOp .GtE) (rOrd (fun i j=>decide (j≤i)) fun i j=>!decide (i < j)):=op_ge.or op_ge_str
mutual
noncomputable def toD (m:Mem):T→Option PyData
 | .non=>some .none
 | .bl b=>some (.bool b)
 | .int i=>some (.int i)
 | .str x=>some (.str x)
 | .tup ts=>(toDs m ts).map .tuple
 | .lst ts=>(toDs m ts).map .list
 | .rls ts=>(toDs m ts).map .list
 | _=>none
noncomputable def toDs (m:Mem):List T→Option (List PyData)
 | []=>some []
 | t::ts=>match toD m t,toDs m ts with
  | some d,some ds=>some (d::ds)
  | _,_=>none
end
mutual
theorem bC2 (r:Rel K Φ Z ρ H m):∀ {t:T} {v:V} {d:PyData},Rep K Z ρ t v→toD m t=some d→Dp K H v d
 | .non,_,_,h,e=>by unfold toD at e; cases e; unfold Rep at h; subst h; exact .non
 | .bl _,_,_,h,e=>by unfold toD at e; cases e; unfold Rep at h; subst h; exact .bl _
 | .int _,_,_,h,e=>by unfold toD at e; cases e; unfold Rep at h; subst h; exact .int _
 | .str _,_,_,h,e=>by unfold toD at e; cases e; unfold Rep at h; subst h; exact .str _
 | .tup ts,_,_,h,e=>by
  unfold toD at e
  obtain⟨ds,e1,rfl⟩:=Option.map_eq_some_iff.mp e
  unfold Rep at h
  obtain⟨a,vs,rfl,q,rs⟩:=h
  exact .tup (Same.sqt r.same q) (toDs_ok r rs e1)
 | .lst ts,_,_,h,e=>by
  unfold toD at e
  obtain⟨ds,e1,rfl⟩:=Option.map_eq_some_iff.mp e
  unfold Rep at h
  obtain⟨a,vs,rfl,q,rs⟩:=h
  exact .lst (.of (r.zin _ _ q)) (toDs_ok r rs e1)
 | .rls ts,_,_,h,e=>by
  unfold toD at e
  obtain⟨ds,e1,rfl⟩:=Option.map_eq_some_iff.mp e
  unfold Rep at h
  obtain⟨a,vs,rfl,q,rs⟩:=h
  exact .lst (r.same.seq q) (toDs_ok r rs e1)
 | .ty _,_,_,_,e=>by unfold toD at e; cases e
 | .dct _ _,_,_,_,e=>by unfold toD at e; cases e
 | .ins _ _ _,_,_,_,e=>by unfold toD at e; cases e
 | .dcn _ _,_,_,_,e=>by unfold toD at e; cases e
 | .exc _ _ _,_,_,_,e=>by unfold toD at e; cases e
 | .set _,_,_,_,e=>by unfold toD at e; cases e
 | .odd _ _,_,_,_,e=>by unfold toD at e; cases e
 | .fn _ _ _ _ _ _,_,_,_,e=>by unfold toD at e; cases e
 | .loc _,_,_,_,e=>by unfold toD at e; cases e
theorem toDs_ok (r:Rel K Φ Z ρ H m):∀ {ts:List T} {vs:List V} {ds:List PyData},Reps K Z ρ ts vs→toDs m ts=some ds→DpAll K H vs ds
 | [],_,_,h,e=>by unfold toDs at e; cases e; unfold Reps at h; subst h; exact .nil
 | t::ts,_,_,h,e=>by
  unfold toDs at e
  split at e
  ·rename_i d ds e1 e2
   cases e
   unfold Reps at h
   obtain⟨v,us,rfl,r1,rs⟩:=h
   exact .cons (bC2 r r1 e1) (toDs_ok r rs e2)
  ·cases e
end
noncomputable def toDT (m:Mem):T→Option PyData
 | .loc n=>match m[n]? with
  | some (some (.lst ts))=>(toDs m ts).map .list
  | _=>none
 | t=>toD m t
theorem aOq (r:Rel K Φ Z ρ H m) {t:T} {v:V} {d:PyData} (h:Rep K Z ρ t v) (e:toDT m t=some d):Dp K H v d:=by
 unfold toDT at e
 split at e
 ·split at e
  ·rename_i n us e1
   obtain⟨ds,e2,rfl⟩:=Option.map_eq_some_iff.mp e
   obtain⟨a,vs,rfl,_,q,rs⟩:=aHe r h e1
   exact .lst (.of q) (toDs_ok r rs e2)
  ·cases e
 ·exact bC2 r h e
noncomputable def gEqB (neg:Bool):T→T→Mem→Out T
 | .int i,.int j,m=> .ok (.bl (if neg then !decide (i=j) else decide (i=j))) m
 | .str i,.str j,m=> .ok (.bl (if neg then !eqS i j else eqS i j)) m
 | x,y,m=>match toDT m x,toDT m y with
  | some d,some e=>if SeqAt.shaped d&&SeqAt.shaped e then .ok (.bl (if neg then !PyData.eqv d e else PyData.eqv d e)) m else .no
  | _,_=> .no
noncomputable def gEq:=gEqB false
noncomputable def gNe:=gEqB true
theorem aE0 (hu:X.A.units+64 < cLine):OpR X (compareOp .Eq) (fun x y H Q=>rEq x y H Q∨rEqD X.K x y H Q):=op_eq.or (op_eqD hu)
theorem aDy (hu:X.A.units+64 < cLine):OpR X (compareOp .NotEq) (fun x y H Q=>rNe x y H Q∨rNeD X.K x y H Q):=op_ne.or (op_neD hu)
theorem aDo:Sem2 K gEq (fun x y H Q=>rEq x y H Q∨rEqD K x y H Q):=by
 intro W Φ Z ρ σ H m Q x y vx vy r rx ry p
 unfold gEq gEqB at p
 split at p
 ·unfold Rep at rx ry; subst rx; subst ry
  refine .inl ⟨rfl,?_⟩
  have:=yP r tZ p
  simpa using this
 ·unfold Rep at rx ry; subst rx; subst ry
  refine .inl ⟨rfl,?_⟩
  have:=yP r tZ p
  rw [←aPm] at this
  simpa using this
 ·split at p
  ·rename_i d e h1 h2
   split at p
   ·rename_i h
    rw [Bool.and_eq_true] at h
    refine .inr ⟨d,e,aOq r rx h1,aOq r ry h2,h.1,h.2,?_⟩
    have:=yP r tZ p
    simpa using this
   ·exact p.elim
  ·exact p.elim
theorem aDm:Sem2 K gNe (fun x y H Q=>rNe x y H Q∨rNeD K x y H Q):=by
 intro W Φ Z ρ σ H m Q x y vx vy r rx ry p
 unfold gNe gEqB at p
 split at p
 ·unfold Rep at rx ry; subst rx; subst ry
  refine .inl ⟨rfl,?_⟩
  have:=yP r tZ p
  simpa using this
 ·unfold Rep at rx ry; subst rx; subst ry
  refine .inl ⟨rfl,?_⟩
  have:=yP r tZ p
  rw [←aPm] at this
  simpa using this
 ·split at p
  ·rename_i d e h1 h2
   split at p
   ·rename_i h
    rw [Bool.and_eq_true] at h
    refine .inr ⟨d,e,aOq r rx h1,aOq r ry h2,h.1,h.2,?_⟩
    have:=yP r tZ p
    simpa using this
   ·exact p.elim
  ·exact p.elim
noncomputable def gIsN (neg:Bool):T→T→Mem→Out T
 | .non,.non,m=> .ok (.bl (!neg)) m
 | .loc _,.non,m=> .ok (.bl neg) m
 | _,.non,m=> .ok (.bl neg) m
 | _,_,_=> .no
theorem aLj {t:T} {v:V} (h:Rep K Z ρ t v):(v= .non↔t= .non):=by
 cases t<;>unfold Rep at h
 ·simp [h]
 ·simp [h]
 ·simp [h]
 ·simp [h]
 ·simp [h]
 ·obtain⟨_,_,e,_⟩:=h; simp [e]
 ·obtain⟨_,_,e,_⟩:=h; simp [e]
 ·obtain⟨_,_,e,_⟩:=h; simp [e]
 ·obtain⟨_,_,_,e,_⟩:=h; simp [e]
 ·obtain⟨_,_,_,_,e,_⟩:=h; simp [e]
 ·obtain⟨_,_,_,e,_⟩:=h; simp [e]
 ·obtain⟨_,_,_,_,e,_⟩:=h; simp [e]
 ·obtain⟨_,e,_⟩:=h; simp [e]
 ·obtain⟨_,_,_,_,e,_⟩:=h; simp [e]
 ·simp [h.1]
 ·obtain⟨_,_,e⟩:=h; simp [e]
theorem aOv:Sem2 K (gIsN false) (fun x y H Q=>y= .non∧Q (.bl (decide (x= .non))) H):=by
 intro W Φ Z ρ σ H m Q x y vx vy r rx ry p
 have h1:=aLj rx
 cases y with
 | non=>
  unfold Rep at ry
  refine⟨ry,?_⟩
  have e:decide (vx= .non)=(match x with | .non=>true | _=>false):=by
   cases x<;>simp [h1]
  rw [e]
  cases x<;>exact yP r tZ p
 | _=>cases x<;>exact(show False from p).elim
theorem aOu:Sem2 K (gIsN true) (fun x y H Q=>y= .non∧Q (.bl (!decide (x= .non))) H):=by
 intro W Φ Z ρ σ H m Q x y vx vy r rx ry p
 have h1:=aLj rx
 cases y with
 | non=>
  unfold Rep at ry
  refine⟨ry,?_⟩
  have e:(!decide (vx= .non))=(match x with | .non=>false | _=>true):=by
   cases x<;>simp [h1]
  rw [e]
  cases x<;>exact yP r tZ p
 | _=>cases x<;>exact(show False from p).elim
noncomputable def asD (m:Mem):T→Option (List Key×List T)
 | .dct ks ts=>some (ks,ts)
 | .loc n=>match m[n]? with
  | some (some (.dct ks ts))=>some (ks,ts)
  | _=>none
 | _=>none
theorem aUc (r:Rel K Φ Z ρ H m) {t:T} {ks:List Key} {ts:List T} {v:V} (hv:Rep K Z ρ t v) (h:asD m t=some (ks,ts)):∃ a vs,v= .ref a∧Rd H a (.dK (ks.zip vs))∧ks.length=vs.length∧Reps K Z ρ ts vs:=by
 cases t with
 | dct js us=>
  cases h
  unfold Rep at hv
  obtain⟨a,vs,o,rfl,e,hl,rs⟩:=hv
  exact⟨a,vs,rfl,.inr ⟨o,r.zin _ _ e⟩,hl,rs⟩
 | loc n=>
  unfold asD at h
  simp only at h
  split at h
  ·rename_i js us e
   cases h
   unfold Rep at hv
   obtain⟨a,ha,rfl⟩:=hv
   obtain⟨_,vs,e2,hl,rs⟩:=r.mem n _ a e ha
   exact⟨a,vs,rfl,.inl e2,hl,rs⟩
  ·cases h
 | _=>simp [asD] at h
noncomputable def keyT:T→Option Key
 | .int i=>some (.inl i)
 | .str x=>some (.inr x)
 | _=>none
theorem aB8 {t:T} {v:V} {k:Key} (r:Rep K Z ρ t v) (e:keyT t=some k):v=kV k:=by
 cases t<;>cases e<;>(unfold Rep at r; exact r)
noncomputable def getT (k:Key):List Key→List T→Option T
 | j::ks,t::ts=>if aPd j k then some t else getT k ks ts
 | _,_=>none
theorem aTx {k:Key}:∀ {ks:List Key} {ts:List T} {vs:List V},ks.length=vs.length→Reps K Z ρ ts vs→(∀ t,getT k ks ts=some t→∃ v,valV (ks.zip vs) k=some v∧Rep K Z ρ t v)∧(getT k ks ts=none→valV (ks.zip vs) k=none)
 | [],_,_,_,_=>⟨fun _ h=>(by cases h),fun _=>rfl⟩
 | j::ks,[],_,hl,h=>by unfold Reps at h; subst h; cases hl
 | j::ks,t::ts,_,hl,h=>by
  unfold Reps at h
  obtain⟨v,vs,rfl,r,rs⟩:=h
  have ih:=aTx (k:=k) (ks:=ks) (by simpa using hl) rs
  unfold getT
  rw [List.zip_cons_cons]
  by_cases hj:j=k
  ·rw [if_pos (tX.mpr hj)]
   exact⟨fun t2 e=>(Option.some.inj e)▸⟨v,valV_pos (p:=(j,v)) hj,r⟩,fun e=>(by cases e)⟩
  ·rw [if_neg (fun z=>hj (tX.mp z)),valV_neg (p:=(j,v)) hj]
   exact ih
noncomputable def gIxD (x y:T) (m:Mem):Out T:=match asD m x,keyT y with
 | some (ks,ts),some k=>match getT k ks ts with
  | some t=> .ok t m
  | none=> .no
 | _,_=> .no
noncomputable def rIxK:R2:=fun x y H Q=>∃ a v,x= .ref a∧DGet H a y (some v)∧Q v H
theorem bGe (hu:X.A.units+1 < cLine):IxR X rIxK:=by
 intro value slice pins s σ H x y v u Q I rx ry h hs
 obtain⟨a,w,rfl,g,q⟩:=h
 obtain rfl:v=Value.ref a:=rx
 exact PyProof.Rows.tail_any (dict_typeIs I g) PySem.F.slot_dict_getitem.lookup (d_getItem hu I g ry fun w' s' I' r=>⟨w,H,I',r,q⟩) hs
theorem aXv:Sem2 K gIxD rIxK:=by
 intro W Φ Z ρ σ H m Q x y vx vy r rx ry p
 unfold gIxD at p
 split at p
 ·rename_i ks ts k hx hy
  split at p
  ·rename_i t ht
   obtain⟨a,vs,rfl,hd,hl,rs⟩:=aUc r rx hx
   obtain⟨v,h1,h2⟩:=(aTx hl rs).1 t ht
   refine⟨a,v,rfl,.inl ⟨_,k,hd,aB8 ry hy,h1.symm⟩,yP r h2 p⟩
  ·exact p.elim
 ·exact p.elim
noncomputable def gIx:T→T→Mem→Out T
 | .tup ts,.int i,m=>match atI ts i with
  | some t=> .ok t m
  | none=> .no
 | .str z,.int i,m=>if z.length≤lim then match atI z.cps.toList i with
  | some c=> .ok (.str ⟨#[c]⟩) m
  | none=> .no else .no
 | x,.int i,m=>match asL m x with
  | some ts=>match atI ts i with
   | some t=> .ok t m
   | none=> .no
  | none=>gIxD x (.int i) m
 | x,y,m=>gIxD x y m
theorem Reps.atI {ts:List T} {vs:List V} {i:Int} {t:T} (r:Reps K Z ρ ts vs) (h:L2.atI ts i=some t):∃ v,L2.atI vs i=some v∧Rep K Z ρ t v:=by
 unfold L2.atI at h ⊢
 obtain⟨j,h1,h2⟩:=Option.bind_eq_some_iff.mp h
 obtain⟨v,h3,h4⟩:=r.get h2
 exact⟨v,by rw [←r.length,h1]; exact h3,h4⟩
noncomputable def rIx3 (K:PySem.W.Frag):R2:=fun x y H Q=>((rIxL K x y H Q∨rIxT K x y H Q)∨rIxS x y H Q)∨rIxK x y H Q
theorem yK (hu:X.A.units+1 < cLine):IxR X (rIx3 X.K):=((ix_list.or ix_tup).or ix_str).or (bGe hu)
theorem yL:Sem2 K gIx (rIx3 K):=by
 intro W Φ Z ρ σ H m Q x y vx vy r rx ry p
 unfold gIx at p
 split at p
 ·rename_i ts i
  split at p
  ·rename_i t h
   obtain⟨a,vs,rfl,qa,ra⟩:=aBo r rx (ts:=ts) rfl
   unfold Rep at ry; subst ry
   obtain⟨v,h1,h2⟩:=ra.atI h
   exact .inl (.inl (.inr ⟨a,vs,i,v,rfl,rfl,qa,h1,yP r h2 p⟩))
  ·exact p.elim
 ·rename_i z i
  split at p
  ·rename_i hl
   split at p
   ·rename_i c h
    unfold Rep at rx ry; subst rx; subst ry
    exact .inl (.inr ⟨z,i,c,rfl,rfl,aB7 hl,h,yP r aDw p⟩)
   ·exact p.elim
  ·exact p.elim
 ·split at p
  ·rename_i ts hx
   split at p
   ·rename_i t h
    obtain⟨a,vs,rfl,qa,ra⟩:=aEg r rx hx
    unfold Rep at ry; subst ry
    obtain⟨v,h1,h2⟩:=ra.atI h
    exact .inl (.inl (.inl ⟨a,vs,_,v,rfl,rfl,qa,h1,yP r h2 p⟩))
   ·exact p.elim
  ·exact .inr (aXv W Φ Z ρ σ H m Q _ _ vx vy r rx ry p)
 ·exact .inr (aXv W Φ Z ρ σ H m Q _ _ vx vy r rx ry p)
end
end Ev
namespace Ev
open PySem L2
variable [Wrl]
section
variable {K:PySem.W.Frag} {W:WX} {Φ Z:Hp} {ρ:List Addr} {σ:St} {H:Hp} {m:Mem} {X:Cx}
noncomputable def isTy (n:String) (m:Mem) (t:T):Bool:=match t with
 | .str _=>n =="str"
 | .int _=>n =="int"
 | .loc k=>match m[k]? with
  | some (some (.lst _))=>n =="list"
  | some (some (.dct _ _))=>n =="dict"
  | _=>false
 | .lst _=>n =="list"
 | .rls _=>n =="list"
 | _=>false
theorem aYw (r:Rel K Φ Z ρ H m) {n:String} {t:T} {v:V} (h:Rep K Z ρ t v) (e:isTy n m t=true):tyV K n v H:=by
 cases t with
 | str x=>unfold Rep at h; subst h; exact eq_of_beq e
 | int x=>unfold Rep at h; subst h; exact eq_of_beq e
 | lst ts=>
  unfold Rep at h
  obtain⟨a,vs,rfl,q,_⟩:=h
  exact .inl ⟨eq_of_beq e,_,.of (r.zin _ _ q)⟩
 | rls ts=>
  unfold Rep at h
  obtain⟨a,vs,rfl,q,_⟩:=h
  exact .inl ⟨eq_of_beq e,_,r.same.seq q⟩
 | loc k=>
  unfold Rep at h
  obtain⟨a,ha,rfl⟩:=h
  unfold isTy at e
  simp only at e
  split at e
  ·rename_i ts em
   obtain⟨_,vs,e2,_⟩:=r.mem k _ a em ha
   exact .inl ⟨eq_of_beq e,_,.of e2⟩
  ·rename_i ks ts em
   obtain⟨_,vs,e2,_⟩:=r.mem k _ a em ha
   exact .inr (.inr (.inl ⟨eq_of_beq e,.inl ⟨_,e2⟩⟩))
  ·cases e
 | _=>cases e
noncomputable def aBn (n:String) (g:T→List T→Mem→Out T) (fo:EF) (fs:LF):EF:=fun env m=>(fo env m).bind fun x m1=>if isTy n m1 x then(fs env m1).bind fun xs m2=>g x xs m2 else .no
noncomputable def SemM (K:PySem.W.Frag) (g:T→List T→Mem→Out T) (r:V→List V→Hp→VK→Prop):Prop:=
 ∀(W:WX) (Φ Z:Hp) (ρ:List Addr) (σ:St) (H:Hp) (m:Mem) (Q:VK) (x:T) (xs:List T) (vx:V) (vs:List V),Rel K Φ Z ρ H m→Rep K Z ρ x vx→Reps K Z ρ xs vs→Post K W Φ Z ρ σ Q (g x xs m)→r vx vs H Q
theorem bCu {n:String} {g:T→List T→Mem→Out T} {r:V→List V→Hp→VK→Prop} (hg:SemM K g r) {fo:EF} {fs:LF} {Q:VK} (h:tr K W (aBn n g fo fs) σ H Q):
  tr K W fo σ H (fun x H1=>tyV K n x H1∧trL K W fs σ H1 fun xs H2=>r x xs H2 Q):=by
 obtain⟨Φ,Z,ρ,env,m,F,p⟩:=h
 refine tr_bind (P:=Post K W Φ Z ρ σ Q) F (fun x m1 Z1 ρ1 H1 vx _ e1 F1 rx p1=>?_) (fun _ _ _ _ h=>h) (fun h=>h) p
 split at p1
 ·rename_i ht
  refine⟨aYw F1.rel rx ht,?_⟩
  refine trL_bind (P:=Post K W Φ Z1 ρ1 σ Q) F1 (fun y m2 Z2 ρ2 H2 vy _ e2 F2 ry p2=>?_) (fun _ _ _ _ h=>h) (fun h=>h) (p1.ext e1)
  exact hg W Φ Z2 ρ2 σ H2 m2 Q x y vx vy F2.rel (rx.ext e2) ry (p2.ext e2)
 ·exact p1.elim
section
variable {o e:Expr} {es:List Expr} {name:Str} {apos cpos:Pos} {n id:String} {r:V→List V→Hp→VK→Prop} {fo:EF} {fs:LF} {g:T→List T→Mem→Out T}
theorem qH (pa:PlainAttrs n) (slot:Slot n name id) (hty:typeOf (.builtin id)=pure (.type "method_descriptor")) (hm:MtR X id r) (hg:SemM X.K g r) (ho:SE X W o fo) (ha:SA X W (e::es) fs)
  (hbase:attributeBase o name X.env (eval o X.env)=eval o X.env:=by rfl)
  (hfew:((backTo cpos (starEach (e::es) X.env)).all (fun x=>!x.1)&&(backToKw cpos (keywordEach [] X.env)).all (fun x=>x.1.isSome)
   &&decide ((e::es).length+([]:List Keyword).length+(if([]:List Keyword).isEmpty then 0 else 1) < 30))=true:=by rfl)
  (hline:(apos.endLine ==cpos.line)=true:=by rfl) (hs:starEach (e::es) X.env=(false,eval e X.env)::starEach es X.env:=by rfl) (hplain:(backTo cpos (starEach es X.env)).any (·.1)=false:=by rfl):
  SE X W (.Call (.Attribute o name apos) (e::es) [] cpos) (aBn n g fo fs):=
 ⟨xY (pe_bm pa slot hty hm ho.pe ha.pa hbase hfew hline hs hplain) fun σ H Q h=>bCu hg h⟩
theorem bAo (pa:PlainAttrs n) (slot:Slot n name id) (hty:typeOf (.builtin id)=pure (.type "method_descriptor")) (hm:MtR X id r) (hg:SemM X.K g r) (ho:SE X W o fo)
  (hbase:attributeBase o name X.env (eval o X.env)=eval o X.env:=by rfl) (hline:(apos.endLine ==cpos.line)=true:=by rfl):SE X W (.Call (.Attribute o name apos) [] [] cpos) (aBn n g fo lNil):=
 ⟨xY (pe_bm0 pa slot hty hm ho.pe hbase hline) fun σ H Q h=>by
  obtain⟨Φ,Z,ρ,env,m,F,p⟩:=h
  refine tr_bind (P:=Post X.K W Φ Z ρ σ Q) F (fun x m1 Z1 ρ1 H1 vx _ e1 F1 rx p1=>?_) (fun _ _ _ _ h=>h) (fun h=>h) p
  split at p1
  ·rename_i ht
   exact⟨aYw F1.rel rx ht,hg W Φ Z1 ρ1 σ H1 m1 Q x [] vx [] F1.rel rx .nil (p1.ext e1)⟩
  ·exact p1.elim⟩
end
theorem jE {t:T} {vs:List V} (h:Reps K Z ρ [t] vs):∃ v,vs=[v]∧Rep K Z ρ t v:=by
 unfold Reps at h
 obtain⟨v,us,rfl,r,rs⟩:=h
 unfold Reps at rs
 subst rs
 exact⟨v,rfl,r⟩
theorem bFi {t u:T} {vs:List V} (h:Reps K Z ρ [t,u] vs):∃ v w,vs=[v,w]∧Rep K Z ρ t v∧Rep K Z ρ u w:=by
 unfold Reps at h
 obtain⟨v,us,rfl,r,rs⟩:=h
 obtain⟨w,rfl,r2⟩:=jE rs
 exact⟨v,w,rfl,r,r2⟩
noncomputable def aK8 (m:Mem):T→Option (Nat×List T)
 | .loc n=>match m[n]? with
  | some (some (.lst ts))=>some (n,ts)
  | _=>none
 | _=>none
theorem aHf (r:Rel K Φ Z ρ H m) {t:T} {v:V} {n:Nat} {ts:List T} (h:Rep K Z ρ t v) (e:aK8 m t=some (n,ts)):∃ a vs,v= .ref a∧m[n]? =some (some (.lst ts))∧ρ[n]? =some a∧H a=some (.lst vs)∧Reps K Z ρ ts vs:=by
 cases t with
 | loc k=>
  unfold aK8 at e
  simp only at e
  split at e
  ·rename_i us em
   cases e
   obtain⟨a,vs,h1,h2,h3,h4⟩:=aHe r h em
   exact⟨a,vs,h1,em,h2,h3,h4⟩
  ·cases e
 | _=>cases e
theorem aF2 {n:Nat} {a:Addr} {ts ts':List T} {vs':List V} {t:T} {v:V} {Q:VK} (r:Rel K Φ Z ρ H m) (hn:m[n]? =some (some (.lst ts))) (ha:ρ[n]? =some a) (rs:Reps K Z ρ ts' vs') (rt:Rep K Z ρ t v)
  (p:Post K W Φ Z ρ σ Q (.ok t (m.set n (some (.lst ts'))))):Q v (upd H a (.lst vs')):=
 p _ _ _ _ Ext.refl (r.write hn ha (u:= .lst ts') ⟨vs',rfl,rs⟩) rt
noncomputable def gAppend:T→List T→Mem→Out T:=fun x xs m=>match aK8 m x,xs with
 | some (n,ts),[y]=>if ts.length < lim then .ok .non (m.set n (some (.lst (ts++[y])))) else .no
 | _,_=> .no
theorem jT:SemM K gAppend rAppend:=by
 intro W Φ Z ρ σ H m Q x xs vx vs r rx rs p
 unfold gAppend at p
 split at p
 ·rename_i n ts y hc
  split at p
  ·rename_i hl
   obtain⟨a,us,rfl,hn,ha,hH,ru⟩:=aHf r rx hc
   obtain⟨v,rfl,rv⟩:=jE rs
   exact⟨a,us,v,rfl,rfl,hH,by rw [←ru.length]; exact aLm (Nat.le_of_lt hl),aF2 r hn ha (ru.append (.cons rv .nil)) aIe p⟩
  ·exact p.elim
 ·exact p.elim
noncomputable def gExtend:T→List T→Mem→Out T:=fun x xs m=>match aK8 m x,xs with
 | some (n,ts),[y]=>match asO m y with
  | some us=>if ts.length+us.length≤lim then .ok .non (m.set n (some (.lst (ts++us)))) else .no
  | none=> .no
 | _,_=> .no
theorem aWi:SemM K gExtend rExtend:=by
 intro W Φ Z ρ σ H m Q x xs vx vs r rx rs p
 unfold gExtend at p
 split at p
 ·rename_i n ts y hc
  split at p
  ·rename_i us hy
   split at p
   ·rename_i hl
    obtain⟨a,ws,rfl,hn,ha,hH,ru⟩:=aHf r rx hc
    obtain⟨v,rfl,rv⟩:=jE rs
    obtain⟨b,zs,rfl,hB,rz⟩:=aPv r rv hy
    exact⟨a,b,ws,zs,rfl,rfl,hH,hB,by rw [←ru.length,←rz.length]; exact aB7 hl,aF2 r hn ha (ru.append rz) aIe p⟩
   ·exact p.elim
  ·exact p.elim
 ·exact p.elim
noncomputable def aVr:T→List T→Mem→Out T:=fun x xs m=>match aK8 m x,xs with
 | some (n,ts),[.int i]=>if small 62 i then match seqIndex? i ts.length with
  | some k=>match ts[k]? with
   | some t=> .ok t (m.set n (some (.lst (ts.eraseIdx k))))
   | none=> .no
  | none=> .no else .no
 | _,_=> .no
theorem Reps.dropLast:∀ {ts:List T} {vs:List V},Reps K Z ρ ts vs→Reps K Z ρ ts.dropLast vs.dropLast
 | [],_,h=>by unfold Reps at h; subst h; exact .nil
 | [t],_,h=>by obtain⟨v,rfl,_⟩:=jE h; exact .nil
 | t::u::ts,_,h=>by
  unfold Reps at h
  obtain⟨v,vs,rfl,r,rs⟩:=h
  have ih:=Reps.dropLast rs
  unfold Reps at rs
  obtain⟨w,ws,rfl,r2,rs2⟩:=rs
  exact .cons r ih
noncomputable def gPop:T→List T→Mem→Out T:=fun x xs m=>match aK8 m x,xs with
 | some (n,ts),[]=>match ts[ts.length - 1]? with
  | some t=> .ok t (m.set n (some (.lst ts.dropLast)))
  | none=> .no
 | _,_=> .no
theorem bDa:SemM K gPop rPop:=by
 intro W Φ Z ρ σ H m Q x xs vx vs r rx rs p
 unfold gPop at p
 split at p
 ·rename_i n ts hc
  split at p
  ·rename_i t ht
   obtain⟨a,ws,rfl,hn,ha,hH,ru⟩:=aHf r rx hc
   unfold Reps at rs
   subst rs
   obtain⟨w,h1,h2⟩:=ru.get ht
   exact⟨a,ws,w,rfl,rfl,hH,by rw [←ru.length]; exact h1,aF2 r hn ha ru.dropLast h2 p⟩
  ·exact p.elim
 ·exact p.elim
noncomputable def txts:List T→Option (List Str)
 | []=>some []
 | .str x::ts=>(txts ts).map (x::·)
 | _::_=>none
theorem aT1:∀ {ts:List T} {xs:List Str},txts ts=some xs→ts=xs.map T.str
 | [],_,e=>by cases e; rfl
 | t::ts,_,e=>by
  cases t with
  | str x=>
   unfold txts at e
   obtain⟨ys,e1,rfl⟩:=Option.map_eq_some_iff.mp e
   rw [aT1 e1]; rfl
  | _=>cases e
theorem aLi:∀ {xs:List Str} {vs:List V},Reps K Z ρ (xs.map T.str) vs→vs=xs.map V.str
 | [],_,h=>by unfold Reps at h; exact h
 | x::xs,_,h=>by
  rw [List.map_cons] at h
  unfold Reps at h
  obtain⟨v,us,rfl,r,rs⟩:=h
  unfold Rep at r
  subst r
  rw [aLi rs]; rfl
theorem aB6:∀ {xs:List Str},Reps K Z ρ (xs.map T.str) (xs.map V.str)
 | []=> .nil
 | x::xs=> .cons aDw aB6
noncomputable def aDh (m:Mem) (t:T):Option (List T):=match asT t with
 | some ts=>some ts
 | none=>asL m t
theorem jA (r:Rel K Φ Z ρ H m) {t:T} {ts:List T} {v:V} (hv:Rep K Z ρ t v) (h:aDh m t=some ts):∃ a vs,v= .ref a∧(SqL K H a vs∨SqT K H a vs)∧Reps K Z ρ ts vs:=by
 unfold aDh at h
 split at h
 ·rename_i us e
  cases h
  obtain⟨a,vs,h1,h2,h3⟩:=aBo r hv e
  exact⟨a,vs,h1,.inr h2,h3⟩
 ·obtain⟨a,vs,h1,h2,h3⟩:=aEg r hv h
  exact⟨a,vs,h1,.inl h2,h3⟩
noncomputable def bBg:T→List T→Mem→Out T:=fun x xs m=>match x,xs with
 | .str a,[y]=>match aDh m y with
  | some ts=>match txts ts with
   | some ys=>if(ys.map (·.length)).sum+ys.length*a.length≤lim then .ok (.str (Txt.join a ys)) m else .no
   | none=> .no
  | none=> .no
 | _,_=> .no
noncomputable def bBk:T→Bool
 | .non=>true
 | .bl _=>true
 | .int _=>true
 | .str _=>true
 | _=>false
noncomputable def toV:T→V
 | .bl b=> .bl b
 | .int i=> .int i
 | .str x=> .str x
 | _=> .non
theorem bC1 {t:T} {v:V} (h:Rep K Z ρ t v) (f:bBk t=true):v=toV t∧flatV v=true:=by
 cases t<;>first | (unfold Rep at h; subst h; exact⟨rfl,rfl⟩) | cases f
theorem aXh:∀ {ts:List T} {vs:List V},Reps K Z ρ ts vs→ts.all bBk=true→vs=ts.map toV∧vs.all flatV=true
 | [],_,h,_=>by unfold Reps at h; subst h; exact⟨rfl,rfl⟩
 | t::ts,_,h,f=>by
  unfold Reps at h
  obtain⟨v,us,rfl,r,rs⟩:=h
  rw [List.all_cons,Bool.and_eq_true] at f
  obtain⟨e1,e2⟩:=bC1 r f.1
  obtain⟨e3,e4⟩:=aXh rs f.2
  exact⟨by rw [e1,e3]; rfl,by rw [List.all_cons,e2,e4]; rfl⟩
noncomputable def gInD (neg:Bool) (x y:T) (m:Mem):Out T:=match asD m y,keyT x with
 | some (ks,_),some k=> .ok (.bl (if neg then !memK ks k else memK ks k)) m
 | _,_=> .no
noncomputable def rInD (neg:Bool):R2:=fun x y H Q=>∃ a o,y= .ref a∧DGet H a x o∧Q (.bl (if neg then !o.isSome else o.isSome)) H
theorem aQ7 {k:Key}:∀ {ks:List Key} {vs:List V},ks.length=vs.length→(valV (ks.zip vs) k).isSome=memK ks k
 | [],_,_=>rfl
 | _::_,[],h=>by cases h
 | j::ks,v::vs,h=>by
  have ih:=aQ7 (k:=k) (ks:=ks) (vs:=vs) (by simpa using h)
  rw [List.zip_cons_cons]
  unfold memK at ih ⊢
  rw [List.any_cons]
  by_cases hj:j=k
  ·rw [valV_pos (p:=(j,v)) hj,tX.mpr hj]; rfl
  ·rw [valV_neg (p:=(j,v)) hj,ih,←aRi,decide_eq_false hj]; rfl
theorem bDf {neg:Bool}:Sem2 K (gInD neg) (rInD neg):=by
 intro W Φ Z ρ σ H m Q x y vx vy r rx ry p
 unfold gInD at p
 split at p
 ·rename_i ks ts k hy hx
  obtain⟨a,vs,rfl,hd,hl,rs⟩:=aUc r ry hy
  refine⟨a,valV (ks.zip vs) k,rfl,.inl ⟨_,k,hd,aB8 rx hx,rfl⟩,?_⟩
  rw [aQ7 hl]
  exact yP r tZ p
 ·exact p.elim
theorem op_inD (hu:X.A.units+1 < cLine):OpR X (compareOp .In) (rInD false):=by
 intro pins s σ H x y v u Q I rx ry h
 obtain⟨a,o,rfl,g,q⟩:=h
 obtain rfl:u=Value.ref a:=ry
 exact d_in hu I g rx fun s' I'=>⟨.bl o.isSome,H,I',rfl,q⟩
theorem op_notInD (hu:X.A.units+1 < cLine):OpR X (compareOp .NotIn) (rInD true):=by
 intro pins s σ H x y v u Q I rx ry h
 obtain⟨a,o,rfl,g,q⟩:=h
 obtain rfl:u=Value.ref a:=ry
 exact d_notIn hu I g rx fun s' I'=>⟨.bl (!o.isSome),H,I',rfl,q⟩
theorem aBu (hu:X.A.units+1 < cLine):OpR X (compareOp .In) (fun x y H Q=>rIn X.K false x y H Q∨rInD false x y H Q):=op_in_seq.or (op_inD hu)
theorem aR8 (hu:X.A.units+1 < cLine):OpR X (compareOp .NotIn) (fun x y H Q=>rIn X.K true x y H Q∨rInD true x y H Q):=op_notIn_seq.or (op_notInD hu)
noncomputable def eqQ (t x:T):Bool:=match t,x with
 | .str a,.str b=>eqS a b
 | t,x=>eqV (toV t) (toV x)
theorem eqQ_eq (t x:T):eqQ t x=eqV (toV t) (toV x):=by
 unfold eqQ
 split
 ·exact(bEu _ _).symm
 ·rfl
noncomputable def gIn (neg:Bool):T→T→Mem→Out T:=fun x y m=>match aDh m y with
 | some ts=>if bBk x&&ts.all bBk then .ok (.bl (if neg then !(ts.any fun t=>eqQ t x) else ts.any fun t=>eqQ t x)) m else .no
 | none=>gInD neg x y m
theorem aAf {neg:Bool}:Sem2 K (gIn neg) (fun x y H Q=>rIn K neg x y H Q∨rInD neg x y H Q):=by
 intro W Φ Z ρ σ H m Q x y vx vy r rx ry p
 unfold gIn at p
 split at p
 ·rename_i ts hy
  split at p
  ·rename_i hf
   rw [Bool.and_eq_true] at hf
   obtain⟨b,us,rfl,hq,ru⟩:=jA r ry hy
   obtain⟨e1,e2⟩:=bC1 rx hf.1
   obtain⟨e3,e4⟩:=aXh ru hf.2
   refine .inl ⟨b,us,rfl,hq,e2,e4,?_⟩
   have e5:inV vx us=ts.any fun t=>eqQ t x:=by
    unfold inV
    rw [e1,e3,List.any_map]
    congr 1
    funext t
    exact(eqQ_eq t x).symm
   rw [e5]
   exact yP r tZ p
  ·exact p.elim
 ·exact .inr (bDf W Φ Z ρ σ H m Q x y vx vy r rx ry p)
noncomputable def gLen:List T→Mem→Out T:=fun xs m=>match xs with
 | [.str x]=>if x.length≤lim then .ok (.int x.length) m else .no
 | [y]=>match aDh m y with
  | some ts=> .ok (.int ts.length) m
  | none=>match y with
   | .dct ks _=> .ok (.int ks.length) m
   | .loc n=>match m[n]? with
    | some (some (.dct ks _))=> .ok (.int ks.length) m
    | _=> .no
   | _=> .no
 | _=> .no
noncomputable def bFo (K:PySem.W.Frag):List V→Hp→VK→Prop:=fun xs H Q=>((∃ p ys,xs=[.ref p]∧(SqL K H p ys∨SqT K H p ys)∧Q (.int ys.length) H)∨∃ z,xs=[.str z]∧z.length≤sizeLine∧Q (.int z.length) H)∨
 ∃ a kvs,xs=[V.ref a]∧Rd H a (.dK kvs)∧Q (.int kvs.length) H
theorem aZp:CallR X (.builtin "len") (fun xs H Q=>∃ a kvs,xs=[V.ref a]∧Rd H a (.dK kvs)∧Q (.int kvs.length) H):=by
 intro pins s σ H xs us Q I r h
 obtain⟨a,kvs,rfl,ha,q⟩:=h
 obtain⟨u,rfl,ru⟩:=vals1 r
 cases ru
 exact d_len I ha fun t s' I'=>⟨.int kvs.length,H,I',⟨t,rfl⟩,q⟩
theorem yA:CallR X (.builtin "len") (bFo X.K):=(call_len_seq.or call_len_str).or aZp
theorem vV:SemL K gLen (bFo K):=by
 intro W Φ Z ρ σ H m Q xs vs r rs p
 unfold gLen at p
 split at p
 ·rename_i x
  split at p
  ·rename_i hl
   obtain⟨v,rfl,rv⟩:=jE rs
   unfold Rep at rv
   subst rv
   exact .inl (.inr ⟨x,rfl,aB7 hl,yP r wW p⟩)
  ·exact p.elim
 ·rename_i y hy
  obtain⟨v,rfl,rv⟩:=jE rs
  split at p
  ·rename_i ts ht
   obtain⟨b,us,rfl,hq,ru⟩:=jA r rv ht
   refine .inl (.inl ⟨b,us,rfl,hq,?_⟩)
   rw [←ru.length]
   exact yP r wW p
  ·split at p
   ·rename_i ks ts _
    unfold Rep at rv
    obtain⟨a,us,o,rfl,q,hl,ru⟩:=rv
    refine .inr ⟨a,_,rfl,.inr ⟨o,r.zin _ _ q⟩,?_⟩
    rw [List.length_zip,←hl,Nat.min_self]
    exact yP r wW p
   ·rename_i n _
    split at p
    ·rename_i ks ts em
     unfold Rep at rv
     obtain⟨a,ha,rfl⟩:=rv
     obtain⟨_,us,e2,hl,ru⟩:=r.mem n _ a em ha
     refine .inr ⟨a,_,rfl,.inl e2,?_⟩
     rw [List.length_zip,←hl,Nat.min_self]
     exact yP r wW p
    ·exact p.elim
   ·exact p.elim
 ·exact p.elim
noncomputable def gInt:List T→Mem→Out T:=fun xs m=>match xs with
 | [.int i]=> .ok (.int i) m
 | _=> .no
theorem bDe:SemL K gInt (fun xs H Q=>(∃ i,xs=[.int i]∧Q (.int i) H)∨∃ k,xs=[.bl k]∧Q (.int (if k then 1 else 0)) H):=by
 intro W Φ Z ρ σ H m Q xs vs r rs p
 unfold gInt at p
 split at p
 ·rename_i i
  obtain⟨v,rfl,rv⟩:=jE rs
  unfold Rep at rv
  subst rv
  exact .inl ⟨i,rfl,yP r wW p⟩
 ·exact p.elim
noncomputable def gTuple:List T→Mem→Out T:=fun xs m=>match xs with
 | [.tup ts]=> .ok (.tup ts) m
 | [y]=>match asL m y with
  | some ts=> .ok (.tup ts) m
  | none=> .no
 | _=> .no
theorem aXt:SemL K gTuple (fun xs H Q=>∃ p ys,xs=[.ref p]∧((SqL K H p ys∧∀ l,H l=none→Q (.ref l) (upd H l (.tup ys)))∨(SqT K H p ys∧Q (.ref p) H))):=by
 intro W Φ Z ρ σ H m Q xs vs r rs p
 unfold gTuple at p
 split at p
 ·rename_i ts
  obtain⟨v,rfl,rv⟩:=jE rs
  obtain⟨a,us,rfl,q,ru⟩:=aBo r rv (ts:=ts) rfl
  exact⟨a,us,rfl,.inr ⟨q,yP r rv p⟩⟩
 ·rename_i y hy
  obtain⟨v,rfl,rv⟩:=jE rs
  split at p
  ·rename_i ts ht
   obtain⟨a,us,rfl,q,ru⟩:=aEg r rv ht
   exact⟨a,us,rfl,.inl ⟨q,fun l hl=>aF3 r ru p hl⟩⟩
  ·exact p.elim
 ·exact p.elim
noncomputable def aZ7 (mu:Bool):List T→Mem→Out T:=fun xs m=>match xs with
 | [y]=>match aDh m y with
  | some ts=>mk mu ts m
  | none=> .no
 | _=> .no
noncomputable def bools:List T→Option (List Bool)
 | []=>some []
 | .bl x::ts=>(bools ts).map (x::·)
 | _::_=>none
theorem aW2:∀ {ts:List T} {xs:List Bool},bools ts=some xs→ts=xs.map T.bl
 | [],_,e=>by cases e; rfl
 | t::ts,_,e=>by
  cases t with
  | bl x=>
   unfold bools at e
   obtain⟨ys,e1,rfl⟩:=Option.map_eq_some_iff.mp e
   rw [aW2 e1]; rfl
  | _=>cases e
theorem aO5:∀ {xs:List Bool} {vs:List V},Reps K Z ρ (xs.map T.bl) vs→vs=xs.map V.bl
 | [],_,h=>by unfold Reps at h; exact h
 | x::xs,_,h=>by
  rw [List.map_cons] at h
  unfold Reps at h
  obtain⟨v,us,rfl,r,rs⟩:=h
  unfold Rep at r
  subst r
  rw [aO5 rs]; rfl
noncomputable def gAllAny (al:Bool):List T→Mem→Out T:=fun xs m=>match xs with
 | [y]=>match asL m y with
  | some ts=>match bools ts with
   | some bs=> .ok (.bl (if al then bs.all id else bs.any id)) m
   | none=> .no
  | none=> .no
 | _=> .no
theorem aBm:SemL K (gAllAny true) (rAll K):=by
 intro W Φ Z ρ σ H m Q xs vs r rs p
 unfold gAllAny at p
 split at p
 ·rename_i y
  obtain⟨v,rfl,rv⟩:=jE rs
  split at p
  ·rename_i ts ht
   split at p
   ·rename_i bs hb
    obtain⟨a,us,rfl,q,ru⟩:=aEg r rv ht
    rw [aW2 hb] at ru
    have:=aO5 ru
    subst this
    exact⟨a,bs,rfl,q,yP r tZ p⟩
   ·exact p.elim
  ·exact p.elim
 ·exact p.elim
noncomputable def gSetL:T→T→T→Mem→Option Mem:=fun o i v m=>match aK8 m o,i with
 | some (n,ts),.int k=>match ixN ts.length k with
  | some j=>some (m.set n (some (.lst (ts.set j v))))
  | none=>none
 | _,_=>none
noncomputable def aCs (fe fo fi:EF):SF:=sOf fe fun v env m1=>match fo env m1 with
 | .ok o m2=>match fi env m2 with
  | .ok i m3=>match gSetL o i v m3 with
   | some m4=> .nx env m4
   | none=> .no
  | _=> .no
 | _=> .no
theorem aC8 {o i e:Expr} {pos pos':Pos} {fe fo fi:EF} (he:SE X W e fe) (ho:SE X W o fo) (hi:SE X W i fi)
  (ha:∀ v,assign (.Subscript o i pos') X.env v=(do
   let ov ←holding [v] (eval o X.env)
   let iv ←holding [v,ov] (eval i X.env)
   standAt pos'
   holding [v,ov,iv] (setItem ov iv v)
   release [v,ov,iv] []):=by intro _; rfl)
  (hs:swapsWithSole [.Subscript o i pos'] e pos.line X.env=pure false:=by rfl) (hw:swappedStores [.Subscript o i pos'] e X.env=pure none:=by rfl)
  (h1:(assignEach [.Subscript o i pos'] X.env).map (·.2)=[assign (.Subscript o i pos') X.env]:=by rfl):SS X W (.Assign [.Subscript o i pos'] e pos) (aCs fe fo fi):=by
 refine⟨tY (ps_asg he.pe (pg_sub ho.pe hi.pe set_list ha) hs hw h1) fun D σ H h=>tV (fun Φ Z1 ρ1 H1 env m1 t v F r p=>?_) h⟩
 show tr X.K W fo σ H1 fun ov H2=>tr X.K W fi σ H2 fun iv H3=>rSetL ov iv v H3 fun H4=>D.nx σ H4
 cases eo:fo env m1 with
 | no=>simp only [eo] at p; exact p.elim
 | ex _ _ _ _=>simp only [eo] at p; exact p.elim
 | ok to m2=>
  simp only [eo] at p
  cases ei:fi env m2 with
  | no=>simp only [ei] at p; exact p.elim
  | ex _ _ _ _=>simp only [ei] at p; exact p.elim
  | ok ti m3=>
   simp only [ei] at p
   refine⟨Φ,Z1,ρ1,env,m1,F,?_⟩
   rw [eo]
   intro Z2 ρ2 H2 vo e2 r2 ro
   refine⟨Φ,Z2,ρ2,env,m2,⟨r2,F.env.ext e2⟩,?_⟩
   rw [ei]
   intro Z3 ρ3 H3 vi e3 r3 ri
   unfold gSetL at p
   split at p
   ·rename_i m4 e4
    split at e4
    ·rename_i n ts k hc
     split at e4
     ·rename_i j hj
      cases e4
      obtain⟨a,us,rfl,hn,ha,hH,ru⟩:=aHf r3 (ro.ext e3) hc
      unfold Rep at ri
      subst ri
      refine⟨a,us,k,j,rfl,rfl,hH,by rw [←ru.length]; exact hj,?_⟩
      have rv:=(r.ext e2).ext e3
      have r4:=r3.write hn ha (u:= .lst (ts.set j t)) (o:= .lst (us.set j v)) ⟨_,rfl,ru.set j rv⟩
      exact p _ _ _ _ (e2.trans e3) ⟨r4,(F.env.ext e2).ext e3⟩ rfl
     ·cases e4
    ·cases e4
   ·exact p.elim
end
end Ev
namespace Ev
open PySem L2
variable [Wrl]
noncomputable def ltS (a b:Str):Bool:=decide (a.cps.toList < b.cps.toList)
noncomputable def leS (a b:Str):Bool:=!ltS b a
noncomputable def insS (x:Str):List Str→List Str
 | []=>[x]
 | y::ys=>if leS x y then x::y::ys else y::insS x ys
noncomputable def aI2:List Str→List Str
 | []=>[]
 | x::xs=>insS x (aI2 xs)
theorem aG6 {a b:Str}:leS a b=true↔a.cps.toList≤b.cps.toList:=by
 unfold leS ltS
 simp [List.not_lt]
theorem bCy {a b:Str} (h:a.cps.toList=b.cps.toList):a=b:=by
 obtain⟨x⟩:=a
 obtain⟨y⟩:=b
 have:x=y:=Array.toList_inj.mp h
 rw [this]
theorem aRd {a b:Str} (h1:leS a b=true) (h2:leS b a=true):a=b:=
 bCy (List.le_antisymm (aG6.mp h1) (aG6.mp h2))
theorem aRc {a b c:Str} (h1:leS a b=true) (h2:leS b c=true):leS a c=true:=
 aG6.mpr (List.le_trans (aG6.mp h1) (aG6.mp h2))
theorem aYt (a b:Str):leS a b=true∨leS b a=true:=by
 rw [aG6,aG6]
 exact List.le_total _ _
theorem aLn (x:Str):∀ ys:List Str,(insS x ys).Perm (x::ys)
 | []=> .refl _
 | y::ys=>by
  unfold insS
  split
  ·exact .refl _
  ·exact((aLn x ys).cons y).trans (.swap x y ys)
theorem aI1:∀ xs:List Str,(aI2 xs).Perm xs
 | []=> .refl _
 | x::xs=>(aLn x _).trans ((aI1 xs).cons x)
theorem aYy (x:Str):∀ ys:List Str,ys.Pairwise (fun a b=>leS a b=true)→(insS x ys).Pairwise (fun a b=>leS a b=true)
 | [],_=>List.pairwise_singleton _ _
 | y::ys,h=>by
  unfold insS
  rw [List.pairwise_cons] at h
  split
  ·rename_i hxy
   refine List.pairwise_cons.mpr ⟨fun b hb=>?_,List.pairwise_cons.mpr h⟩
   rcases List.mem_cons.mp hb with e | e
   ·rw [e]; exact hxy
   ·exact aRc hxy (h.1 b e)
  ·rename_i hxy
   have hyx:leS y x=true:=(aYt x y).resolve_left hxy
   refine List.pairwise_cons.mpr ⟨fun b hb=>?_,aYy x ys h.2⟩
   rcases List.mem_cons.mp ((aLn x ys).mem_iff.mp hb) with e | e
   ·rw [e]; exact hyx
   ·exact h.1 b e
theorem aUv:∀ xs:List Str,(aI2 xs).Pairwise (fun a b=>leS a b=true)
 | []=> .nil
 | x::xs=>aYy x _ (aUv xs)
theorem aQz:∀(xs:List Str) (p:Str),PyProof.Rows.risingS p xs=true→(p::xs).Pairwise (fun a b=>leS a b=true)
 | [],p,_=>List.pairwise_singleton _ _
 | x::xs,p,h=>by
  unfold PyProof.Rows.risingS at h
  rw [Bool.and_eq_true] at h
  have h1:leS p x=true:=by
   unfold leS ltS
   rw [PyProof.Rows.lt_meets]
   exact h.1
  have h2:=aQz xs x h.2
  refine List.pairwise_cons.mpr ⟨fun b hb=>?_,h2⟩
  rcases List.mem_cons.mp hb with e | e
  ·rw [e]; exact h1
  ·exact aRc h1 ((List.pairwise_cons.mp h2).1 b e)
theorem aL2 {ys xs:List Str} (hp:ys.Perm xs) (h:PyProof.Rows.sortedS ys=true):ys=aI2 xs:=by
 have hw:ys.Pairwise (fun a b=>leS a b=true):=by
  cases ys with
  | nil=>exact .nil
  | cons y ys=>exact aQz ys y h
 exact List.Perm.eq_of_pairwise (fun a b _ _ h1 h2=>aRd h1 h2) hw (aUv xs) (hp.trans (aI1 xs).symm)
end Ev
namespace Ev
open PySem L2 PySem.Spec PyProof.Rows
variable [Wrl]
section
variable {prog:Program} {w:World} {A:Around} {E:Value→Shared→Prop} {s:Shared}
theorem aU4 {l:Addr} {vs:List Value} {Q:List Value→Shared→Prop} (hl:IsTup s.heap l vs.toArray) (hsz:vs.length≤sizeLine)
  (h:Q vs {s with heap:=(s.heap.push (seqObj "list" #[] 0)).update s.heap.objs.size (Obj.mapSeq (·++vs.toArray))}):wpAny (model prog w) A (collect (.ref l)) Q E s:=by
 obtain⟨o,ho,hc,n,hd⟩:=id hl
 unfold collect
 refine wpAny_bind (wpAny_runValue (codeAny_builtin entry_proto_collect' ?_))
 show wpAny _ _ (do again (.builtin "list.__iadd__" ⟨[←newList [],.ref l],[]⟩)) _ _ s
 refine wpAny_bind (wpAny_newList (wpAny_pure ⟨Code.quiet_builtin _ (by decide+kernel),codeAny_builtin entry_list_iadd' ?_⟩))
 have ho':(s.heap.push (seqObj "list" #[] 0)).get? l=some o:=Heap.get?_push_of_some _ ho
 have new0:(s.heap.push (seqObj "list" #[] 0)).get? s.heap.objs.size=some (seqObj "list" #[] 0):=Heap.get?_push_size _ rfl
 have ht1:(Value.type "tuple"==Value.type "list")=false:=by rfl
 have ht2:(Value.type "tuple"==Value.type "tuple")=true:=by rfl
 show wpAny _ _ (Builtin.List.listExtendWith (.ref s.heap.objs.size) (.ref l) (.ref s.heap.objs.size)) _ _ {s with heap:=s.heap.push (seqObj "list" #[] 0)}
 unfold Builtin.List.listExtendWith
 refine wpAny_bind (wpAny_typeOf (T:="tuple") ⟨o,ho',hc⟩ ?_)
 rw [if_pos (by rw [ht2]; simp)]
 refine wpAny_bind (listItems_at ho' hd (wpAny_bind (listItems_at (xs:=#[]) (n:=0) new0 rfl ?_)))
 rw [if_neg (by simp)]
 have fits:(#[]++vs.toArray).size≤sizeLine+1:=by simp only [Array.size_append,List.size_toArray,List.length_nil]; omega
 refine wpAny_bind (listUpdate_at (xs:=#[]) (n:=0) new0 rfl (wpAny_pure ?_) (Nat.zero_le _) fits)
 have em:((#[]:Array Value)++vs.toArray).toList=vs:=by simp
 show wpAny (model prog w) A (load s.heap.objs.size >>=fun o=>match o.data with | .seq xs _=>pure xs.toList | _=>unsupported "internal:collect") Q E _
 refine wpAny_bind (wpAny_load (get?_update_seq new0 _) ?_)
 show wpAny _ _ (pure ((#[]:Array Value)++vs.toArray).toList) Q E _
 rw [em]
 exact wpAny_pure h
theorem aL1 {l:Addr} {vs:List Value} {ss:List Str} {Q:Value→Shared→Prop} (hl:IsTup s.heap l vs.toArray) (hS:StrsAre vs ss) (hL:vs.length≤sizeLine)
  (h:∀(out:Array Value) (ss':List Str),StrsAre out.toList ss'→ss'.Perm ss→sortedS ss'=true→Q (.ref (s.heap.objs.size+1)) {s with heap:=sortedAll s.heap vs out}):
  wpAny (model prog w) A (call (.builtin "sorted") [.ref l]) Q E s:=by
 refine Calls.call_function_entry kind_sorted plain_sorted entry_sorted (args_sorted1 _) ?_
 unfold Builtin.«sorted»
 refine wpAny_bind (m:=checkCount "sorted" 1 1 _) (wpAny_pure (wpAny_bind (aU4 hl hL (wpAny_bind (wpAny_newList ?_)))))
 have z1:((s.heap.push (seqObj "list" #[] 0)).update s.heap.objs.size (Obj.mapSeq (·++vs.toArray))).objs.size=s.heap.objs.size+1:=by rw [Heap.size_update,size_push']
 have z2:(((s.heap.push (seqObj "list" #[] 0)).update s.heap.objs.size (Obj.mapSeq (·++vs.toArray))).push (seqObj "list" vs.toArray 0)).get? (s.heap.objs.size+1)=some (seqObj "list" vs.toArray 0):=by rw [←z1]; exact Heap.get?_push_size _ rfl
 have z3:∀ v₁ v₂ rest,vs=v₁::v₂::rest→keyKind' (v₁::v₂::rest).toArray=pure oneType':=fun v₁ v₂ rest e=>keyKind_strs (by rw [←e]; exact hS)
 show wpAny _ _ _ _ _ {s with heap:=((s.heap.push (seqObj "list" #[] 0)).update s.heap.objs.size (Obj.mapSeq (·++vs.toArray))).push (seqObj "list" vs.toArray 0)}
 rw [z1]
 refine wpAny_bind (wpAny_holding (wpAny_call_entry slot_list_sort ⟨_,z2,rfl⟩ entry_list_sort (list_sort_treeKAny strKind_oneLt z2 hS.keysOf z3 hL fun st' a1 a2=>⟨_,rfl,wpAny_pure ⟨_,rfl,?_⟩⟩) (args_list_sort _)))
 obtain⟨ss',h1,h2,h3⟩:=sorted_out_str hS a1 a2
 exact h _ ss' h1 h2 h3
end
section
variable {K:PySem.W.Frag} {W:WX} {Φ Z:Hp} {ρ:List Addr} {σ:L2.St} {H:Hp} {m:Mem} {X:Cx}
noncomputable def aY9 (K:PySem.W.Frag):List V→Hp→VK→Prop:=fun vs H Q=>∃(a:Addr) (xs:List Str),vs=[V.ref a]∧(SqL K H a (xs.map V.str)∨SqT K H a (xs.map V.str))∧xs.length≤sizeLine∧
 ∀ p,H p=none→Q (.ref p) (upd H p (.lst ((aI2 xs).map V.str)))
theorem bBq:CallR X (.builtin "sorted") (aY9 X.K):=by
 intro pins s σ H vs us Q I r h
 obtain⟨a,xs,rfl,hs,hz,q⟩:=h
 rw [Vals.ref1 r]
 have fin:∀(its:List Value) (out:Array Value) (ys:List Str),Vals (xs.map V.str) its→StrsAre out.toList ys→ys.Perm xs→sortedS ys=true→EP X pins σ Q (.ref (s.heap.objs.size+1)) {s with heap:=sortedAll s.heap its out}:=by
  intro its out ys rv h1 h2 h3
  obtain⟨ep,he'⟩:=sortedAll_at s.heap its out
  have e:=aL2 h2 h3
  subst e
  have hlen:((aI2 xs).map V.str).length≤sizeLine:=by rw [List.length_map,h2.length_eq]; exact hz
  exact⟨.ref _,upd H (s.heap.objs.size+1) (.lst ((aI2 xs).map V.str)),I.laid (t':=s.toks) (fun _ _=>sortedAll_old) (Nat.le_succ _) ⟨hlen,out.toList,ep,vals_of_strs h1,he'⟩,rfl,q _ (I.hok.fresh (Nat.le_succ _))⟩
 rcases hs with hs | hs
 ·obtain⟨its,rv,hl,_⟩:=I.list hs
  have hln:its.length≤sizeLine:=by rw [←rv.length,List.length_map]; exact hz
  exact sorted_strsAny hl.isList rv.strs hln fun out ys h1 h2 h3=>fin its out ys rv h1 h2 h3
 ·obtain⟨its,rv,hl,_⟩:=I.tuple hs
  have hln:its.length≤sizeLine:=by rw [←rv.length,List.length_map]; exact hz
  exact aL1 hl rv.strs hln fun out ys h1 h2 h3=>fin its out ys rv h1 h2 h3
noncomputable def gSorted (mu:Bool):List T→Mem→Out T:=fun xs m=>match xs with
 | [y]=>match aDh m y with
  | some ts=>match txts ts with
   | some ys=>if ys.length≤lim then mk mu ((aI2 ys).map T.str) m else .no
   | none=> .no
  | none=> .no
 | _=> .no
theorem aWh {mu:Bool}:SemL K (gSorted mu) (aY9 K):=by
 intro W Φ Z ρ σ H m Q xs vs r rs p
 unfold gSorted at p
 split at p
 ·rename_i y
  obtain⟨v,rfl,rv⟩:=jE rs
  split at p
  ·rename_i ts ht
   split at p
   ·rename_i ys hy
    split at p
    ·rename_i hl
     obtain⟨a,us,rfl,q,ru⟩:=jA r rv ht
     rw [aT1 hy] at ru
     have:=aLi ru
     subst this
     exact⟨a,ys,rfl,q,aB7 hl,fun l hl=>kB r aB6 p hl⟩
    ·exact p.elim
   ·exact p.elim
  ·exact p.elim
 ·exact p.elim
end
end Ev
namespace Ev
open PySem L2
variable [Wrl]
section
variable {K:PySem.W.Frag} {W:WX} {Φ Z:Hp} {ρ:List Addr} {σ:L2.St} {H:Hp} {m:Mem} {X:Cx}
noncomputable abbrev OF:=Env→Mem→Out (Option Int)
noncomputable def bF1 (K:PySem.W.Frag) (W:WX) (Φ Z:Hp) (ρ:List Addr) (σ:L2.St) (Q:Option Int→Hp→Prop):Out (Option Int)→Prop
 | .ok o m=>∀ Z' ρ' H',Ext Z Z' ρ ρ'→Rel K Φ Z' ρ' H' m→Q o H'
 | .ex C ns ts m=>∀ Z' ρ' H' d vs,Ext Z Z' ρ ρ'→Rel K Φ Z' ρ' H' m→Reps K Z' ρ' ts vs→ns.length=vs.length→Z' d=some (.xd (ns.zip vs))→WR K W C d σ H'
 | .no=>False
noncomputable def trO (K:PySem.W.Frag) (W:WX) (f:OF):TO:=fun σ H Q=>∃ Φ Z ρ env m,Fits K Φ Z ρ σ H env m∧bF1 K W Φ Z ρ σ Q (f env m)
structure SO (X:Cx) (W:WX) (e:Option Expr) (f:OF):Prop where
 po:PO X e (trO X.K W f)
noncomputable def aLk:OF:=fun _ m=> .ok none m
noncomputable def aG4 (f:EF):OF:=fun env m=>(f env m).bind fun t m1=>match t with
 | .int i=> .ok (some i) m1
 | _=> .no
theorem aOs:SO X W none aLk:=⟨⟨fun pins s σ H Q I ⟨Φ,Z,ρ,env,m,F,p⟩=>po_none.run pins s σ H Q I (p _ _ _ Ext.refl F.rel)⟩⟩
theorem aI3 {e:Expr} {f:EF} (h:SE X W e f):SO X W (some e) (aG4 f):=by
 refine⟨⟨fun pins s σ H Q I ⟨Φ,Z,ρ,env,m,F,p⟩=>(po_some h.pe).run pins s σ H Q I ?_⟩⟩
 refine tr_bind (P:=bF1 X.K W Φ Z ρ σ Q) F (fun t m1 Z1 ρ1 H1 v _ e1 F1 r p1=>?_) (fun _ _ _ _ h=>h) (fun h=>h) p
 cases t with
 | int i=>unfold Rep at r; subst r; exact⟨i,rfl,p1 _ _ _ e1 F1.rel⟩
 | _=>exact(show False from p1).elim
noncomputable def cutT (ts:List T) (lo hi:Option Int):List T:=(ts.drop (HT.sIx ts.length 0 lo)).take (HT.sIx ts.length ts.length hi - HT.sIx ts.length 0 lo)
theorem Reps.cut {ts:List T} {vs:List V} (r:Reps K Z ρ ts vs) (lo hi:Option Int):Reps K Z ρ (cutT ts lo hi) (cutV vs lo hi):=by
 unfold cutT cutV
 rw [r.length]
 exact(r.drop _).take _
noncomputable def aLu (mu:Bool):T→Option Int→Option Int→Mem→Out T:=fun x lo hi m=>match x with
 | .str z=>if z.length≤lim then .ok (.str (cutS z lo hi)) m else .no
 | .tup ts=> .ok (.tup (cutT ts lo hi)) m
 | y=>match asL m y with
  | some ts=>mk mu (cutT ts lo hi) m
  | none=> .no
noncomputable def bC8 (K:PySem.W.Frag):V→Option Int→Option Int→Hp→VK→Prop:=fun x lo hi H Q=>(rSlL K x lo hi H Q∨rSlS x lo hi H Q)∨rSlA K x lo hi H Q
theorem bFd:SlR X (bC8 X.K):=(sl_list.or sl_str).or sl_tupA
theorem aX3 {ts:List T} {lo hi:Option Int} (h:HT.sIx ts.length 0 lo=0∧HT.sIx ts.length ts.length hi=ts.length):cutT ts lo hi=ts:=by
 unfold cutT
 rw [h.1,h.2]
 simp
noncomputable def aC1 (mu:Bool) (f:EF) (lo hi:OF):EF:=fun env m=>(f env m).bind fun x m1=>(lo env m1).bind fun l m2=>(hi env m2).bind fun u m3=>aLu mu x l u m3
theorem aUq {α:Type} {f:OF} {env:Env} {k:Option Int→Mem→Out α} {P:Out α→Prop} {R:Option Int→Hp→Prop} (F:Fits K Φ Z ρ σ H env m)
  (hk:∀ t m1 Z1 ρ1 H1,f env m= .ok t m1→Ext Z Z1 ρ ρ1→Fits K Φ Z1 ρ1 σ H1 env m1→P (k t m1)→R t H1)
  (hx:∀ C ns vs m1,P (.ex C ns vs m1)→bF1 K W Φ Z ρ σ R (.ex C ns vs m1)) (hn:P .no→False)
  (h:P ((f env m).bind k)):trO K W f σ H R:=by
 refine⟨Φ,Z,ρ,env,m,F,?_⟩
 cases e:f env m with
 | ok t m1=>
  rw [e] at h
  exact fun Z1 ρ1 H1 e1 r1=>hk t m1 Z1 ρ1 H1 e e1 ⟨r1,F.env.ext e1⟩ h
 | ex C ns vs m1=>
  rw [e] at h
  exact hx C ns vs m1 h
 | no=>
  rw [e] at h
  exact(hn h).elim
theorem aXu {mu:Bool} {x:T} {l u:Option Int} {vx:V} {Q:VK} (r:Rel K Φ Z ρ H m) (rx:Rep K Z ρ x vx) (p:Post K W Φ Z ρ σ Q (aLu mu x l u m)):bC8 K vx l u H Q:=by
 unfold aLu at p
 split at p
 ·rename_i z
  split at p
  ·rename_i h
   unfold Rep at rx
   subst rx
   exact .inl (.inr ⟨z,rfl,aB7 h,yP r aDw p⟩)
  ·exact p.elim
 ·rename_i ts
  obtain⟨a,vs,rfl,q,ru⟩:=aBo r rx (ts:=ts) rfl
  refine .inr ⟨a,vs,rfl,q,fun hw=>?_,fun hw pp hp=>?_⟩
  ·rw [←ru.length] at hw
   rw [aX3 hw] at p
   exact yP r rx p
  ·exact aF3 r (ru.cut l u) p hp
 ·split at p
  ·rename_i ts ht
   obtain⟨a,vs,rfl,q,ru⟩:=aEg r rx ht
   exact .inl (.inl ⟨a,vs,rfl,q,fun pp hp=>kB r (ru.cut l u) p hp⟩)
  ·exact p.elim
theorem aGp (mu:Bool) {e:Expr} {lo hi:Option Expr} {p2 pos:Pos} {f:EF} {fl fh:OF} (he:SE X W e f) (hl:SO X W lo fl) (hh:SO X W hi fh):SE X W (.Subscript e (.Slice lo hi none p2) pos) (aC1 mu f fl fh):=by
 refine⟨xY (pe_slice bFd he.pe hl.po hh.po) fun σ H Q ⟨Φ,Z,ρ,env,m,F,p⟩=>?_⟩
 refine tr_bind (P:=Post X.K W Φ Z ρ σ Q) F (fun x m1 Z1 ρ1 H1 vx _ e1 F1 rx p1=>?_) (fun _ _ _ _ h=>h) (fun h=>h) p
 refine aUq (P:=Post X.K W Φ Z1 ρ1 σ Q) F1 (fun l m2 Z2 ρ2 H2 _ e2 F2 p2=>?_) (fun _ _ _ _ h=>h) (fun h=>h) (p1.ext e1)
 refine aUq (P:=Post X.K W Φ Z2 ρ2 σ Q) F2 (fun u m3 Z3 ρ3 H3 _ e3 F3 p3=>?_) (fun _ _ _ _ h=>h) (fun h=>h) (p2.ext e2)
 exact aXu F3.rel ((rx.ext e2).ext e3) (p3.ext e3)
noncomputable def aEb (g g':T→T→Mem→Out T) (fa fb fc:EF):EF:=fun env m=>(fa env m).bind fun x m1=>(fb env m1).bind fun y m2=>(g x y m2).bind fun t m3=>match t with
 | .bl true=>(fc env m3).bind fun z m4=>g' y z m4
 | .bl false=> .ok (.bl false) m3
 | _=> .no
theorem aUp {g g':T→T→Mem→Out T} {r r':R2} (hg:Sem2 K g r) (hg':Sem2 K g' r') {fa fb fc:EF} {Q:VK} (h:tr K W (aEb g g' fa fb fc) σ H Q):tChain r r' (tr K W fa) (tr K W fb) (tr K W fc) σ H Q:=by
 obtain⟨Φ,Z,ρ,env,m,F,p⟩:=h
 refine tr_bind (P:=Post K W Φ Z ρ σ Q) F (fun x m1 Z1 ρ1 H1 vx _ e1 F1 rx p1=>?_) (fun _ _ _ _ h=>h) (fun h=>h) p
 refine tr_bind (P:=Post K W Φ Z1 ρ1 σ Q) F1 (fun y m2 Z2 ρ2 H2 vy _ e2 F2 ry p2=>?_) (fun _ _ _ _ h=>h) (fun h=>h) (p1.ext e1)
 refine hg W Φ Z2 ρ2 σ H2 m2 _ x y vx vy F2.rel (rx.ext e2) ry ?_
 have p2:=p2.ext e2
 cases eg:g x y m2 with
 | no=>rw [eg] at p2; exact p2
 | ex _ _ _ _=>rw [eg] at p2; exact p2
 | ok t m3=>
  rw [eg] at p2
  intro Z3 ρ3 H3 v e3 r3 rt
  have F3:Fits K Φ Z3 ρ3 σ H3 env m3:=⟨r3,F2.env.ext e3⟩
  cases t with
  | bl b=>
   unfold Rep at rt
   subst rt
   refine⟨b,rfl,?_⟩
   cases b with
   | true=>
    simp only [if_true]
    refine tr_bind (P:=Post K W Φ Z2 ρ2 σ Q) F3 (fun z m4 Z4 ρ4 H4 vz _ e4 F4 rz p4=>?_) (fun _ _ _ _ h=>h.ext e3) (fun h=>h) p2
    exact hg' W Φ Z4 ρ4 σ H4 m4 Q y z vy vz F4.rel ((ry.ext e3).ext e4) rz (p4.ext (e3.trans e4))
   | false=>
    simp only [Bool.false_eq_true,if_false]
    exact p2 _ _ _ _ e3 r3 tZ
  | _=>exact(show False from p2).elim
theorem aV3 {op op':CmpOp} {a b c:Expr} {pos:Pos} {g g':T→T→Mem→Out T} {r r':R2} {fa fb fc:EF} (ho:OpR X (compareOp op) r) (hg:Sem2 X.K g r) (ho':OpR X (compareOp op') r') (hg':Sem2 X.K g' r') (ha:SE X W a fa) (hb:SE X W b fb) (hc:SE X W c fc)
  (hm:lastMarks [op,op'] [b,c]=false:=by with_unfolding_all rfl):SE X W (.Compare a [op,op'] [b,c] pos) (aEb g g' fa fb fc):=
 ⟨xY (pe_chain ho ho' ha.pe hb.pe hc.pe hm) fun _ _ _ h=>aUp hg hg' h⟩
theorem aV4 {op op':CmpOp} {a b c:Expr} {pos:Pos} {g g':T→T→Mem→Out T} {r r':R2} {fa fb fc:EF} (ho:OpR X (compareOp op) r) (hg:Sem2 X.K g r) (ho':OpR X (compareOp op') r') (hg':Sem2 X.K g' r') (ha:SE X W a fa) (hb:SE X W b fb) (hc:SE X W c fc)
  (hm:lastMarks [op,op'] [b,c]=false:=by with_unfolding_all rfl):SB X W (.Compare a [op,op'] [b,c] pos) (bV (aEb g g' fa fb fc)):=
 ⟨aVb (pt_chain ho ho' ha.pe hb.pe hc.pe hm) fun _ _ _ h=>aUp hg hg' (bCw h)⟩
noncomputable def tyOf (m:Mem):T→Option String
 | .non=>some "NoneType"
 | .bl _=>some "bool"
 | .int _=>some "int"
 | .str _=>some "str"
 | .tup _=>some "tuple"
 | .lst _=>some "list"
 | .rls _=>some "list"
 | .dct _ _=>some "dict"
 | .loc n=>match m[n]? with
  | some (some (.lst _))=>some "list"
  | some (some (.dct _ _))=>some "dict"
  | _=>none
 | _=>none
theorem aSy (r:Rel K Φ Z ρ H m) {t:T} {v:V} {n:String} (h:Rep K Z ρ t v) (e:tyOf m t=some n):TyX K H v (.type n):=by
 have sqt:∀ {a:Addr} {vs:List V},SqT K H a vs→TyX K H (.ref a) (.type "tuple"):=by
  intro a vs q
  rcases q with (q | ⟨o,q⟩) | ⟨o,its,k,q,c,_⟩
  ·exact .base (.tup q)
  ·exact .fTuple q
  ·exact .kTuple q c
 have sql:∀ {a:Addr} {vs:List V},SqL K H a vs→TyX K H (.ref a) (.type "list"):=by
  intro a vs q
  rcases q with (q | ⟨o,q⟩) | ⟨o,its,k,q,c,_⟩
  ·exact .base (.lst q)
  ·exact .base (.frz q)
  ·exact .kList q c
 cases t with
 | non=>unfold Rep at h; subst h; cases e; exact .base .non
 | bl b=>unfold Rep at h; subst h; cases e; exact .base (.bl b)
 | int i=>unfold Rep at h; subst h; cases e; exact .base (.int i)
 | str x=>unfold Rep at h; subst h; cases e; exact .base (.str x)
 | tup ts=>unfold Rep at h; obtain⟨a,vs,rfl,q,_⟩:=h; cases e; exact sqt (Same.sqt r.same q)
 | lst ts=>unfold Rep at h; obtain⟨a,vs,rfl,q,_⟩:=h; cases e; exact sql (.of (r.zin _ _ q))
 | rls ts=>unfold Rep at h; obtain⟨a,vs,rfl,q,_⟩:=h; cases e; exact sql (r.same.seq q)
 | dct ks ts=>unfold Rep at h; obtain⟨a,vs,o,rfl,q,_⟩:=h; cases e; exact .fDict (r.zin _ _ q)
 | loc n=>
  unfold Rep at h
  obtain⟨a,ha,rfl⟩:=h
  unfold tyOf at e
  simp only at e
  split at e
  ·rename_i us em
   cases e
   obtain⟨_,vs,e2,_⟩:=r.mem n _ a em ha
   exact .base (.lst e2)
  ·rename_i ks us em
   cases e
   obtain⟨_,vs,e2,_⟩:=r.mem n _ a em ha
   exact .base (.dK e2)
  ·cases e
 | _=>cases e
noncomputable def aVl (a:String):List String→Option Bool
 | []=>some false
 | b::bs=>match kitB a b with
  | some true=>some true
  | some false=>aVl a bs
  | none=>none
theorem aRf {K:PySem.W.Frag} {a:String}:∀ {bs:List String} {r:Bool},aVl a bs=some r→PySem.W.kitAny K (.type a) (bs.map Value.type)=some r
 | [],_,e=>by cases e; rfl
 | b::bs,r,e=>by
  unfold aVl at e
  cases h:kitB a b with
  | none=>rw [h] at e; cases e
  | some q=>
   rw [h] at e
   cases q with
   | true=>
    cases e
    exact kitAny_cons (kit_ty h) (fun z=>nomatch z) (fun _=>rfl)
   | false=>exact kitAny_cons (kit_ty h) (fun _=>aRf e) (fun z=>nomatch z)
noncomputable def gIsi:List T→Mem→Out T:=fun xs m=>match xs with
 | [x,.ty n]=>match tyOf m x with
  | some a=>match kitB a n with
   | some b=> .ok (.bl b) m
   | none=> .no
  | none=> .no
 | _=> .no
theorem aI4:SemL K gIsi (rIsi K):=by
 intro W Φ Z ρ σ H m Q xs vs r rs p
 unfold gIsi at p
 split at p
 ·rename_i x n
  split at p
  ·rename_i a ha
   split at p
   ·rename_i b hb
    obtain⟨v,w,rfl,rv,rw'⟩:=bFi rs
    unfold Rep at rw'
    subst rw'
    exact⟨v,.ty n,.type a,.type n,b,rfl,.ty n,aSy r rv ha,kit_ty hb,yP r tZ p⟩
   ·exact p.elim
  ·exact p.elim
 ·exact p.elim
noncomputable def aWy (ns:List String) (f:EF):EF:=fun env m=>(f env m).bind fun x m1=>match tyOf m1 x with
 | some a=>match aVl a ns with
  | some b=> .ok (.bl b) m1
  | none=> .no
 | none=> .no
noncomputable def TysA (X:Cx) (es:List Expr) (ns:List String):Prop:=PA X es (fun _ H Q=>Q (ns.map V.ty) H)
theorem bCr:TysA X [] []:=pa_nil
theorem aUo {x:Str} {n:String} {ns:List String} {pos:Pos} {es:List Expr} (h:TysA X es ns) (hm:X.mg x=none) (hv:bootBuiltins x=some (.type n):=by decide+kernel) (hg:Gl X x:=by rfl) (hn:x≠"__name__":=by decide) (hd:(x ==("__debug__":Str))=false:=by decide)
  (hs:starEach (.Name x pos::es) X.env=(false,eval (.Name x pos) X.env)::starEach es X.env:=by rfl):TysA X (.Name x pos::es) (n::ns):=
 aVg (pa_cons (pe_bltn (v:= .ty n) hg hm hv rfl hn hd) h hs) fun _ _ _ h=>h
theorem aXd:∀ ns:List String,Paired ClsV (ns.map V.ty) (ns.map Value.type)
 | []=> .nil
 | n::ns=> .cons (.ty n) (aXd ns)
theorem bDl {e:Expr} {es:List Expr} {ns:List String} {k:Nat} {p tpos pos:Pos} {f:EF} (he:SE X W e f) (ht:TysA X es ns) (hl:ns.length≤1000) (hm:X.mg "isinstance"=none) (hg:Gl X "isinstance":=by rfl)
  (h1:starEach [e,.Tuple es k tpos] X.env=(false,eval e X.env)::starEach [.Tuple es k tpos] X.env:=by rfl) (h2:starEach [.Tuple es k tpos] X.env=(false,eval (.Tuple es k tpos) X.env)::starEach [] X.env:=by rfl)
  (hpl:(backTo pos (starEach [.Tuple es k tpos] X.env)).any (·.1)=false:=by rfl):SE X W (.Call (.Name "isinstance" p) [e,.Tuple es k tpos] [] pos) (aWy ns f):=by
 refine⟨xY (pe_callB call_isiT hg hm (by decide+kernel) (pa_cons he.pe (pa_cons (pe_tup ht) pa_nil h2) h1) (by decide) (by decide) h1 hpl) fun σ H Q ⟨Φ,Z,ρ,env,m,F,p⟩=>?_⟩
 refine tr_bind (P:=Post X.K W Φ Z ρ σ Q) F (fun x m1 Z1 ρ1 H1 vx _ e1 F1 rx p1=>?_) (fun _ _ _ _ h=>h) (fun h=>h) p
 refine⟨by rw [List.length_map]; exact Nat.le_trans hl (by decide),fun t ht=>?_⟩
 obtain⟨r2,e2⟩:=F1.rel.allocZ ht (.tup (ns.map V.ty))
 split at p1
 ·rename_i a ha
  split at p1
  ·rename_i b hb
   exact⟨vx,t,ns.map V.ty,.type a,ns.map Value.type,b,rfl,upd_same,aXd ns,aSy r2 (rx.ext e2) ha,aRf hb,p1 _ _ _ _ (e1.trans e2) r2 tZ⟩
  ·exact p1.elim
 ·exact p1.elim
noncomputable def sPar (i j:Nat) (fs:LF):SF:=fun env m=>match fs env m with
 | .ok [t,u] m1=> .nx ((env.set i (some t)).set j (some u)) m1
 | .ex C ns vs m1=> .ex C ns vs env m1
 | _=> .no
theorem bC3 {k:Nat} (i j:Nat) {x y:Str} {a b:Expr} {fs:LF} {px py pt pos:Pos} {kt k2:Nat} {pt2:Pos} (c:Cok X W k) (ha:SA X W [a,b] fs) (hi:X.N[i]? =some x:=by rfl) (hj:X.N[j]? =some y:=by rfl) (hij:i≠j:=by decide)
  (hx:X.env.scope.names.lookup x=some .local:=by rfl) (hy:X.env.scope.names.lookup y=some .local:=by rfl) (hw:swappedStores [.Tuple [.Name x px,.Name y py] kt pt] (.Tuple [a,b] k2 pt2) X.env=pure (some [x,y]):=by rfl)
  (hs:swapsWithSole [.Tuple [.Name x px,.Name y py] kt pt] (.Tuple [a,b] k2 pt2) pos.line X.env=pure false:=by rfl):SS X W (.Assign [.Tuple [.Name x px,.Name y py] kt pt] (.Tuple [a,b] k2 pt2) pos) (sPar i j fs):=by
 refine⟨tY (ps_par c.calm c.nd hi hj hij hx hy ha.pa hw hs) fun D σ H ⟨Φ,Z,ρ,env,m,F,p⟩=>⟨Φ,Z,ρ,env,m,F,?_⟩⟩
 unfold sPar at p
 cases e:fs env m with
 | no=>rw [e] at p; exact p
 | ex C ns vs m1=>
  rw [e] at p
  exact fun Z1 ρ1 H1 d us e1 r1 rs hl hd=>p Z1 ρ1 H1 σ d us e1 ⟨r1,F.env.ext e1⟩ rs hl hd
 | ok ts m1=>
  rw [e] at p
  intro Z1 ρ1 H1 vs e1 r1 rs
  match ts,p,rs with
  | [t,u],p,rs=>
   obtain⟨v,w,rfl,rv,rw'⟩:=bFi rs
   exact⟨v,w,rfl,p _ _ _ _ e1 ⟨r1,((F.env.ext e1).set i rv).set j rw'⟩ (by simp)⟩
  | [],p,rs=>exact(show False from p).elim
  | [_],p,rs=>exact(show False from p).elim
  | _::_::_::_,p,rs=>exact(show False from p).elim
noncomputable def frz (i:Nat) (env:Env) (m:Mem):Option (Env×Mem):=match env[i]? with
 | some (some (.loc n))=>match m[n]? with
  | some (some (.lst ts))=>some (env.set i (some (.lst ts)),m.set n none)
  | _=>none
 | _=>none
noncomputable def sFrz (i:Nat) (g:SF):SF:=fun env m=>match frz i env m with
 | some (env1,m1)=>g env1 m1
 | none=> .no
theorem bBl {env env1:Env} {m1:Mem} {i:Nat} (F:Fits K Φ Z ρ σ H env m) (e:frz i env m=some (env1,m1)):∃ Z1,Ext Z Z1 ρ ρ∧Fits K Φ Z1 ρ σ H env1 m1:=by
 unfold frz at e
 split at e
 ·rename_i n e1
  split at e
  ·rename_i ts e2
   cases e
   obtain⟨v,h1,h2⟩:=F.env.get i _ e1
   obtain⟨a,vs,rfl,ha,hH,rs⟩:=aHe F.rel h2 e2
   obtain⟨r2,e3⟩:=F.rel.freeze e2 ha hH
   refine⟨_,e3,r2,?_⟩
   have E2:=F.env.ext e3
   refine⟨by simp [E2.len],fun j u ej=>?_⟩
   by_cases hj:i=j
   ·subst hj
    have hl:=(List.getElem?_eq_some_iff.mp e1).1
    rw [List.getElem?_set_self hl] at ej
    have eu:T.lst ts=u:=by simpa using ej
    subst eu
    refine⟨.ref a,h1,?_⟩
    unfold Rep
    exact⟨a,vs,rfl,upd_same,rs.ext e3⟩
   ·rw [List.getElem?_set_ne hj] at ej
    exact E2.get j u ej
  ·cases e
 ·cases e
theorem aIu (i:Nat) {st:Stmt} {g:SF} (h:SS X W st g):SS X W st (sFrz i g):=by
 refine⟨tY h.ps fun D σ H ⟨Φ,Z,ρ,env,m,F,p⟩=>?_⟩
 unfold sFrz at p
 split at p
 ·rename_i env1 m1 e
  obtain⟨Z1,e1,F1⟩:=bBl F e
  exact⟨Φ,Z1,ρ,env1,m1,F1,p.ext e1⟩
 ·exact p.elim
end
end Ev
namespace Ev
open PySem L2 RZ
variable [Wrl]
open AutoSeq1 (wpAny_loadPart')
theorem aS4 {prog:Program} {w:World} {A:Around} (hh:A.handled=none) (it l:Addr) (hne:l≠it) (items:Array Value):
  Draws prog w A it [it,l] items.size (fun i v=>items[i]? =some v) (fun i h=>h.IsTupleIter it l i∧h.IsTuple l items) where
 live:=fun _ _ ⟨⟨o,ho,_⟩,_⟩=>⟨o,ho⟩
 frame:=fun i h h' st hk=>by
  obtain⟨⟨o,ho,r⟩,⟨u,hu,r2⟩⟩:=st
  exact⟨⟨o,hk it (by simp) o ho,r⟩,⟨u,hk l (by simp) u hu,r2⟩⟩
 item:=fun i s Q E hi st hQ=>nextOf_tuple_item st.1 st.2 (x:=items[i]) (by simp [hi]) fun h' a b=>hQ _ h' s.toks (by simp [hi]) ⟨a,st.2.extBut b.extBut hne⟩ b
 done:=fun s Q E st hE=>nextOf_tuple_end hh st.1 st.2 (by simp) hE
theorem aN8 (l:Addr) (items:Array Value) (n:Nat) (dct:Option Addr) (sl:Array (Option Value)):
  Meets (Builtin.«enumerate.__new__» ⟨[.type "enumerate",.ref l],[]⟩) (fun _ R s=>s.heap.get? l=some {cls:= .type "tuple",dict:=dct,data:= .seq items n,slots:=sl}∧
   R (.ok (.ret (.ref (s.heap.push {cls:= .type "tuple_iterator",data:= .fields #[.ref l,.int 0 0]}).objs.size)))
    {s with heap:=(s.heap.push {cls:= .type "tuple_iterator",data:= .fields #[.ref l,.int 0 0]}).push {cls:= .type "enumerate",data:= .fields #[.none,.bool false,.ref s.heap.objs.size,rawInt 0,.none,.none]}}):=
 .of_wp fun prog w A R s h=>by
  obtain⟨hp,g,d,tk,os⟩:=s
  obtain⟨hl,h⟩:=h
  have hsub:=sub_enumerate
  have hT:Heap.IsTuple (Shared.heap ⟨hp,g,d,tk,os⟩) l items:=⟨_,hl,rfl,n,rfl⟩
  wp_walk using wpAny_loadPart' hl
  refine wpAny_stack_any fun st=>wpAny_pure ?_
  split
  ·rename_i c _ _ _ _ _
   cases (c ==Value.type "enumerate")<;>(wp_walk using wpAny_loadPart' hl,wpAny_pyIter_tuple hT; exact⟨_,rfl,h⟩)
  ·wp_walk using wpAny_loadPart' hl,wpAny_pyIter_tuple hT
   exact⟨_,rfl,h⟩
section
variable {prog:Program} {w:World} {A:Around} {E:Value→Shared→Prop} {s:Shared}
theorem aPo {l:Addr} {items:Array Value} {Q:Value→Shared→Prop} (hL:s.heap.IsTuple l items)
  (h:∀ h',IsEnum h' (s.heap.objs.size+1) s.heap.objs.size 0 .none→h'.IsTupleIter s.heap.objs.size l 0→h'.objs.size=s.heap.objs.size+2→
   (∀ b o,s.heap.get? b=some o→h'.get? b=some o)→Q (.ref (s.heap.objs.size+1)) {s with heap:=h'}):wpAny (model prog w) A (call (.type "enumerate") [.ref l]) Q E s:=by
 obtain⟨⟨c,dct,dt,sl⟩,hl,hc,n,hd⟩:=hL
 replace hc:c= .type "tuple":=hc
 replace hd:dt= .seq items n:=hd
 subst hc
 subst hd
 refine callType_new F.called_enumerate (by decide) (F.typeCall_enumerate_1 _) (F.newCall_enumerate_1 _) (fun obj=>F.args_object_init_2 obj _) F.entry_enumerate_new (aN8 l items n dct sl) ⟨hl,?_⟩
 generalize h1:s.heap.push {cls:= .type "tuple_iterator",data:= .fields #[.ref l,.int 0 0]}=g1
 have hz:g1.objs.size=s.heap.objs.size+1:=by rw [←h1]; exact Heap.size_push ..
 show _∧_
 have he:=Heap.get?_push_size g1 (o:={cls:= .type "enumerate",data:= .fields #[.none,.bool false,.ref s.heap.objs.size,rawInt 0,.none,.none]}) rfl
 rw [hz] at he ⊢
 have it0:g1.get? s.heap.objs.size=some {cls:= .type "tuple_iterator",data:= .fields #[.ref l,.int 0 0]}:=by rw [←h1]; exact Heap.get?_push_size _ rfl
 have kp:∀ b o,s.heap.get? b=some o→g1.get? b=some o:=fun b o x=>by rw [←h1]; exact Heap.get?_push_of_some _ x
 refine⟨⟨_,he,rfl⟩,h _ he ⟨_,Heap.get?_push_of_some _ it0,rfl,rfl⟩ (by rw [Heap.size_push,hz]) fun b o x=>Heap.get?_push_of_some _ (kp b o x)⟩
end
noncomputable def IteT (K:PySem.W.Frag) (a:Addr):It where
 go:=fun i H=>∃(xs:List V) (x:V),SqT K H a xs∧xs[i]? =some x
 yld:=fun i H v H'=>∃ t x,v= .ref t∧H t=none∧H'=upd H t (.tup [.int (i:Nat),x])∧∀ xs,SqT K H a xs→xs[i]? =some x
 stop:=fun i H=>∃ xs:List V,SqT K H a xs∧xs.length=i
theorem aWc {P:Program} {w:World} {K:PySem.W.Frag} {elts:List Expr} {kk:Nat} {tpos:Pos} (a e it:Addr):
  Turn P w K (.Tuple elts kk tpos) (IteT K a) [e,it] e (fun i h=>(∃ old,IsEnum h e it ((i:Nat):Int) old)∧h.IsTupleIter it a i∧e≠it∧a≠it∧a≠e) where
 mem:=by simp
 obj:=fun i h ⟨⟨old,he⟩,⟨o,ho,hc,hd⟩,_⟩ b hb=>by
  rcases(show b=e∨b=it by simpa using hb) with z | z
  ·rw [z]; exact⟨_,he,fun v q=>nomatch q⟩
  ·rw [z]; exact⟨o,ho,fun v q=>by rw [hd] at q; cases q⟩
 keep:=fun i h h' ⟨⟨old,he⟩,⟨o,ho,r⟩,hne⟩ k=>⟨⟨old,k e (by simp) _ he⟩,⟨o,k it (by simp) _ ho,r⟩,hne⟩
 item:=by
  intro X hP hw hK hc i pins s σ H E I hf ⟨⟨old,he⟩,hit,hne,hai,hae⟩ ⟨xs,x,hq,hx⟩
  subst hP hw hK
  obtain⟨its,rv,p,hz⟩:=I.tuple hq
  obtain⟨u,hu,ru⟩:=rv.get hx
  have hel:e < s.heap.objs.size:=Heap.lt_size he
  have hil:it < s.heap.objs.size:=by obtain⟨_,q,_⟩:=hit; exact Heap.lt_size q
  have hlt:i < its.toArray.size:=by
   have:=(List.getElem?_eq_some_iff.mp hu).1
   simpa using this
  have hh:X.A.in1.handled=none:=I.ok.hd hc
  refine wpAny_pyNext_enum_itemD (aS4 hh it a hai its.toArray) he ⟨hit,p⟩ hlt hne (by simp [hne,hae.symm]) fun y h' tk hy ho st hT hsz hk=>⟨_,rfl,?_⟩
  have ey:y=u:=by
   have hu':its.toArray[i]? =some u:=by simpa using hu
   rw [hu'] at hy; exact(Option.some.inj hy).symm
  subst ey
  refine wpAny_letOwnedTupleGo_enum (s:={s with heap:=h',toks:=tk+1}) ho fun h'' he' sb=>?_
  have hT2:h''.get? s.heap.objs.size=some {cls:= .type "tuple",data:= .seq #[.int i tk,y]}:=(sb.2 _ (Nat.ne_of_gt hel)).trans hT
  have new:ObjOk X.prog X.w (upd H s.heap.objs.size (.tup [.int (i:Nat),x])) h'' s.heap.objs.size (.tup [.int (i:Nat),x]):=
   ⟨by show 2≤sizeLine; decide,[.int i tk,y],.cons ⟨_,rfl⟩ (.cons ru .nil),⟨_,hT2,rfl,_,rfl⟩⟩
  have kp:∀ b ob,b∉[e,it]→s.heap.get? b=some ob→h''.get? b=some ob:=fun b ob hb q=>
   (sb.2 b (fun z=>hb (by simp [z]))).trans (hk b ob (fun z=>hb (by simp [z])) (fun z=>hb (by simp [z])) q)
  refine⟨.ref s.heap.objs.size,_,I.turnedNew (t':=tk+1) kp hf (Nat.le_refl _) new,rfl,⟨_,x,rfl,I.hok.fresh (Nat.le_refl _),rfl,fun ys hy=>by rw [I.tuple_inj hy hq]; exact hx⟩,⟨⟨y,?_⟩,?_,hne,hai,hae⟩,fun b hb=>?_⟩
  ·have e1:((i+1:Nat):Int)=(i:Int)+1:=by omega
   rw [e1]; exact he'
  ·obtain⟨⟨o1,ho1,r1⟩,_⟩:=st
   exact⟨o1,(sb.2 it (Ne.symm hne)).trans ho1,r1⟩
  ·have hb':b < s.heap.objs.size:=by
    rcases(show b=e∨b=it by simpa using hb) with z | z
    ·rw [z]; exact hel
    ·rw [z]; exact hil
   rw [upd_ne (Nat.ne_of_lt hb')]
   exact(hf b hb).1
 done:=by
  intro X hP hw hK hc i pins s σ H E I hf ⟨⟨old,he⟩,hit,hne,hai,hae⟩ ⟨xs,hq,hx⟩
  subst hP hw hK
  obtain⟨its,rv,p,hz⟩:=I.tuple hq
  obtain⟨f0,f1,f2,f3,f4,f5⟩:=hf it (by simp)
  have hh:X.A.in1.handled=none:=I.ok.hd hc
  have hn:its.toArray.size=i:=by rw [List.size_toArray,←rv.length]; exact hx
  refine wpAny_pyNext_enum_endD (aS4 hh it a hai its.toArray) he ⟨by rw [hn]; exact hit,p⟩ fun h' eb=>⟨rfl,I.turned (t':=s.toks) (fun b o hb q=>eb b o hb q) f0 f1 f3 f4 f5⟩
 self:=fun A i s Q E st h=>let ⟨⟨_,he⟩,_⟩:=st; wpAny_pyIter_enum he h
noncomputable def bGj (K:PySem.W.Frag) (ta:TA):TI:=fun σ H R=>ta σ H fun vs H1=>∃ a xs,vs=[.ref a]∧SqT K H1 a xs∧R (IteT K a) H1
section
variable {X:Cx} {W:WX}
theorem bB0 {e:Expr} {ta:TA} {p pos tpos:Pos} {elts:List Expr} {kk:Nat} (hg:Gl X "enumerate") (hm:X.mg "enumerate"=none) (ha:PA X [e] ta) (hs:starEach [e] X.env=[(false,eval e X.env)]):
  PI X (.Tuple elts kk tpos) (.Call (.Name "enumerate" p) [e] [] pos) (bGj X.K ta):=by
 refine⟨fun pins s σ H R I h=>PyProof.Rows.Call_ (ld_blt I hg hm PyProof.Rows.boot_enumerate (PyProof.Rows.callWith_type1 (thn (ha.run pos pins s σ H _ I h) fun us s1 ⟨vs,H1,I1,r1,a,xs,ex,hq,q⟩=>?_) hs rfl))⟩
 subst ex
 rw [Vals.ref1 r1]
 obtain⟨its,rv,p',hz⟩:=I1.tuple hq
 have hal:a < s1.heap.objs.size:=p'.lt
 refine aPo p' fun h' he hit hsz hk=>wpAny_pyIter_enum he ?_
 have I2:Inv X pins σ H1 {s1 with heap:=h'}:=I1.kept (t':=s1.toks) hk
 refine⟨s1.heap.objs.size+1,[s1.heap.objs.size+1,s1.heap.objs.size],_,_,H1,rfl,I2,aWc a (s1.heap.objs.size+1) s1.heap.objs.size,⟨⟨.none,he⟩,hit,Nat.succ_ne_self _,Nat.ne_of_lt hal,Nat.ne_of_lt (Nat.lt_succ_of_lt hal)⟩,fun b hb=>?_,q⟩
 have hle:s1.heap.objs.size≤b:=by
  rcases(show b=s1.heap.objs.size+1∨b=s1.heap.objs.size by simpa using hb) with z | z
  ·rw [z]; exact Nat.le_add_right _ _
  ·rw [z]; exact Nat.le_refl _
 exact I1.fpOk hle (I1.hok.fresh hle)
noncomputable def aGe (n:Nat):List T→List T
 | []=>[]
 | t::ts=> .tup [.int (n:Nat),t]::aGe (n+1) ts
theorem aM3:∀(ts:List T) (n i:Nat),(aGe n ts)[i]? =ts[i]?.map fun t=> .tup [.int ((n+i:Nat):Int),t]
 | [],n,i=>by simp [aGe]
 | t::ts,n,0=>by simp [aGe]
 | t::ts,n,i+1=>by
  rw [aGe,List.getElem?_cons_succ,List.getElem?_cons_succ,aM3 ts (n+1) i]
  have e:n+1+i=n+(i+1):=by omega
  rw [e]
theorem aM2:∀(ts:List T) (n:Nat),(aGe n ts).length=ts.length
 | [],_=>rfl
 | t::ts,n=>by simp [aGe,aM2 ts]
theorem bBz {K:PySem.W.Frag} {Φ Z1:Hp} {ρ1:List Addr} {H:Hp} {m:Mem} (r:Rel K Φ Z1 ρ1 H m) {p:Addr} (hp:H p=none) {ts:List T} {vs:List V} (rs:Reps K Z1 ρ1 ts vs):
  ∃ Z2,Ext Z1 Z2 ρ1 ρ1∧Rel K Φ Z2 ρ1 (upd H p (.tup vs)) m∧Rep K Z2 ρ1 (.tup ts) (.ref p):=by
 obtain⟨r2,e2⟩:=r.allocZ hp (.tup vs)
 refine⟨_,e2,r2,?_⟩
 unfold Rep
 exact⟨p,vs,rfl,.of upd_same,rs.ext e2⟩
theorem aUm {K:PySem.W.Frag} {Z:Hp} {ρ:List Addr} {a:Addr} {vs:List V} {ts:List T} (h:SqL K Z a vs) (rs:Reps K Z ρ ts vs):Wk K Z ρ (Ite K a) (aGe 0 ts):=fun Φ Z1 ρ1 H m i e r=>by
 have q:SqL K H a vs:=r.same.seq (e.z.seq h)
 refine⟨fun hi=>⟨vs,q,by rw [hi,aM2,rs.length]; exact Nat.le_refl _⟩,fun t ht=>?_⟩
 rw [aM3] at ht
 obtain⟨u,hu,rfl⟩:=Option.map_eq_some_iff.mp ht
 obtain⟨v,h1,h2⟩:=rs.get hu
 refine⟨⟨vs,v,q,h1⟩,fun x H' ⟨p,y,e1,hp,e3,hy⟩=>?_⟩
 have ey:v=y:=by have:=hy vs q; rw [h1] at this; exact Option.some.inj this
 subst ey; subst e1; subst e3
 have:=bBz r hp (ts:=[.int ((0+i:Nat):Int),u]) (vs:=[.int (i:Nat),v]) (.cons (by rw [Nat.zero_add]; exact wW) (.cons (h2.ext e) .nil))
 exact this
theorem bA5 {K:PySem.W.Frag} {Z:Hp} {ρ:List Addr} {a:Addr} {vs:List V} {ts:List T} (h:SqT K Z a vs) (rs:Reps K Z ρ ts vs):Wk K Z ρ (IteT K a) (aGe 0 ts):=fun Φ Z1 ρ1 H m i e r=>by
 have q:SqT K H a vs:=Same.sqt r.same (Same.sqt e.z h)
 refine⟨fun hi=>⟨vs,q,by rw [hi,aM2,rs.length]⟩,fun t ht=>?_⟩
 rw [aM3] at ht
 obtain⟨u,hu,rfl⟩:=Option.map_eq_some_iff.mp ht
 obtain⟨v,h1,h2⟩:=rs.get hu
 refine⟨⟨vs,v,q,h1⟩,fun x H' ⟨p,y,e1,hp,e3,hy⟩=>?_⟩
 have ey:v=y:=by have:=hy vs q; rw [h1] at this; exact Option.some.inj this
 subst ey; subst e1; subst e3
 exact bBz r hp (ts:=[.int ((0+i:Nat):Int),u]) (vs:=[.int (i:Nat),v]) (.cons (by rw [Nat.zero_add]; exact wW) (.cons (h2.ext e) .nil))
noncomputable def gEn:List T→Mem→Out (List T):=fun ts m1=>match ts with
 | [.lst us]=> .ok (aGe 0 us) m1
 | [.rls us]=> .ok (aGe 0 us) m1
 | [.tup us]=> .ok (aGe 0 us) m1
 | _=> .no
noncomputable def aFg (fs:LF):LF:=fun env m=>(fs env m).bind gEn
theorem aXp {e:Expr} {fs:LF} {p pos tpos:Pos} {elts:List Expr} {kk:Nat} (ha:SA X W [e] fs) (hm:X.mg "enumerate"=none) (hg:Gl X "enumerate":=by rfl) (hs:starEach [e] X.env=[(false,eval e X.env)]:=by rfl):
  SI X W (.Tuple elts kk tpos) (.Call (.Name "enumerate" p) [e] [] pos) (aFg fs):=by
 refine⟨_,aYf (pi_enum hg hm ha.pa hs) (bB0 hg hm ha.pa hs),fun Φ Z ρ σ H env m R F p=>?_⟩
 have key:∀(R':List V→Hp→Prop),(∀ ts m1 Z1 ρ1 H1 vs,fs env m= .ok ts m1→Ext Z Z1 ρ ρ1→Fits X.K Φ Z1 ρ1 σ H1 env m1→Reps X.K Z1 ρ1 ts vs→aIr X.K W Φ Z1 ρ1 σ R (gEn ts m1)→R' vs H1)→trL X.K W fs σ H R':=by
  intro R' hk
  refine trL_bind (P:=aIr X.K W Φ Z ρ σ R) F (fun ts m1 Z1 ρ1 H1 vs e0 e1 F1 r p1=>hk ts m1 Z1 ρ1 H1 vs e0 e1 F1 r ?_) (fun _ _ _ _ h=>h) (fun h=>h) p
  cases hi:gEn ts m1 with
  | ok us m2=>rw [hi] at p1; exact fun Z2 ρ2 H2 J e2=>p1 Z2 ρ2 H2 J (e1.trans e2)
  | ex _ _ _ _=>rw [hi] at p1; exact fun Z2 ρ2 H2 d us e2=>p1 Z2 ρ2 H2 d us (e1.trans e2)
  | no=>rw [hi] at p1; exact p1
 cases e0:fs env m with
 | no=>unfold aFg at p; rw [e0] at p; exact p.elim
 | ex C ns vs m1=>exact .inl (key _ fun ts m1 Z1 ρ1 H1 vs e1=>by rw [e0] at e1; cases e1)
 | ok ts m1=>
  have hp:aIr X.K W Φ Z ρ σ R (gEn ts m1):=by unfold aFg at p; rw [e0] at p; exact p
  match ts,e0,hp with
  | [.lst us],e0,_=>
   refine .inl (key _ fun ts m1 Z1 ρ1 H1 vs e1 e F1 r p1=>?_)
   rw [e0] at e1; cases e1
   obtain⟨v,rfl,rv⟩:=jE r
   unfold Rep at rv
   obtain⟨a,ws,rfl,q,rs⟩:=rv
   exact⟨a,ws,rfl,.of (F1.rel.zin _ _ q),p1 _ _ _ _ Ext.refl F1.rel (aUm (.of q) rs)⟩
  | [.rls us],e0,_=>
   refine .inl (key _ fun ts m1 Z1 ρ1 H1 vs e1 e F1 r p1=>?_)
   rw [e0] at e1; cases e1
   obtain⟨v,rfl,rv⟩:=jE r
   unfold Rep at rv
   obtain⟨a,ws,rfl,q,rs⟩:=rv
   exact⟨a,ws,rfl,F1.rel.same.seq q,p1 _ _ _ _ Ext.refl F1.rel (aUm q rs)⟩
  | [.tup us],e0,_=>
   refine .inr (key _ fun ts m1 Z1 ρ1 H1 vs e1 e F1 r p1=>?_)
   rw [e0] at e1; cases e1
   obtain⟨v,rfl,rv⟩:=jE r
   unfold Rep at rv
   obtain⟨a,ws,rfl,q,rs⟩:=rv
   exact⟨a,ws,rfl,Same.sqt F1.rel.same q,p1 _ _ _ _ Ext.refl F1.rel (bA5 q rs)⟩
  | [],e0,hp=>exact(show False from hp).elim
  | [.non],e0,hp=>exact(show False from hp).elim
  | [.bl _],e0,hp=>exact(show False from hp).elim
  | [.int _],e0,hp=>exact(show False from hp).elim
  | [.str _],e0,hp=>exact(show False from hp).elim
  | [.ty _],e0,hp=>exact(show False from hp).elim
  | [.dct _ _],e0,hp=>exact(show False from hp).elim
  | [.ins _ _ _],e0,hp=>exact(show False from hp).elim
  | [.loc _],e0,hp=>exact(show False from hp).elim
  | a::b::c,e0,hp=>cases a<;>exact(show False from hp).elim
end
end Ev
namespace Ev
open PySem L2
variable [Wrl]
section
variable {K:PySem.W.Frag} {W:WX} {Φ Z:Hp} {ρ:List Addr} {σ:L2.St} {H:Hp} {m:Mem} {X:Cx}
noncomputable def fld (f:Str):List Str→List T→Option T
 | n::ns,t::ts=>if eqS f n then some t else fld f ns ts
 | _,_=>none
theorem bCk {f:Str}:∀ {ns:List Str} {ts:List T} {vs:List V} {t:T},Reps K Z ρ ts vs→fld f ns ts=some t→∃ v,(ns.zip vs).lookup f=some v∧Rep K Z ρ t v
 | [],_,_,_,_,e=>by cases e
 | _::_,[],_,_,_,e=>by cases e
 | n::ns,t::ts,_,u,h,e=>by
  unfold Reps at h
  obtain⟨v,vs,rfl,r,rs⟩:=h
  unfold fld at e
  rw [List.zip_cons_cons,List.lookup_cons]
  split at e
  ·rename_i h
   cases e
   have h:=uG.mp h
   subst h
   exact⟨v,by simp,r⟩
  ·rename_i h
   have:(f ==n)=false:=beq_eq_false_iff_ne.mpr fun z=>h (uG.mpr z)
   rw [this]
   exact bCk rs e
theorem aVu {f:Str}:∀ {ns:List Str} {vs:List V},f∉ns→(ns.zip vs).lookup f=none
 | [],_,_=>rfl
 | _::_,[],_=>rfl
 | n::ns,v::vs,h=>by
  rw [List.zip_cons_cons,List.lookup_cons]
  have:(f ==n)=false:=beq_eq_false_iff_ne.mpr fun z=>h (by rw [z]; exact List.mem_cons_self)
  rw [this]
  exact aVu fun z=>h (List.mem_cons_of_mem _ z)
noncomputable def memS (f:Str) (ns:List Str):Bool:=ns.any fun n=>eqS f n
theorem aPb {f:Str} {ns:List Str} (h:(!memS f ns)=true):f∉ns:=fun z=>by
 have:memS f ns=true:=List.any_eq_true.mpr ⟨f,z,uG.mpr rfl⟩
 rw [this] at h; cases h
noncomputable def aUb (m:Mem):T→Option (Str×List Str×List T)
 | .ins c ns ts=>some (c,ns,ts)
 | .loc n=>match m[n]? with
  | some (some (.ins c ns ts))=>some (c,ns,ts)
  | _=>none
 | _=>none
theorem aF5 (r:Rel K Φ Z ρ H m) {t:T} {v:V} {c:Str} {ns:List Str} {ts:List T} (h:Rep K Z ρ t v) (e:aUb m t=some (c,ns,ts)):
  ∃ a C dx vs,v= .ref a∧CAt K c C∧H a=some (.ins C dx (ns.zip vs))∧ns.length=vs.length∧Reps K Z ρ ts vs:=by
 cases t with
 | ins c' ns' ts'=>
  cases e
  unfold Rep at h
  obtain⟨a,C,dx,vs,rfl,k,q,hl,rs⟩:=h
  exact⟨a,C,dx,vs,rfl,k,r.zin _ _ q,hl,rs⟩
 | loc n=>
  unfold Rep at h
  obtain⟨a,ha,rfl⟩:=h
  unfold aUb at e
  simp only at e
  split at e
  ·rename_i c' ns' ts' em
   cases e
   obtain⟨_,C,dx,vs,q,k,hl,rs⟩:=r.mem n _ a em ha
   exact⟨a,C,dx,vs,rfl,k,q,hl,rs⟩
  ·cases e
 | _=>cases e
structure ClsT (K:PySem.W.Frag) (c:Str):Prop where
 ex:∃ C,CAt K c C∧Cls K C
noncomputable def NoA (K:PySem.W.Frag) (c:Str) (f:Str):Prop:=∀ C,CAt K c C→NoAttr K C f
noncomputable def eFld (c f:Str) (fe:EF):EF:=fun env m=>(fe env m).bind fun x m1=>match aUb m1 x with
 | some (d,ns,ts)=>if eqS d c then match fld f ns ts with
  | some t=> .ok t m1
  | none=> .no else .no
 | none=> .no
theorem yY {c f:Str} {e:Expr} {fe:EF} {pos:Pos} (hc:ClsT X.K c) (hn:NoA X.K c f) (he:SE X W e fe) (hb:attributeBase e f X.env (eval e X.env)=eval e X.env:=by rfl):SE X W (.Attribute e f pos) (eFld c f fe):=by
 refine⟨xY (pe_fld he.pe hb) fun σ H Q ⟨Φ,Z,ρ,env,m,F,p⟩=>?_⟩
 refine tr_bind (P:=Post X.K W Φ Z ρ σ Q) F (fun x m1 Z1 ρ1 H1 vx _ e1 F1 rx p1=>?_) (fun _ _ _ _ h=>h) (fun h=>h) p
 split at p1
 ·rename_i d ns ts hi
  split at p1
  ·rename_i hd
   have hd:=uG.mp hd
   subst hd
   split at p1
   ·rename_i t ht
    obtain⟨a,C,dx,vs,rfl,k,q,hl,rs⟩:=aF5 F1.rel rx hi
    obtain⟨v,h1,h2⟩:=bCk rs ht
    obtain⟨C',k',hcl⟩:=hc.ex
    have:=k.inj k'
    subst this
    exact⟨a,C,dx,_,v,rfl,q,hcl,hn C k,h1,p1 _ _ _ _ e1 F1.rel h2⟩
   ·exact p1.elim
  ·exact p1.elim
 ·exact p1.elim
noncomputable def putN (f:Str) (t:T):List Str→List T→List Str×List T
 | n::ns,u::us=>if eqS f n then(n::ns,t::us) else let (a,b):=putN f t ns us; (n::a,u::b)
 | _,_=>([f],[t])
theorem aYa {f:Str} {t:T} {v:V} (rt:Rep K Z ρ t v):∀ {ns:List Str} {ts:List T} {vs:List V},ns.length=vs.length→Reps K Z ρ ts vs→
  ∃ ws,putF f v (ns.zip vs)=(putN f t ns ts).1.zip ws∧(putN f t ns ts).1.length=ws.length∧Reps K Z ρ (putN f t ns ts).2 ws
 | [],ts,vs,hl,rs=>by
  cases vs with
  | nil=>
   have:=rs.length
   cases ts with
   | nil=>exact⟨[v],rfl,rfl,.cons rt .nil⟩
   | cons _ _=>cases this
  | cons _ _=>cases hl
 | n::ns,ts,vs,hl,rs=>by
  cases vs with
  | nil=>cases hl
  | cons w ws=>
   cases ts with
   | nil=>have:=rs.length; cases this
   | cons u us=>
    have rs0:=rs
    unfold Reps at rs
    obtain⟨v',ws',e0,r,rs⟩:=rs
    cases e0
    unfold putN
    show ∃ zs,(if n=f then(n,v)::ns.zip ws else(n,w)::putF f v (ns.zip ws))=_∧_
    by_cases h:f=n
    ·subst h
     rw [if_pos rfl,if_pos (uG.mpr rfl)]
     exact⟨v::ws,rfl,by simpa using hl,.cons rt rs⟩
    ·rw [if_neg (fun z=>h z.symm),if_neg (fun z=>h (uG.mp z))]
     obtain⟨zs,h1,h2,h3⟩:=aYa rt (ns:=ns) (by simpa using hl) rs
     exact⟨w::zs,by rw [h1]; rfl,by simpa using h2,.cons r h3⟩
noncomputable def jL (c f:Str) (fe fo:EF):SF:=sOf fe fun t env m1=>match fo env m1 with
 | .ok (.loc n) m2=>match m2[n]? with
  | some (some (.ins d ns ts))=>if eqS d c&&decide (ns.length < 900) then .nx env (m2.set n (some (.ins d (putN f t ns ts).1 (putN f t ns ts).2))) else .no
  | _=> .no
 | _=> .no
theorem vQ {c f:Str} {o e:Expr} {fe fo:EF} {pos pos':Pos} (hc:ClsT X.K c) (hn:NoA X.K c f) (he:SE X W e fe) (ho:SE X W o fo) (hs:swapsWith e (some (.Attribute o f pos')) pos.line X.env=pure false:=by rfl):SS X W (.Assign [.Attribute o f pos'] e pos) (jL c f fe fo):=by
 refine⟨tY (ps_fld ho.pe he.pe hs) fun D σ H h=>tV (fun Φ Z1 ρ1 H1 env m1 t v F r p=>?_) h⟩
 show tr X.K W fo σ H1 fun ov H2=>∃ a C dx fs,ov=V.ref a∧H2 a=some (.ins C dx fs)∧Cls X.K C∧NoAttr X.K C f∧fs.length < 1000∧D.nx σ (upd H2 a (.ins C dx (putF f v fs)))
 cases eo:fo env m1 with
 | no=>simp only [eo] at p; exact p.elim
 | ex _ _ _ _=>simp only [eo] at p; exact p.elim
 | ok to m2=>
  simp only [eo] at p
  refine⟨Φ,Z1,ρ1,env,m1,F,?_⟩
  rw [eo]
  intro Z2 ρ2 H2 vo e2 r2 ro
  cases to with
  | loc n=>
   simp only at p
   split at p
   ·rename_i d ns ts em
    split at p
    ·rename_i hd
     rw [Bool.and_eq_true] at hd
     have hl9:=of_decide_eq_true hd.2
     obtain rfl:=uG.mp hd.1
     unfold Rep at ro
     obtain⟨a,ha,rfl⟩:=ro
     obtain⟨hz,C,dx,vs,q,k,hl,rs⟩:=r2.mem n _ a em ha
     obtain⟨C',k',hcl⟩:=hc.ex
     have:=k.inj k'
     subst this
     obtain⟨ws,w1,w2,w3⟩:=aYa (f:=f) (r.ext e2) hl rs
     refine⟨a,C,dx,_,rfl,q,hcl,hn C k,by rw [List.length_zip,←hl,Nat.min_self]; omega,?_⟩
     rw [w1]
     exact p _ _ _ _ e2 ⟨r2.write em ha (u:= .ins d _ _) ⟨C,dx,ws,rfl,k,w2,w3⟩,F.env.ext e2⟩ rfl
    ·exact p.elim
   ·exact p.elim
  | _=>exact(show False from p).elim
structure MethOk (P:Program) (w:World) (K:PySem.W.Frag) (mg:Str→Option Value) (base:Heap) (n k:Nat) (c mn:Str) (F:FS):Prop where
 ok:∃(C f:Addr) (fd:FuncData) (ps:List Str),ps.length=n∧CAt K c C∧Cls K C∧Meth K C mn f∧FnOk P w K mg base (L2.CX P w) k f fd ps (spF K n F)∧Binds K fd ps []
noncomputable def wQ (c mn:Str) (n:Nat) (F:FS) (fo:EF) (fs:LF):EF:=fun env m=>(fo env m).bind fun x m1=>match aUb m1 x with
 | some (d,ns,_)=>if eqS d c&&!memS mn ns then(fs env m1).bind fun ts m2=>if ts.length+1=n then F (x::ts) m2 else .no else .no
 | none=> .no
theorem pe_methS {CX:CXT} {k:Nat} {f C:Addr} {fd:FuncData} {ps:List Str} {sp:Sp} {E:L2.St→XK} {mn:Str} {pos apos:Pos} {e o:Expr} {es:List Expr} {ta:TE} {t:TA} {pl:Sem Bool} (he:PE X o ta) (c:Cls X.K C) (hm:Meth X.K C mn f)
  (F:FnOk X.prog X.w X.K X.mg X.base CX k f fd ps sp) (hr:Room k X.A) (hb:Binds X.K fd ps []) (hx:∀ σ,PassesAt CX X σ (E σ)) (ha:PA X (e::es) t)
  (hst:starEach (e::es) X.env=(false,eval e X.env)::starEach es X.env) (hpl:(backTo pos (starEach es X.env)).any (·.1)=false)
  (ht:eval (.Call (.Attribute o mn apos) (e::es) [] pos) X.env=(do let ov ←eval o X.env; standAt apos.atName; let (f,first) ←holding [ov] (getMethod ov mn pl); callWith pos f first (backTo pos (starEach (e::es) X.env)) (backToKw pos (keywordEach [] X.env)))):
  PE X (.Call (.Attribute o mn apos) (e::es) [] pos) (fun σ H Q=>ta σ H fun x H1=>∃ a dx fs,x= .ref a∧H1 a=some (.ins C dx fs)∧fs.lookup mn=none∧t σ H1 fun vs H2=>sp (x::vs) H2 Q (E σ)):=by
 refine⟨fun pins s σ H Q I h=>PySem.W.methodCall_KW (pl:=pl) (thn (he.run pins s σ H _ I h) fun u s1 ⟨x,H1,I1,rx,a,dx,fs,ex,ea,l,q⟩=>?_) ht⟩
 subst ex
 obtain rfl:u=Value.ref a:=rx
 refine getmeth_ok I1 ea c hm l (PySem.W.callWith_K (first:=[.ref a]) (h₀:=X.base) I.ok.mod.kin hm.kp (thn (ha.run pos pins s1 σ H1 _ I1 q) fun us s2 ⟨vs,H2,I2,r,q2⟩=>⟨I2.kIn,?_⟩) hst hpl)
 exact run_fnS (us:= .ref a::us) (vs:= .ref a::vs) F hr hb (hx σ) I2 (.cons rfl r) q2
theorem xU {k j n:Nat} {c mn:Str} {F:FS} {o e:Expr} {es:List Expr} {fo:EF} {fs:LF} {apos pos:Pos} {pl:Sem Bool} (ck:Cok X W k) (D:MethOk X.prog X.w X.K X.mg X.base n j c mn F) (ho:SE X W o fo) (ha:SA X W (e::es) fs) (hj:j≤k:=by decide)
  (hst:starEach (e::es) X.env=(false,eval e X.env)::starEach es X.env:=by rfl) (hpl:(backTo pos (starEach es X.env)).any (·.1)=false:=by rfl)
  (ht:eval (.Call (.Attribute o mn apos) (e::es) [] pos) X.env=(do let ov ←eval o X.env; standAt apos.atName; let (f,first) ←holding [ov] (getMethod ov mn pl); callWith pos f first (backTo pos (starEach (e::es) X.env)) (backToKw pos (keywordEach [] X.env))):=by rfl):
  SE X W (.Call (.Attribute o mn apos) (e::es) [] pos) (wQ c mn n F fo fs):=by
 obtain⟨C,f,fd,ps,hn,hC,hcl,hm,hF,hb⟩:=D.ok
 refine⟨xY (pe_methS ho.pe hcl hm hF (ck.room.mono hj) hb (fun σ=>passAt ck.tk σ) ha.pa hst hpl ht) fun σ H Q ⟨Φ,Z,ρ,env,m,Fi,p⟩=>?_⟩
 refine tr_bind (P:=Post X.K W Φ Z ρ σ Q) Fi (fun x m1 Z1 ρ1 H1 vx _ e1 F1 rx p1=>?_) (fun _ _ _ _ h=>h) (fun h=>h) p
 split at p1
 ·rename_i d ns ts0 hi
  split at p1
  ·rename_i hd
   rw [Bool.and_eq_true] at hd
   have hno:=aPb hd.2
   obtain rfl:=uG.mp hd.1
   obtain⟨a,C',dx,us,rfl,k',q,hl,rs⟩:=aF5 F1.rel rx hi
   have:=k'.inj hC
   subst this
   refine⟨a,dx,_,rfl,q,aVu hno,?_⟩
   refine trL_bind (P:=Post X.K W Φ Z1 ρ1 σ Q) F1 (fun ts m2 Z2 ρ2 H2 vs _ e2 F2 rts p2=>?_) (fun _ _ _ _ h=>h) (fun h=>h) (p1.ext e1)
   split at p2
   ·rename_i hlen
    have rxs:Reps X.K Z2 ρ2 (x::ts) (.ref a::vs):= .cons (rx.ext e2) rts
    exact⟨Φ,Z2,ρ2,m2,x::ts,F2.rel,rxs,by rw [←rxs.length]; exact hlen,aVd (p2.ext e2)⟩
   ·exact p2.elim
  ·exact p1.elim
 ·exact p1.elim
theorem aYh {CX:CXT} {k:Nat} {f C:Addr} {fd:FuncData} {ps:List Str} {sp:Sp} {E:L2.St→XK} {mn:Str} {pos apos:Pos} {o:Expr} {ta:TE} {pl:Sem Bool} (he:PE X o ta) (c:Cls X.K C) (hm:Meth X.K C mn f)
  (F:FnOk X.prog X.w X.K X.mg X.base CX k f fd ps sp) (hr:Room k X.A) (hb:Binds X.K fd ps []) (hx:∀ σ,PassesAt CX X σ (E σ))
  (ht:eval (.Call (.Attribute o mn apos) [] [] pos) X.env=(do let ov ←eval o X.env; standAt apos.atName; let (f,first) ←holding [ov] (getMethod ov mn pl); callWith pos f first (backTo pos (starEach [] X.env)) (backToKw pos (keywordEach [] X.env)))):
  PE X (.Call (.Attribute o mn apos) [] [] pos) (fun σ H Q=>ta σ H fun x H1=>∃ a dx fs,x= .ref a∧H1 a=some (.ins C dx fs)∧fs.lookup mn=none∧sp [x] H1 Q (E σ)):=by
 refine⟨fun pins s σ H Q I h=>PySem.W.methodCall_KW (pl:=pl) (thn (he.run pins s σ H _ I h) fun u s1 ⟨x,H1,I1,rx,a,dx,fs,ex,ea,l,q⟩=>?_) ht⟩
 subst ex
 obtain rfl:u=Value.ref a:=rx
 exact getmeth_ok I1 ea c hm l (PySem.W.callWith_K0 (first:=[.ref a]) I1.kIn hm.kp (run_fnS (us:=[.ref a]) (vs:=[.ref a]) F hr hb (hx σ) I1 (.cons rfl .nil) q))
theorem aAh {k j n:Nat} {c mn:Str} {F:FS} {o:Expr} {fo:EF} {apos pos:Pos} {pl:Sem Bool} (ck:Cok X W k) (D:MethOk X.prog X.w X.K X.mg X.base n j c mn F) (ho:SE X W o fo) (hj:j≤k:=by decide)
  (ht:eval (.Call (.Attribute o mn apos) [] [] pos) X.env=(do let ov ←eval o X.env; standAt apos.atName; let (f,first) ←holding [ov] (getMethod ov mn pl); callWith pos f first (backTo pos (starEach [] X.env)) (backToKw pos (keywordEach [] X.env))):=by rfl):
  SE X W (.Call (.Attribute o mn apos) [] [] pos) (wQ c mn n F fo lNil):=by
 obtain⟨C,f,fd,ps,hn,hC,hcl,hm,hF,hb⟩:=D.ok
 refine⟨xY (aYh ho.pe hcl hm hF (ck.room.mono hj) hb (fun σ=>passAt ck.tk σ) ht) fun σ H Q ⟨Φ,Z,ρ,env,m,Fi,p⟩=>?_⟩
 refine tr_bind (P:=Post X.K W Φ Z ρ σ Q) Fi (fun x m1 Z1 ρ1 H1 vx _ e1 F1 rx p1=>?_) (fun _ _ _ _ h=>h) (fun h=>h) p
 split at p1
 ·rename_i d ns ts0 hi
  split at p1
  ·rename_i hd
   rw [Bool.and_eq_true] at hd
   have hno:=aPb hd.2
   obtain rfl:=uG.mp hd.1
   obtain⟨a,C',dx,us,rfl,k',q,hl,rs⟩:=aF5 F1.rel rx hi
   have:=k'.inj hC
   subst this
   refine⟨a,dx,_,rfl,q,aVu hno,?_⟩
   have p2:Post X.K W Φ Z ρ σ Q (if([]:List T).length+1=n then F [x] m1 else .no):=p1
   split at p2
   ·rename_i hlen
    have rxs:Reps X.K Z1 ρ1 [x] [.ref a]:= .cons rx .nil
    exact⟨Φ,Z1,ρ1,m1,[x],F1.rel,rxs,by rw [←rxs.length]; exact hlen,aVd (p2.ext e1)⟩
   ·exact p2.elim
  ·exact p1.elim
 ·exact p1.elim
structure PropOk (P:Program) (w:World) (K:PySem.W.Frag) (mg:Str→Option Value) (base:Heap) (k:Nat) (c f:Str) (F:FS):Prop where
 ok:∃(C p g:Addr) (fd:FuncData) (ps:List Str),ps.length=1∧CAt K c C∧Cls K C∧PropOf K C f p g∧FnOk P w K mg base (L2.CX P w) k g fd ps (spF K 1 F)∧Binds K fd ps []
noncomputable def aK7 (c:Str) (F:FS) (fo:EF):EF:=fun env m=>(fo env m).bind fun x m1=>match aUb m1 x with
 | some (d,_,_)=>if eqS d c then match F [x] m1 with
  | .ok t m2=> .ok t m2
  | _=> .no else .no
 | none=> .no
theorem aAg {k j:Nat} {c f:Str} {F:FS} {o:Expr} {fo:EF} {pos:Pos} (ck:Cok X W k) (D:PropOk X.prog X.w X.K X.mg X.base j c f F) (ho:SE X W o fo) (hj:j+1≤k:=by decide) (hab:attributeBase o f X.env (eval o X.env)=eval o X.env:=by rfl):
  SE X W (.Attribute o f pos) (aK7 c F fo):=by
 obtain⟨C,p,g,fd,ps,hn,hC,hcl,hp,hF,hb⟩:=D.ok
 refine⟨xY (pe_prop ho.pe hcl hp hF (ck.room.mono hj) hb .nil passL hab) fun σ H Q ⟨Φ,Z,ρ,env,m,Fi,p⟩=>?_⟩
 refine tr_bind (P:=Post X.K W Φ Z ρ σ Q) Fi (fun x m1 Z1 ρ1 H1 vx _ e1 F1 rx p1=>?_) (fun _ _ _ _ h=>h) (fun h=>h) p
 split at p1
 ·rename_i d ns ts0 hi
  split at p1
  ·rename_i hd
   have hd:=uG.mp hd
   subst hd
   obtain⟨a,C',dx,us,rfl,k',q,hl,rs⟩:=aF5 F1.rel rx hi
   have:=k'.inj hC
   subst this
   refine⟨a,dx,_,rfl,q,Φ,Z1,ρ1,m1,[x],F1.rel,.cons rx .nil,rfl,?_⟩
   cases e:F [x] m1 with
   | ok t m2=>
    rw [e] at p1
    exact fun Z2 ρ2 H2 v e2=>p1 Z2 ρ2 H2 v (e1.trans e2)
   | ex _ _ _ _=>rw [e] at p1; exact p1.elim
   | no=>rw [e] at p1; exact p1.elim
  ·exact p1.elim
 ·exact p1.elim
structure InitOk (P:Program) (w:World) (K:PySem.W.Frag) (mg:Str→Option Value) (base:Heap) (n k:Nat) (c:Str) (F:FS):Prop where
 ok:∃(C f:Addr) (fd:FuncData) (ps:List Str),ps.length=n+1∧CAt K c C∧mg c=some (.ref C)∧Mk K C f∧FnOk P w K mg base (L2.CX P w) k f fd ps (spF K (n+1) F)∧Binds K fd ps []
noncomputable def aIm (fz:Bool) (c:Str) (n:Nat) (F:FS) (fs:LF):EF:=fun env m=>(fs env m).bind fun ts m1=>if ts.length=n then match F (.loc m1.length::ts) (m1++[some (.ins c [] [])]) with
 | .ok .non m2=>if fz then match m2[m1.length]? with
   | some (some (.ins d ns us))=> .ok (.ins d ns us) (m2.set m1.length none)
   | _=> .no
  else .ok (.loc m1.length) m2
 | .ex C ns vs m2=> .ex C ns vs m2
 | _=> .no else .no
theorem bB4 {CX:CXT} {k:Nat} {f C:Addr} {fd:FuncData} {ps:List Str} {sp:Sp} {E:L2.St→XK} {x:Str} {p pos:Pos} {e:Expr} {es:List Expr} {t:TA} (M:Mk X.K C f) (F:FnOk X.prog X.w X.K X.mg X.base CX k f fd ps sp) (hr:Room (k+1) X.A)
  (hg:Gl X x) (hm:X.mg x=some (.ref C)) (hb:Binds X.K fd ps []) (hx:∀ σ,PassesAt CX X σ (E σ)) (ha:PA X (e::es) t) (hdb:(x ==("__debug__":Str))=false) (he:starEach (e::es) X.env=(false,eval e X.env)::starEach es X.env)
  (hpl:(backTo pos (starEach es X.env)).any (·.1)=false):PE X (.Call (.Name x p) (e::es) [] pos) (fun σ H Q=>t σ H fun vs H1=>∀ y dx,H1 y=none→H1 dx=none→dx≠y→
   sp (.ref y::vs) (upd (upd H1 dx (.own y)) y (.ins C dx [])) (fun v H2=>v= .non∧Q (.ref y) H2) (E σ)):=by
 refine⟨fun pins s σ H Q I h=>wpAny_Call_Name_kw (ld_glob I hg hm (PySem.W.callWith_K (h₀:=X.base) I.ok.mod.kin M.kp (thn (ha.run pos pins s σ H _ I h) fun us s1 ⟨vs,H1,I1,r,q⟩=>⟨I1.kIn,?_⟩) he hpl) hdb)⟩
 generalize hy:s1.heap.objs.size=y0
 have hq:=q (y0+1) y0 (I1.hok.fresh (by rw [hy]; exact Nat.le_succ _)) (I1.hok.fresh (Nat.le_of_eq hy)) (Nat.ne_of_lt (Nat.lt_succ_self _))
 have I2:=Inv.made (C:=C) I1
 rw [hy] at I2
 have r2:Vals (V.ref (y0+1)::vs) (Value.ref (y0+1)::us):= .cons rfl r
 have hl:(Value.ref (y0+1)::us).length=ps.length:=by rw [←r2.length]; exact F.len _ _ _ _ hq
 have hB:=hb _ (Value.ref (y0+1)::us) I2.kIn (by rw [List.append_nil]; exact hl)
 rw [List.append_nil] at hB
 subst hy
 refine wpAny_call (make_map (f:=f) I1.kIn M.makes M.init (beq_iff_eq.mp M.fn) (codeAny_mono (F.run _ X.stack _ _ ⟨Value.ref (s1.heap.objs.size+1)::us,[]⟩ (Value.ref (s1.heap.objs.size+1)::us) _ _ (E σ) (hr.make C us []) (I2.env0.make C us []) hB r2 hq) fun r s' hq'=>?_))
 match r,hq' with
 | .error e,hq'=>exact hx σ pins _ _ e s' I2 hq'
 | .ok (.ret u),hq'=>
  obtain⟨v,H',I3,rv,ev,q3⟩:=I2.after hq'
  subst ev
  exact⟨rv,⟨V.ref (s1.heap.objs.size+1),H',I3,rfl,q3⟩⟩
 | .ok .next,hq'=>exact False.elim hq'
 | .ok .brk,hq'=>exact False.elim hq'
 | .ok .cont,hq'=>exact False.elim hq'
theorem Rel.junk (r:Rel K Φ Z ρ H m) {p:Addr} (hp:H p=none) (o:HO):Rel K Φ Z ρ (upd H p o) m:=by
 have hz:=r.zn hp
 refine⟨fun a u h=>?_,fun a u h=>?_,r.len,r.nd,fun a ha=>?_,fun i w a h1 h2=>?_,fun q hq=>?_⟩
 ·have hb:a≠p:=fun z=>by subst z; rw [hz] at h; cases h
  rw [upd_ne hb]; exact r.zin a u h
 ·obtain⟨h1,h2,h3⟩:=r.fin a u h
  exact⟨by rw [upd_ne (ne_of_none h1 hp)]; exact h1,h2,h3⟩
 ·have hb:a≠p:=fun z=>r.rn hp (z▸ha)
  rw [upd_ne hb]; exact r.trk a ha
 ·have hb:a≠p:=fun z=>r.rn hp (z▸List.mem_of_getElem? h2)
  rw [upd_ne hb]; exact r.mem i w a h1 h2
 ·obtain⟨t,h1,h2,h3⟩:=r.tab q hq
  have hb:q.1≠p:=fun z=>t.live (by rw [z]; exact hp)
  exact⟨t.to (Same.refl _) (upd_ne hb),h1,h2,h3⟩
theorem qE {k j n:Nat} {c:Str} {F:FS} {e:Expr} {es:List Expr} {fs:LF} {p pos:Pos} (fz:Bool) (ck:Cok X W k) (D:InitOk X.prog X.w X.K X.mg X.base n j c F) (ha:SA X W (e::es) fs) (hj:j+1≤k:=by decide)
  (hg:Gl X c:=by rfl) (hdb:(c ==("__debug__":Str))=false:=by decide) (he:starEach (e::es) X.env=(false,eval e X.env)::starEach es X.env:=by rfl) (hpl:(backTo pos (starEach es X.env)).any (·.1)=false:=by rfl):
  SE X W (.Call (.Name c p) (e::es) [] pos) (aIm fz c n F fs):=by
 obtain⟨C,f,fd,ps,hn,hC,hm,M,hF,hb⟩:=D.ok
 refine⟨xY (bB4 M hF (ck.room.mono hj) hg hm hb (fun σ=>passAt ck.tk σ) ha.pa hdb he hpl) fun σ H Q ⟨Φ,Z,ρ,env,m,Fi,p⟩=>?_⟩
 refine trL_bind (P:=Post X.K W Φ Z ρ σ Q) Fi (fun ts m1 Z1 ρ1 H1 vs _ e1 F1 rs p1=>?_) (fun _ _ _ _ h=>h) (fun h=>h) p
 split at p1
 rotate_left
 ·exact p1.elim
 rename_i hl
 intro y dx hy hdx hne
 have r2:=F1.rel.junk hdx (.own y)
 have hy2:(upd H1 dx (.own y)) y=none:=by rw [upd_ne (Ne.symm hne)]; exact hy
 obtain⟨r3,e3⟩:=r2.allocC hy2 (o:= .ins C dx []) (u:= .ins c [] []) ⟨C,dx,[],rfl,hC,rfl,.nil⟩
 have rself:Rep X.K Z1 (ρ1++[y]) (.loc m1.length) (.ref y):=by
  unfold Rep
  exact⟨y,by rw [←F1.rel.len]; simp,rfl⟩
 have rxs:Reps X.K Z1 (ρ1++[y]) (.loc m1.length::ts) (.ref y::vs):= .cons rself (rs.ext e3)
 refine⟨Φ,Z1,ρ1++[y],_,_,r3,rxs,by rw [←rxs.length]; simp [hl],?_⟩
 have p1:=p1.ext (e1.trans e3)
 cases er:F (.loc m1.length::ts) (m1++[some (.ins c [] [])]) with
 | no=>rw [er] at p1; exact p1.elim
 | ex C' ns us m2=>rw [er] at p1; exact p1
 | ok t m2=>
  rw [er] at p1
  intro Z4 ρ4 H4 v e4 r4 rt
  cases t with
  | non=>
   unfold Rep at rt
   refine⟨rt,?_⟩
   cases fz with
   | false=>
    simp only [Bool.false_eq_true,if_false] at p1
    exact p1 _ _ _ _ e4 r4 (rself.ext e4)
   | true=>
    simp only [if_true] at p1
    split at p1
    ·rename_i d ns us em
     have rs4:=rself.ext e4
     unfold Rep at rs4
     obtain⟨a,ha,ea⟩:=rs4
     cases ea
     obtain⟨hz,C2,dx2,ws,q,k2,hl2,rw2⟩:=r4.mem _ _ _ em ha
     obtain⟨r5,e5⟩:=r4.freeze em ha q
     refine p1 _ _ _ _ (e4.trans e5) r5 ?_
     unfold Rep
     exact⟨y,C2,dx2,ws,rfl,k2,upd_same,hl2,rw2.ext e5⟩
    ·exact p1.elim
  | _=>exact(show False from p1).elim
end
end Ev
namespace Ev
open PySem L2
variable [Wrl]
section
variable {X:Cx} {W:WX} {K:PySem.W.Frag}
theorem zL (i:Nat):KG K [i] (gN i) (gName i):=by
 intro Φ Z ρ σ H env env1 m t v Q F r e h
 cases e
 exact h _ ⟨F.rel,F.env.set i r⟩ (by simp) fun vs hv=>aUn (hv i (by simp))
theorem tK:KGs K [] xX gNil:=by
 intro Φ Z ρ σ H env env1 m ts vs Q F r e h
 cases ts with
 | nil=>
  unfold Reps at r
  cases e
  exact⟨r,h σ F rfl fun _ _=>rfl⟩
 | cons t ts=>cases e
theorem yJ {s1 s2:List Nat} {g:GF} {gs:List T→Env→Option Env} {w1:TG} {w2:TGs} (k1:KG K s1 g w1) (k2:KGs K s2 gs w2):KGs K (s1++s2) (zR g gs) (gCons w1 w2):=by
 intro Φ Z ρ σ H env env1 m ts vs Q F r e h
 cases ts with
 | nil=>cases e
 | cons t ts=>
  unfold Reps at r
  obtain⟨v,us,rfl,r1,rs⟩:=r
  unfold zR at e
  obtain⟨envA,ea,eb⟩:=Option.bind_eq_some_iff.mp e
  refine⟨v,us,rfl,k1 Φ Z ρ σ H env envA m t v _ F r1 ea fun σ1 F1 l1 w1'=>k2 Φ Z ρ σ1 H envA env1 m ts us _ F1 rs eb fun σ2 F2 l2 w2'=>h σ2 F2 (l2.trans l1) fun ws hw=>?_⟩
  exact(w2' ws fun i hi=>hw i (List.mem_append_right _ hi)).trans (w1' ws fun i hi=>hw i (List.mem_append_left _ hi))
theorem qA {n:Nat} {sl:List Nat} {gs:List T→Env→Option Env} {w:TGs} (k:KGs K sl gs w):KG K sl (gT n gs) (gTup K n w):=by
 intro Φ Z ρ σ H env env1 m t v Q F r e h
 unfold gT at e
 split at e
 ·rename_i ts
  split at e
  ·rename_i hl
   unfold Rep at r
   obtain⟨a,vs,rfl,q,rs⟩:=r
   exact⟨a,vs,rfl,Same.sqt F.rel.same q,by rw [←rs.length]; exact hl,k Φ Z ρ σ H env env1 m ts vs Q F rs e h⟩
  ·cases e
 ·cases e
theorem aGr {k j:Nat} {F:FS} {x:Str} {p pos:Pos} (c:Cok X W k) (D:DefOk X.prog X.w X.K X.mg X.base 0 j x F) (hj:j≤k:=by decide) (hg:Gl X x:=by rfl) (hdb:(x ==("__debug__":Str))=false:=by decide):
  SE X W (.Call (.Name x p) [] [] pos) (yU 0 F lNil):=by
 obtain⟨f,fd,ps,hn,hF,hm,hk,hb⟩:=D.ok
 refine⟨⟨fun pins s σ H Q I ⟨Φ,Z,ρ,env,m,Fi,p⟩=>?_⟩⟩
 refine wpAny_Call_Name_kw (ld_glob I hg hm (PySem.W.callWith_K0 I.kIn hk (run_fnS (us:=[]) (vs:=[]) (E:=fun σ=>WE W σ) hF (c.room.mono hj) hb (passAt c.tk σ) I .nil ?_)) hdb)
 exact⟨Φ,Z,ρ,m,[],Fi.rel,.nil,rfl,aVd p⟩
noncomputable def GI (mg:Str→Option Value) (x:Str) (i:Int):Prop:=∃ t,mg x=some (.int i t)
theorem aWm {x:Str} {i:Int} {pos:Pos} (h:GI X.mg x i) (hg:Gl X x:=by rfl) (hd:(x ==("__debug__":Str))=false:=by decide):SE X W (.Name x pos) (eC (.int i)):=by
 obtain⟨t,h⟩:=h
 exact bDn (v:= .int i) h ⟨t,rfl⟩ (fun _ _=>wW) hg hd
noncomputable def eNeg (f:EF):EF:=fun env m=>(f env m).bind fun t m1=>match t with
 | .int i=> .ok (.int (-i)) m1
 | _=> .no
noncomputable def aC2 (mu:Bool) (f:EF):EF:=fun env m=>(f env m).bind fun t m1=>match t with
 | .int n=>if -1000000≤n∧n≤1000000 then mk mu (rng 0 n) m1 else .no
 | _=> .no
end
end Ev
namespace EvSa
open PySem PySem.Spec PyProof.Rows
section
variable {prog:Program} {w:World} {A:Around} {E:Value→Shared→Prop} {s:Shared}
noncomputable abbrev set0 (led:Bool):Obj:={cls:= .type "set",dict:=none,data:= .set #[] 0 (.fresh 0 0 led)}
set_option maxHeartbeats 3200000 in
theorem aUy {a:Value} {D:Shared→Prop} {Q:Value→Shared→Prop}
  (init:∀ led:Bool,wpAny (model prog w) A.in1.in1 (Builtin.«set.__init__» ⟨[.ref s.heap.objs.size,a],[]⟩) (fun fin s'=>match fin with
   | .done f=>wants (fun r s₂=>r= .none∧D s₂) E (.ok f) s'
   | .again c'=>c'.quiet=true∧codeAny (model prog w) A.in1 c' (wants (fun r s₂=>r= .none∧D s₂) E) s') (fun e s'=>wants (fun r s₂=>r= .none∧D s₂) E (.error e) s') {s with heap:=s.heap.push (set0 led)})
  (end_:∀ s₂,D s₂→Q (.ref s.heap.objs.size) s₂):wpAny (model prog w) A (call (.type "set") [a]) Q E s:=by
 obtain⟨c,tl,hmro⟩:=PySem.F.called_set.mro
 have hmade:=PySem.F.called_set.made
 have hsub:=PySem.F.called_set.sub
 refine wpAny_call (codeAny_of_tree (show wpAny _ _ (callAny (.type "set") _) _ _ _ from wpAny_pure ⟨Code.quiet_builtin _ (by decide+kernel),codeAny_builtin PySem.F.entry_type_call ?_⟩))
 rw [Around.under_plain (weight_type_call_type "set" [a] []) rfl]
 have h1:=PySem.F.called_set.notType
 have h2:=PySem.F.called_set.canCreate
 have hct:=PySem.F.typeCall_set_1 a
 repeat (any_goals (first | assumption | wp_step))
 refine codeAny_mono (code_set_new_1 a (E:=E) (Q₁:=fun obj s₁=>∃ led:Bool,obj= .ref s.heap.objs.size∧s₁={s with heap:=s.heap.push (set0 led)}) fun led=>⟨led,rfl,rfl⟩) fun r s₁ hr=>?_
 match r,hr with
 | .error e,hr=>exact hr
 | .ok .next,hr=>exact hr.elim
 | .ok .brk,hr=>exact hr.elim
 | .ok .cont,hr=>exact hr.elim
 | .ok (.ret obj),hr=>
  obtain⟨led,rfl,rfl⟩:=hr
  have hT:Shared.TypeIs {s with heap:=s.heap.push (set0 led)} (.ref s.heap.objs.size) "set":=⟨_,Heap.get?_push_size _ rfl,rfl⟩
  have hli:=PySem.F.called_set.init.lookup
  have hbi:=PySem.F.called_set.init.bind (.ref s.heap.objs.size)
  repeat (any_goals (first | assumption | wp_step))
  refine codeAny_mono (codeAny_call_builtin (R:=wants (fun r s₂=>r= .none∧D s₂) E) PySem.F.called_set.init.plain PySem.F.entry_set_init (check_set_init_1 hT (init led))) fun r₂ s₂ hr₂=>?_
  match r₂,hr₂ with
  | .error e,hr₂=>exact hr₂
  | .ok .next,hr₂=>exact hr₂.elim
  | .ok .brk,hr₂=>exact hr₂.elim
  | .ok .cont,hr₂=>exact hr₂.elim
  | .ok (.ret r),hr₂=>
   obtain⟨rfl,hd⟩:=hr₂
   repeat (any_goals (first | assumption | wp_step))
   exact end_ _ hd
end
end EvSa
namespace EvS
open PySem PySem.Spec PyProof.Rows
noncomputable def ucnt (xs:List Str):Nat→Nat
 | 0=>0
 | i+1=>if(xs.take i).any (·==xs.getD i Str.empty) then ucnt xs i else ucnt xs i+1
theorem aSx (xs:List Str):∀ i,ucnt xs i≤i
 | 0=>Nat.le_refl _
 | i+1=>by
  have:=aSx xs i
  unfold ucnt
  split<;>omega
theorem bA8 (xs:List Str) (i:Nat) (hi:i < xs.length) (k:Str):(xs.take (i+1)).any (·==k)=((xs.take i).any (·==k)||decide (k=xs.getD i Str.empty)):=by
 have e:xs.getD i Str.empty=xs[i]:=by rw [List.getD_eq_getElem?_getD,List.getElem?_eq_getElem hi]; rfl
 have e2:xs.take (i+1)=xs.take i++[xs[i]]:=(List.take_append_getElem hi).symm
 have e3:(xs[i]==k)=decide (k=xs[i]):=by
  by_cases h:k=xs[i]
  ·rw [←h]; rw [decide_eq_true rfl]; exact beq_self_eq_true k
  ·rw [decide_eq_false h]; exact beq_eq_false_iff_ne.mpr fun z=>h z.symm
 rw [e,e2,List.any_append,List.any_cons,List.any_nil,Bool.or_false,e3]
open EvSa (set0)
section
variable {prog:Program} {w:World} {A:Around} {R:Result→Shared→Prop} {I:Addr} {fp wr:List Addr} {G:Array GenState→Array GenState→Prop} {n:Nat} {P:Nat→Value→Prop} {St:Nat→Shared→Prop}
theorem fill (V:WalksS prog w A.in1 I fp wr G n P St) (S:Addr) (hS:S∉fp) (xs:List Str) (hx:xs.length=n) (hb:n+1 < scanBound) (hv:∀ i v,P i v→∃ t,v= .str (xs.getD i Str.empty) t):
  ∀(k i:Nat) (s:Shared),n - i=k→i≤n→St i s→s.heap.SetOf (PySem.strKind prog w) S (fun z=>(xs.take i).any (·==z)) (ucnt xs i)→
   (∀ s',Moved (S::wr) G s s'→s'.heap.SetOf (PySem.strKind prog w) S (fun z=>(xs.take n).any (·==z)) (ucnt xs n)→R (.ok (.ret .none)) s')→
   codeAny (model prog w) A (.builtin "set.update.loop" ⟨[.ref S,.ref I],[]⟩) R s:=by
 have hw:S∉wr:=fun h=>hS (V.sub _ h)
 have up:∀ b∈wr,b∈S::wr:=fun b hb=>List.mem_cons_of_mem _ hb
 have keep:∀ {s s':Shared} {f:Str→Bool} {c:Nat},Moved wr G s s'→s.heap.SetOf (PySem.strKind prog w) S f c→s'.heap.SetOf (PySem.strKind prog w) S f c:=fun hm ⟨o,es,ep,t,ho,r⟩=>⟨o,es,ep,t,hm.heap S _ hw ho,r⟩
 intro k
 induction k with
 | zero=>
  intro i s hk hi st hs hR
  obtain rfl:i=n:=by omega
  refine codeAny_builtin F.entry_set_update_loop ?_
  rw [Around.under_plainId F.plain_set_update_loop _]
  show wpAny _ A.in1 (pyNext (.ref I) >>=_) _ _ s
  exact wpAny_bind (V.done s _ _ st fun s' hm=>(show wpAny _ A.in1 (ret Value.none) _ _ s' from wpAny_pure (hR s' (hm.mono up) (keep hm hs))))
 | succ k ih=>
  intro i s hk hi st hs hR
  have hlt:i < n:=by omega
  have hc:=aSx xs i
  refine codeAny_builtin F.entry_set_update_loop ?_
  rw [Around.under_plainId F.plain_set_update_loop _]
  show wpAny _ A.in1 (pyNext (.ref I) >>=_) _ _ s
  refine wpAny_bind (V.item i s _ _ hlt st fun v s' hP st' hm=>?_)
  obtain⟨t,rfl⟩:=hv i v hP
  have hs':=keep hm hs
  show wpAny _ A.in1 (holding [Value.str (xs.getD i Str.empty) t] (setAdd S (.str (xs.getD i Str.empty) t)) >>=_) _ _ s'
  refine wpAny_bind (wpAny_holding ?_)
  unfold setAdd
  refine wpAny_holding (wpAny_bind ((PySem.strKind prog w).pyHash (k:=xs.getD i Str.empty) (strKind_is _ _ _ _) ?_))
  refine wpAny_setAddHashed_of (knd:=PySem.strKind prog w) (s:={s' with toks:=s'.toks+1}) (strKind_is _ _ _ _) rfl hs' (by omega) fun h' sb h2=>?_
  have h3:h'.SetOf (PySem.strKind prog w) S (fun z=>(xs.take (i+1)).any (·==z)) (ucnt xs (i+1)):=SetOf_congr h2 (fun z=>(bA8 xs i (by omega) z).symm) rfl
  refine wpAny_pure ⟨plainId_quiet F.plain_set_update_loop _,ih (i+1) _ (by omega) hlt (V.frame _ s' _ _ st' (Nat.le_succ _) fun b hb o e=>?_) h3 fun s2 hm2 h4=>?_⟩
  ·rw [sb.2 b (fun z:b=S=>hS (by rw [←z]; exact hb))]
   exact e
  ·refine hR s2 (Moved.trans V.gtrans ((hm.mono up).then_heap (Nat.le_succ _) fun b o hb e=>?_) hm2) h4
   rw [sb.2 b (fun z:b=S=>hb (by rw [z]; exact List.mem_cons_self))]
   exact e
end
section
variable {prog:Program} {w:World} {A:Around} {E:Value→Shared→Prop} {s:Shared}
set_option maxHeartbeats 3200000 in
theorem call_set_list {l:Addr} {items:Array Value} {xs:List Str} {Q:Value→Shared→Prop} (hh:A.handled=none) (hl:s.heap.IsList l items) (hi:StrsAre items.toList xs) (hb:xs.length+1 < scanBound)
  (h:∀(h':Heap) (tk:Nat),h'.SetOf (PySem.strKind prog w) s.heap.objs.size (fun z=>(xs.take xs.length).any (·==z)) (ucnt xs xs.length)→(∀ b o,b < s.heap.objs.size→s.heap.get? b=some o→h'.get? b=some o)→Q (.ref s.heap.objs.size) {s with heap:=h',toks:=tk}):
  wpAny (model prog w) A (call (.type "set") [.ref l]) Q E s:=by
 refine EvSa.aUy (D:=fun s₂=>∃ h' tk,s₂={s with heap:=h',toks:=tk}∧h'.SetOf (PySem.strKind prog w) s.heap.objs.size (fun z=>(xs.take xs.length).any (·==z)) (ucnt xs xs.length)∧
   (∀ b o,b < s.heap.objs.size→s.heap.get? b=some o→h'.get? b=some o)) (fun led=>?_) fun s₂ ⟨h',tk,e,hs',hk'⟩=>by subst e; exact h _ _ hs' hk'
 have hS:(s.heap.push (set0 led)).get? s.heap.objs.size=some (set0 led):=Heap.get?_push_size _ rfl
 obtain⟨⟨oc,od,dt,sl⟩,hol,hc1,nl,hd1⟩:=hl
 replace hc1:oc= .type "list":=hc1
 replace hd1:dt= .seq items nl:=hd1
 subst hc1
 subst hd1
 have hol':(s.heap.push (set0 led)).get? l=some {cls:= .type "list",dict:=od,data:= .seq items nl,slots:=sl}:=Heap.get?_push_of_some _ hol
 have q1:=PySem.F.sub_list_set
 have q2:=PySem.F.sub_list_frozenset
 have q3:(Value.type "list"==Value.type "dict")=false:=by decide
 have hl1:(s.heap.push (set0 led)).IsList l items:=⟨_,hol',rfl,nl,rfl⟩
 unfold Builtin.«set.__init__» noKeywords Builtin.Frozenset.updateFrom
 generalize hPI:pyIter=PI
 wp_walk
 subst hPI
 refine wpAny_pyIter_list hl1 (wpAny_bind (wpAny_runValue ?_))
 have hlS:l < s.heap.objs.size:=Heap.lt_size hol
 have hz:(s.heap.push (set0 led)).objs.size=s.heap.objs.size+1:=Heap.size_push ..
 have a1:A.in1.in1.in1.handled=none:=by simp [hh]
 have a2:l≠(s.heap.push (set0 led)).objs.size:=by rw [hz]; exact Nat.ne_of_lt (Nat.lt_succ_of_lt hlS)
 have a3:s.heap.objs.size∉[(s.heap.push (set0 led)).objs.size,l]:=by
  rw [hz]
  simp only [List.mem_cons,List.not_mem_nil,or_false,not_or]
  exact⟨Nat.ne_of_lt (Nat.lt_succ_self _),Nat.ne_of_gt hlS⟩
 have a4:xs.length=items.size:=by rw [←StrsAre.len_eq hi,Array.length_toList]
 have a5:∀(i:Nat) (v:Value),items[i]? =some v→∃ t,v= .str (xs.getD i Str.empty) t:=fun i v hv=>SS.strs_at hi i v (by rw [Array.getElem?_toList]; exact hv)
 refine fill ((Walks.list a1 _ l a2 items).toS) s.heap.objs.size a3 xs a4 (by omega) a5 (items.size - 0) 0 _ (by omega) (Nat.zero_le _) ⟨⟨_,Heap.get?_push_size _ rfl,rfl,rfl⟩,(hl1.push _)⟩ ?_ fun s' hm h9=>?_
 ·have hg:((s.heap.push (set0 led)).push {cls:= .type "list_iterator",data:= .fields #[.ref l,.int 0 0]}).get? s.heap.objs.size=some (set0 led):=Heap.get?_push_of_some _ hS
  exact SetOf_congr ((setObjOf_fresh (knd:=PySem.strKind prog w) led).setOf hg (by unfold scanBound; omega)) (fun _=>rfl) rfl
 ·obtain⟨h',g',d',tk',os'⟩:=s'
  obtain rfl:g'=s.gens:=hm.gens
  obtain rfl:d'=s.drawn:=hm.drawn
  obtain rfl:os'=s.os:=hm.os
  rw [←a4] at h9
  refine wpAny_pure (show wpAny _ _ (ret Value.none) _ _ _ from wpAny_pure ⟨rfl,h',tk',rfl,h9,fun b o hb e=>hm.heap b o ?_ (Heap.get?_push_of_some _ (Heap.get?_push_of_some _ e))⟩)
  simp only [List.mem_cons,List.not_mem_nil,or_false,not_or]
  exact⟨Nat.ne_of_lt hb,by rw [hz]; exact Nat.ne_of_lt (Nat.lt_succ_of_lt hb)⟩
set_option maxHeartbeats 3200000 in
theorem aNj {l:Addr} {items:Array Value} {xs:List Str} {Q:Value→Shared→Prop} (hh:A.handled=none) (hl:s.heap.IsTuple l items) (hi:StrsAre items.toList xs) (hb:xs.length+1 < scanBound)
  (h:∀(h':Heap) (tk:Nat),h'.SetOf (PySem.strKind prog w) s.heap.objs.size (fun z=>(xs.take xs.length).any (·==z)) (ucnt xs xs.length)→(∀ b o,b < s.heap.objs.size→s.heap.get? b=some o→h'.get? b=some o)→Q (.ref s.heap.objs.size) {s with heap:=h',toks:=tk}):
  wpAny (model prog w) A (call (.type "set") [.ref l]) Q E s:=by
 refine EvSa.aUy (D:=fun s₂=>∃ h' tk,s₂={s with heap:=h',toks:=tk}∧h'.SetOf (PySem.strKind prog w) s.heap.objs.size (fun z=>(xs.take xs.length).any (·==z)) (ucnt xs xs.length)∧
   (∀ b o,b < s.heap.objs.size→s.heap.get? b=some o→h'.get? b=some o)) (fun led=>?_) fun s₂ ⟨h',tk,e,hs',hk'⟩=>by subst e; exact h _ _ hs' hk'
 have hS:(s.heap.push (set0 led)).get? s.heap.objs.size=some (set0 led):=Heap.get?_push_size _ rfl
 obtain⟨⟨oc,od,dt,sl⟩,hol,hc1,nl,hd1⟩:=hl
 replace hc1:oc= .type "tuple":=hc1
 replace hd1:dt= .seq items nl:=hd1
 subst hc1
 subst hd1
 have hol':(s.heap.push (set0 led)).get? l=some {cls:= .type "tuple",dict:=od,data:= .seq items nl,slots:=sl}:=Heap.get?_push_of_some _ hol
 have q1:=PySem.F.sub_tuple_set
 have q2:=PySem.F.sub_tuple_frozenset
 have q3:(Value.type "tuple"==Value.type "dict")=false:=by decide
 have hl1:(s.heap.push (set0 led)).IsTuple l items:=⟨_,hol',rfl,nl,rfl⟩
 unfold Builtin.«set.__init__» noKeywords Builtin.Frozenset.updateFrom
 generalize hPI:pyIter=PI
 wp_walk
 subst hPI
 refine wpAny_pyIter_tuple hl1 (wpAny_bind (wpAny_runValue ?_))
 have hlS:l < s.heap.objs.size:=Heap.lt_size hol
 have hz:(s.heap.push (set0 led)).objs.size=s.heap.objs.size+1:=Heap.size_push ..
 have a1:A.in1.in1.in1.handled=none:=by simp [hh]
 have a2:l≠(s.heap.push (set0 led)).objs.size:=by rw [hz]; exact Nat.ne_of_lt (Nat.lt_succ_of_lt hlS)
 have a3:s.heap.objs.size∉[(s.heap.push (set0 led)).objs.size,l]:=by
  rw [hz]
  simp only [List.mem_cons,List.not_mem_nil,or_false,not_or]
  exact⟨Nat.ne_of_lt (Nat.lt_succ_self _),Nat.ne_of_gt hlS⟩
 have a4:xs.length=items.size:=by rw [←StrsAre.len_eq hi,Array.length_toList]
 have a5:∀(i:Nat) (v:Value),items[i]? =some v→∃ t,v= .str (xs.getD i Str.empty) t:=fun i v hv=>SS.strs_at hi i v (by rw [Array.getElem?_toList]; exact hv)
 refine fill ((Walks.tuple a1 _ l a2 items).toS) s.heap.objs.size a3 xs a4 (by omega) a5 (items.size - 0) 0 _ (by omega) (Nat.zero_le _) ⟨⟨_,Heap.get?_push_size _ rfl,rfl,rfl⟩,(hl1.push _)⟩ ?_ fun s' hm h9=>?_
 ·have hg:((s.heap.push (set0 led)).push {cls:= .type "tuple_iterator",data:= .fields #[.ref l,.int 0 0]}).get? s.heap.objs.size=some (set0 led):=Heap.get?_push_of_some _ hS
  exact SetOf_congr ((setObjOf_fresh (knd:=PySem.strKind prog w) led).setOf hg (by unfold scanBound; omega)) (fun _=>rfl) rfl
 ·obtain⟨h',g',d',tk',os'⟩:=s'
  obtain rfl:g'=s.gens:=hm.gens
  obtain rfl:d'=s.drawn:=hm.drawn
  obtain rfl:os'=s.os:=hm.os
  rw [←a4] at h9
  refine wpAny_pure (show wpAny _ _ (ret Value.none) _ _ _ from wpAny_pure ⟨rfl,h',tk',rfl,h9,fun b o hb e=>hm.heap b o ?_ (Heap.get?_push_of_some _ (Heap.get?_push_of_some _ e))⟩)
  simp only [List.mem_cons,List.not_mem_nil,or_false,not_or]
  exact⟨Nat.ne_of_lt hb,by rw [hz]; exact Nat.ne_of_lt (Nat.lt_succ_of_lt hb)⟩
end
end EvS
namespace Ev
open PySem L2
variable [Wrl]
section
variable {X:Cx} {W:WX}
noncomputable def bH5 (K:PySem.W.Frag) (ta:TE):TE:=fun σ H Q=>ta σ H fun x H1=>∃ l,∃ xs:List Str,x= .ref l∧(SqL K H1 l (xs.map V.str)∨SqT K H1 l (xs.map V.str))∧xs.length≤4000∧Q (.int (EvS.ucnt xs xs.length:Nat)) H1
theorem bE2 {a:Expr} {ta:TE} {p p2 q pos:Pos} (hc:X.calm=true) (hg:Gl X "len") (hm:X.mg "len"=none) (hg2:Gl X "set") (hm2:X.mg "set"=none) (ha:PE X a ta)
  (na:starEach [a] X.env=(false,eval a X.env)::starEach [] X.env):PE X (.Call (.Name "len" p) [.Call (.Name "set" p2) [a] [] q] [] pos) (bH5 X.K ta):=by
 refine⟨fun pins s σ H Q I h=>PyProof.Rows.Call_ (ld_blt I hg hm PySem.boot_len ?_)⟩
 refine PyProof.Rows.callWith_builtin1 (PyProof.Rows.args_cons (PyProof.Rows.Call_ (ld_blt I hg2 hm2 PyProof.Rows.boot_set ?_)) rfl) rfl rfl
 refine PyProof.Rows.callWith_type1 (PyProof.Rows.args_cons (thn (ha.run pins s σ H _ I h) fun v s1 ⟨x,H1,I1,r1,l,xs,e1,hq,h1,q1⟩=>PyProof.Rows.args_nil ?_) na) na rfl
 subst e1
 cases r1
 have fin:∀(its:List Value),Vals (xs.map V.str) its→∀(h':Heap) (tk:Nat),h'.SetOf (PySem.strKind X.prog X.w) s1.heap.objs.size (fun z=>(xs.take xs.length).any (·==z)) (EvS.ucnt xs xs.length)→(∀ b o,b < s1.heap.objs.size→s1.heap.get? b=some o→h'.get? b=some o)→
   wpAny (model X.prog X.w) X.A (spliced (backTo pos (starEach [] X.env))) (fun vs s₂=>wpAny (model X.prog X.w) X.A (call (.builtin "len") (Value.ref s1.heap.objs.size::vs)) (EP X pins σ Q) X.xe s₂) X.xe {s1 with heap:=h',toks:=tk}:=fun its r h' tk hS hk=>by
  refine PyProof.Rows.args_nil ?_
  have hu:=EvS.aSx xs xs.length
  obtain⟨o,es,ep,t,ho,hex,hd,_,_,_,hf,hn⟩:=hS
  have I2:Inv X pins σ H1 {s1 with heap:=h',toks:=tk}:=I1.kept fun b o e=>hk b o (Heap.lt_size e) e
  exact PySem.call_len_set ho hex hd hf (by rw [hn]<;>omega) ⟨.int (EvS.ucnt xs xs.length:Nat),H1,I2.tok _,⟨_,by rw [hn]⟩,q1⟩
 have hb:xs.length+1 < scanBound:=by unfold scanBound; omega
 rcases hq with hq | hq
 ·obtain⟨its,r,pl,hz⟩:=I1.list hq
  exact EvS.call_set_list (I1.ok.hd hc) pl.isList (by simpa using strsAre_of r) hb fun h' tk hS hk=>fin its r h' tk hS hk
 ·obtain⟨its,r,pl,hz⟩:=I1.tuple hq
  exact EvS.aNj (I1.ok.hd hc) pl (by simpa using strsAre_of r) hb fun h' tk hS hk=>fin its r h' tk hS hk
noncomputable def aU3 (f:EF):EF:=fun env m=>(f env m).bind fun t m1=>match aDh m1 t with
 | some ts=>match txts ts with
  | some xs=>if xs.length≤4000 then .ok (.int (EvS.ucnt xs xs.length:Nat)) m1 else .no
  | none=> .no
 | none=> .no
theorem aQj {k:Nat} {a:Expr} {f:EF} {p p2 q pos:Pos} (c:Cok X W k) (ha:SE X W a f) (hm:X.mg "len"=none) (hm2:X.mg "set"=none) (hg:Gl X "len":=by rfl) (hg2:Gl X "set":=by rfl)
  (na:starEach [a] X.env=(false,eval a X.env)::starEach [] X.env:=by rfl):SE X W (.Call (.Name "len" p) [.Call (.Name "set" p2) [a] [] q] [] pos) (aU3 f):=by
 refine⟨xY (bE2 c.calm hg hm hg2 hm2 ha.pe na) fun σ H Q ⟨Φ,Z,ρ,env,m,F,p⟩=>?_⟩
 refine tr_bind (P:=Post X.K W Φ Z ρ σ Q) F (fun x m1 Z1 ρ1 H1 vx _ e1 F1 rx p1=>?_) (fun _ _ _ _ h=>h) (fun h=>h) p
 split at p1
 ·rename_i ts ht
  split at p1
  ·rename_i xs hx
   split at p1
   ·rename_i hl
    obtain⟨l,us,rfl,hq,ru⟩:=jA F1.rel rx ht
    rw [aT1 hx] at ru
    have:=aLi ru
    subst this
    exact⟨l,xs,rfl,hq,hl,p1 _ _ _ _ e1 F1.rel wW⟩
   ·exact p1.elim
  ·exact p1.elim
 ·exact p1.elim
end
end Ev
namespace Ev
open PySem L2
variable [Wrl]
theorem yV {P:Program} {w:World} {K:PySem.W.Frag} {mg:Str→Option Value} {base:Heap} {x qual:Str} {st:Stmt} {f:Addr} {fd:FuncData} {N ps:List Str} {k:Nat} {g:SF} (hw:HereP P w) (Fn:Fun K x qual st f fd) (S:FnScope N ps (defScope st))
  (hbody:∀(cdv:Value) (A:Around) (outer:List PySem.Env) (s:Shared) (H:Hp) (E:XK),Cok (cxOf (L2.CX P w) P w K mg base N qual (defScope st) f cdv A outer s H E) (fun cls d _ H=>E cls d H) k→
   SSs (cxOf (L2.CX P w) P w K mg base N qual (defScope st) f cdv A outer s H E) (fun cls d _ H=>E cls d H) (defBody st) g):FnOk P w K mg base (L2.CX P w) (k+1) f fd ps (spF K ps.length (fnOf N.length g)):=by
 refine Fn.okX S (fun vs H Q E ⟨Φ,Z,ρ,m,ts,_,_,hl,_⟩=>hl) (fun cdv A outer s H vs Q E hr ⟨Φ,Z,ρ,m,ts,r,rs,hl,p⟩=>?_)
 have c:Cok (cxOf (L2.CX P w) P w K mg base N qual (defScope st) f cdv A outer s H E) (fun cls d _ H=>E cls d H) k:=⟨takes_of rfl rfl rfl rfl,passes_of rfl,rfl,S.nd,hr,⟨hw.p,hw.w⟩⟩
 refine⟨_,(hbody cdv A outer s H E c).ps,Φ,Z,ρ,_,m,⟨r,aOe N rs⟩,?_⟩
 unfold fnOf at p
 cases e:g (ts.map some++List.replicate (N.length - ts.length) none) m with
 | nx env1 m1=>rw [e] at p; exact fun Z1 ρ1 H1 σ1 e1 F1 _=>p Z1 ρ1 H1 .non e1 F1.rel aIe
 | rt t m1=>rw [e] at p; exact p
 | ex C ns us env1 m1=>rw [e] at p; exact fun Z1 ρ1 H1 σ1 d us e1 F1 rs hl hd=>p Z1 ρ1 H1 d us e1 F1.rel rs hl hd
 | bk _ _=>rw [e] at p; exact(show False from p).elim
 | ct _ _=>rw [e] at p; exact(show False from p).elim
 | no=>rw [e] at p; exact p
end Ev
namespace Ev
open PySem L2
variable [Wrl]
noncomputable def spX (K:PySem.W.Frag) (f:Str):Sp:=fun vs H Q _=>∃(a C:Addr) (y:V),vs=[.ref a,y]∧OexC K C∧PySem.W.findIn K (.ref C) f=some none∧H a=some (exo a C none)∧
 ∀ dx,H dx=none→dx≠a→Q .non (upd (upd H dx (exd dx [(f,y)])) a (exo a C (some dx)))
theorem aVt {P:Program} {w:World} {K:PySem.W.Frag} {mg:Str→Option Value} {base:Heap} {x qual f:Str} {st:Stmt} {fa:Addr} {fd:FuncData} {N ps:List Str} {k:Nat} (Fn:Fun K x qual st fa fd) (S:FnScope N ps (defScope st)) (hl2:ps.length=2) (hN:N.length=2)
  (hbody:∀(cdv:Value) (A:Around) (outer:List PySem.Env) (s:Shared) (H:Hp) (E:XK),PSs (cxOf (L2.CX P w) P w K mg base N qual (defScope st) fa cdv A outer s H E) (defBody st) (tOst K f (tVar 0) (tVar 1))):FnOk P w K mg base (L2.CX P w) (k+1) fa fd ps (spX K f):=by
 refine Fn.okX S (fun vs H Q E ⟨a,C,y,e,_⟩=>by rw [e,hl2]; rfl) (fun cdv A outer s H vs Q E hr ⟨a,C,y,e,T,hno,ha,q⟩=>⟨_,hbody cdv A outer s H E,?_⟩)
 subst e
 refine⟨y,?_,.ref a,?_,a,C,rfl,T,hno,.inl ⟨ha,fun dx hd hne=>q dx hd hne⟩⟩
 ·unfold L2.start; rfl
 ·unfold L2.start; rfl
structure XcOk (P:Program) (w:World) (K:PySem.W.Frag) (mg:Str→Option Value) (base:Heap) (k:Nat) (c f:Str):Prop where
 ok:∃(C fI:Addr) (fd:FuncData) (ps:List Str),CAt K c C∧mg c=some (.ref C)∧OexC K C∧PySem.W.findIn K (.ref C) f=some none∧PySem.W.findIn K (.ref C) "__init__"=some (some (.ref fI))∧PySem.W.typeIn K (.ref fI)=some (.type "function")∧
  FnOk P w K mg base (L2.CX P w) k fI fd ps (spX K f)∧Binds K fd ps []∧XfC K C∧PySem.W.exmOne K (.ref C) (.ref C)=some true
theorem aKq {K:PySem.W.Frag} {nm q:Str} {C N:Addr} {bs bm:List Value} {hdct:Bool} {sn:List Str} {sub:List Value} {ab:Bool} {col:Option Bool} {dd:Option Addr} {k0 k1 k2 k3 k5:Option Value} {newId:String} (lx:K.lookup C=some (excClassObj nm q C N bs bm hdct sn sub ab col dd k0 k1 k2 k3 k5 newId))
  (ex:PySem.W.subIn K (.ref C) (.type "BaseException")=some true) (ty:PySem.W.typeIn K (.ref C)=some (.type "type")) (su:PySem.W.subIn K (.ref C) (.ref C)=some true):PySem.W.exmOne K (.ref C) (.ref C)=some true:=by
 have hc:(PySem.W.clsIn K C).isSome=true:=by unfold PySem.W.clsIn; rw [lx]; rfl
 unfold PySem.W.exmOne PySem.W.kitCls
 simp only [ex,ty,su,hc]
 rfl
section
variable {X:Cx} {W:WX}
noncomputable def aDu (c f:Str) (fe:EF):SF:=fun env m=>match fe env m with
 | .ok t m1=> .ex c [f] [t] env m1
 | .ex C ns vs m1=> .ex C ns vs env m1
 | .no=> .no
theorem aA4 {k j:Nat} {c f:Str} {e:Expr} {fe:EF} {p pos pos':Pos} (ck:Cok X W k) (D:XcOk X.prog X.w X.K X.mg X.base j c f) (ha:SE X W e fe) (hj:j+1≤k:=by decide)
  (hg:Gl X c:=by rfl) (hdb:(c ==("__debug__":Str))=false:=by decide) (he:starEach [e] X.env=(false,eval e X.env)::starEach [] X.env:=by rfl) (hpl:(backTo pos (starEach [] X.env)).any (·.1)=false:=by rfl):
  SS X W (.Raise (some (.Call (.Name c p) [e] [] pos)) none pos') (aDu c f fe):=by
 obtain⟨C,fI,fd,ps,hC,hm,T,hno,iC,tI,hF,hb,_,_⟩:=D.ok
 have pk:=pmk_oex (e:=e) (es:=[]) (p:=p) (pos:=pos) T iC tI hF (ck.room.mono hj) hb .nil passL hg hm (zZ ha zW he).pa hdb he hpl
 refine⟨tY (ps_raise ck.calm ck.tk pk) fun D σ H ⟨Φ,Z,ρ,env,m,F,q⟩=>?_⟩
 unfold aDu at q
 refine⟨Φ,Z,ρ,env,m,F,?_⟩
 unfold zX lNil
 cases ef:fe env m with
 | no=>rw [ef] at q; exact q.elim
 | ex C ns vs m1=>
  rw [ef] at q
  exact fun Z1 ρ1 H1 d us e1 r1 rs hl hd=>q Z1 ρ1 H1 σ d us e1 ⟨r1,F.env.ext e1⟩ rs hl hd
 | ok t m1=>
  rw [ef] at q
  intro Z1 ρ1 H1 vs e1 r1 rs
  unfold Reps at rs
  obtain⟨v,us,rfl,rv,rn⟩:=rs
  unfold Reps at rn
  subst rn
  refine⟨Nat.le_of_ble_eq_true rfl,fun a na=>⟨a,C,v,rfl,T,hno,upd_same,fun dx hdx hne=>⟨rfl,dx,[(f,v)],upd_same,?_,?_,?_⟩⟩⟩
  ·rw [upd_ne hne,upd_same]
  ·rw [upd_ne hne] at hdx; exact hdx
  ·have hdx':H1 dx=none:=by rw [upd_ne hne] at hdx; exact hdx
   have eH:upd (del (upd (upd (upd H1 a (exo a C none)) dx (exd dx [(f,v)])) a (exo a C (some dx))) a) dx (.xd [(f,v)])=upd H1 dx (.xd [(f,v)]):=by
    funext b
    by_cases hbd:b=dx
    ·subst hbd; rw [upd_same,upd_same]
    ·rw [upd_ne hbd,upd_ne hbd]
     by_cases hba:b=a
     ·subst hba; rw [del_same,na]
     ·rw [del_ne hba,upd_ne hba,upd_ne hbd,upd_ne hba]
   rw [eH]
   obtain⟨r2,e2⟩:=r1.allocZ hdx' (.xd [(f,v)])
   exact q _ _ _ σ dx [v] (e1.trans e2) ⟨r2,F.env.ext (e1.trans e2)⟩ (.cons (rv.ext e2) .nil) rfl upd_same C hC
end
end Ev
namespace Ev
open PySem L2
variable [Wrl]
theorem aNy:∀(cs:List Nat) (vs:List Value),vs.length=cs.length→(∀(j:Nat) (v:Value),vs[j]? =some v→∃ c u,cs[j]? =some c∧v= .str ⟨#[c]⟩ u)→Vals (cs.map fun c=>V.str ⟨#[c]⟩) vs
 | [],[],_,_=> .nil
 | [],_::_,h,_=>by simp at h
 | _::_,[],h,_=>by simp at h
 | c::cs,v::vs,h,hv=>by
  obtain⟨d,u,e1,e2⟩:=hv 0 v rfl
  have e1:c=d:=by simpa using e1
  subst e1
  exact .cons ⟨u,e2⟩ (aNy cs vs (by simpa using h) fun j w hw=>by simpa using hv (j+1) w (by simpa using hw))
theorem aOp {x:Str} {acc:Array Value} (h:ItemsOf (SignAt x) acc x.cps.size):Vals (x.cps.toList.map fun c=>V.str ⟨#[c]⟩) acc.toList:=by
 refine aNy _ _ (by simpa using h.1) fun j v hv=>?_
 obtain⟨c,u,e1,e2⟩:=h.2 j v (by simpa using hv)
 exact⟨c,u,by simpa using e1,e2⟩
section
variable {X:Cx} {W:WX} {K:PySem.W.Frag}
noncomputable def bAv:List V→Hp→VK→Prop:=fun xs H Q=>∃ x:Str,xs=[.str x]∧x.length≤1000∧∀ l,H l=none→Q (.ref l) (upd H l (.tup (x.cps.toList.map fun c=>V.str ⟨#[c]⟩)))
theorem aZk (hc:X.calm=true):CallR X (.type "tuple") bAv:=by
 intro pins s σ H xs us Q I r h
 obtain⟨x,rfl,hl,h⟩:=h
 obtain⟨u,rfl,rx⟩:=vals1 r
 obtain⟨t,rfl⟩:=rx
 have hsz:x.cps.size≤sizeLine:=Nat.le_trans hl (aB7 (by unfold lim; decide))
 refine call_tuple_str (I.ok.hd hc) x t (fun h' tk acc kp hit=>?_) hsz
 have I1:Inv X pins σ H {s with heap:=h',toks:=tk}:=I.kept (t':=tk) kp
 have hv:=aOp hit
 have I2:Inv X pins σ (upd H h'.objs.size (.tup (x.cps.toList.map fun c=>V.str ⟨#[c]⟩))) {s with heap:=h'.push {cls:= .type "tuple",data:= .seq acc},toks:=tk}:=
  I1.laid (t':=tk) (fun b o e=>Heap.get?_push_of_some _ e) (Nat.le_refl _) (show ObjOk X.prog X.w _ _ _ (.tup _) from ⟨by rw [List.length_map]; simpa using hsz,acc.toList,hv,by simpa using PyProof.Rows.IsTup.new _ _⟩)
 exact⟨.ref h'.objs.size,_,I2,rfl,h _ (I1.hok.fresh (Nat.le_refl _))⟩
noncomputable def aTu (x:Str):List T:=x.cps.toList.map fun c=> .str ⟨#[c]⟩
noncomputable def gTupleS:List T→Mem→Out T:=fun xs m=>match xs with
 | [.str x]=>if x.length≤1000 then .ok (.tup (aTu x)) m else .no
 | _=> .no
variable {Φ Z:Hp} {ρ:List Addr} {σ:L2.St} {H:Hp} {m:Mem}
theorem aIw (x:List Nat):Reps K Z ρ (x.map fun c=>T.str ⟨#[c]⟩) (x.map fun c=>V.str ⟨#[c]⟩):=by
 induction x with
 | nil=>exact .nil
 | cons c cs ih=>exact .cons aDw ih
theorem bAj:SemL K gTupleS bAv:=by
 intro W Φ Z ρ σ H m Q xs vs r rs p
 unfold gTupleS at p
 split at p
 ·rename_i x
  split at p
  ·rename_i hl
   unfold Reps at rs
   obtain⟨v,us,rfl,rv,rn⟩:=rs
   unfold Reps at rn
   subst rn
   unfold Rep at rv
   subst rv
   exact⟨x,rfl,hl,fun q hq=>aF3 r (aIw _) p hq⟩
  ·exact p.elim
 ·exact p.elim
noncomputable def gMulT:T→T→Mem→Out T:=fun x y m=>match x,y with
 | .tup xs,.int k=>if xs≠[]∧2≤k∧k≤1000∧xs.length≤1000 then .ok (.tup (List.replicate k.toNat xs).flatten) m else .no
 | _,_=> .no
noncomputable instance (xs:List T):Decidable (xs≠[]):=match xs with
 | []=> .isFalse fun h=>h rfl
 | _::_=> .isTrue fun h=>nomatch h
theorem bAl:Sem2 K gMulT (rRepT K):=by
 intro W Φ Z ρ σ H m Q x y vx vy r rx ry p
 unfold gMulT at p
 split at p
 ·rename_i xs k
  split at p
  ·rename_i h
   obtain⟨a,vs,rfl,qa,ra⟩:=aBo r rx (ts:=xs) rfl
   unfold Rep at ry; subst ry
   refine⟨a,k,vs,rfl,rfl,qa,fun e=>h.1 ?_,h.2.1,h.2.2.1,by rw [←ra.length]; exact h.2.2.2,fun q hq=>aF3 r (ra.rep _) p hq⟩
   have:=ra.length
   rw [e] at this
   exact List.eq_nil_of_length_eq_zero this
  ·exact p.elim
 ·exact p.elim
theorem aGy {X:Cx} {e:Expr} {t:TE} (h:PE X e t):PE X e (fun σ H Q=>t σ H fun v H1=>∃ a u,v= .ref a∧H1 a=some u∧Mut (some u)∧∀ od,Q v (upd H1 a (.frz od u))):=by
 refine⟨fun pins s σ H Q I hw=>?_⟩
 refine thn (h.run pins s σ _ _ I hw) fun v s1 ⟨x,H1,I1,r,a,u,ex,ea,mu,q⟩=>?_
 obtain⟨od,I2⟩:=I1.lock ea mu
 exact⟨x,_,I2,r,q od⟩
noncomputable def mkD (mu:Bool) (ks:List Key) (ts:List T) (m:Mem):Out T:=if mu then .ok (.loc m.length) (m++[some (.dct ks ts)]) else .ok (.dct ks ts) m
noncomputable def bBm (mu:Bool):EF:=fun _ m=>mkD mu [] [] m
theorem aVe {mu:Bool} {ks:List Key} {ts:List T} {vs:List V} {Q:VK} (r:Rel K Φ Z ρ H m) (rs:Reps K Z ρ ts vs) (hl:ks.length=vs.length) (h:Post K W Φ Z ρ σ Q (mkD mu ks ts m)) {p:Addr} (hp:H p=none):
  (mu=true→Q (.ref p) (upd H p (.dK (ks.zip vs))))∧(mu=false→∀ od,Q (.ref p) (upd H p (.frz od (.dK (ks.zip vs))))):=by
 cases mu with
 | false=>
  refine⟨fun z=>(nomatch z),fun _ od=>?_⟩
  obtain⟨r',e⟩:=r.allocZ hp (.frz od (.dK (ks.zip vs)))
  refine h _ _ _ _ e r' ?_
  unfold Rep
  exact⟨p,vs,od,rfl,upd_same,hl,rs.ext e⟩
 | true=>
  refine⟨fun _=>?_,fun z=>nomatch z⟩
  obtain⟨r',e⟩:=r.allocC hp (o:= .dK (ks.zip vs)) (u:= .dct ks ts) ⟨vs,rfl,hl,rs⟩
  refine h _ _ _ _ e r' ?_
  unfold Rep
  exact⟨p,by rw [←r.len]; simp,rfl⟩
theorem bFg {e:Expr} {f:EF} {t:TE} {mu:Bool} (h:PE X e t)
  (i:∀ Φ Z ρ σ H env m (Q:VK),Fits X.K Φ Z ρ σ H env m→Post X.K W Φ Z ρ σ Q (f env m)→if mu then t σ H Q else t σ H fun v H1=>∃ a u,v= .ref a∧H1 a=some u∧Mut (some u)∧∀ od,Q v (upd H1 a (.frz od u))):SE X W e f:=by
 cases mu with
 | true=>exact⟨xY h fun σ H Q ⟨Φ,Z,ρ,env,m,F,p⟩=>i Φ Z ρ σ H env m Q F p⟩
 | false=>exact⟨xY (aGy h) fun σ H Q ⟨Φ,Z,ρ,env,m,F,p⟩=>i Φ Z ρ σ H env m Q F p⟩
theorem aTg (mu:Bool) {pos:Pos}:SE X W (.Dict [] [] pos) (bBm mu):=bFg (mu:=mu) pe_dnewK fun Φ Z ρ σ H env m Q F p=>by
 cases mu with
 | true=>exact fun q hq=>((aVe F.rel .nil rfl p hq).1 rfl)
 | false=>exact fun q hq=>⟨q,_,rfl,upd_same,True.intro,fun od=>by rw [upd_upd]; exact(aVe F.rel .nil rfl p hq).2 rfl od⟩
end
end Ev
namespace EvM
open PySem PySem.Spec PyProof.Rows L2
theorem aPe {P:Program} {w:World} {e:Int×Value} {k:Key} (g:RelV (kV k) e.2):Ev.keyM e=k:=by
 unfold Ev.keyM
 cases k with
 | inl i=>obtain⟨t,q⟩:=(show ∃ t,e.2=Value.int i t from g); rw [q]
 | inr x=>obtain⟨t,q⟩:=(show ∃ t,e.2=Value.str x t from g); rw [q]
section
variable {P:Program} {w:World} {A:Around} {E:Value→Shared→Prop} {s:Shared} {a:Addr} {ks:List Key}
theorem bBf {l:List (Int×Value)} (g:∀ e∈l,Ev.aSq P w e):ElemsOf (mixKind P w) l:=fun e he=>by
 obtain⟨k,r,hh⟩:=g e he
 refine⟨⟨k,kV_is r,hh⟩,?_⟩
 cases k with
 | inl i=>obtain⟨t,q⟩:=(show ∃ t,e.2=Value.int i t from r); rw [q]; rfl
 | inr x=>obtain⟨t,q⟩:=(show ∃ t,e.2=Value.str x t from r); rw [q]; rfl
theorem bGl {e:Int×Value} (g:Ev.aSq P w e) (k:Key):(mixKind P w).is k e.2=true↔Ev.keyM e=k:=by
 obtain⟨j,r,_⟩:=g
 have ej:=aPe (P:=P) (w:=w) r
 refine⟨fun z=>ej.trans ((mixKind P w).inj _ _ _ (kV_is r) z),fun z=>?_⟩
 have:j=k:=ej.symm.trans z
 rw [←this]; exact kV_is r
theorem bCj {l:List (Int×Value)} (g:∀ e∈l,Ev.aSq P w e) (k:Key):k∈l.map Ev.keyM↔∃ e∈l,(mixKind P w).is k e.2=true:=by
 rw [List.mem_map]
 exact⟨fun⟨e,h1,h2⟩=>⟨e,h1,(bGl (g e h1) k).mpr h2⟩,fun⟨e,h1,h2⟩=>⟨e,h1,(bGl (g e h1) k).mp h2⟩⟩
theorem bAh {h:Heap} (w:World):Ev.SetM P w (h.push {cls:= .type "set",dict:=none,data:= .set #[] 0 (.fresh 0 0 (!w.params.followText "set-order"))}) h.objs.size []:=
 ⟨_,#[],0,_,Heap.get?_push_size _ rfl,⟨rfl,rfl,rfl⟩,rfl,(fun _ z=>by simp at z),.nil,List.nodup_nil,by decide,rfl,List.Pairwise.nil,by
  cases hw:w.params.followText "set-order" with
  | true=>exact .inl rfl
  | false=>exact .inr rfl⟩
theorem aXm {g:Bool→Sem Unit} (gOk:∀(c:Bool) (z:Shared) (q:Unit→Shared→Prop),q () z→wpAny (model P w) A (g c) q E z)
  {ob:Obj} {es0 es1:Array (Int×Value)} {ep:Nat} {t0 t1:SetTable} {js:List Key} (h0:s.heap.get? a=some ob) (hx:ob.ExactSet) (hd:ob.data= .set es0 ep t0)
  (good:∀ e∈es1.toList,Ev.aSq P w e) (pm:(es1.toList.map Ev.keyM).Perm js) (nd:js.Nodup) (few:js.length < 4090)
  (fit:t1.fits es1.size=true) (ris:Ris t1.place.toList) (led:w.params.followText "set-order"=true∨t1.led=true) {wasDummy:Bool} {R:Option Bool→Shared→Prop}
  (fin:∀ h1,Heap.SameBut a s.heap h1→Ev.SetM P w h1 a js→R (some true) {s with heap:=h1}):
  wpAny (model P w) A (do
    storeSet a es1 t1
    if(!wasDummy&&t1.tooFull)=true then do
      g (relayAll t1 es1 (SetTable.grown es1.size)).2.2
      storeSet a (relayAll t1 es1 (SetTable.grown es1.size)).1 (relayAll t1 es1 (SetTable.grown es1.size)).2.1
      pure (some true)
     else pure (some true)) R E s:=by
 have sz1:es1.size=js.length:=by rw [←Array.length_toList,←List.length_map (f:=Ev.keyM),pm.length_eq]
 have b1:es1.size < scanBound:=by rw [sz1]; exact Nat.lt_trans few (by decide)
 refine wpAny_bind (wpAny_storeSet_of h0 hd ?_ (fits_of_scanBound b1))
 have at1:=store_at (es':=es1) (t':=t1) h0 hd
 have same1:=Heap.SameBut.update s.heap a (Obj.putSet es1 t1)
 split
 ·have pmR:=relayAll_perm t1 es1 (SetTable.grown es1.size)
  have fitR:=relayAll_fits t1 es1 (SetTable.grown es1.size)
  have risR:=relayAll_ris t1 es1 (SetTable.grown es1.size)
  have ledR:=relayAll_led t1 es1 (SetTable.grown es1.size)
  generalize relayAll t1 es1 (SetTable.grown es1.size)=Y at pmR fitR risR ledR ⊢
  obtain⟨es2,t2,gone⟩:=Y
  dsimp only at pmR fitR risR ledR ⊢
  have sz2:es2.size=es1.size:=by rw [←Array.length_toList,pmR.length_eq,Array.length_toList]
  refine wpAny_bind (gOk _ _ _ ?_)
  refine wpAny_bind (wpAny_storeSet_of at1 rfl ?_ (fits_of_scanBound (by rw [sz2]; exact b1)))
  have at2:=store_at (es':=es2) (t':=t2) at1 rfl
  exact wpAny_pure (fin _ (same1.trans (Heap.SameBut.update _ a _)) ⟨_,es2,_,t2,at2,hx,rfl,fun e he=>good e (pmR.mem_iff.mp he),(pmR.map Ev.keyM).trans pm,nd,few,fitR,risR,led.imp id fun z=>ledR.trans z⟩)
 ·exact wpAny_pure (fin _ same1 ⟨_,es1,_,t1,at1,hx,rfl,good,pm,nd,few,fit,ris,led⟩)
theorem aGo {k:Key} {u:Value} {Q:Bool→Shared→Prop} (S:Ev.SetM P w s.heap a ks) (ru:RelV (kV k) u) (few:ks.length < 4000)
  (fin:∀ h1,Heap.SameBut a s.heap h1→Ev.SetM P w h1 a (Ev.addK ks k)→∀ r,Q r {s with heap:=h1}):wpAny (model P w) A (setAddHashed a u ((mixKind P w).hash k)) Q E s:=by
 obtain⟨ob,es0,ep,t0,h0,hx,hd,good,pm,nd,few0,fit,ris,led⟩:=S
 have hkey:(mixKind P w).is k u=true:=kV_is ru
 have hsc:u.scannable=true:=by
  cases k with
  | inl i=>obtain⟨t,q⟩:=(show ∃ t,u=Value.int i t from ru); rw [q]; rfl
  | inr x=>obtain⟨t,q⟩:=(show ∃ t,u=Value.str x t from ru); rw [q]; rfl
 have els:ElemsOf (mixKind P w) es0.toList:=bBf good
 have sz0:es0.size=ks.length:=by rw [←Array.length_toList,←List.length_map (f:=Ev.keyM),pm.length_eq]
 have b0:es0.size < scanBound:=by rw [sz0]; exact Nat.lt_trans few (by decide)
 unfold setAddHashed setAddHashedIn
 refine wpAny_holding (wpAny_bind (wpAny_setState_of h0 hd fit ?_))
 dsimp only
 rw [byScan_of hsc b0 els]
 simp only [↓reduceIte]
 unfold setAddByScan
 refine wpAny_bind (wpAny_bind (wpAny_rule ?_))
 refine wpAny_bind (wpAny_setScan_of hkey h0 hd fit els ?_)
 cases hf:List.findIdx? (fun e=>(mixKind P w).is k e.2) es0.toList with
 | some j=>
  dsimp only
  obtain⟨hj,pj,_⟩:=List.findIdx?_eq_some_iff_getElem.mp hf
  have hin:k∈ks:=pm.mem_iff.mp ((bCj good k).mpr ⟨_,List.getElem_mem hj,pj⟩)
  refine wpAny_pure (wpAny_pure (fin s.heap (Heap.SameBut.refl a s.heap) ⟨ob,es0,ep,t0,h0,hx,hd,good,?_,?_,?_,fit,ris,led⟩ _))
  ·rw [Ev.aUd hin]; exact pm
  ·rw [Ev.aUd hin]; exact nd
  ·rw [Ev.aUd hin]; exact few0
 | none=>
  dsimp only
  have hin:k∉ks:=fun z=>by
   obtain⟨e,he,q⟩:=(bCj good k).mp (pm.mem_iff.mpr z)
   have c:=List.findIdx?_eq_none_iff.mp hf e he
   rw [q] at c; cases c
  have gOk:∀(c:Bool) {z:Shared} {q:Unit→Shared→Prop},q () z→wpAny (model P w) A (match c with | true=>rule "set.scan.the-table-gave-way" | false=>pure ()) q E z:=
   fun c z q h=>by cases c<;>first | exact wpAny_pure h | exact wpAny_rule h
  have pmL:=layNew_perm t0 es0 ((mixKind P w).hash k) u
  have fitL:=layNew_fits t0 es0 ((mixKind P w).hash k) u
  have risL:=layNew_ris t0 es0 ((mixKind P w).hash k) u ris
  have ledL:=layNew_led t0 es0 ((mixKind P w).hash k) u
  generalize layNew t0 es0 ((mixKind P w).hash k) u=Y at pmL fitL risL ledL ⊢
  obtain⟨es1,t1,wasDummy,gone⟩:=Y
  dsimp only at pmL fitL risL ledL ⊢
  rw [Array.toList_push] at pmL
  have goodU:Ev.aSq P w ((mixKind P w).hash k,u):=⟨k,ru,rfl⟩
  have good1:∀ e∈es1.toList,Ev.aSq P w e:=fun e he=>by
   rcases List.mem_append.mp (pmL.mem_iff.mp he) with z | z
   ·exact good e z
   ·rw [List.mem_singleton.mp z]; exact goodU
  have pm1:(es1.toList.map Ev.keyM).Perm (Ev.addK ks k):=by
   rw [Ev.aPz hin]
   refine(pmL.map Ev.keyM).trans ?_
   rw [List.map_append,List.map_cons,List.map_nil,aPe (P:=P) (w:=w) (e:=((mixKind P w).hash k,u)) ru]
   exact pm.append_right _
  have nd1:(Ev.addK ks k).Nodup:=by
   rw [Ev.aPz hin]
   exact List.nodup_append.mpr ⟨nd,by simp,fun x hx y hy e=>hin (by rw [←List.mem_singleton.mp hy,←e]; exact hx)⟩
  have few1:(Ev.addK ks k).length < 4090:=by
   rw [Ev.aPz hin,List.length_append,List.length_singleton]; omega
  have led1:w.params.followText "set-order"=true∨t1.led=true:=led.imp id fun z=>by rw [ledL]; exact z
  refine wpAny_bind (gOk _ ?_)
  split
  ·refine wpAny_bind ?_
   rw [hashByValue_scannable 8 hsc]
   refine wpAny_pure (aXm (fun c z q h=>by cases c<;>first | exact wpAny_pure h | exact wpAny_rule h) h0 hx hd good1 pm1 nd1 few1 ?_ ?_ ?_ fun h1 sb r=>by dsimp only; exact wpAny_pure (fin h1 sb r _))
   ·first | (split<;>first | exact fitL | exact SetTable.fits_plain_off fitL) | exact fitL
   ·first | (split<;>exact risL) | exact risL
   ·first | (split<;>exact led1) | exact led1
  ·refine wpAny_bind (wpAny_pure ?_)
   simp only [↓reduceIte]
   exact aXm (fun c z q h=>by cases c<;>first | exact wpAny_pure h | exact wpAny_rule h) h0 hx hd good1 pm1 nd1 few1 fitL risL led1 fun h1 sb r=>by dsimp only; exact wpAny_pure (fin h1 sb r _)
theorem bFc {k:Key} {u:Value} {Q:Value→Shared→Prop} (S:Ev.SetM P w s.heap a ks) (ru:RelV (kV k) u) (few:ks.length < 4000)
  (fin:∀ h1 tk,Heap.SameBut a s.heap h1→Ev.SetM P w h1 a (Ev.addK ks k)→Q .none {s with heap:=h1,toks:=tk}):wpAny (model P w) A (call (.builtin "set.add") [.ref a,u]) Q E s:=by
 have ty:s.TypeIs (.ref a) "set":=let ⟨ob,_,_,_,h0,hx,_⟩:=S; ⟨ob,h0,hx.1⟩
 refine wpAny_call_entry F.slot_set_add ty F.entry_set_add ?_ (F.args_set_add_2 _ _)
 unfold Builtin.«set.add» Builtin.Frozenset.oneOther
 simp only [List.isEmpty_nil,bind_assoc]
 unfold Builtin.Frozenset.addrOf setAdd
 refine wpAny_bind (wpAny_pure ?_)
 try dsimp only
 refine wpAny_bind (wpAny_pure ?_)
 try dsimp only
 refine wpAny_bind (wpAny_holding (wpAny_bind ((mixKind P w).pyHash (kV_is ru) ?_)))
 refine aGo (s:={s with toks:=s.toks+1}) S ru few fun h1 sb r b=>?_
 show wpAny _ _ (ret Value.none) _ _ _
 exact wpAny_pure ⟨_,rfl,fin h1 _ sb r⟩
end
end EvM
namespace EvN
open PySem PySem.Spec PyProof.Rows L2
noncomputable abbrev scx (elt a ia:Expr) (fa:List Expr) (b ib:Expr) (fb:List Expr) (sc:Scope) (po:Pos):Expr:= .SetComp elt [⟨a,ia,fa,0⟩,⟨b,ib,fb,0⟩] sc po
noncomputable abbrev tsts (fs:List Expr) (env:PySem.Env):Sem Bool:=forIn fs true fun c r=>if r=true then do let ok ←isTrue c env (eval c env); pure (ForInStep.yield ok) else pure (ForInStep.yield r)
theorem bH4 (elt a ia b ib:Expr) (fa fb:List Expr) (sc:Scope) (po:Pos) (it acc:Value) (env:PySem.Env):compTurn (scx elt a ia fa b ib fb sc po) 0 it acc env=(do
   standAt ia.pos
   match ←pyNext it with
   | none=>pure (.done .next)
   | some v=>
    letOwnedTupleGo a it v
    assign a env v
    let mut ok:=true
    for c in fa do
     if ok then ok ←isTrue c env (eval c env)
    if ok then
     let x ←eval ib env
     standAt ib.pos
     let x ←foldedSetIterable ib env x
     let _ ←runOwn (.compStart (scx elt a ia fa b ib fb sc po) 1 (←holding [x] (pyIter x)) acc env) env
    again (.compLoop (scx elt a ia fa b ib fb sc po) 0 it acc env)):=by rfl
theorem bCt (elt a ia b ib:Expr) (fa fb:List Expr) (sc:Scope) (po:Pos) (it acc:Value) (env:PySem.Env):compTurn (scx elt a ia fa b ib fb sc po) 1 it acc env=(do
   standAt ib.pos
   match ←pyNext it with
   | none=>pure (.done .next)
   | some v=>
    letOwnedTupleGo b it v
    assign b env v
    let mut ok:=true
    for c in fb do
     if ok then ok ←isTrue c env (eval c env)
    if ok then
     (do let v ←eval elt env; standAt elt.pos; let _ ←call (.builtin "set.add") [acc,v])
    again (.compLoop (scx elt a ia fa b ib fb sc po) 1 it acc env)):=by rfl
section
variable {P:Program} {w:World} {A:Around} {R:Result→Shared→Prop} {s:Shared} {elt a ia b ib:Expr} {fa fb:List Expr} {sc:Scope} {po:Pos} {it acc:Value} {env:PySem.Env}
theorem bHf (plain:∀ x,foldedSetIterable ib env x=pure x) (J:Nat→Shared→Prop)
  (step:∀ k z,J k z→wpAny (model P w) A (pyNext it) (fun r z1=>match r with
   | none=>R (.ok .next) z1
   | some v=>wpAny (model P w) A (letOwnedTupleGo a it v) (fun _ z2=>wpAny (model P w) A (assign a env v) (fun _ z3=>wpAny (model P w) A (tsts fa env) (fun ok z4=>
         if ok=true then wpAny (model P w) A (eval ib env) (fun x z5=>wpAny (model P w) A (pyIter x) (fun jt z6=>
       codeAny (model P w) A (.compStart (scx elt a ia fa b ib fb sc po) 1 jt acc env) (fun r z7=>match r with
        | .ok _=>∃ l,l < k∧J l z7
        | .error _=>False) z6) (notedBy (model P w) A env fun e z=>R (.error e) z) z5) (notedBy (model P w) A env fun e z=>R (.error e) z) z4
      else ∃ l,l < k∧J l z4) (notedBy (model P w) A env fun e z=>R (.error e) z) z3) (notedBy (model P w) A env fun e z=>R (.error e) z) z2) (notedBy (model P w) A env fun e z=>R (.error e) z) z1) (notedBy (model P w) A env fun e z=>R (.error e) z) z)
  (k:Nat) (j0:J k s):codeAny (model P w) A (.compLoop (scx elt a ia fa b ib fb sc po) 0 it acc env) R s:=by
 refine codeAny_loop rfl J (fun k z hJ=>?_) k j0
 show wpAny _ A ((compTurn (scx elt a ia fa b ib fb sc po) 0 it acc env).onRaise (fun x=>do noteFrame x env; theTreesLotGoes x)) _ _ z
 refine wpAny_noted ?_
 rw [bH4]
 refine wpAny_bind (wpAny_standAt (wpAny_bind (wpAny_mono (step k z hJ) (fun r z1 q1=>?_) fun _ _ e=>e)))
 cases r with
 | none=>exact wpAny_pure q1
 | some v=>
  refine wpAny_bind (wpAny_mono q1 (fun _ z2 q2=>wpAny_bind (wpAny_mono q2 (fun _ z3 q3=>wpAny_bind (wpAny_mono q3 (fun ok z4 q4=>?_) fun _ _ e=>e)) fun _ _ e=>e)) fun _ _ e=>e)
  cases ok with
  | false=>exact wpAny_pure ⟨rfl,q4⟩
  | true=>
   refine wpAny_bind (wpAny_mono q4 (fun x z5 q5=>?_) fun _ _ e=>e)
   refine wpAny_bind (wpAny_standAt (wpAny_bind (wpAny_of_eq (plain x) (wpAny_bind (wpAny_holding (wpAny_mono q5 (fun jt z6 q6=>?_) fun _ _ e=>e))))))
   refine wpAny_bind (wpAny_runOwn ?_)
   rw [Around.mark_none]
   refine codeAny_mono q6 fun r z7 q7=>?_
   cases r with
   | ok f=>first | exact wpAny_pure ⟨rfl,q7⟩ | exact wpAny_bind (wpAny_pure (wpAny_pure ⟨rfl,q7⟩))
   | error e=>exact q7.elim
theorem bHe (J:Nat→Shared→Prop)
  (step:∀ k z,J k z→wpAny (model P w) A (pyNext it) (fun r z1=>match r with
   | none=>R (.ok .next) z1
   | some v=>wpAny (model P w) A (letOwnedTupleGo b it v) (fun _ z2=>wpAny (model P w) A (assign b env v) (fun _ z3=>wpAny (model P w) A (tsts fb env) (fun ok z4=>
         if ok=true then wpAny (model P w) A (eval elt env) (fun x z5=>wpAny (model P w) A (call (.builtin "set.add") [acc,x]) (fun _ z6=>∃ l,l < k∧J l z6) (notedBy (model P w) A env fun e z=>R (.error e) z) z5) (notedBy (model P w) A env fun e z=>R (.error e) z) z4
         else ∃ l,l < k∧J l z4) (notedBy (model P w) A env fun e z=>R (.error e) z) z3) (notedBy (model P w) A env fun e z=>R (.error e) z) z2) (notedBy (model P w) A env fun e z=>R (.error e) z) z1) (notedBy (model P w) A env fun e z=>R (.error e) z) z)
  (k:Nat) (j0:J k s):codeAny (model P w) A (.compLoop (scx elt a ia fa b ib fb sc po) 1 it acc env) R s:=by
 refine codeAny_loop rfl J (fun k z hJ=>?_) k j0
 show wpAny _ A ((compTurn (scx elt a ia fa b ib fb sc po) 1 it acc env).onRaise (fun x=>do noteFrame x env; theTreesLotGoes x)) _ _ z
 refine wpAny_noted ?_
 rw [bCt]
 refine wpAny_bind (wpAny_standAt (wpAny_bind (wpAny_mono (step k z hJ) (fun r z1 q1=>?_) fun _ _ e=>e)))
 cases r with
 | none=>exact wpAny_pure q1
 | some v=>
  refine wpAny_bind (wpAny_mono q1 (fun _ z2 q2=>wpAny_bind (wpAny_mono q2 (fun _ z3 q3=>wpAny_bind (wpAny_mono q3 (fun ok z4 q4=>?_) fun _ _ e=>e)) fun _ _ e=>e)) fun _ _ e=>e)
  cases ok with
  | false=>exact wpAny_pure ⟨rfl,q4⟩
  | true=>exact wpAny_bind (wpAny_bind (wpAny_mono q4 (fun x z5 q5=>wpAny_bind (wpAny_standAt (wpAny_bind (wpAny_mono q5 (fun _ z6 q6=>wpAny_pure (wpAny_pure ⟨rfl,q6⟩)) fun _ _ e=>e)))) fun _ _ e=>e))
theorem bFa (l0:codeAny (model P w) A (.compLoop (scx elt a ia fa b ib fb sc po) 1 it acc env) R s)
  (l1:wpAny (model P w) A (pyIter it) (fun jt z=>codeAny (model P w) A (.compLoop (scx elt a ia fa b ib fb sc po) 1 jt acc env) R z) (notedBy (model P w) A env fun x z=>R (.error x) z) s):
  codeAny (model P w) A (.compStart (scx elt a ia fa b ib fb sc po) 1 it acc env) R s:=by
 refine codeAny_of_tree ?_
 show wpAny _ _ ((compStart (scx elt a ia fa b ib fb sc po) 1 it acc env).onRaise (fun x=>do noteFrame x env; standAt theWindowsPlace)) _ _ s
 refine wpAny_notedAt ?_
 unfold compStart
 show wpAny _ _ (ask >>=_) _ _ s
 refine wpAny_bind (wpAny_askSetting (wpAny_ite ?_))
 split
 ·first | exact wpAny_bind (wpAny_pure (wpAny_pure (And.intro rfl l0))) | exact wpAny_pure (And.intro rfl l0)
 ·first
   | exact wpAny_bind (wpAny_rule (wpAny_bind (wpAny_standAt (wpAny_bind (wpAny_mono l1 (fun jt z q=>wpAny_pure (And.intro rfl q)) fun _ _ x=>x)))))
   | (refine wpAny_bind (wpAny_rule ?_); show wpAny _ _ (standAt ib.pos >>=_) _ _ s; exact wpAny_bind (wpAny_standAt (wpAny_bind (wpAny_mono l1 (fun jt z q=>wpAny_pure (And.intro rfl q)) fun _ _ x=>x))))
end
section
variable {X:Cx} [Ev.Wrl]
theorem aXq {H:Hp} {h:Heap} {a:Addr} {ks:List Key} (hr:Ev.Here X) (S:Ev.SetM X.prog X.w h a ks):ObjOk X.prog X.w H h a (Ev.setO a ks):=by
 have S':Ev.SetM Ev.Wrl.P Ev.Wrl.w h a ks:=by rw [hr.p,hr.w]; exact S
 refine⟨S',?_,fun h1 h2 q k=>?_⟩
 ·obtain⟨o,_,_,_,e,_⟩:=S; exact⟨o,e⟩
 ·obtain⟨o,es,ep,t,e,r⟩:=q
  exact⟨o,es,ep,t,k o e,r⟩
theorem aXs {H:Hp} {h:Heap} {a:Addr} {ks:List Key} (hr:Ev.Here X) (ok:HOk X.prog X.w H h) (e:H a=some (Ev.setO a ks)):Ev.SetM X.prog X.w h a ks:=by
 have q:ObjOk X.prog X.w H h a (.ext fun h=>Ev.SetM Ev.Wrl.P Ev.Wrl.w h a ks):=ok a _ e
 have q1:=q.1
 rw [hr.p,hr.w] at q1
 exact q1
theorem bD4 {a:Addr} {ks:List Key}:Mut (some (Ev.setO a ks)):=True.intro
theorem setAdd_ok {pins:List (Addr×Obj)} {σ:L2.St} {H:Hp} {s:Shared} {E:Value→Shared→Prop} {D:Addr} {ks:List Key} {k:Key} {y:V} {v:Value} {Q:Value→Shared→Prop} (hr:Ev.Here X) (I:Inv X pins σ H s) (hD:H D=some (Ev.setO D ks)) (ey:y=kV k) (r:RelV y v) (few:ks.length < 4000)
  (fin:∀ z,Inv X pins σ (upd H D (Ev.setO D (Ev.addK ks k))) z→Q .none z):wpAny (model X.prog X.w) X.A (call (.builtin "set.add") [.ref D,v]) Q E s:=by
 subst ey
 refine EvM.bFc (aXs hr I.hok hD) r few fun h1 tk sb S=>fin _ (I.write (t':=tk) (by rw [hD]; exact bD4) (.inl rfl) (fun c u hb q=>(sb.2 c hb).trans q) ?_ (aXq hr S))
 exact let ⟨o,_,_,_,e,_⟩:=S; ⟨o,e⟩
noncomputable def tSc2 (wi:TI) (g:TG) (tt:TT) (wi1:TI) (g1:TG) (tt1:TT) (te:TE) (vs vs1:List Nat):TE:=fun σ H Q=>wi σ H fun J H1=>∀ D,H1 D=none→∃ W:Nat→Nat→Hp→Prop,(∃ m,W 0 m (upd H1 D (Ev.setO D [])))∧∀ i m H,W i m H→
 (J.stop i H∧Q (.ref D) H)∨(J.go i H∧∃ Nx:Hp→Prop,(∀ H',Nx H'→∃ m',m' < m∧W (i+1) m' H')∧∀ x H',J.yld i H x H'→g x (wipe σ vs) H' fun σ2 H2=>wipe σ2 vs=wipe σ vs∧tt σ2 H2 fun b H3=>
  if b=true then wi1 σ2 H3 fun J1 H4=>∃ W1:Nat→Nat→Hp→Prop,(∃ m,W1 0 m H4)∧∀ j k H,W1 j k H→
   (J1.stop j H∧Nx H)∨(J1.go j H∧∃ Nx1:Hp→Prop,(∀ H',Nx1 H'→∃ k',k' < k∧W1 (j+1) k' H')∧∀ x H',J1.yld j H x H'→g1 x (wipe σ2 vs1) H' fun σ3 H5=>wipe σ3 vs1=wipe σ2 vs1∧tt1 σ3 H5 fun b H6=>
    if b=true then te σ3 H6 fun y H7=>∃ ks k,H7 D=some (Ev.setO D ks)∧y=kV k∧ks.length < 4000∧Nx1 (upd H7 D (Ev.setO D (Ev.addK ks k))) else Nx1 H6)
  else Nx H3)
noncomputable abbrev CLs:Type:=List (Str×Addr)
noncomputable abbrev bkX (X:Cx) (sc:Scope) (z:Shared) (H:Hp) (C:Addr) (cl:CLs) (fp:List Addr):Cx:=X.blk z H sc (compEnvC sc cl C X.env) fp
structure Blk (X:Cx) (sc:Scope) (tg:Expr) (fs:List Expr) (g:TG) (tt:TT):Prop where
 g:∀ z H C cl fp,PG (bkX X sc z H C cl fp) tg g
 t:∀ z H C cl fp,PTs (bkX X sc z H C cl fp) fs tt
theorem bFr {elt a ia b ib:Expr} {fa fb:List Expr} {sc:Scope} {own:List (Str×Nat)} {vs1:List Nat} {po:Pos} {wi wi1:TI} {g g1:TG} {tt tt1:TT} {te:TE} (hr:Ev.Here X) (hc:X.calm=true) (hN:X.N.Nodup) (hi:PI X a ia wi) (ok:BlkOk X.N X.env.scope sc own) (hv:∀ i∈vs1,i∈own.map (·.2))
  (k0:Blk X sc a fa g tt) (hi1:∀ z H C cl fp,PI (bkX X sc z H C cl fp) b ib wi1) (k1:Blk X sc b fb g1 tt1) (he:∀ z H C cl fp,PE (bkX X sc z H C cl fp) elt te)
  (hs:∀ x,foldedSetIterable ia X.env x=pure x:=by intro _; rfl) (hs1:∀ env x,foldedSetIterable ib env x=pure x:=by intro _ _; rfl):
  PE X (scx elt a ia fa b ib fb sc po) (tSc2 wi g tt wi1 g1 tt1 te (own.map (·.2)) vs1):=by
 refine⟨fun pins s σ H Q I h=>?_⟩
 rw [arm_eval_SetComp]
 have cellsAt:∀ y∈sc.names,y.2= .free→∃ c,X.env.cells.lookup y.1=some c:=fun y hy e=>(ok.free y hy e).elim (fun k=>I.ok.has _ (.inl k)) fun k=>I.ok.has _ (.inr k)
 refine wpAny_comprehension_free (use:=none) rfl hs (closure_ok cellsAt) ok.kind (fun y hy e=>by rw [ok.uniq y hy,e]) (thn (hi.run pins s σ H _ I h) fun xv z1 hx=>thn hx fun itv z2 h2=>?_)
 obtain⟨it,fp,tn,J,H2,e,I2,T,st2,f2,q⟩:=h2
 subst e
 refine wpAny_newSet_raw fun led hled=>newEnv_comp ?_
 subst hled
 generalize hD:z2.heap.objs.size=D
 have freshD:H2 D=none:=I2.hok.fresh (Nat.le_of_eq hD)
 obtain⟨W,⟨m0,w0⟩,turn⟩:=q D freshD
 generalize ez:({z2 with heap:=z2.heap.push {cls:= .type "set",dict:=none,data:= .set #[] 0 (.fresh 0 0 (!X.w.params.followText "set-order"))}}:Shared)=z3
 have hp3:z3.heap=z2.heap.push {cls:= .type "set",dict:=none,data:= .set #[] 0 (.fresh 0 0 (!X.w.params.followText "set-order"))}:=by rw [←ez]
 have I3:Inv X pins σ (upd H2 D (Ev.setO D [])) z3:=by
  rw [←ez]
  refine I2.laid (t':=z2.toks) (fun c o e=>Heap.get?_push_of_some _ e) (Nat.le_of_eq hD) (aXq hr ?_)
  rw [←hD]
  exact EvM.bAh (P:=X.prog) X.w
 have below:∀ c∈fp,c < z2.heap.objs.size:=fun c hm=>let ⟨_,e,_⟩:=T.obj _ _ st2 c hm; Heap.lt_size e
 have f3:∀ c∈fp,FpOk X pins (upd H2 D (Ev.setO D [])) c∧c < z3.heap.objs.size:=fun c hm=>by
  have lt:=below c hm
  refine⟨⟨?_,(f2 c hm).2⟩,by rw [hp3,Heap.size_push]; exact Nat.lt_succ_of_lt lt⟩
  rw [upd_ne (by rw [←hD]; exact Nat.ne_of_lt lt)]; exact(f2 c hm).1
 have st3:tn 0 z3.heap:=T.keep _ _ _ st2 fun c _ o e=>by rw [hp3]; exact Heap.get?_push_of_some _ e
 have I4:=block_start I3 ok hN f3
 generalize hH3:upd H2 D (Ev.setO D [])=H3 at I3 I4 w0 f3
 generalize hcl:cellsFrom (z3.heap.objs.size+1) sc.names (cloFrom X.env.cells sc.names [])=cl at I4
 have pg:PG (X.blk z3 H3 sc (compEnvC sc cl z3.heap.objs.size X.env) fp) a g:=k0.g z3 H3 z3.heap.objs.size cl fp
 have pt:PTs (X.blk z3 H3 sc (compEnvC sc cl z3.heap.objs.size X.env) fp) fa tt:=k0.t z3 H3 z3.heap.objs.size cl fp
 have pe:PE (X.blk z3 H3 sc (compEnvC sc cl z3.heap.objs.size X.env) fp) elt te:=he z3 H3 z3.heap.objs.size cl fp
 have pi1:PI (X.blk z3 H3 sc (compEnvC sc cl z3.heap.objs.size X.env) fp) b ib wi1:=hi1 z3 H3 z3.heap.objs.size cl fp
 have pg1:PG (X.blk z3 H3 sc (compEnvC sc cl z3.heap.objs.size X.env) fp) b g1:=k1.g z3 H3 z3.heap.objs.size cl fp
 have pt1:PTs (X.blk z3 H3 sc (compEnvC sc cl z3.heap.objs.size X.env) fp) fb tt1:=k1.t z3 H3 z3.heap.objs.size cl fp
 have noneF:∀ c∈fp,H3 c=none:=fun c hm=>(f3 c hm).1.1
 have back:∀ {σ':L2.St} {Hn:Hp} {zn:Shared},Inv (X.blk z3 H3 sc (compEnvC sc cl z3.heap.objs.size X.env) fp) [] σ' Hn zn→Q (.ref D) Hn→compPost (model X.prog X.w) X.A X.xe none (EP X pins σ Q) (.ref D) z3.heap.objs.size (.ok .next) zn:=fun {σ' Hn zn} In qq=>by
  have Iq:Inv X pins σ Hn zn:=I3.call' (ch:=fp) In.os In.base In.hok In.bare fun c hm=>⟨(f3 c hm).1.2.2.2.1,(f3 c hm).1.2.1,(f3 c hm).1.2.2.2.2.1,(f3 c hm).1.2.2.2.2.2⟩
  have nC:Hn z3.heap.objs.size=none:=In.free
  obtain⟨mm,hn,_⟩:=In.loc
  obtain⟨y0,y1,y2,y3,y4,y5⟩:=I3.fpOk (Nat.le_refl z3.heap.objs.size) nC
  exact⟨mm,hn,fun hh sb=>⟨.ref D,Hn,Iq.turned (t':=zn.toks) (fun c o hb e=>(sb.2 c hb).trans e) y0 y1 y3 y4 y5,rfl,qq⟩⟩
 show codeAny _ _ (.compStart (scx elt a ia fa b ib fb sc po) 0 (.ref it) (.ref D) (compEnvC sc cl z3.heap.objs.size X.env)) (compPost (model X.prog X.w) X.A X.xe none (EP X pins σ Q) (.ref D) z3.heap.objs.size) {z3 with heap:=pushCells (z3.heap.push {cls:= .type "dict",data:= .dict #[]}) sc.names}
 generalize hce:compEnvC sc cl z3.heap.objs.size X.env=ce at I4 pg pt pe pi1 pg1 pt1 back ⊢
 generalize hz4:({z3 with heap:=pushCells (z3.heap.push {cls:= .type "dict",data:= .dict #[]}) sc.names}:Shared)=z4 at I4 ⊢
 have st4:tn 0 z4.heap:=T.keep _ _ _ st3 fun c _ o e=>by rw [←hz4]; exact pushCells_keeps _ _ _ _ (Heap.get?_push_of_some _ e)
 let B:Cx:=X.blk z3 H3 sc ce fp
 have stat:∀ {σ':L2.St} {Hn:Hp} {zn:Shared},Inv B [] σ' Hn zn→(∀ c∈fp,Hn c=none)→∀ c∈fp,FpOk B [] Hn c:=fun {σ' Hn zn} In hn c hm=>
  ⟨hn c hm,(In.ok.exf c hm).1,In.ok.exfs c hm,.inl hm,fun x y e=>(In.ok.exf c hm).2 x y e,fun p hp=>absurd (show p∈([]:List (Addr×Obj))++[] from hp) (by simp)⟩
 let V:=own.map (·.2)
 have loop:codeAny (model X.prog X.w) X.A (.compLoop (scx elt a ia fa b ib fb sc po) 0 (.ref it) (.ref D) ce) (compPost (model X.prog X.w) X.A X.xe none (EP X pins σ Q) (.ref D) z3.heap.objs.size) z4:=by
  refine bHf (hs1 ce) (fun n z=>∃ i Hn,Inv B [] (wipe σ V) Hn z∧tn i z.heap∧(∀ c∈fp,Hn c=none)∧W i n Hn) ?_ m0 ⟨0,H3,I4,st4,noneF,w0⟩
  rintro n z5 ⟨i,H5,I5,st5,n5,w5⟩
  rcases turn i n H5 w5 with ⟨stop,qq⟩ | ⟨go,Nx,hNx,step⟩
  ·refine thnF (T.done B rfl rfl rfl hc i [] z5 _ H5 (fun _ _=>False) I5 (stat I5 n5) st5 stop) fun r z6 ⟨hr6,I6⟩=>?_
   subst hr6
   exact back I6 qq
  ·refine thnF (T.item B rfl rfl rfl hc i [] z5 _ H5 (fun _ _=>False) I5 (stat I5 n5) st5 go) fun r z6 ⟨u,hr6,h6⟩=>?_
   subst hr6
   refine thnF h6 fun _ z7 ⟨x,H7,I7,r7,y7,st7,n7⟩=>?_
   have P7:=I7.pinned (stat I7 n7) (T.obj _ _ st7)
   refine thnF (pg.run _ z7 _ H7 x u _ P7 r7 (step x H7 y7)) fun _ z8 ⟨σ8,H8,I8,w8,q8⟩=>thnF (pt.run _ z8 σ8 H8 _ I8 q8) fun t8 z9 ⟨H9,I9,q9⟩=>?_
   have on:∀ {σ9:L2.St} {zn:Shared} {Hn:Hp},Inv B ([]++pinsAt fp z7.heap) σ9 Hn zn→(wipe σ V).length=σ9.length→(∀(j:Nat) v,(wipe σ V)[j]? =some (some v)→σ9[j]? =some (some v))→Nx Hn→
     ∃ l,l < n∧∃ i Hn,Inv B [] (wipe σ V) Hn zn∧tn i zn.heap∧(∀ c∈fp,Hn c=none)∧W i l Hn:=fun {σ9 zn Hn} In hl hk nx=>by
    obtain⟨l,hl2,wn⟩:=hNx Hn nx
    have pinned:∀ c∈fp,∀ o,z7.heap.get? c=some o→zn.heap.get? c=some o∧Hn c=none:=fun c hm o e=>
     let y:=In.pin (c,o) (List.mem_append_right _ (List.mem_append_right _ (mem_pinsAt hm e)))
     ⟨y.1,y.2.1⟩
    exact⟨l,hl2,i+1,Hn,(In.unpinned (pins:=[])).weak hl hk,T.keep _ _ _ st7 fun c hm o e=>(pinned c hm o e).1,fun c hm=>let ⟨o,e,_⟩:=T.obj _ _ st7 c hm; (pinned c hm o e).2,wn⟩
   have len8:(wipe σ V).length=σ8.length:=by rw [←w8,wipe_length]
   cases t8 with
   | false=>
    simp only [Bool.false_eq_true,if_false] at q9 ⊢
    exact on I9 len8 (fun j v e=>by rw [←w8] at e; exact(wipe_some e).1) q9
   | true=>
    simp only [if_true] at q9 ⊢
    refine thnF (pi1.run _ z9 σ8 H9 _ I9 q9) fun xv zA hx=>thnF hx fun itv zB hB=>?_
    obtain⟨jt,fq,tm,J1,HB,e1,IB,T1,stB,fB,W1,⟨m1,w1⟩,bCt⟩:=hB
    subst e1
    have stat1:∀ {Hn:Hp},(∀ c∈fq,Hn c=none)→∀ c∈fq,FpOk B ([]++pinsAt fp z7.heap) Hn c:=fun hn c hm=>⟨hn c hm,(fB c hm).2⟩
    have inner:codeAny (model X.prog X.w) X.A (.compLoop (scx elt a ia fa b ib fb sc po) 1 (.ref jt) (.ref D) ce)
      (fun r zn=>match r with
       | .ok _=>∃ l,l < n∧∃ i Hn,Inv B [] (wipe σ V) Hn zn∧tn i zn.heap∧(∀ c∈fp,Hn c=none)∧W i l Hn
       | .error _=>False) zB:=by
     refine bHe (fun k z=>∃ j Hn,Inv B ([]++pinsAt fp z7.heap) (wipe σ8 vs1) Hn z∧tm j z.heap∧(∀ c∈fq,Hn c=none)∧W1 j k Hn) ?_ m1 ⟨0,HB,IB.weak (wipe_length _ _) (fun j v e=>(wipe_some e).1),stB,fun c hm=>(fB c hm).1,w1⟩
     rintro k zC ⟨j,HC,IC,stC,nC,wC⟩
     rcases bCt j k HC wC with ⟨stop1,nx1⟩ | ⟨go1,Nx1,hNx1,step1⟩
     ·refine thnF (T1.done B rfl rfl rfl hc j _ zC (wipe σ8 vs1) HC (fun _ _=>False) IC (stat1 nC) stC stop1) fun r zD ⟨hrD,ID⟩=>?_
      subst hrD
      refine on ID (len8.trans (wipe_length σ8 vs1).symm) (fun j v e=>?_) nx1
      rw [←w8] at e
      obtain⟨e1,e2⟩:=wipe_some e
      rw [wipe_out fun z=>e2 (hv j z)]
      exact e1
     ·refine thnF (T1.item B rfl rfl rfl hc j _ zC (wipe σ8 vs1) HC (fun _ _=>False) IC (stat1 nC) stC go1) fun r zD ⟨u1,hrD,hD1⟩=>?_
      subst hrD
      refine thnF hD1 fun _ zE ⟨x1,HE,IE,rE,yE,stE,nE⟩=>?_
      have PE1:=IE.pinned (stat1 nE) (T1.obj _ _ stE)
      refine thnF (pg1.run _ zE (wipe σ8 vs1) HE x1 u1 _ PE1 rE (step1 x1 HE yE)) fun _ zF ⟨σF,HF,IF,wF,qF⟩=>thnF (pt1.run _ zF σF HF _ IF qF) fun tF zG ⟨HG,IG,qG⟩=>?_
      have on1:∀ {zn:Shared} {Hn:Hp},Inv B (([]++pinsAt fp z7.heap)++pinsAt fq zE.heap) σF Hn zn→Nx1 Hn→∃ l,l < k∧∃ j Hn,Inv B ([]++pinsAt fp z7.heap) (wipe σ8 vs1) Hn zn∧tm j zn.heap∧(∀ c∈fq,Hn c=none)∧W1 j l Hn:=fun {zn Hn} In nx=>by
       obtain⟨l,hl2,wn⟩:=hNx1 Hn nx
       have pinned:∀ c∈fq,∀ o,zE.heap.get? c=some o→zn.heap.get? c=some o∧Hn c=none:=fun c hm o e=>
        let y:=In.pin (c,o) (List.mem_append_right _ (List.mem_append_right _ (mem_pinsAt hm e)))
        ⟨y.1,y.2.1⟩
       exact⟨l,hl2,j+1,Hn,In.unpinned.weak (by rw [←wF,wipe_length]) (fun j v e=>by rw [←wF] at e; exact(wipe_some e).1),T1.keep _ _ _ stE fun c hm o e=>(pinned c hm o e).1,fun c hm=>let ⟨o,e,_⟩:=T1.obj _ _ stE c hm; (pinned c hm o e).2,wn⟩
      cases tF with
      | false=>
       simp only [Bool.false_eq_true,if_false] at qG ⊢
       exact on1 IG qG
      | true=>
       simp only [if_true] at qG ⊢
       refine thnF (pe.run _ zG σF HG _ IG qG) fun zz zI ⟨yv,HI,II,rI,ks,kk,hDI,ey,few,nx⟩=>?_
       exact setAdd_ok (X:=B) ⟨hr.p,hr.w⟩ II hDI ey rI few fun zJ IJ=>on1 IJ nx
    exact bFa inner (T1.self X.A 0 _ _ _ stB inner)
 exact codeAny_compStart_set loop (T.self X.A 0 _ _ _ st4 loop)
end
end EvN
namespace Ev
open PySem L2
variable [Wrl]
noncomputable def aHg {α:Type} (st:α→List T→Option α) (g:GF) (tt:BF) (fe:LF) (env0:Env):List T→α→Mem→Out α
 | [],a,m=> .ok a m
 | t::ts,a,m=>match g t env0 with
  | none=> .no
  | some env1=>match tt env1 m with
   | .ok true m1=>match fe env1 m1 with
    | .ok ys m2=>match st a ys with
     | some a1=>aHg st g tt fe env0 ts a1 m2
     | none=> .no
    | _=> .no
   | .ok false m1=>aHg st g tt fe env0 ts a m1
   | _=> .no
noncomputable def aM7 {α:Type} (st:α→List T→Option α) (g:GF) (tt:BF) (fi1:LF) (sl1:List Nat) (g1:GF) (tt1:BF) (fe:LF) (env0:Env):List T→α→Mem→Out α
 | [],a,m=> .ok a m
 | t::ts,a,m=>match g t env0 with
  | none=> .no
  | some env1=>match tt env1 m with
   | .ok true m1=>match fi1 env1 m1 with
    | .ok us m2=>match aHg st g1 tt1 fe (qU env1 sl1) us a m2 with
     | .ok a1 m3=>aM7 st g tt fi1 sl1 g1 tt1 fe env0 ts a1 m3
     | _=> .no
    | _=> .no
   | .ok false m1=>aM7 st g tt fi1 sl1 g1 tt1 fe env0 ts a m1
   | _=> .no
noncomputable def aVz {α:Type} (a0:α) (st:α→List T→Option α) (fin:α→Mem→Out T) (sl:List Nat) (fi:LF) (g:GF) (tt:BF) (fe:LF):EF:=fun env m=>(fi env m).bind fun ts m1=>match aHg st g tt fe (qU env sl) ts a0 m1 with
 | .ok a m2=>fin a m2
 | _=> .no
noncomputable def aVy {α:Type} (a0:α) (st:α→List T→Option α) (fin:α→Mem→Out T) (sl:List Nat) (fi:LF) (g:GF) (tt:BF) (fi1:LF) (sl1:List Nat) (g1:GF) (tt1:BF) (fe:LF):EF:=fun env m=>(fi env m).bind fun ts m1=>
 match aM7 st g tt fi1 sl1 g1 tt1 fe (qU env sl) ts a0 m1 with
 | .ok a m2=>fin a m2
 | _=> .no
noncomputable abbrev ADD:=Addr→List V→Hp→(Hp→Prop)→Prop
noncomputable abbrev ADE:=Addr→(Hp→Prop)→L2.St→Hp→Prop
noncomputable def tC1 (o0:Addr→HO) (El:ADE) (wi:TI) (g:TG) (tt:TT) (vs:List Nat):TE:=fun σ H Q=>wi σ H fun J H1=>∀ D,H1 D=none→∃ W:Nat→Nat→Hp→Prop,(∃ m,W 0 m (upd H1 D (o0 D)))∧∀ i m H,W i m H→
 (J.stop i H∧Q (.ref D) H)∨(J.go i H∧∃ Nx:Hp→Prop,(∀ H',Nx H'→∃ m',m' < m∧W (i+1) m' H')∧∀ x H',J.yld i H x H'→g x (wipe σ vs) H' fun σ2 H2=>wipe σ2 vs=wipe σ vs∧tt σ2 H2 fun b H3=>
  if b=true then El D Nx σ2 H3 else Nx H3)
noncomputable def tC2 (o0:Addr→HO) (El:ADE) (wi:TI) (g:TG) (tt:TT) (wi1:TI) (g1:TG) (tt1:TT) (vs vs1:List Nat):TE:=fun σ H Q=>wi σ H fun J H1=>∀ D,H1 D=none→∃ W:Nat→Nat→Hp→Prop,(∃ m,W 0 m (upd H1 D (o0 D)))∧∀ i m H,W i m H→
 (J.stop i H∧Q (.ref D) H)∨(J.go i H∧∃ Nx:Hp→Prop,(∀ H',Nx H'→∃ m',m' < m∧W (i+1) m' H')∧∀ x H',J.yld i H x H'→g x (wipe σ vs) H' fun σ2 H2=>wipe σ2 vs=wipe σ vs∧tt σ2 H2 fun b H3=>
  if b=true then wi1 σ2 H3 fun J1 H4=>∃ W1:Nat→Nat→Hp→Prop,(∃ m,W1 0 m H4)∧∀ j k H,W1 j k H→
   (J1.stop j H∧Nx H)∨(J1.go j H∧∃ Nx1:Hp→Prop,(∀ H',Nx1 H'→∃ k',k' < k∧W1 (j+1) k' H')∧∀ x H',J1.yld j H x H'→g1 x (wipe σ2 vs1) H' fun σ3 H5=>wipe σ3 vs1=wipe σ2 vs1∧tt1 σ3 H5 fun b H6=>
    if b=true then El D Nx1 σ3 H6 else Nx1 H6)
  else Nx H3)
structure AccOk (K:PySem.W.Frag) {α:Type} (a0:α) (st:α→List T→Option α) (o0:Addr→HO) (RA:Hp→List Addr→Addr→α→HO→Prop) (Ad:ADD):Prop where
 init:∀ Z ρ D,RA Z ρ D a0 (o0 D)
 mono:∀ {Z Z' ρ ρ' D a o},RA Z ρ D a o→Ext Z Z' ρ ρ'→RA Z' ρ' D a o
 add:∀ {Z ρ D a a1 o ts vs H} {Nx:Hp→Prop},Same Z H→RA Z ρ D a o→Reps K Z ρ ts vs→st a ts=some a1→H D=some o→(∀ o1,RA Z ρ D a1 o1→Nx (upd H D o1))→Ad D vs H Nx
noncomputable def trI (K:PySem.W.Frag) (W:WX) (fi:LF):TI:=fun σ H R=>∃ Φ Z ρ env m,Fits K Φ Z ρ σ H env m∧aIr K W Φ Z ρ σ R (fi env m)
theorem bFq {X:Cx} {tg iter:Expr} {w u:TI} (h:PI X tg iter w) (i:∀ σ H R,u σ H R→w σ H R):PI X tg iter u:=⟨fun pins s σ H R I q=>h.run pins s σ H R I (i σ H R q)⟩
theorem SI.pi {X:Cx} {W:WX} {tg iter:Expr} {fi:LF} (h:SI X W tg iter fi):PI X tg iter (trI X.K W fi):=by
 obtain⟨wi,p,k⟩:=h.ex
 exact bFq p fun σ H R ⟨Φ,Z,ρ,env,m,F,q⟩=>k Φ Z ρ σ H env m R F q
section
variable {K:PySem.W.Frag} {W:WX} {α:Type} {a0:α} {st:α→List T→Option α} {o0:Addr→HO} {RA:Hp→List Addr→Addr→α→HO→Prop} {Ad:ADD}
theorem aQ8 {sl:List Nat} {σ σ4:L2.St} (hw:∀ vs:List Nat,(∀ i∈sl,i∈vs)→wipe σ4 vs=wipe (wipe σ sl) vs):wipe σ4 sl=wipe σ sl:=by
 rw [hw sl fun _ h=>h]
 refine List.ext_getElem? fun j=>?_
 rw [aC7,aC7,wipe_length]
 by_cases hj:j∈sl∧j < σ.length
 ·simp [hj]
 ·simp only [hj,if_false]
noncomputable def outK {α:Type} (o:Out α) (k:α→Mem→Out T):Out T:=match o with
 | .ok a m=>k a m
 | _=> .no
theorem loopA (acc:AccOk K a0 st o0 RA Ad) {El:ADE} {Φ Z1:Hp} {ρ1:List Addr} {σ σ0:L2.St} {Q:VK} {env:Env} {sl:List Nat} {ts:List T} {g:GF} {tt:BF} {fe:LF} {wg:TG} {D:Addr} {J:It} {Dn:Hp→Prop} {fin:α→Mem→Out T}
  (kg:KG K sl g wg) (hE:∀ D Nx σ H,trL K W0 fe σ H (fun ys H4=>Ad D ys H4 Nx)→El D Nx σ H) (env1:Envs K Z1 ρ1 env σ) (wk:Wk K Z1 ρ1 J ts)
  (dn:∀ Z2 ρ2 m2 a o H2,Ext Z1 Z2 ρ1 ρ2→Rel K (upd Φ D o) Z2 ρ2 H2 m2→RA Z2 ρ2 D a o→Post K W Φ Z2 ρ2 σ0 Q (fin a m2)→Dn H2)
  {m1:Mem} {a:α} {o:HO} {H1:Hp} (r1:Rel K (upd Φ D o) Z1 ρ1 H1 m1) (ra:RA Z1 ρ1 D a o) (p:Post K W Φ Z1 ρ1 σ0 Q (outK (aHg st g tt fe (qU env sl) ts a m1) fin)):
  ∃ Wd:Nat→Nat→Hp→Prop,(∃ m,Wd 0 m H1)∧∀ i m H,Wd i m H→
   (J.stop i H∧Dn H)∨(J.go i H∧∃ Nx:Hp→Prop,(∀ H',Nx H'→∃ m',m' < m∧Wd (i+1) m' H')∧∀ x H',J.yld i H x H'→wg x (wipe σ sl) H' fun σ2 H2=>wipe σ2 sl=wipe σ sl∧trB K W0 tt σ2 H2 fun b H3=>
    if b=true then El D Nx σ2 H3 else Nx H3):=by
 let Pv:Nat→Nat→Hp→Prop:=fun i k H2=>k=ts.length - i∧i≤ts.length∧∃ Z2 ρ2 m2 a o,Ext Z1 Z2 ρ1 ρ2∧Rel K (upd Φ D o) Z2 ρ2 H2 m2∧RA Z2 ρ2 D a o∧
   Post K W Φ Z2 ρ2 σ0 Q (outK (aHg st g tt fe (qU env sl) (ts.drop i) a m2) fin)
 refine⟨Pv,⟨ts.length,by simp,Nat.zero_le _,Z1,ρ1,m1,a,o,Ext.refl,r1,ra,by simpa only [List.drop_zero] using p⟩,?_⟩
 rintro i k H2 ⟨hk,hi,Z2,ρ2,m2,a2,o2,e2,r2,ra2,p2⟩
 obtain⟨w1,w2⟩:=wk _ Z2 ρ2 H2 m2 i e2 r2
 by_cases hlt:i < ts.length
 ·have hti:ts[i]? =some ts[i]:=by simp [hlt]
  obtain⟨go,yld⟩:=w2 _ hti
  rw [List.drop_eq_getElem_cons hlt] at p2
  refine .inr ⟨go,fun H'=>Pv (i+1) (ts.length - (i+1)) H',fun H' h'=>⟨_,by omega,h'⟩,fun x H3 y=>?_⟩
  obtain⟨Z3,e3,r3,rep⟩:=yld x H3 y
  unfold aHg at p2
  cases eg:g ts[i] (qU env sl) with
  | none=>rw [eg] at p2; exact p2.elim
  | some env3=>
   rw [eg] at p2
   refine kg _ Z3 ρ2 (wipe σ sl) H3 (qU env sl) env3 m2 ts[i] x _ ⟨r3,(aHc env1 sl).ext (e2.trans e3)⟩ rep eg fun σ4 F4 hl4 hw=>⟨aQ8 hw,_,Z3,ρ2,env3,m2,F4,?_⟩
   cases et:tt env3 m2 with
   | no=>simp only [et] at p2; exact p2.elim
   | ex _ _ _ _=>simp only [et] at p2; exact p2.elim
   | ok b m5=>
    intro Z5 ρ5 H5 e5 r5
    cases b with
    | false=>
     simp only [et] at p2
     simp only [Bool.false_eq_true,if_false]
     exact⟨rfl,hlt,Z5,ρ5,m5,a2,o2,(e2.trans e3).trans e5,r5,acc.mono ra2 (e3.trans e5),p2.ext (e3.trans e5)⟩
    | true=>
     simp only [et] at p2
     simp only [if_true]
     refine hE _ _ _ _ ⟨_,Z5,ρ5,env3,m5,⟨r5,F4.env.ext e5⟩,?_⟩
     cases ee:fe env3 m5 with
     | no=>simp only [ee] at p2; exact p2.elim
     | ex _ _ _ _=>simp only [ee] at p2; exact p2.elim
     | ok ys m6=>
      simp only [ee] at p2
      intro Z6 ρ6 H6 vs6 e6 r6 reps6
      cases es:st a2 ys with
      | none=>simp only [es] at p2; exact p2.elim
      | some a7=>
       simp only [es] at p2
       have hD6:H6 D=some o2:=(r6.fin D _ upd_same).1
       refine acc.add r6.same (acc.mono ra2 ((e3.trans e5).trans e6)) reps6 es hD6 fun o7 ra7=>⟨rfl,hlt,Z6,ρ6,m6,a7,o7,((e2.trans e3).trans e5).trans e6,?_,ra7,p2.ext ((e3.trans e5).trans e6)⟩
       have q7:=r6.aside_set (u:=o7) (p:=D) upd_same
       rw [upd_upd] at q7
       exact q7
 ·have hi':i=ts.length:=by omega
  refine .inl ⟨w1 hi',?_⟩
  rw [List.drop_eq_nil_of_le (by omega)] at p2
  exact dn _ _ _ _ _ _ e2 r2 ra2 p2
theorem bA7 (acc:AccOk K a0 st o0 RA Ad) {El:ADE} {σ:L2.St} {H:Hp} {Q:VK} {sl:List Nat} {fi:LF} {g:GF} {tt:BF} {fe:LF} {wg:TG} {fin:α→Mem→Out T} {Qr:VK} (kg:KG K sl g wg) (hE:∀ D Nx σ H,trL K W0 fe σ H (fun ys H4=>Ad D ys H4 Nx)→El D Nx σ H)
  (fo:∀ Φ Z ρ H m D a o,Rel K (upd Φ D o) Z ρ H m→(∀ c u,Φ c=some u→(upd Φ D o) c=some u∧c≠D)→RA Z ρ D a o→Post K W Φ Z ρ σ Q (fin a m)→Qr (.ref D) H)
  (h:tr K W (aVz a0 st fin sl fi g tt fe) σ H Q):tC1 o0 El (trI K W fi) wg (trB K W0 tt) sl σ H Qr:=by
 obtain⟨Φ,Z,ρ,env,m,F,p⟩:=h
 refine⟨Φ,Z,ρ,env,m,F,?_⟩
 unfold aVz at p
 cases e0:fi env m with
 | no=>rw [e0] at p; exact p
 | ex C ns us m1=>rw [e0] at p; exact p
 | ok ts m1=>
  rw [e0] at p
  simp only [Out.bind] at p
  intro Z1 ρ1 H1 J e1 r1 wk D hD
  have hΦD:Φ D=none:=by
   cases e:Φ D with
   | none=>rfl
   | some u=>rw [(r1.fin D u e).1] at hD; cases hD
  have hΨ:∀ o c u,Φ c=some u→(upd Φ D o) c=some u∧c≠D:=fun o c u e=>by
   have hb:=ne_of_none e hΦD
   exact⟨by rw [upd_ne hb]; exact e,hb⟩
  refine loopA (W:=W) (Q:=Q) (σ0:=σ) acc kg hE (F.env.ext e1) wk (fun Z2 ρ2 m2 a o H2 e2 r2 ra2 p2=>fo Φ Z2 ρ2 H2 m2 D a o r2 (hΨ o) ra2 p2) (r1.aside hD _) (acc.init _ _ _) ?_
  have p':=Post.ext p e1
  cases el:aHg st g tt fe (qU env sl) ts a0 m1 with
  | ok a m2=>simp only [el] at p'; exact p'
  | ex _ _ _ _=>simp only [el] at p'; exact p'.elim
  | no=>simp only [el] at p'; exact p'.elim
theorem bCv (acc:AccOk K a0 st o0 RA Ad) {El:ADE} {σ:L2.St} {H:Hp} {Q:VK} {sl sl1:List Nat} {fi fi1:LF} {g g1:GF} {tt tt1:BF} {fe:LF} {wg wg1:TG} {fin:α→Mem→Out T} {Qr:VK} (kg:KG K sl g wg) (kg1:KG K sl1 g1 wg1) (hE:∀ D Nx σ H,trL K W0 fe σ H (fun ys H4=>Ad D ys H4 Nx)→El D Nx σ H)
  (fo:∀ Φ Z ρ H m D a o,Rel K (upd Φ D o) Z ρ H m→(∀ c u,Φ c=some u→(upd Φ D o) c=some u∧c≠D)→RA Z ρ D a o→Post K W Φ Z ρ σ Q (fin a m)→Qr (.ref D) H)
  (h:tr K W (aVy a0 st fin sl fi g tt fi1 sl1 g1 tt1 fe) σ H Q):tC2 o0 El (trI K W fi) wg (trB K W0 tt) (trI K W0 fi1) wg1 (trB K W0 tt1) sl sl1 σ H Qr:=by
 obtain⟨Φ,Z,ρ,env,m,F,p⟩:=h
 refine⟨Φ,Z,ρ,env,m,F,?_⟩
 unfold aVy at p
 cases e0:fi env m with
 | no=>rw [e0] at p; exact p
 | ex C ns us m1=>rw [e0] at p; exact p
 | ok ts m1=>
  rw [e0] at p
  simp only [Out.bind] at p
  intro Z1 ρ1 H1 J e1 r1 wk D hD
  have env1:Envs K Z1 ρ1 env σ:=F.env.ext e1
  have hΦD:Φ D=none:=by
   cases e:Φ D with
   | none=>rfl
   | some u=>rw [(r1.fin D u e).1] at hD; cases hD
  have hΨ:∀ o c u,Φ c=some u→(upd Φ D o) c=some u∧c≠D:=fun o c u e=>by
   have hb:=ne_of_none e hΦD
   exact⟨by rw [upd_ne hb]; exact e,hb⟩
  let Pv:Nat→Nat→Hp→Prop:=fun i k H2=>k=ts.length - i∧i≤ts.length∧∃ Z2 ρ2 m2 a o,Ext Z1 Z2 ρ1 ρ2∧Rel K (upd Φ D o) Z2 ρ2 H2 m2∧RA Z2 ρ2 D a o∧
   Post K W Φ Z2 ρ2 σ Q (outK (aM7 st g tt fi1 sl1 g1 tt1 fe (qU env sl) (ts.drop i) a m2) fin)
  refine⟨Pv,⟨ts.length,by simp,Nat.zero_le _,Z1,ρ1,m1,a0,o0 D,Ext.refl,r1.aside hD _,acc.init _ _ _,?_⟩,?_⟩
  ·have p':=Post.ext p e1
   simp only [List.drop_zero]
   cases el:aM7 st g tt fi1 sl1 g1 tt1 fe (qU env sl) ts a0 m1 with
   | ok a m2=>simp only [el] at p'; exact p'
   | ex _ _ _ _=>simp only [el] at p'; exact p'.elim
   | no=>simp only [el] at p'; exact p'.elim
  rintro i k H2 ⟨hk,hi,Z2,ρ2,m2,a2,o2,e2,r2,ra2,p2⟩
  obtain⟨w1,w2⟩:=wk _ Z2 ρ2 H2 m2 i e2 r2
  by_cases hlt:i < ts.length
  ·have hti:ts[i]? =some ts[i]:=by simp [hlt]
   obtain⟨go,yld⟩:=w2 _ hti
   rw [List.drop_eq_getElem_cons hlt] at p2
   refine .inr ⟨go,fun H'=>Pv (i+1) (ts.length - (i+1)) H',fun H' h'=>⟨_,by omega,h'⟩,fun x H3 y=>?_⟩
   obtain⟨Z3,e3,r3,rep⟩:=yld x H3 y
   unfold aM7 at p2
   cases eg:g ts[i] (qU env sl) with
   | none=>rw [eg] at p2; exact p2.elim
   | some env3=>
    rw [eg] at p2
    refine kg _ Z3 ρ2 (wipe σ sl) H3 (qU env sl) env3 m2 ts[i] x _ ⟨r3,(aHc env1 sl).ext (e2.trans e3)⟩ rep eg fun σ4 F4 hl4 hw=>⟨aQ8 hw,_,Z3,ρ2,env3,m2,F4,?_⟩
    cases et:tt env3 m2 with
    | no=>simp only [et] at p2; exact p2.elim
    | ex _ _ _ _=>simp only [et] at p2; exact p2.elim
    | ok b m5=>
     intro Z5 ρ5 H5 e5 r5
     cases b with
     | false=>
      simp only [et] at p2
      simp only [Bool.false_eq_true,if_false]
      exact⟨rfl,hlt,Z5,ρ5,m5,a2,o2,(e2.trans e3).trans e5,r5,acc.mono ra2 (e3.trans e5),p2.ext (e3.trans e5)⟩
     | true=>
      simp only [et] at p2
      simp only [if_true]
      refine⟨_,Z5,ρ5,env3,m5,⟨r5,F4.env.ext e5⟩,?_⟩
      cases ei:fi1 env3 m5 with
      | no=>simp only [ei] at p2; exact p2.elim
      | ex _ _ _ _=>simp only [ei] at p2; exact p2.elim
      | ok us m6=>
       simp only [ei] at p2
       intro Z6 ρ6 H6 J1 e6 r6 wk1
       refine loopA (W:=W) (Q:=Q) (σ0:=σ) (fin:=fun a m=>outK (aM7 st g tt fi1 sl1 g1 tt1 fe (qU env sl) (ts.drop (i+1)) a m) fin) acc kg1 hE (F4.env.ext (e5.trans e6)) wk1
        (fun Z7 ρ7 m7 a7 o7 H7 e7 r7 ra7 p7=>⟨rfl,hlt,Z7,ρ7,m7,a7,o7,(((e2.trans e3).trans e5).trans e6).trans e7,r7,ra7,p7⟩) r6 (acc.mono ra2 ((e3.trans e5).trans e6)) ?_
       have p':=Post.ext p2 ((e3.trans e5).trans e6)
       cases el:aHg st g1 tt1 fe (qU env3 sl1) us a2 m6 with
       | ok a m2=>simp only [el] at p'; exact p'
       | ex _ _ _ _=>simp only [el] at p'; exact p'.elim
       | no=>simp only [el] at p'; exact p'.elim
  ·have hi':i=ts.length:=by omega
   refine .inl ⟨w1 hi',?_⟩
   rw [List.drop_eq_nil_of_le (by omega)] at p2
   exact fo Φ _ _ _ _ D _ _ r2 (hΨ _) ra2 p2
theorem aT0 {fe:EF} {σ:L2.St} {H:Hp} {R:List V→Hp→Prop} (h:trL K W (zX fe lNil) σ H R):tr K W fe σ H fun y H1=>R [y] H1:=by
 obtain⟨Φ,Z,ρ,env,m,F,p⟩:=h
 refine⟨Φ,Z,ρ,env,m,F,?_⟩
 unfold zX lNil at p
 cases e:fe env m with
 | no=>simp only [e,Out.bind] at p; exact p
 | ex _ _ _ _=>simp only [e,Out.bind] at p; exact p
 | ok t m1=>
  simp only [e,Out.bind] at p
  exact fun Z' ρ' H' v e1 r rep=>p Z' ρ' H' [v] e1 r (.cons rep .nil)
theorem aSz {fe fv:EF} {σ:L2.St} {H:Hp} {R:List V→Hp→Prop} (h:trL K W (zX fe (zX fv lNil)) σ H R):tr K W fe σ H fun y H1=>tr K W fv σ H1 fun z H2=>R [y,z] H2:=by
 obtain⟨Φ,Z,ρ,env,m,F,p⟩:=h
 refine⟨Φ,Z,ρ,env,m,F,?_⟩
 unfold zX at p
 simp only [zX,lNil] at p
 cases e:fe env m with
 | no=>simp only [e,Out.bind] at p; exact p
 | ex _ _ _ _=>simp only [e,Out.bind] at p; exact p
 | ok t m1=>
  simp only [e,Out.bind] at p
  intro Z' ρ' H' v e1 r rep
  refine⟨Φ,Z',ρ',env,m1,⟨r,F.env.ext e1⟩,?_⟩
  cases e2:fv env m1 with
  | no=>simp only [e2] at p; exact p
  | ex _ _ _ _=>
   simp only [e2] at p
   exact fun Z2 ρ2 H2 d vs e3=>p Z2 ρ2 H2 d vs (e1.trans e3)
  | ok u m2=>
   simp only [e2] at p
   exact fun Z2 ρ2 H2 v2 e3 r2 rep2=>p Z2 ρ2 H2 [v,v2] (e1.trans e3) r2 (.cons (rep.ext e3) (.cons rep2 .nil))
noncomputable def stL (a:List T) (ys:List T):Option (List T):=match ys with
 | [y]=>if a.length < lim then some (a++[y]) else none
 | _=>none
noncomputable def AdL:ADD:=fun D ys H Nx=>∃ y acc,ys=[y]∧H D=some (.lst acc)∧acc.length < sizeLine∧Nx (upd H D (.lst (acc++[y])))
theorem accL:AccOk K [] stL (fun _=> .lst []) (fun Z ρ _ a o=>∃ vs,o= .lst vs∧Reps K Z ρ a vs) AdL where
 init:=fun Z ρ D=>⟨[],rfl,.nil⟩
 mono:=fun⟨vs,e,r⟩ x=>⟨vs,e,r.ext x⟩
 add:=by
  rintro Z ρ D a a1 o ts vs H Nx _ ⟨us,rfl,ra⟩ rs e hD nx
  unfold stL at e
  split at e
  ·rename_i y
   split at e
   ·rename_i hl
    cases e
    unfold Reps at rs
    obtain⟨v,ws,rfl,rv,rn⟩:=rs
    unfold Reps at rn
    subst rn
    exact⟨v,us,rfl,hD,by rw [←ra.length]; exact aLm (Nat.le_of_lt hl),nx _ ⟨_,rfl,ra.append (.cons rv .nil)⟩⟩
   ·cases e
  ·cases e
theorem finL {mu:Bool} {σ:L2.St} {Q:VK} (Φ Z:Hp) (ρ:List Addr) (H:Hp) (m:Mem) (D:Addr) (a:List T) (o:HO) (r:Rel K (upd Φ D o) Z ρ H m) (hΨ:∀ c u,Φ c=some u→(upd Φ D o) c=some u∧c≠D) (ra:∃ vs,o= .lst vs∧Reps K Z ρ a vs)
  (p:Post K W Φ Z ρ σ Q (mk mu a m)):Q (.ref D) H:=by
 obtain⟨vs,rfl,ra⟩:=ra
 cases mu with
 | false=>
  obtain⟨r5,e5⟩:=r.back (Ψ:=Φ) upd_same hΨ
  refine p _ _ _ _ e5 r5 ?_
  unfold Rep
  exact⟨D,vs,rfl,upd_same,ra.ext e5⟩
 | true=>
  obtain⟨r5,e5⟩:=r.backC (Ψ:=Φ) (u:= .lst a) upd_same hΨ ⟨vs,rfl,ra⟩
  refine p _ _ _ _ e5 r5 ?_
  unfold Rep
  exact⟨D,by rw [←r.len]; simp,rfl⟩
noncomputable def stS (a:List Key) (ys:List T):Option (List Key):=match ys with
 | [y]=>match keyT y with
  | some k=>if a.length < 4000 then some (addK a k) else none
  | none=>none
 | _=>none
noncomputable def AdS:ADD:=fun D ys H Nx=>∃ y ks k,ys=[y]∧H D=some (setO D ks)∧y=kV k∧ks.length < 4000∧Nx (upd H D (setO D (addK ks k)))
theorem accS:AccOk K [] stS (fun D=>setO D []) (fun _ _ D a o=>o=setO D a) AdS where
 init:=fun Z ρ D=>rfl
 mono:=fun e _=>e
 add:=by
  rintro Z ρ D a a1 o ts vs H Nx _ rfl rs e hD nx
  unfold stS at e
  split at e
  ·rename_i y
   split at e
   ·rename_i k hk
    split at e
    ·rename_i hl
     cases e
     unfold Reps at rs
     obtain⟨v,ws,rfl,rv,rn⟩:=rs
     unfold Reps at rn
     subst rn
     exact⟨v,a,k,rfl,hD,aB8 rv hk,hl,nx _ rfl⟩
    ·cases e
   ·cases e
  ·cases e
theorem finS {σ:L2.St} {Q:VK} (Φ Z:Hp) (ρ:List Addr) (H:Hp) (m:Mem) (D:Addr) (a:List Key) (o:HO) (r:Rel K (upd Φ D o) Z ρ H m) (hΨ:∀ c u,Φ c=some u→(upd Φ D o) c=some u∧c≠D) (ra:o=setO D a)
  (p:Post K W Φ Z ρ σ Q (.ok (.set a) m)):Q (.ref D) H:=by
 subst ra
 obtain⟨r5,e5⟩:=r.back (Ψ:=Φ) upd_same hΨ
 refine p _ _ _ _ e5 r5 ?_
 unfold Rep
 exact⟨D,rfl,upd_same⟩
noncomputable def putT (k:Key) (v:T) (ks:List Key) (us:List T):List T:=if memK ks k then(ks.zip us).map fun p=>if aPd p.1 k then v else p.2 else us++[v]
theorem aXa {k:Key} {v:V}:∀ {ks:List Key} {vs:List V},ks.length=vs.length→(ks.zip vs).map (fun p=>if p.1=k then(p.1,v) else p)=ks.zip ((ks.zip vs).map fun p=>if p.1=k then v else p.2)
 | [],_,_=>rfl
 | _::_,[],h=>by cases h
 | j::ks,u::vs,h=>by
  have ih:=aXa (k:=k) (v:=v) (ks:=ks) (vs:=vs) (by simpa using h)
  rw [List.zip_cons_cons,List.map_cons,List.map_cons,List.zip_cons_cons,ih]
  by_cases hj:j=k
  ·simp [hj]
  ·simp [hj]
theorem aXb {k:Key}:∀ {ks:List Key} {vs:List V},ks.length=vs.length→((ks.zip vs).any fun p=>decide (p.1=k))=memK ks k
 | [],_,_=>rfl
 | _::_,[],h=>by cases h
 | j::ks,u::vs,h=>by
  have ih:=aXb (k:=k) (ks:=ks) (vs:=vs) (by simpa using h)
  unfold memK at ih ⊢
  rw [List.zip_cons_cons,List.any_cons,List.any_cons,ih,aRi]
theorem aV8 {Z:Hp} {ρ:List Addr} {k:Key} {t:T} {v:V} (rt:Rep K Z ρ t v):∀ {ks:List Key} {us:List T} {vs:List V},Reps K Z ρ us vs→Reps K Z ρ ((ks.zip us).map fun p=>if aPd p.1 k then t else p.2) ((ks.zip vs).map fun p=>if p.1=k then v else p.2)
 | [],_,_,_=> .nil
 | _::_,[],_,h=>by unfold Reps at h; subst h; exact .nil
 | j::ks,u::us,_,h=>by
  unfold Reps at h
  obtain⟨w,ws,rfl,r,rs⟩:=h
  rw [List.zip_cons_cons,List.zip_cons_cons,List.map_cons,List.map_cons]
  refine .cons ?_ (aV8 rt rs)
  by_cases hj:j=k
  ·rw [if_pos (tX.mpr hj),if_pos hj]; exact rt
  ·rw [if_neg (fun z=>hj (tX.mp z)),if_neg hj]; exact r
theorem aTo {Z:Hp} {ρ:List Addr} {k:Key} {t:T} {v:V} {ks:List Key} {us:List T} {vs:List V} (rt:Rep K Z ρ t v) (hl:ks.length=vs.length) (rs:Reps K Z ρ us vs):
  ∃ ws,putK (ks.zip vs) k v=(addK ks k).zip ws∧(addK ks k).length=ws.length∧Reps K Z ρ (putT k t ks us) ws:=by
 unfold putK addK putT
 rw [aXb hl]
 cases hm:memK ks k with
 | true=>
  simp only [if_true]
  refine⟨_,aXa hl,?_,aV8 rt rs⟩
  rw [List.length_map,List.length_zip,←hl,Nat.min_self]
 | false=>
  simp only [Bool.false_eq_true,if_false]
  exact⟨vs++[v],by rw [List.zip_append hl]; rfl,by simp [hl],rs.append (.cons rt .nil)⟩
noncomputable def stD (a:List Key×List T) (ys:List T):Option (List Key×List T):=match ys with
 | [y,z]=>match keyT y with
  | some k=>if a.1.length < lim then some (addK a.1 k,putT k z a.1 a.2) else none
  | none=>none
 | _=>none
noncomputable def AdD:ADD:=fun D ys H Nx=>∃ y z kvs k,ys=[y,z]∧y=kV k∧H D=some (.dK kvs)∧kvs.length < sizeLine∧Nx (upd H D (.dK (putK kvs k z)))
theorem accD:AccOk K (([]:List Key),([]:List T)) stD (fun _=> .dK []) (fun Z ρ _ a o=>∃ vs,o= .dK (a.1.zip vs)∧a.1.length=vs.length∧Reps K Z ρ a.2 vs) AdD where
 init:=fun Z ρ D=>⟨[],rfl,rfl,.nil⟩
 mono:=fun⟨vs,e,l,r⟩ x=>⟨vs,e,l,r.ext x⟩
 add:=by
  rintro Z ρ D ⟨ks,us⟩ a1 o ts vs H Nx _ ⟨ws,rfl,hl,ra⟩ rs e hD nx
  unfold stD at e
  split at e
  ·rename_i y z
   split at e
   ·rename_i k hk
    split at e
    ·rename_i h9
     cases e
     unfold Reps at rs
     obtain⟨v,ws2,rfl,rv,rs⟩:=rs
     unfold Reps at rs
     obtain⟨v2,ws3,rfl,rv2,rn⟩:=rs
     unfold Reps at rn
     subst rn
     obtain⟨xs,q1,q2,q3⟩:=aTo (k:=k) rv2 hl ra
     refine⟨v,v2,_,k,rfl,aB8 rv hk,hD,?_,?_⟩
     ·rw [List.length_zip,←hl,Nat.min_self]; exact aLm (Nat.le_of_lt h9)
     ·rw [q1]
      exact nx _ ⟨xs,rfl,q2,q3⟩
    ·cases e
   ·cases e
  ·cases e
theorem finD {mu:Bool} {σ:L2.St} {Q:VK} (Φ Z:Hp) (ρ:List Addr) (H:Hp) (m:Mem) (D:Addr) (a:List Key×List T) (o:HO) (r:Rel K (upd Φ D o) Z ρ H m) (hΨ:∀ c u,Φ c=some u→(upd Φ D o) c=some u∧c≠D) (ra:∃ vs,o= .dK (a.1.zip vs)∧a.1.length=vs.length∧Reps K Z ρ a.2 vs)
  (p:Post K W Φ Z ρ σ Q (mkD mu a.1 a.2 m)):if mu then Q (.ref D) H else ∃ b u,V.ref D= .ref b∧H b=some u∧Mut (some u)∧∀ od,Q (.ref D) (upd H b (.frz od u)):=by
 obtain⟨vs,rfl,hl,ra⟩:=ra
 cases mu with
 | true=>
  obtain⟨r5,e5⟩:=r.backC (Ψ:=Φ) (u:= .dct a.1 a.2) upd_same hΨ ⟨vs,rfl,hl,ra⟩
  refine p _ _ _ _ e5 r5 ?_
  unfold Rep
  exact⟨D,by rw [←r.len]; simp,rfl⟩
 | false=>
  refine⟨D,_,rfl,(r.fin D _ upd_same).1,True.intro,fun od=>?_⟩
  have r2:=r.aside_set (u:= .frz od (.dK (a.1.zip vs))) (p:=D) upd_same
  rw [upd_upd] at r2
  obtain⟨r5,e5⟩:=r2.back (Ψ:=Φ) upd_same (fun c u e=>by
   obtain⟨_,q⟩:=hΨ c u e
   exact⟨by rw [upd_ne q]; exact e,q⟩)
  refine p _ _ _ _ e5 r5 ?_
  unfold Rep
  exact⟨D,vs,od,rfl,upd_same,hl,ra.ext e5⟩
end
theorem aN9 {K:PySem.W.Frag} {sl sl':List Nat} {g:GF} {w:TG} (hs:sl.all (fun i=>decide (i∈sl'))=true) (k:KG K sl g w):KG K sl' g w:=
 fun Φ Z ρ σ H env env1 m t v Q F r e h=>k Φ Z ρ σ H env env1 m t v Q F r e fun σ' F' hl hw=>h σ' F' hl fun vs hv=>hw vs fun i hi=>hv i (of_decide_eq_true (List.all_eq_true.mp hs i hi))
theorem aOt {X:Cx} {tg:Expr} {sl sl':List Nat} {g:GF} {w:TG} (hs:sl.all (fun i=>decide (i∈sl'))=true) (h:SG X tg sl g w):SG X tg sl' g w:=⟨h.pg,aN9 hs h.kg⟩
theorem Cok.hu {X:Cx} {W:WX} {k:Nat} (c:Cok X W k):X.A.units+1 < cLine:=by have:=c.room.units; omega
section
variable {X:Cx} {W:WX} {k:Nat} {elt tg iter tg1 iter1:Expr} {ifs ifs1:List Expr} {scope:Scope} {own own1:List (Str×Nat)} {pos:Pos} {fi fi1:LF} {g g1:GF} {tt tt1:BF} {fe fv:EF} {wg wg1:TG}
noncomputable def sl1 (own1:List (Str×Nat)):List Nat:=own1.map (·.2)
structure Clause2 (X:Cx) (scope:Scope) (own1:List (Str×Nat)) (tg1 iter1:Expr) (ifs1:List Expr) (fi1:LF) (g1:GF) (tt1:BF) (wg1:TG):Prop where
 si:∀(s:Shared) (H:Hp) (C:Addr) (cl:List (Str×Addr)) (fp:List Addr),SI (X.blk s H scope (compEnvC scope cl C X.env) fp) W0 tg1 iter1 fi1
 sg:∀(s:Shared) (H:Hp) (C:Addr) (cl:List (Str×Addr)) (fp:List Addr),SG (X.blk s H scope (compEnvC scope cl C X.env) fp) tg1 (own1.map (·.2)) g1 wg1
 kg:KG X.K (own1.map (·.2)) g1 wg1
 st:∀(s:Shared) (H:Hp) (C:Addr) (cl:List (Str×Addr)) (fp:List Addr),STs (X.blk s H scope (compEnvC scope cl C X.env) fp) W0 ifs1 tt1
noncomputable def aHd (mu:Bool) (sl sl1:List Nat) (fi:LF) (g:GF) (tt:BF) (fi1:LF) (g1:GF) (tt1:BF) (fe:EF):EF:=aVy [] stL (mk mu) sl fi g tt fi1 sl1 g1 tt1 (zX fe lNil)
theorem aGq (mu:Bool) (c:Cok X W k) (hi:SI X W tg iter fi) (ok:BlkOk X.N X.env.scope scope own) (hc:CompOk X scope own tg ifs elt g tt fe wg) (h1:Clause2 X scope own1 tg1 iter1 ifs1 fi1 g1 tt1 wg1) (hv:(own1.map (·.2)).all (fun i=>decide (i∈own.map (·.2)))=true:=by decide)
  (hs:∀ x,foldedSetIterable iter X.env x=pure x:=by intro _; rfl) (hs1:∀ env x,foldedSetIterable iter1 env x=pure x:=by intro _ _; rfl):
  SE X W (.ListComp elt [⟨tg,iter,ifs,0⟩,⟨tg1,iter1,ifs1,0⟩] scope pos) (aHd mu (own.map (·.2)) (own1.map (·.2)) fi g tt fi1 g1 tt1 fe):=
 ⟨xY (pe_lc2 (vs1:=own1.map (·.2)) c.calm c.nd hi.pi ok (fun i h=>of_decide_eq_true (List.all_eq_true.mp hv i h)) (fun s H C cl fp=>(hc.sg s H C cl fp).pg) (fun s H C cl fp=>(hc.st s H C cl fp).pts) (fun s H C cl fp=>(h1.si s H C cl fp).pi) (fun s H C cl fp=>(h1.sg s H C cl fp).pg) (fun s H C cl fp=>(h1.st s H C cl fp).pts) (fun s H C cl fp=>(hc.se s H C cl fp).pe) hs hs1)
  fun σ H Q h=>bCv (Qr:=Q) accL hc.kg h1.kg (El:=fun D Nx σ H=>tr X.K W0 fe σ H fun y H4=>∃ acc,H4 D=some (.lst acc)∧acc.length < sizeLine∧Nx (upd H4 D (.lst (acc++[y]))))
   (fun D Nx σ H h=>by
    obtain⟨Φ,Z,ρ,env,m,F,p⟩:=aT0 h
    refine⟨Φ,Z,ρ,env,m,F,?_⟩
    cases e:fe env m with
    | ok t m1=>
     rw [e] at p
     intro Z' ρ' H' v e1 r rep
     obtain⟨y,acc,e2,q⟩:=p Z' ρ' H' v e1 r rep
     cases e2
     exact⟨acc,q⟩
    | ex _ _ _ _=>rw [e] at p; exact p
    | no=>rw [e] at p; exact p) (finL (mu:=mu)) h⟩
noncomputable def bEv (sl sl1:List Nat) (fi:LF) (g:GF) (tt:BF) (fi1:LF) (g1:GF) (tt1:BF) (fe:EF):EF:=aVy [] stS (fun a m=> .ok (.set a) m) sl fi g tt fi1 sl1 g1 tt1 (zX fe lNil)
theorem elS {K:PySem.W.Frag} (D:Addr) (Nx:Hp→Prop) (σ:L2.St) (H:Hp) (h:trL K W0 (zX fe lNil) σ H fun ys H4=>AdS D ys H4 Nx):tr K W0 fe σ H fun y H4=>∃ ks k,H4 D=some (setO D ks)∧y=kV k∧ks.length < 4000∧Nx (upd H4 D (setO D (addK ks k))):=by
 obtain⟨Φ,Z,ρ,env,m,F,p⟩:=aT0 h
 refine⟨Φ,Z,ρ,env,m,F,?_⟩
 cases e:fe env m with
 | ok t m1=>
  rw [e] at p
  intro Z' ρ' H' v e1 r rep
  obtain⟨y,ks,kk,e2,q⟩:=p Z' ρ' H' v e1 r rep
  cases e2
  exact⟨ks,kk,q⟩
 | ex _ _ _ _=>rw [e] at p; exact p
 | no=>rw [e] at p; exact p
theorem bCx {wi:TI} {wg0:TG} {t0:TT} {wi2:TI} {wg2:TG} {t2:TT} {te:TE} {vs vs2:List Nat}:EvN.tSc2 wi wg0 t0 wi2 wg2 t2 te vs vs2=tC2 (fun D=>setO D []) (fun D Nx σ H=>te σ H fun y H4=>∃ ks k,H4 D=some (setO D ks)∧y=kV k∧ks.length < 4000∧Nx (upd H4 D (setO D (addK ks k)))) wi wg0 t0 wi2 wg2 t2 vs vs2:=rfl
theorem aXx (c:Cok X W k) (hi:SI X W tg iter fi) (ok:BlkOk X.N X.env.scope scope own) (hc:CompOk X scope own tg ifs elt g tt fe wg) (h1:Clause2 X scope own1 tg1 iter1 ifs1 fi1 g1 tt1 wg1) (hv:(own1.map (·.2)).all (fun i=>decide (i∈own.map (·.2)))=true:=by decide)
  (hs:∀ x,foldedSetIterable iter X.env x=pure x:=by intro _; rfl) (hs1:∀ env x,foldedSetIterable iter1 env x=pure x:=by intro _ _; rfl):
  SE X W (.SetComp elt [⟨tg,iter,ifs,0⟩,⟨tg1,iter1,ifs1,0⟩] scope pos) (bEv (own.map (·.2)) (own1.map (·.2)) fi g tt fi1 g1 tt1 fe):=by
 have rule:=EvN.bFr (po:=pos) (own:=own) (vs1:=own1.map (fun x=>x.2)) (wi:=trI X.K W fi) (wi1:=trI X.K W0 fi1) (g:=wg) (g1:=wg1) (tt:=trB X.K W0 tt) (tt1:=trB X.K W0 tt1) (te:=tr X.K W0 fe) c.here c.calm c.nd hi.pi ok
  (fun i h=>of_decide_eq_true (List.all_eq_true.mp hv i h)) ⟨fun s H C cl fp=>(hc.sg s H C cl fp).pg,fun s H C cl fp=>(hc.st s H C cl fp).pts⟩ (fun s H C cl fp=>(h1.si s H C cl fp).pi)
   ⟨fun s H C cl fp=>(h1.sg s H C cl fp).pg,fun s H C cl fp=>(h1.st s H C cl fp).pts⟩ (fun s H C cl fp=>(hc.se s H C cl fp).pe) hs hs1
 rw [bCx] at rule
 exact⟨xY rule fun σ H Q h=>bCv accS hc.kg h1.kg elS finS h⟩
noncomputable def aEa (mu:Bool) (sl:List Nat) (fi:LF) (g:GF) (tt:BF) (fe fv:EF):EF:=aVz ([],[]) stD (fun a m=>mkD mu a.1 a.2 m) sl fi g tt (zX fe (zX fv lNil))
theorem aB5 {vx:Expr} (mu:Bool) (c:Cok X W k) (hi:SI X W tg iter fi) (ok:BlkOk X.N X.env.scope scope own) (hc:CompOk X scope own tg ifs elt g tt fe wg) (hv:∀(s:Shared) (H:Hp) (C:Addr) (cl:List (Str×Addr)) (fp:List Addr),SE (X.blk s H scope (compEnvC scope cl C X.env) fp) W0 vx fv)
  (hs:∀ x,foldedSetIterable iter X.env x=pure x:=by intro _; rfl):SE X W (.DictComp elt vx [⟨tg,iter,ifs,0⟩] scope pos) (aEa mu (own.map (·.2)) fi g tt fe fv):=by
 have rule:=pe_dc (X:=X) (kx:=elt) (vx:=vx) (pos:=pos) (own:=own) (wi:=trI X.K W fi) (g:=wg) (tt:=trB X.K W0 tt) (tk:=tr X.K W0 fe) (tv:=tr X.K W0 fv) c.calm c.nd hi.pi ok (fun s H C cl fp=>(hc.sg s H C cl fp).pg) (fun s H C cl fp=>(hc.st s H C cl fp).pts) (fun s H C cl fp=>(hc.se s H C cl fp).pe) (fun s H C cl fp=>(hv s H C cl fp).pe) hs
 have el:∀(D:Addr) (Nx:Hp→Prop) (σ:L2.St) (H:Hp),trL X.K W0 (zX fe (zX fv lNil)) σ H (fun ys H4=>AdD D ys H4 Nx)→tr X.K W0 fe σ H fun y H4=>tr X.K W0 fv σ H4 fun z H5=>∃ kvs k,y=kV k∧H5 D=some (.dK kvs)∧kvs.length < sizeLine∧Nx (upd H5 D (.dK (putK kvs k z))):=by
  intro D Nx σ H h
  obtain⟨Φ,Z,ρ,env,m,F,p⟩:=aSz h
  refine⟨Φ,Z,ρ,env,m,F,?_⟩
  cases e:fe env m with
  | ok t m1=>
   rw [e] at p
   intro Z' ρ' H' v e1 r rep
   obtain⟨Φ2,Z2,ρ2,env2,m2,F2,p2⟩:=p Z' ρ' H' v e1 r rep
   refine⟨Φ2,Z2,ρ2,env2,m2,F2,?_⟩
   cases e3:fv env2 m2 with
   | ok t3 m3=>
    rw [e3] at p2
    intro Z4 ρ4 H4 v4 e4 r4 rep4
    obtain⟨y,z,kvs,kk,e5,q⟩:=p2 Z4 ρ4 H4 v4 e4 r4 rep4
    cases e5
    exact⟨kvs,kk,q⟩
   | ex _ _ _ _=>rw [e3] at p2; exact p2
   | no=>rw [e3] at p2; exact p2
  | ex _ _ _ _=>rw [e] at p; exact p
  | no=>rw [e] at p; exact p
 cases mu with
 | true=>exact⟨xY rule fun σ H Q h=>bA7 (Qr:=Q) accD hc.kg el (fun Φ Z ρ H m D a o r hΨ ra p=>finD (mu:=true) Φ Z ρ H m D a o r hΨ ra p) h⟩
 | false=>exact⟨xY (aGy rule) fun σ H Q h=>bA7 (Qr:=fun v H1=>∃ a u,v=V.ref a∧H1 a=some u∧Mut (some u)∧∀ od,Q v (upd H1 a (.frz od u))) accD hc.kg el (fun Φ Z ρ H m D a o r hΨ ra p=>finD (mu:=false) Φ Z ρ H m D a o r hΨ ra p) h⟩
end
end Ev
namespace Ev
open PySem L2
variable [Wrl]
section
variable {K:PySem.W.Frag} {W:WX} {Φ Z Z':Hp} {ρ ρ':List Addr} {σ:L2.St} {H:Hp} {m:Mem} {X:Cx}
theorem bCp {a:Addr} {o:Obj} {ks:List Key} {vs:List V} {ts:List T} (h:Z a=some (.frz o (.dK (ks.zip vs)))) (hl:ks.length=vs.length) (rs:Reps K Z ρ ts vs):Wk K Z ρ (Itd a o (ks.zip vs)) ts:=fun Φ Z1 ρ1 H m i e r=>by
 have q:=r.zin _ _ (e.z _ _ h)
 have hz:(ks.zip vs).length=ts.length:=by rw [List.length_zip,hl,Nat.min_self,rs.length]
 refine⟨fun hi=>⟨q,by rw [hi,hz]; exact Nat.le_refl _⟩,fun t ht=>?_⟩
 have hi:=(List.getElem?_eq_some_iff.mp ht).1
 refine⟨⟨q,by rw [hz]; exact hi⟩,fun x H' ⟨e1,k,h3⟩=>?_⟩
 subst e1
 obtain⟨v,h1,h2⟩:=rs.get ht
 have:=(zip_get h3).2
 rw [h1] at this
 cases this
 exact⟨Z1,Ext.refl,r,h2.ext e⟩
noncomputable def aR7 (ks:List Key) (ts:List T):List T:=(ks.zip ts).map fun p=> .tup [kT p.1,p.2]
theorem bA4 {a:Addr} {o:Obj} {ks:List Key} {vs:List V} {ts:List T} (h:Z a=some (.frz o (.dK (ks.zip vs)))) (hl:ks.length=vs.length) (rs:Reps K Z ρ ts vs):Wk K Z ρ (Iti a o (ks.zip vs)) (aR7 ks ts):=fun Φ Z1 ρ1 H m i e r=>by
 have q:=r.zin _ _ (e.z _ _ h)
 have hl2:ks.length=ts.length:=by rw [hl,rs.length]
 have hz:(ks.zip vs).length=(aR7 ks ts).length:=by unfold aR7; rw [List.length_map,List.length_zip,List.length_zip,←hl,←hl2]
 refine⟨fun hi=>⟨q,by rw [hi,hz]; exact Nat.le_refl _⟩,fun t ht=>?_⟩
 have hi:=(List.getElem?_eq_some_iff.mp ht).1
 refine⟨⟨q,by rw [hz]; exact hi⟩,fun x H' ⟨p,k,v,h3,h4,h5,h6⟩=>?_⟩
 subst h4; subst h6
 unfold aR7 at ht
 rw [List.getElem?_map] at ht
 obtain⟨⟨k2,t2⟩,h7,rfl⟩:=Option.map_eq_some_iff.mp ht
 rw [List.getElem?_zip_eq_some] at h7
 obtain⟨v2,h8,h9⟩:=rs.get h7.2
 have e1:=(zip_get h3).1
 have e2:=(zip_get h3).2
 rw [h7.1] at e1
 rw [h8] at e2
 obtain⟨r',e'⟩:=r.allocZ h5 (.tup [kV k,v])
 have ek:k2=k:=Option.some.inj e1
 have ev:v2=v:=Option.some.inj e2
 rw [ev] at h9
 rw [ek]
 refine⟨_,e',r',?_⟩
 unfold Rep
 exact⟨p,_,rfl,.of upd_same,.cons (bC7 k) (.cons (h9.ext (e.trans e')) .nil)⟩
noncomputable def aZ0 (f:EF):LF:=fun env m=>(f env m).bind fun t m1=>match t with
 | .dct _ ts=> .ok ts m1
 | _=> .no
noncomputable def aZ2 (f:EF):LF:=fun env m=>(f env m).bind fun t m1=>match t with
 | .dct ks ts=> .ok (aR7 ks ts) m1
 | _=> .no
theorem aUx {tg e:Expr} {f:EF} {apos cpos:Pos} (h:SE X W e f) (hbase:attributeBase e "values" X.env (eval e X.env)=eval e X.env:=by rfl) (hline:(apos.endLine ==cpos.line)=true:=by rfl):SI X W tg (.Call (.Attribute e "values" apos) [] [] cpos) (aZ0 f):=by
 refine⟨_,pi_values h.pe hbase hline,fun Φ Z ρ σ H env m R F p=>?_⟩
 refine tr_bind (P:=aIr X.K W Φ Z ρ σ R) F (fun t m1 Z1 ρ1 H1 v e0 e1 F1 r p1=>?_) (fun _ _ _ _ h=>h) (fun h=>h) p
 cases t with
 | dct ks ts=>
  unfold Rep at r
  obtain⟨a,vs,o,rfl,q,hl,rs⟩:=r
  exact⟨a,o,_,rfl,F1.rel.zin _ _ q,p1 _ _ _ _ e1 F1.rel (bCp q hl rs)⟩
 | _=>exact(show False from p1).elim
theorem aXo {e:Expr} {elts:List Expr} {kk:Nat} {tpos:Pos} {f:EF} {apos cpos:Pos} (h:SE X W e f) (hbase:attributeBase e "items" X.env (eval e X.env)=eval e X.env:=by rfl) (hline:(apos.endLine ==cpos.line)=true:=by rfl):SI X W (.Tuple elts kk tpos) (.Call (.Attribute e "items" apos) [] [] cpos) (aZ2 f):=by
 refine⟨_,pi_items h.pe hbase hline,fun Φ Z ρ σ H env m R F p=>?_⟩
 refine tr_bind (P:=aIr X.K W Φ Z ρ σ R) F (fun t m1 Z1 ρ1 H1 v e0 e1 F1 r p1=>?_) (fun _ _ _ _ h=>h) (fun h=>h) p
 cases t with
 | dct ks ts=>
  unfold Rep at r
  obtain⟨a,vs,o,rfl,q,hl,rs⟩:=r
  exact⟨a,o,_,rfl,F1.rel.zin _ _ q,p1 _ _ _ _ e1 F1.rel (bA4 q hl rs)⟩
 | _=>exact(show False from p1).elim
noncomputable def bFf:TSet:=fun o i v H Q=>∃ a H4,o= .ref a∧DPut H a i v H4∧Q H4
theorem bD5 (hu:X.A.units+1 < cLine):PSet X bFf:=by
 intro pins s σ H o i v ov iv u Q I ro ri rv h
 obtain⟨a,H4,rfl,g,q⟩:=h
 cases ro
 exact d_setItem hu I g ri rv fun s' I'=>⟨H4,I',q⟩
noncomputable def cellD (m:Mem):T→Option (Nat×List Key×List T)
 | .loc n=>match m[n]? with
  | some (some (.dct ks ts))=>some (n,ks,ts)
  | _=>none
 | _=>none
noncomputable def gSetD (o i v:T) (m:Mem):Option Mem:=match cellD m o,keyT i with
 | some (n,ks,ts),some k=>if ks.length < lim then some (m.set n (some (.dct (addK ks k) (putT k v ks ts)))) else none
 | _,_=>none
noncomputable def bAu (fe fo fi:EF):SF:=sOf fe fun v env m1=>match fo env m1 with
 | .ok o m2=>match fi env m2 with
  | .ok i m3=>match gSetD o i v m3 with
   | some m4=> .nx env m4
   | none=> .no
  | _=> .no
 | _=> .no
theorem aT3 {k:Nat} {o i e:Expr} {pos pos':Pos} {fe fo fi:EF} (c:Cok X W k) (he:SE X W e fe) (ho:SE X W o fo) (hi:SE X W i fi)
  (ha:∀ v,assign (.Subscript o i pos') X.env v=(do
   let ov ←holding [v] (eval o X.env)
   let iv ←holding [v,ov] (eval i X.env)
   standAt pos'
   holding [v,ov,iv] (setItem ov iv v)
   release [v,ov,iv] []):=by intro _; rfl)
  (hs:swapsWithSole [.Subscript o i pos'] e pos.line X.env=pure false:=by rfl) (hw:swappedStores [.Subscript o i pos'] e X.env=pure none:=by rfl)
  (h1:(assignEach [.Subscript o i pos'] X.env).map (·.2)=[assign (.Subscript o i pos') X.env]:=by rfl):SS X W (.Assign [.Subscript o i pos'] e pos) (bAu fe fo fi):=by
 have hu:X.A.units+1 < cLine:=by have:=c.room.units; omega
 refine⟨tY (ps_asg he.pe (pg_sub ho.pe hi.pe (bD5 hu) ha) hs hw h1) fun D σ H h=>tV (fun Φ Z1 ρ1 H1 env m1 t v F r p=>?_) h⟩
 show tr X.K W fo σ H1 fun ov H2=>tr X.K W fi σ H2 fun iv H3=>bFf ov iv v H3 fun H4=>D.nx σ H4
 cases eo:fo env m1 with
 | no=>simp only [eo] at p; exact p.elim
 | ex _ _ _ _=>simp only [eo] at p; exact p.elim
 | ok to m2=>
  simp only [eo] at p
  cases ei:fi env m2 with
  | no=>simp only [ei] at p; exact p.elim
  | ex _ _ _ _=>simp only [ei] at p; exact p.elim
  | ok ti m3=>
   simp only [ei] at p
   refine⟨Φ,Z1,ρ1,env,m1,F,?_⟩
   rw [eo]
   intro Z2 ρ2 H2 vo e2 r2 ro
   refine⟨Φ,Z2,ρ2,env,m2,⟨r2,F.env.ext e2⟩,?_⟩
   rw [ei]
   intro Z3 ρ3 H3 vi e3 r3 ri
   unfold gSetD at p
   cases ec:cellD m3 to with
   | none=>simp only [ec] at p; exact p.elim
   | some nkt=>
    obtain⟨n,ks,ts⟩:=nkt
    cases ek:keyT ti with
    | none=>simp only [ec,ek] at p; exact p.elim
    | some kk=>
     simp only [ec,ek] at p
     split at p
     ·rename_i m4 e4
      split at e4
      ·rename_i h9
       cases e4
       cases to with
       | loc n0=>
        unfold cellD at ec
        simp only at ec
        split at ec
        ·rename_i js us em
         cases ec
         have ro':=ro.ext e3
         unfold Rep at ro'
         obtain⟨a,ha',rfl⟩:=ro'
         obtain⟨hz,vs,hH,hl,rs⟩:=r3.mem n _ a em ha'
         obtain⟨ws,q1,q2,q3⟩:=aTo (k:=kk) (r.ext (e2.trans e3)) hl rs
         refine⟨a,_,rfl,.inl ⟨_,kk,hH,aB8 ri ek,?_,rfl⟩,?_⟩
         ·rw [List.length_zip,←hl,Nat.min_self]; exact aLm (Nat.le_of_lt h9)
         ·rw [q1]
          exact p _ _ _ _ (e2.trans e3) ⟨r3.write em ha' (u:= .dct _ _) ⟨ws,rfl,q2,q3⟩,F.env.ext (e2.trans e3)⟩ rfl
        ·cases ec
       | _=>cases ec
      ·cases e4
     ·exact p.elim
theorem Rel.lockC (r:Rel K Φ Z ρ H m) {n:Nat} {a:Addr} {w:MO} (hn:m[n]? =some (some w)) (ha:ρ[n]? =some a) (o:HO):Rel K Φ (upd Z a o) ρ (upd H a o) (m.set n none)∧Ext Z (upd Z a o) ρ ρ:=by
 have hz:=(r.mem n w a hn ha).1
 have hm:a∈ρ:=List.mem_of_getElem? ha
 have e:Ext Z (upd Z a o) ρ ρ:=⟨aKm hz,List.prefix_refl _⟩
 refine⟨⟨fun b v h=>?_,fun b v h=>?_,by simp [r.len],r.nd,fun b hb=>?_,fun i v b h1 h2=>?_,fun q hq=>?_⟩,e⟩
 ·by_cases hb:b=a
  ·subst hb; rw [upd_same] at h ⊢; exact h
  ·rw [upd_ne hb] at h ⊢; exact r.zin b v h
 ·obtain⟨h1,h2,h3⟩:=r.fin b v h
  have hb:b≠a:=fun z=>h3 (z▸hm)
  exact⟨by rw [upd_ne hb]; exact h1,by rw [upd_ne hb]; exact h2,h3⟩
 ·by_cases hb':b=a
  ·subst hb'; rw [upd_same]; exact fun z=>nomatch z
  ·rw [upd_ne hb']; exact r.trk b hb
 ·by_cases hi:n=i
  ·subst hi
   have hl:=(List.getElem?_eq_some_iff.mp hn).1
   rw [List.getElem?_set_self hl] at h1; cases h1
  ·rw [List.getElem?_set_ne hi] at h1
   have hb:b≠a:=fun z=>hi (by subst z; exact(nd_ix r.nd h2 ha).symm)
   obtain⟨h3,h4⟩:=r.mem i v b h1 h2
   rw [upd_ne hb,upd_ne hb]
   exact⟨h3,h4.mono e.z e.p⟩
 ·obtain⟨t,h1,h2,h3⟩:=r.tab q hq
  have hb:q.1≠a:=fun z=>h3 (z▸hm)
  exact⟨t.to e.z (upd_ne hb),by rw [upd_ne hb]; exact h1,h2,h3⟩
theorem aVc {st:Stmt} {t:TS} (h:PS X st t):PS X st (fun D σ H=>∃ d u,H d=some u∧Mut (some u)∧∀ od,t D σ (upd H d (.frz od u))):=by
 refine⟨fun pins s σ H D I ⟨d,u,hd,mu,hw⟩=>?_⟩
 obtain⟨od,I1⟩:=I.lock hd mu
 exact h.run pins s σ _ D I1 (hw od)
noncomputable def bDs (i:Nat) (g:SF):SF:=fun env m=>match env[i]? with
 | some (some (.loc n))=>match m[n]? with
  | some (some (.dct ks ts))=>g (env.set i (some (.dct ks ts))) (m.set n none)
  | _=> .no
 | _=> .no
theorem bCz (i:Nat) {st:Stmt} {g:SF} (h:SS X W st g):SS X W st (bDs i g):=by
 refine⟨tY (aVc h.ps) fun D σ H ⟨Φ,Z,ρ,env,m,F,p⟩=>?_⟩
 unfold bDs at p
 split at p
 ·rename_i n e1
  split at p
  ·rename_i ks ts e2
   obtain⟨v,h1,h2⟩:=F.env.get i _ e1
   unfold Rep at h2
   obtain⟨a,ha,rfl⟩:=h2
   obtain⟨hz,vs,hH,hl,rs⟩:=F.rel.mem n _ a e2 ha
   refine⟨a,_,hH,True.intro,fun od=>?_⟩
   obtain⟨r2,e3⟩:=F.rel.lockC e2 ha (.frz od (.dK (ks.zip vs)))
   refine⟨Φ,_,ρ,_,_,⟨r2,?_⟩,p.ext e3⟩
   have E2:=F.env.ext e3
   refine⟨by simp [E2.len],fun j u ej=>?_⟩
   by_cases hj:i=j
   ·subst hj
    have hi:=(List.getElem?_eq_some_iff.mp e1).1
    rw [List.getElem?_set_self hi] at ej
    have eu:T.dct ks ts=u:=by simpa using ej
    subst eu
    refine⟨.ref a,h1,?_⟩
    unfold Rep
    exact⟨a,vs,od,rfl,upd_same,hl,rs.ext e3⟩
   ·rw [List.getElem?_set_ne hj] at ej
    exact E2.get j u ej
  ·exact p.elim
 ·exact p.elim
end
end Ev
namespace Ev
noncomputable def insI (x:Int):List Int→List Int
 | []=>[x]
 | y::ys=>if x≤y then x::y::ys else y::insI x ys
noncomputable def sortI:List Int→List Int
 | []=>[]
 | x::xs=>insI x (sortI xs)
theorem insI_perm (x:Int):∀ ys:List Int,(insI x ys).Perm (x::ys)
 | []=>List.Perm.refl _
 | y::ys=>by
  unfold insI
  split
  ·exact List.Perm.refl _
  ·exact((insI_perm x ys).cons y).trans (.swap _ _ _)
theorem sortI_perm:∀ xs:List Int,(sortI xs).Perm xs
 | []=>List.Perm.refl _
 | x::xs=>(insI_perm x _).trans ((sortI_perm xs).cons x)
theorem aYz (x:Int):∀ ys:List Int,ys.Pairwise (·≤·)→(insI x ys).Pairwise (·≤·)
 | [],_=>by unfold insI; simp
 | y::ys,h=>by
  unfold insI
  obtain⟨h1,h2⟩:=List.pairwise_cons.mp h
  split
  ·rename_i hx
   refine List.pairwise_cons.mpr ⟨fun b hb=>?_,h⟩
   rcases List.mem_cons.mp hb with e | e
   ·rw [e]; exact hx
   ·exact Int.le_trans hx (h1 b e)
  ·rename_i hx
   refine List.pairwise_cons.mpr ⟨fun b hb=>?_,aYz x ys h2⟩
   rcases List.mem_cons.mp ((insI_perm x ys).mem_iff.mp hb) with e | e
   ·rw [e]; omega
   ·exact h1 b e
theorem aUw:∀ xs:List Int,(sortI xs).Pairwise (·≤·)
 | []=>List.Pairwise.nil
 | x::xs=>aYz x _ (aUw xs)
end Ev
namespace EvM
open PySem PySem.Spec PyProof.Rows L2
noncomputable def unS:Key→Str
 | .inr x=>x
 | .inl _=>Str.empty
noncomputable def unI:Key→Int
 | .inl x=>x
 | .inr _=>0
section
variable [Ev.Wrl] {P:Program} {w:World} {A:Around} {E:Value→Shared→Prop} {s:Shared} {a:Addr}
theorem aEc {ks:List Key} {Q:List Value→Shared→Prop} (S:Ev.SetM P w s.heap a ks) (hh:A.handled=none)
  (fin:∀ z vs,(∀ b o,s.heap.get? b=some o→z.heap.get? b=some o)→s.heap.objs.size≤z.heap.objs.size→z.gens=s.gens→z.os=s.os→(∃ js:List Key,js.Perm ks∧Vals (js.map kV) vs)→Q vs z):wpAny (model P w) A (collect (.ref a)) Q E s:=by
 obtain⟨ob,es,ep,t,h0,hx,hd,good,pm,nd,few,fit,ris,led⟩:=S
 have sz:es.size=ks.length:=by rw [←Array.length_toList,←List.length_map (f:=Ev.keyM),pm.length_eq]
 refine collect_set hh ⟨ob,h0,hx.1,hd⟩ fit (by rw [sz]; exact Nat.lt_trans few (by decide)) ris led fun z vs k1 hz g o pv=>fin z vs k1 hz g o ?_
 have all:∀ l:List (Int×Value),(∀ e∈l,Ev.aSq P w e)→Vals ((l.map Ev.keyM).map kV) (l.map (·.2)):=by
  intro l
  induction l with
  | nil=>intro _; exact .nil
  | cons e l ih=>
   intro h
   obtain⟨k,r,_⟩:=h e List.mem_cons_self
   rw [List.map_cons,List.map_cons,List.map_cons]
   refine .cons ?_ (ih fun f hf=>h f (List.mem_cons_of_mem _ hf))
   rw [aPe (P:=P) (w:=w) r]; exact r
 have ord:∀ {l m:List Value},l.Perm m→∀ js:List Key,Vals (js.map kV) l→∃ is:List Key,is.Perm js∧Vals (is.map kV) m:=by
  intro l m p
  induction p with
  | nil=>intro js h; exact⟨js,List.Perm.refl _,h⟩
  | cons x p ih=>
   intro js h
   cases js with
   | nil=>rw [List.map_nil] at h; cases h
   | cons j js=>
    rw [List.map_cons] at h
    cases h with
    | cons r t=>
     obtain⟨is,h1,h2⟩:=ih js t
     exact⟨j::is,h1.cons j,.cons r h2⟩
  | swap x y l=>
   intro js h
   match js,h with
   | [],h=>rw [List.map_nil] at h; cases h
   | [_],h=>rw [List.map_cons,List.map_nil] at h; cases h with | cons _ t=>cases t
   | i::j::js,h=>
    rw [List.map_cons,List.map_cons] at h
    cases h with
    | cons r t=>cases t with
     | cons r2 t2=>exact⟨j::i::js,.swap _ _ _,.cons r2 (.cons r t2)⟩
  | trans p q ihp ihq=>
   intro js h
   obtain⟨is,h1,h2⟩:=ihp js h
   obtain⟨hs,h3,h4⟩:=ihq is h2
   exact⟨hs,h3.trans h1,h4⟩
 obtain⟨is,h1,h2⟩:=ord pv.symm _ (all _ good)
 exact⟨is,h1.trans pm,h2⟩
theorem aQa:∀ {xs:List Str} {vs:List Value},Vals ((xs.map Sum.inr:List Key).map kV) vs→StrsAre vs xs
 | [],vs,h=>by rw [List.map_nil,List.map_nil] at h; cases h; exact .nil
 | x::xs,vs,h=>by
  rw [List.map_cons,List.map_cons] at h
  cases h with
  | cons r t=>
   obtain⟨tk,rfl⟩:=(show ∃ t,_=Value.str x t from r)
   exact .cons x tk (aQa t)
theorem aQc:∀ {xs:List Int} {vs:List Value},Vals ((xs.map Sum.inl:List Key).map kV) vs→IntsAre vs xs
 | [],vs,h=>by rw [List.map_nil,List.map_nil] at h; cases h; exact .nil
 | x::xs,vs,h=>by
  rw [List.map_cons,List.map_cons] at h
  cases h with
  | cons r t=>
   obtain⟨tk,rfl⟩:=(show ∃ t,_=Value.int x t from r)
   exact .cons x tk (aQc t)
theorem bB2 {js:List Key} {xs:List Str} (h:js.Perm (xs.map Sum.inr)):∃ ys:List Str,js=ys.map Sum.inr∧ys.Perm xs:=by
 refine⟨js.map unS,?_,?_⟩
 ·rw [List.map_map]
  refine(List.map_id js).symm.trans (List.map_congr_left fun j hj=>?_)
  obtain⟨x,_,rfl⟩:=List.mem_map.mp (h.mem_iff.mp hj)
  rfl
 ·have:=h.map unS
  rw [List.map_map] at this
  have e:unS∘(Sum.inr:Str→Key)=id:=rfl
  rw [e,List.map_id] at this
  exact this
theorem bB3 {js:List Key} {xs:List Int} (h:js.Perm (xs.map Sum.inl)):∃ ys:List Int,js=ys.map Sum.inl∧ys.Perm xs:=by
 refine⟨js.map unI,?_,?_⟩
 ·rw [List.map_map]
  refine(List.map_id js).symm.trans (List.map_congr_left fun j hj=>?_)
  obtain⟨x,_,rfl⟩:=List.mem_map.mp (h.mem_iff.mp hj)
  rfl
 ·have:=h.map unI
  rw [List.map_map] at this
  have e:unI∘(Sum.inl:Int→Key)=id:=rfl
  rw [e,List.map_id] at this
  exact this
theorem aT6 {xs:List Str} {Q:Value→Shared→Prop} (S:Ev.SetM P w s.heap a (xs.map Sum.inr)) (hh:A.handled=none)
  (fin:∀ z p (out:Array Value) (c:Nat),(∀ b o,s.heap.get? b=some o→z.heap.get? b=some o)→z.gens=s.gens→z.os=s.os→s.heap.objs.size≤p→z.heap.get? p=some (seqObj "list" out c)→StrsAre out.toList (Ev.aI2 xs)→Q (.ref p) z):
  wpAny (model P w) A (call (.builtin "sorted") [.ref a]) Q E s:=by
 have few:xs.length < 4090:=let ⟨_,_,_,_,_,_,_,_,_,_,f,_⟩:=S; by rw [List.length_map] at f; exact f
 refine Calls.call_function_entry kind_sorted plain_sorted entry_sorted (args_sorted1 _) ?_
 unfold Builtin.«sorted»
 refine wpAny_bind (m:=checkCount "sorted" 1 1 _) (wpAny_pure (wpAny_bind (aEc S hh fun z vs k1 hz g o ⟨js,pj,vj⟩=>?_)))
 obtain⟨ys,rfl,py⟩:=bB2 pj
 have sv:=aQa vj
 have hL:vs.length≤sizeLine:=by rw [←vj.length,List.length_map,List.length_map,py.length_eq,sizeLine_eq]; omega
 refine wpAny_bind (wpAny_newList ?_ hL)
 have z2:(z.heap.push (seqObj "list" vs.toArray 0)).get? z.heap.objs.size=some (seqObj "list" vs.toArray 0):=Heap.get?_push_size _ rfl
 have z3:∀ v₁ v₂ rest,vs=v₁::v₂::rest→keyKind' (v₁::v₂::rest).toArray=pure oneType':=fun v₁ v₂ rest e=>keyKind_strs (by rw [←e]; exact sv)
 refine wpAny_bind (wpAny_holding (wpAny_call_entry slot_list_sort ⟨_,z2,rfl⟩ entry_list_sort (list_sort_treeKAny strKind_oneLt z2 sv.keysOf z3 hL fun st' a1 a2=>⟨_,rfl,wpAny_pure ⟨_,rfl,?_⟩⟩) (args_list_sort _)))
 obtain⟨ss',h1,h2,h3⟩:=sorted_out_str sv a1 a2
 have e:=Ev.aL2 (h2.trans py) h3
 subst e
 obtain⟨c,hc⟩:=sortedHeap_at (vs:=vs) (out:=(arrOf st').map (·.2)) z2
 refine fin _ z.heap.objs.size _ c (fun b u e=>?_) g o hz hc h1
 have q:=k1 b u e
 have lt:=Heap.lt_size q
 show (sortedHeap (z.heap.push (seqObj "list" vs.toArray 0)) z.heap.objs.size vs _).get? b=some u
 rw [sortedHeap_old (Nat.ne_of_lt lt) (by rw [size_push']; exact Nat.lt_succ_of_lt lt)]
 exact Heap.get?_push_of_some _ q
theorem bAf {ys xs:List Int} (hp:ys.Perm xs) (h:ys.Pairwise (·≤·)):ys=Ev.sortI xs:=
 List.Perm.eq_of_pairwise (fun a b _ _ h1 h2=>Int.le_antisymm h1 h2) h (Ev.aUw xs) (hp.trans (Ev.sortI_perm xs).symm)
theorem aT7 {xs:List Int} {Q:Value→Shared→Prop} (S:Ev.SetM P w s.heap a (xs.map Sum.inl)) (hh:A.handled=none)
  (fin:∀ z p (out:Array Value) (c:Nat),(∀ b o,s.heap.get? b=some o→z.heap.get? b=some o)→z.gens=s.gens→z.os=s.os→s.heap.objs.size≤p→z.heap.get? p=some (seqObj "list" out c)→IntsAre out.toList (Ev.sortI xs)→Q (.ref p) z):
  wpAny (model P w) A (call (.builtin "sorted") [.ref a]) Q E s:=by
 have few:xs.length < 4090:=let ⟨_,_,_,_,_,_,_,_,_,_,f,_⟩:=S; by rw [List.length_map] at f; exact f
 refine Calls.call_function_entry kind_sorted plain_sorted entry_sorted (args_sorted1 _) ?_
 unfold Builtin.«sorted»
 refine wpAny_bind (m:=checkCount "sorted" 1 1 _) (wpAny_pure (wpAny_bind (aEc S hh fun z vs k1 hz g o ⟨js,pj,vj⟩=>?_)))
 obtain⟨ys,rfl,py⟩:=bB3 pj
 have sv:=aQc vj
 have hL:vs.length≤sizeLine:=by rw [←vj.length,List.length_map,List.length_map,py.length_eq,sizeLine_eq]; omega
 refine wpAny_bind (wpAny_newList ?_ hL)
 have z2:(z.heap.push (seqObj "list" vs.toArray 0)).get? z.heap.objs.size=some (seqObj "list" vs.toArray 0):=Heap.get?_push_size _ rfl
 refine wpAny_bind (wpAny_holding (wpAny_call_entry slot_list_sort ⟨_,z2,rfl⟩ entry_list_sort (list_sort_treeAny z2 sv hL fun out ns' h1 h2 h3=>⟨_,rfl,wpAny_pure ⟨_,rfl,?_⟩⟩) (args_list_sort _)))
 have e:=bAf (h2.trans py) h3
 subst e
 obtain⟨c,hc⟩:=sortedHeap_at (vs:=vs) (out:=out) z2
 refine fin _ z.heap.objs.size _ c (fun b u e=>?_) g o hz hc h1
 have q:=k1 b u e
 have lt:=Heap.lt_size q
 show (sortedHeap (z.heap.push (seqObj "list" vs.toArray 0)) z.heap.objs.size vs _).get? b=some u
 rw [sortedHeap_old (Nat.ne_of_lt lt) (by rw [size_push']; exact Nat.lt_succ_of_lt lt)]
 exact Heap.get?_push_of_some _ q
end
end EvM
namespace Ev
open PySem L2
mutual
noncomputable def kEq:T→T→Bool
 | .non,.non=>true
 | .int i,.int j=>decide (i=j)
 | .bl a,.bl b=>a ==b
 | .bl a,.int j=>decide ((if a then 1 else 0)=j)
 | .int i,.bl b=>decide (i=if b then 1 else 0)
 | .str x,.str y=>eqS x y
 | .tup a,.tup b=>kEqs a b
 | _,_=>false
noncomputable def kEqs:List T→List T→Bool
 | [],[]=>true
 | a::as,b::bs=>kEq a b&&kEqs as bs
 | _,_=>false
end
noncomputable def memN (k:T) (ks:List T):Bool:=ks.any fun j=>kEq j k
noncomputable def getN (k:T):List T→List T→Option T
 | j::ks,t::ts=>if kEq j k then some t else getN k ks ts
 | _,_=>none
noncomputable def addN (k:T) (ks:List T):List T:=if memN k ks then ks else ks++[k]
noncomputable def bAy (k v:T) (ks ts:List T):List T:=if memN k ks then(ks.zip ts).map fun p=>if kEq p.1 k then v else p.2 else ts++[v]
noncomputable def asN (m:Mem):T→Option (List T×List T)
 | .dcn ks ts=>some (ks,ts)
 | .loc n=>match m[n]? with
  | some (some (.dcn ks ts))=>some (ks,ts)
  | _=>none
 | _=>none
noncomputable def isTup:T→Bool
 | .tup _=>true
 | _=>false
noncomputable def mkN (mu:Bool) (ks ts:List T) (m:Mem):Out T:=if mu then .ok (.loc m.length) (m++[some (.dcn ks ts)]) else .ok (.dcn ks ts) m
noncomputable def aD3 (mu:Bool):EF:=fun _ m=>mkN mu [] [] m
noncomputable def gIxN (x y:T) (m:Mem):Out T:=match asN m x with
 | some (ks,ts)=>if isTup y&&(toNK y).isSome then match getN y ks ts with
  | some t=> .ok t m
  | none=> .no else .no
 | none=> .no
noncomputable def aWr (k:T):Bool:=match toNK k with
 | some n=>isTup k&&decide (n.depth≤8)
 | none=>false
noncomputable def gInN (neg:Bool) (x y:T) (m:Mem):Out T:=match asN m y with
 | some (ks,_)=>if aWr x then .ok (.bl (if neg then !memN x ks else memN x ks)) m else .no
 | none=> .no
noncomputable def bEq (o i v:T) (m:Mem):Option Mem:=match o with
 | .loc n=>match m[n]? with
  | some (some (.dcn ks ts))=>if aWr i&&decide (ks.length < lim) then some (m.set n (some (.dcn (addN i ks) (bAy i v ks ts)))) else none
  | _=>none
 | _=>none
noncomputable def aIb (fe fo fi:EF):SF:=sOf fe fun v env m1=>match fo env m1 with
 | .ok o m2=>match fi env m2 with
  | .ok i m3=>match bEq o i v m3 with
   | some m4=> .nx env m4
   | none=> .no
  | _=> .no
 | _=> .no
noncomputable def aTm (i:Nat) (g:SF):SF:=fun env m=>match env[i]? with
 | some (some (.loc n))=>match m[n]? with
  | some (some (.dcn ks ts))=>g (env.set i (some (.dcn ks ts))) (m.set n none)
  | _=> .no
 | _=> .no
noncomputable def aRh:List Key→Option (List Str)
 | []=>some []
 | .inr x::ks=>(aRh ks).map (x::·)
 | .inl _::_=>none
noncomputable def aTw:List Key→Option (List Int)
 | []=>some []
 | .inl x::ks=>(aTw ks).map (x::·)
 | .inr _::_=>none
noncomputable def gSortedA (mu:Bool):List T→Mem→Out T:=fun xs m=>match xs with
 | [.set ks]=>match aRh ks with
  | some ys=>mk mu ((aI2 ys).map T.str) m
  | none=>match aTw ks with
   | some ns=>mk mu ((sortI ns).map T.int) m
   | none=> .no
 | [y]=>match asD m y with
  | some (ks,_)=>match aRh ks with
   | some ys=>if ys.length < 64 then mk mu ((aI2 ys).map T.str) m else .no
   | none=> .no
  | none=>gSorted mu [y] m
 | _=> .no
noncomputable def aVs (mu:Bool):List T→Mem→Out T:=fun xs m=>match xs with
 | [y]=>match asD m y with
  | some (ks,_)=>mk mu (ks.map kT) m
  | none=>aZ7 mu [y] m
 | _=> .no
noncomputable def aNa:List T→Option (List Int)
 | []=>some []
 | .int x::ts=>(aNa ts).map (x::·)
 | _::_=>none
noncomputable def gSum:List T→Mem→Out T:=fun xs m=>match xs with
 | [y]=>match asL m y with
  | some ts=>match aNa ts with
   | some ns=> .ok (.int ns.sum) m
   | none=> .no
  | none=> .no
 | _=> .no
noncomputable def maxI:Int→List Int→Int
 | a,[]=>a
 | a,b::bs=>maxI (if a < b then b else a) bs
noncomputable def minI:Int→List Int→Int
 | a,[]=>a
 | a,b::bs=>minI (if b < a then b else a) bs
noncomputable def gMax:List T→Mem→Out T:=fun xs m=>match xs with
 | [y]=>match asL m y with
  | some ts=>match aNa ts with
   | some (n::ns)=> .ok (.int (maxI n ns)) m
   | _=> .no
  | none=> .no
 | _=> .no
noncomputable def gMin:List T→Mem→Out T:=fun xs m=>match xs with
 | [y]=>match asL m y with
  | some ts=>match aNa ts with
   | some (n::ns)=> .ok (.int (minI n ns)) m
   | _=> .no
  | none=> .no
 | _=> .no
noncomputable def aM1:T→Option Int
 | .tup (.int i::_)=>some i
 | _=>none
noncomputable def min0:T→Int→List T→Option T
 | t,_,[]=>some t
 | t,a,u::us=>match aM1 u with
  | some b=>if b < a then min0 u b us else min0 t a us
  | none=>none
noncomputable def aWt:List T→Mem→Out T:=fun xs m=>match xs with
 | [y]=>match asL m y with
  | some (t::ts)=>match aM1 t with
   | some a=>match min0 t a ts with
    | some u=> .ok u m
    | none=> .no
   | none=> .no
  | _=> .no
 | _=> .no
noncomputable def gTupleA:List T→Mem→Out T:=fun xs m=>match xs with
 | [.str x]=>gTupleS [.str x] m
 | ys=>gTuple ys m
noncomputable def gIntA:List T→Mem→Out T:=fun xs m=>match xs with
 | [.bl b]=> .ok (.int (if b then 1 else 0)) m
 | ys=>gInt ys m
noncomputable def gExtendA:T→List T→Mem→Out T:=fun x xs m=>match xs with
 | [.tup us]=>match aK8 m x with
  | some (n,ts)=>if ts.length+us.length≤lim then .ok .non (m.set n (some (.lst (ts++us)))) else .no
  | none=> .no
 | ys=>gExtend x ys m
noncomputable def gMulU:T→T→Mem→Out T:=fun x y m=>match x,y with
 | .tup xs,.int 1=> .ok (.tup xs) m
 | x,y=>gMulT x y m
noncomputable def aTv (f:EF) (fs:LF):LF:=fun env m=>(f env m).bind fun x m1=>match aDh m1 x with
 | some ts=>(fs env m1).bind fun ys m2=> .ok (ts++ys) m2
 | none=> .no
noncomputable def aX0:List T→List Key→List T→Option (List Key×List T)
 | [],ks,ts=>some (ks,ts)
 | k::v::r,ks,ts=>match keyT k with
  | some j=>aX0 r (addK ks j) (putT j v ks ts)
  | none=>none
 | [_],_,_=>none
noncomputable def aWz (mu:Bool) (fs:LF):EF:=fun env m=>(fs env m).bind fun xs m1=>if xs.length≤30 then match aX0 xs [] [] with
 | some (ks,ts)=>mkD mu ks ts m1
 | none=> .no else .no
noncomputable def bGv (c:Str) (ys:List Str) (f:EF):EF:=fun env m=>(f env m).bind fun x m1=>match aUb m1 x with
 | some (d,_,_)=>if ys.any (eqS d) then .ok (.bl (eqS d c)) m1 else .no
 | none=>match tyOf m1 x with
  | some _=> .ok (.bl false) m1
  | none=> .no
noncomputable def zipI (m:Mem) (x:T):Option (List T):=match x with
 | .str z=>if z.length≤lim then some (aTu z) else none
 | y=>match asT y with
  | some ts=>some ts
  | none=>match y with
   | .lst ts=>some ts
   | .rls ts=>some ts
   | _=>none
noncomputable def iZipA (fs:LF):LF:=fun env m=>(fs env m).bind fun xs m1=>match xs with
 | [x,y]=>match zipI m1 x,zipI m1 y with
  | some ts,some us=> .ok ((ts.zip us).map fun p=> .tup [p.1,p.2]) m1
  | _,_=> .no
 | _=> .no
noncomputable def aQ9 (t:BF) (b:SF):Nat→Env→Mem→SOut
 | 0,_,_=> .no
 | n+1,env,m=>match t env m with
  | .ok true m1=>match b env m1 with
   | .nx env2 m2=>aQ9 t b n env2 m2
   | .ct env2 m2=>aQ9 t b n env2 m2
   | .bk env2 m2=> .nx env2 m2
   | r=>r
  | .ok false m1=> .nx env m1
  | .ex C ns vs m1=> .ex C ns vs env m1
  | .no=> .no
noncomputable def aLh (fuel:Nat) (t:BF) (b:SF):SF:=aQ9 t b fuel
end Ev
namespace Ev
open PySem PySem.Spec Builtin L2 PyProof PyProof.Rows
variable [Wrl]
section
variable {K:PySem.W.Frag} {W:WX} {Φ Z:Hp} {ρ:List Addr} {σ:L2.St} {H:Hp} {m:Mem} {X:Cx}
theorem wV (hc:X.calm=true):CallR X (.type "tuple") (fun xs H Q=>(∃ p ys,xs=[.ref p]∧((SqL X.K H p ys∧∀ l,H l=none→Q (.ref l) (upd H l (.tup ys)))∨(SqT X.K H p ys∧Q (.ref p) H)))∨bAv xs H Q):=call_tuple_of.or (aZk hc)
theorem xR:SemL K gTupleA (fun xs H Q=>(∃ p ys,xs=[.ref p]∧((SqL K H p ys∧∀ l,H l=none→Q (.ref l) (upd H l (.tup ys)))∨(SqT K H p ys∧Q (.ref p) H)))∨bAv xs H Q):=by
 intro W Φ Z ρ σ H m Q xs vs r rs p
 unfold gTupleA at p
 split at p
 ·exact .inr (bAj W Φ Z ρ σ H m Q _ vs r rs p)
 ·exact .inl (aXt W Φ Z ρ σ H m Q _ vs r rs p)
theorem aV1:SemL K gIntA (fun xs H Q=>(∃ i,xs=[.int i]∧Q (.int i) H)∨∃ k,xs=[.bl k]∧Q (.int (if k then 1 else 0)) H):=by
 intro W Φ Z ρ σ H m Q xs vs r rs p
 unfold gIntA at p
 split at p
 ·rename_i b
  obtain⟨v,rfl,rv⟩:=jE rs
  unfold Rep at rv
  subst rv
  exact .inr ⟨b,rfl,yP r wW p⟩
 ·exact bDe W Φ Z ρ σ H m Q _ vs r rs p
theorem aYx:∀ {ts:List T} {xs:List Int},aNa ts=some xs→ts=xs.map T.int
 | [],xs,h=>by unfold aNa at h; cases h; rfl
 | .int i::ts,xs,h=>by
  unfold aNa at h
  cases e:aNa ts with
  | none=>rw [e] at h; cases h
  | some ys=>rw [e] at h; cases h; rw [aYx e]; rfl
 | .non::_,_,h | .bl _::_,_,h | .str _::_,_,h | .ty _::_,_,h | .tup _::_,_,h | .lst _::_,_,h | .rls _::_,_,h | .dct _ _::_,_,h | .ins _ _ _::_,_,h | .dcn _ _::_,_,h | .exc _ _ _::_,_,h | .set _::_,_,h | .odd _ _::_,_,h | .fn _ _ _ _ _ _::_,_,h | .loc _::_,_,h=>by simp [aNa] at h
theorem aDv:∀ {xs:List Int} {vs:List V},Reps K Z ρ (xs.map T.int) vs→vs=xs.map V.int
 | [],_,h=>by unfold Reps at h; exact h
 | x::xs,_,h=>by
  rw [List.map_cons] at h
  unfold Reps at h
  obtain⟨v,us,rfl,r,rs⟩:=h
  unfold Rep at r
  rw [r,aDv rs]; rfl
theorem aIx:∀ {xs:List Int},Reps K Z ρ (xs.map T.int) (xs.map V.int)
 | []=> .nil
 | x::xs=> .cons wW aIx
theorem aPx (r:Rel K Φ Z ρ H m) {y:T} {v:V} {ts:List T} {ns:List Int} (rv:Rep K Z ρ y v) (ht:asL m y=some ts) (hn:aNa ts=some ns):∃ a,v= .ref a∧SqL K H a (ns.map V.int):=by
 obtain⟨a,us,rfl,q,ru⟩:=aEg r rv ht
 rw [aYx hn] at ru
 rw [aDv ru] at q
 exact⟨a,rfl,q⟩
theorem bD9:SemL K gSum (rSum K):=by
 intro W Φ Z ρ σ H m Q xs vs r rs p
 unfold gSum at p
 split at p
 ·rename_i y
  obtain⟨v,rfl,rv⟩:=jE rs
  split at p
  ·rename_i ts ht
   split at p
   ·rename_i ns hn
    obtain⟨a,rfl,q⟩:=aPx r rv ht hn
    exact⟨a,ns,rfl,q,yP r wW p⟩
   ·exact p.elim
  ·exact p.elim
 ·exact p.elim
theorem aYr:∀(a:Int) (bs:List Int),maxI a bs∈a::bs∧∀ y∈a::bs,y≤maxI a bs
 | a,[]=>by simp [maxI]
 | a,b::bs=>by
  unfold maxI
  obtain⟨h1,h2⟩:=aYr (if a < b then b else a) bs
  by_cases h:a < b
  ·rw [if_pos h] at h1 h2 ⊢
   refine⟨List.mem_cons_of_mem _ h1,fun y hy=>?_⟩
   rcases List.mem_cons.mp hy with rfl | hy
   ·exact Int.le_trans (Int.le_of_lt h) (h2 b List.mem_cons_self)
   ·exact h2 y hy
  ·rw [if_neg h] at h1 h2 ⊢
   refine⟨?_,fun y hy=>?_⟩
   ·rcases List.mem_cons.mp h1 with h1 | h1
    ·rw [h1]; exact List.mem_cons_self
    ·exact List.mem_cons_of_mem _ (List.mem_cons_of_mem _ h1)
   ·rcases List.mem_cons.mp hy with rfl | hy
    ·exact h2 y List.mem_cons_self
    ·rcases List.mem_cons.mp hy with rfl | hy
     ·exact Int.le_trans (by omega) (h2 a List.mem_cons_self)
     ·exact h2 y (List.mem_cons_of_mem _ hy)
theorem aYo:∀(a:Int) (bs:List Int),minI a bs∈a::bs∧∀ y∈a::bs,minI a bs≤y
 | a,[]=>by simp [minI]
 | a,b::bs=>by
  unfold minI
  obtain⟨h1,h2⟩:=aYo (if b < a then b else a) bs
  by_cases h:b < a
  ·rw [if_pos h] at h1 h2 ⊢
   refine⟨List.mem_cons_of_mem _ h1,fun y hy=>?_⟩
   rcases List.mem_cons.mp hy with rfl | hy
   ·exact Int.le_trans (h2 b List.mem_cons_self) (Int.le_of_lt h)
   ·exact h2 y hy
  ·rw [if_neg h] at h1 h2 ⊢
   refine⟨?_,fun y hy=>?_⟩
   ·rcases List.mem_cons.mp h1 with h1 | h1
    ·rw [h1]; exact List.mem_cons_self
    ·exact List.mem_cons_of_mem _ (List.mem_cons_of_mem _ h1)
   ·rcases List.mem_cons.mp hy with rfl | hy
    ·exact h2 y List.mem_cons_self
    ·rcases List.mem_cons.mp hy with rfl | hy
     ·exact Int.le_trans (h2 a List.mem_cons_self) (by omega)
     ·exact h2 y (List.mem_cons_of_mem _ hy)
theorem bDc:SemL K gMax (rMax K):=by
 intro W Φ Z ρ σ H m Q xs vs r rs p
 unfold gMax at p
 split at p
 ·rename_i y
  obtain⟨v,rfl,rv⟩:=jE rs
  split at p
  ·rename_i ts ht
   split at p
   ·rename_i n ns hn
    obtain⟨a,rfl,q⟩:=aPx r rv ht hn
    refine⟨a,n::ns,rfl,q,Nat.succ_pos _,fun k hk hb=>?_⟩
    obtain⟨h1,h2⟩:=aYr n ns
    rw [Int.le_antisymm (h2 k hk) (hb _ h1)]
    exact yP r wW p
   ·exact p.elim
  ·exact p.elim
 ·exact p.elim
theorem bDb:SemL K gMin (rMin K):=by
 intro W Φ Z ρ σ H m Q xs vs r rs p
 unfold gMin at p
 split at p
 ·rename_i y
  obtain⟨v,rfl,rv⟩:=jE rs
  split at p
  ·rename_i ts ht
   split at p
   ·rename_i n ns hn
    obtain⟨a,rfl,q⟩:=aPx r rv ht hn
    refine⟨a,n::ns,rfl,q,Nat.succ_pos _,fun k hk hb=>?_⟩
    obtain⟨h1,h2⟩:=aYo n ns
    rw [Int.le_antisymm (hb _ h1) (h2 k hk)]
    exact yP r wW p
   ·exact p.elim
  ·exact p.elim
 ·exact p.elim
noncomputable def aR5 (K:PySem.W.Frag):List V→Hp→VK→Prop:=fun vs H Q=>(aY9 K vs H Q∨
 (∃(a:Addr) (kvs:List (Key×V)) (ks:List Str),vs=[.ref a]∧Rd H a (.dK kvs)∧kvs.map (·.1)=ks.map Sum.inr∧ks.length < 64∧∀ ys p,ys.Perm ks→PyProof.Rows.sortedS ys=true→H p=none→Q (.ref p) (upd H p (.lst (ys.map V.str)))))∨
 ((∃(a:Addr) (xs:List Str),vs=[.ref a]∧H a=some (setO a (xs.map Sum.inr))∧∀ p,H p=none→Q (.ref p) (upd H p (.lst ((aI2 xs).map V.str))))∨
  ∃(a:Addr) (xs:List Int),vs=[.ref a]∧H a=some (setO a (xs.map Sum.inl))∧∀ p,H p=none→Q (.ref p) (upd H p (.lst ((sortI xs).map V.int))))
theorem aL3 {pins:List (Addr×Obj)} {σ:L2.St} {H:Hp} {s z:Shared} {p:Addr} {out:Array Value} {c:Nat} {vs:List V} {Q:VK} (I:Inv X pins σ H s) (k1:∀ b o,s.heap.get? b=some o→z.heap.get? b=some o) (g:z.gens=s.gens) (o:z.os=s.os)
  (hz:s.heap.objs.size≤p) (hp:z.heap.get? p=some (seqObj "list" out c)) (rv:Vals vs out.toList) (hl:vs.length≤sizeLine) (q:∀ p,H p=none→Q (.ref p) (upd H p (.lst vs))):EP X pins σ Q (.ref p) z:=by
 have hn:H p=none:=I.hok.fresh hz
 have J:Inv X pins σ (upd H p (.lst vs)) {s with heap:=z.heap,gens:=z.gens,drawn:=z.drawn,toks:=z.toks}:=
  I.call (ch:=[]) (Un.laid k1 hz hn) (I.hok.laid k1 hz ⟨hl,out.toList,c,rv,hp⟩) (by rw [g]; exact I.bare) (fun _ z=>nomatch z)
 have e:z={s with heap:=z.heap,gens:=z.gens,drawn:=z.drawn,toks:=z.toks}:=by
  cases z
  cases s
  cases o
  rfl
 rw [e]
 exact⟨.ref p,_,J,rfl,q p hn⟩
theorem vals_of_ints:∀ {us:List Value} {xs:List Int},IntsAre us xs→Vals (xs.map V.int) us
 | _,_,.nil=>by rw [List.map_nil]; exact Paired.nil
 | _,_,.cons x t h=>by rw [List.map_cons]; exact Paired.cons (show RelV (V.int x) (Value.int x t) from ⟨t,rfl⟩) (vals_of_ints h)
theorem aXr {P:Program} {w:World} {h:Heap} {a:Addr} {ks:List Key} (S:SetM P w h a ks):ks.length≤sizeLine:=let ⟨_,_,_,_,_,_,_,_,_,_,f,_⟩:=S; Nat.le_trans (Nat.le_of_lt f) (by rw [sizeLine_eq]; omega)
theorem tR (hr:Here X) (hc:X.calm=true):CallR X (.builtin "sorted") (aR5 X.K):=by
 refine(bBq.or (call_sortedD hc)).or (CallR.or ?_ ?_)
 ·intro pins s σ H vs us Q I r h
  obtain⟨a,xs,rfl,ha,q⟩:=h
  rw [Vals.ref1 r]
  have S:=EvN.aXs hr I.hok ha
  refine EvM.aT6 S (I.ok.hd hc) fun z p out c k1 g o hz hp hs=>?_
  have e:(aI2 xs).length≤sizeLine:=by have:=aXr S; rw [List.length_map] at this; rw [(aI1 xs).length_eq]; exact this
  exact aL3 I k1 g o hz hp (vals_of_strs hs) (by rw [List.length_map]; exact e) q
 ·intro pins s σ H vs us Q I r h
  obtain⟨a,xs,rfl,ha,q⟩:=h
  rw [Vals.ref1 r]
  have S:=EvN.aXs hr I.hok ha
  refine EvM.aT7 S (I.ok.hd hc) fun z p out c k1 g o hz hp hs=>?_
  have e:(sortI xs).length≤sizeLine:=by have:=aXr S; rw [List.length_map] at this; rw [(sortI_perm xs).length_eq]; exact this
  exact aL3 I k1 g o hz hp (vals_of_ints hs) (by rw [List.length_map]; exact e) q
theorem aPc:∀ {ks:List Key} {xs:List Str},aRh ks=some xs→ks=xs.map Sum.inr
 | [],xs,h=>by unfold aRh at h; cases h; rfl
 | .inr x::ks,xs,h=>by
  unfold aRh at h
  cases e:aRh ks with
  | none=>rw [e] at h; cases h
  | some ys=>rw [e] at h; cases h; rw [aPc e]; rfl
 | .inl _::_,_,h=>by unfold aRh at h; cases h
theorem aVm:∀ {ks:List Key} {xs:List Int},aTw ks=some xs→ks=xs.map Sum.inl
 | [],xs,h=>by unfold aTw at h; cases h; rfl
 | .inl x::ks,xs,h=>by
  unfold aTw at h
  cases e:aTw ks with
  | none=>rw [e] at h; cases h
  | some ys=>rw [e] at h; cases h; rw [aVm e]; rfl
 | .inr _::_,_,h=>by unfold aTw at h; cases h
theorem aT9 {mu:Bool}:SemL K (gSortedA mu) (aR5 K):=by
 intro W Φ Z ρ σ H m Q xs vs r rs p
 unfold gSortedA at p
 split at p
 ·rename_i ks
  obtain⟨v,rfl,rv⟩:=jE rs
  unfold Rep at rv
  obtain⟨a,rfl,q⟩:=rv
  split at p
  ·rename_i ys hy
   rw [aPc hy] at q
   exact .inr (.inl ⟨a,ys,rfl,r.zin _ _ q,fun l hl=>kB r aB6 p hl⟩)
  ·split at p
   ·rename_i ns hn
    rw [aVm hn] at q
    exact .inr (.inr ⟨a,ns,rfl,r.zin _ _ q,fun l hl=>kB r aIx p hl⟩)
   ·exact p.elim
 ·rename_i y _
  split at p
  ·rename_i ks ts ht
   obtain⟨v,rfl,rv⟩:=jE rs
   obtain⟨a,us,rfl,q,hl,ru⟩:=aUc r rv ht
   split at p
   ·rename_i ys hy
    split at p
    ·rename_i h64
     refine .inl (.inr ⟨a,_,ys,rfl,q,?_,h64,fun zs l hp hs hn=>?_⟩)
     ·rw [List.map_fst_zip (Nat.le_of_eq hl)]; exact aPc hy
     ·rw [aL2 hp hs]
      exact kB r aB6 p hn
    ·exact p.elim
   ·exact p.elim
  ·exact .inl (.inl (aWh W Φ Z ρ σ H m Q _ vs r rs p))
 ·exact p.elim
end
end Ev
namespace EvV
open PySem PySem.Spec PyProof PyProof.Rows L2
theorem aJw (l:Addr) (items:Array Value) (n:Nat) (b:Addr) (items2:Array Value) (n2:Nat) (dd:Option Addr) (sl:Array (Option Value)) (hs0:¬(!items.isEmpty&&Builtin.List.listTooLong (items.size+items2.size))=true) (hs1:items.size≤sizeLine) (hs2:items.size+items2.size≤sizeLine+1):
  Meets (Builtin.«list.extend» ⟨[.ref l,.ref b],[]⟩) (fun _ R s=>s.heap.get? l=some {cls:= .type "list",dict:=none,data:= .seq items n,slots:=#[]}∧s.heap.get? b=some {cls:= .type "tuple",dict:=dd,data:= .seq items2 n2,slots:=sl}∧R (.ok (.ret Value.none)) {s with heap:=s.heap.update l (Obj.mapSeq fun x=>x++items2),toks:=s.toks}):=
 .of_wp fun prog w A R s h=>by
  obtain⟨hp,g,d,tk,os⟩:=s; obtain⟨hl,hb,h⟩:=h; have f1:=AutoSeq1.idx_int; have f2:=AutoSeq1.sub_tuple_tuple; have f3:=AutoSeq1.sub_list_list; have f4:=AutoSeq1.sub_tuple_list; have f5:=AutoSeq1.sub_list_tuple;
  have hz':(items++items2).size≤sizeLine+1:=by rw [Array.size_append]; exact hs2
  wp_walk using (wpAny_updateSeq hl rfl (hz:=hs1) (_hz':=hz')),wpAny_loadPart' hl,wpAny_loadPart' hb; exact⟨_,rfl,h⟩
variable {X:Cx}
noncomputable def aP4 (K:PySem.W.Frag):V→List V→Hp→VK→Prop:=fun x vs H Q=>∃ l b xs zs,x= .ref l∧vs=[.ref b]∧H l=some (.lst xs)∧SqT K H b zs∧xs.length+zs.length≤sizeLine∧Q .non (upd H l (.lst (xs++zs)))
theorem aWs:MtR X "list.extend" (aP4 X.K):=by
 intro pins s σ H x vs v us Q I rx rv h
 obtain⟨l,b,xs,zs,rfl,rfl,hH,hB,hz,q⟩:=h
 cases rx
 obtain⟨u,rfl,ru⟩:=rv.one
 cases ru
 obtain⟨z,its,n,r,hl,e⟩:=I.lstM hH
 obtain⟨its2,r2,⟨⟨cls,dd,data,sl⟩,e2,hc,n2,hd⟩,hs⟩:=I.tuple hB
 simp only at hc hd
 subst hc hd
 have hl2:=r2.length
 have hsz:its.toArray.size+its2.toArray.size≤sizeLine:=by rw [List.size_toArray,List.size_toArray]; omega
 have hlong:¬(!its.toArray.isEmpty&&Builtin.List.listTooLong (its.toArray.size+its2.toArray.size))=true:=by
  rw [notLongL hsz,Bool.and_false]
  exact Bool.false_ne_true
 refine call_meets F.slot_list_extend ⟨_,e,rfl⟩ F.entry_list_extend (F.args_list_extend_2 _ _)
  (aJw l its.toArray n b its2.toArray n2 dd sl hlong (by rw [List.size_toArray]; omega) (by omega)) ⟨e,e2,?_⟩
 refine⟨.non,_,I.lset (its':=its++its2) hH e (by simp) (r.append r2) ?_,rfl,q⟩
 rw [List.length_append]
 omega
theorem aWd (l:Addr) (items:Array Value) (n:Nat) (dd:Option Addr) (sl:Array (Option Value)) (u:Tok):
  Meets (Builtin.«tuple.__mul__» ⟨[.ref l,.int 1 u],[]⟩) (fun _ R s=>s.heap.get? l=some {cls:= .type "tuple",dict:=dd,data:= .seq items n,slots:=sl}∧R (.ok (.ret (Value.ref l))) s):=
 .of_wp fun prog w A R s h=>by
  obtain⟨hp,g,d,tk,os⟩:=s
  obtain⟨hl,h⟩:=h
  have f1:=AutoSeq1.idx_int
  have c1:(items.isEmpty||(1:Int)==1)=true:=by simp
  wp_walk using wpAny_loadPart' hl
  repeat (first
   | (refine wpAny_ite_false (decide_eq_false (by decide)) ?_; wp_walk using wpAny_loadPart' hl)
   | (refine wpAny_ite_true (decide_eq_true (by rw [c1])) ?_; wp_walk using wpAny_loadPart' hl))
  all_goals (first | exact⟨_,rfl,h⟩ | skip)
noncomputable def bDv (K:PySem.W.Frag):R2:=fun x y H Q=>∃ l xs,x= .ref l∧y= .int 1∧SqT K H l xs∧Q (.ref l) H
theorem bE3:OpR X (binaryOp .Mult) (bDv X.K):=by
 intro pins s σ H x y v u Q I rx ry h
 obtain⟨l,xs,rfl,rfl,hT,q⟩:=h
 cases rx
 obtain⟨t,rfl⟩:=ry
 obtain⟨its,r,⟨⟨cls,dd,data,sl⟩,ho,hc,n,hd⟩,hs⟩:=I.tuple hT
 simp only at hc hd
 subst hc hd
 refine wpAny_binaryOp_repeat_ref (T:="tuple") (U:="int") (by decide) ⟨_,ho,rfl⟩ (fun s'=>typeIs_int s' 1 t) noFill_tuple_mul F.fills_int_mul F.slot_int_rmul repeat_tuple F.slot_int_index.lookup
  (call_meets F.slot_int_rmul (typeIs_int s 1 t) F.entry_int_rmul (F.args_int_rmul_2 _ _) (int_rmul_tuple 1 t l its.toArray n dd sl)
   ⟨ho,rfl,⟨_,ho,rfl⟩,call_meets F.slot_tuple_mul ⟨_,ho,rfl⟩ F.entry_tuple_mul (F.args_tuple_mul_2 _ _) (aWd l its.toArray n dd sl t) ⟨ho,?_⟩⟩)
 exact⟨.ref l,H,I,rfl,q⟩
end EvV
namespace Ev
open PySem PySem.Spec PyProof PyProof.Rows L2
variable [Wrl]
section
variable {K:PySem.W.Frag} {W:WX} {Φ Z:Hp} {ρ:List Addr} {σ:L2.St} {H:Hp} {m:Mem} {X:Cx}
theorem aDx:OpR X (binaryOp .Mult) (fun x y H Q=>EvV.bDv X.K x y H Q∨rRepT X.K x y H Q):=EvV.bE3.or op_repT
theorem aB4:Sem2 K gMulU (fun x y H Q=>EvV.bDv K x y H Q∨rRepT K x y H Q):=by
 intro W Φ Z ρ σ H m Q x y vx vy r rx ry p
 unfold gMulU at p
 split at p
 ·rename_i xs
  obtain⟨a,vs,rfl,qa,ra⟩:=aBo r rx (ts:=xs) rfl
  unfold Rep at ry; subst ry
  exact .inl ⟨a,vs,rfl,rfl,qa,yP r rx p⟩
 ·exact .inr (bAl W Φ Z ρ σ H m Q _ _ vx vy r rx ry p)
theorem aF4:MtR X "list.extend" (fun x xs H Q=>EvV.aP4 X.K x xs H Q∨rExtend x xs H Q):=EvV.aWs.or (mt_extend)
theorem aC9:SemM K gExtendA (fun x xs H Q=>EvV.aP4 K x xs H Q∨rExtend x xs H Q):=by
 intro W Φ Z ρ σ H m Q x xs vx vs r rx rs p
 unfold gExtendA at p
 split at p
 ·rename_i us
  split at p
  ·rename_i n ts hc
   split at p
   ·rename_i hl
    obtain⟨a,ws,rfl,hn,ha,hH,ru⟩:=aHf r rx hc
    obtain⟨v,rfl,rv⟩:=jE rs
    obtain⟨b,zs,rfl,hB,rz⟩:=aBo r rv (ts:=us) rfl
    exact .inl ⟨a,b,ws,zs,rfl,rfl,hH,hB,by rw [←ru.length,←rz.length]; exact aB7 hl,aF2 r hn ha (ru.append rz) aIe p⟩
   ·exact p.elim
  ·exact p.elim
 ·exact .inr (aWi W Φ Z ρ σ H m Q _ _ vx vs r rx rs p)
theorem aI9 {e:Expr} {es:List Expr} {p:Pos} {f:EF} {fs:LF} (he:SE X W e f) (hr:SA X W es fs) (hs:starEach (.Starred e p::es) X.env=(true,eval e X.env)::starEach es X.env:=by rfl):SA X W (.Starred e p::es) (aTv f fs):=by
 refine⟨aVg (StX.pa_star he.pe hr.pa hs) fun σ H Q ⟨Φ,Z,ρ,env,m,F,p⟩=>?_⟩
 refine tr_bind (P:=aMe X.K W Φ Z ρ σ Q) F (fun x m1 Z1 ρ1 H1 vx _ e1 F1 rx p1=>?_) (fun _ _ _ _ h=>h) (fun h=>h) p
 split at p1
 ·rename_i ts ht
  obtain⟨a,vs,rfl,hq,rv⟩:=jA F1.rel rx ht
  refine⟨a,vs,rfl,hq.symm,?_⟩
  refine trL_bind (P:=aMe X.K W Φ Z1 ρ1 σ Q) F1 (fun xs m2 Z2 ρ2 H2 us _ e2 F2 rs p2=>?_) (fun _ _ _ _ h=>h) (fun h=>h) (p1.ext e1)
  exact(p2.ext e2) Z2 ρ2 H2 _ Ext.refl F2.rel ((rv.ext e2).append rs)
 ·exact p1.elim
theorem bHd {P:Program} {w:World} {mg:Str→Option Value} {base:Heap} {x qual:Str} {st:Stmt} {f:Addr} {fd:FuncData} {ps:List Str} (Fn:Fun K x qual st f fd) (hm:mg x=some (.ref f)) (hb:Binds K fd ps []) {n:Nat} (hn:ps.length=n:=by rfl):
  DefOk P w K mg base n 0 x (fun _ _=> .no):=
 ⟨f,fd,ps,hn,⟨fun vs H Q E ⟨_,_,_,_,_,_,_,hl,_⟩=>hl.trans hn.symm,fun _ _ _ _ _ _ _ _ _ _ _ _ _ ⟨_,_,_,_,_,_,_,_,p⟩=>p.elim⟩,hm,Fn.kp,hb⟩
theorem aEz {k:Nat} (fuel:Nat) {e:Expr} {body:List Stmt} {pos:Pos} {t:BF} {b:SF} (c:Cok X W k) (ht:SB X W e t) (hb:SSs X W body b):SS X W (.While e body [] pos) (aLh fuel t b):=by
 refine⟨tY (ps_while c.pass ht.pt hb.ps) fun D σ H ⟨Φ,Z,ρ,env,m,F,p⟩=>?_⟩
 refine⟨fun n σ1 H1=>∃ Φ Z ρ env m,Fits X.K Φ Z ρ σ1 H1 env m∧σ1.length=σ.length∧qC X.K W Φ Z ρ σ.length D (aQ9 t b n env m),⟨fuel,Φ,Z,ρ,env,m,F,rfl,p⟩,?_⟩
 rintro n σ1 H1 ⟨Φ,Z,ρ,env,m,F,hl,p⟩
 refine⟨Φ,Z,ρ,env,m,F,?_⟩
 cases n with
 | zero=>exact p.elim
 | succ n=>
  unfold aQ9 at p
  cases et:t env m with
  | ok v m1=>
   rw [et] at p
   cases v with
   | false=>exact fun Z' ρ' H' e1 r=>p Z' ρ' H' σ1 e1 ⟨r,F.env.ext e1⟩ hl
   | true=>
    refine fun Z' ρ' H' e1 r=>⟨fun σ2 H2=>∃ Φ Z ρ env m,Fits X.K Φ Z ρ σ2 H2 env m∧σ2.length=σ.length∧qC X.K W Φ Z ρ σ.length D (aQ9 t b n env m),fun σ2 H2 q=>⟨n,Nat.lt_succ_self _,q⟩,Φ,Z',ρ',env,m1,⟨r,F.env.ext e1⟩,?_⟩
    rw [hl]
    cases eb:b env m1 with
    | nx env2 m2=>
     simp only [eb] at p
     exact fun Z2 ρ2 H2 σ2 e2 F2 hl2=>⟨Φ,Z2,ρ2,env2,m2,F2,hl2,qC.ext (o:=aQ9 t b n env2 m2) p (e1.trans e2)⟩
    | ct env2 m2=>
     simp only [eb] at p
     exact fun Z2 ρ2 H2 σ2 e2 F2 hl2=>⟨Φ,Z2,ρ2,env2,m2,F2,hl2,qC.ext (o:=aQ9 t b n env2 m2) p (e1.trans e2)⟩
    | bk env2 m2=>
     simp only [eb] at p
     exact fun Z2 ρ2 H2 σ2 e2 F2 hl2=>p Z2 ρ2 H2 σ2 (e1.trans e2) F2 hl2
    | rt u m2=>
     simp only [eb] at p
     exact fun Z2 ρ2 H2 v e2 r2 rv=>p Z2 ρ2 H2 v (e1.trans e2) r2 rv
    | ex C ns vs env2 m2=>
     simp only [eb] at p
     exact fun Z2 ρ2 H2 σ2 d us e2 F2 rs h1 h2=>p Z2 ρ2 H2 σ2 d us (e1.trans e2) F2 rs h1 h2
    | no=>
     simp only [eb] at p
     exact p
  | ex C ns vs m1=>
   rw [et] at p
   exact fun Z' ρ' H' d us e1 r rs h1 h2=>p Z' ρ' H' σ1 d us e1 ⟨r,F.env.ext e1⟩ rs h1 h2
  | no=>rw [et] at p; exact p
end
section
variable {elt tg iter tg1 iter1:Expr} {ifs ifs1:List Expr} {scope:Scope} {own own1:List (Str×Nat)} {pos:Pos} {fi fi1:LF} {g g1:GF} {tt tt1:BF} {fe:EF} {k:Nat} {wg wg1:TG} {X:Cx} {W:WX}
theorem aKy (mu:Bool) (i:Nat) {y:Str} {py spos:Pos} (c:Cok X W k) (hi:SI X W tg iter fi) (ok:BlkOk X.N X.env.scope scope own) (hc:CompOk X scope own tg ifs elt g tt fe wg) (h1:Clause2 X scope own1 tg1 iter1 ifs1 fi1 g1 tt1 wg1) (hv:(own1.map (·.2)).all (fun i=>decide (i∈own.map (·.2)))=true:=by decide)
  (hy:X.N[i]? =some y:=by rfl) (hyl:X.env.scope.names.lookup y=some .local:=by rfl) (hsw:swapsWith (.ListComp elt [⟨tg,iter,ifs,0⟩,⟨tg1,iter1,ifs1,0⟩] scope pos) (some (.Name y py)) spos.line X.env=pure true:=by exact sw_true rfl rfl rfl (by decide+kernel))
  (hs:∀ x,foldedSetIterable iter X.env x=pure x:=by intro _; rfl) (hs1:∀ env x,foldedSetIterable iter1 env x=pure x:=by intro _ _; rfl):
  SS X W (.Assign [.Name y py] (.ListComp elt [⟨tg,iter,ifs,0⟩,⟨tg1,iter1,ifs1,0⟩] scope pos) spos) (sOf (aHd mu (own.map (·.2)) (own1.map (·.2)) fi g tt fi1 g1 tt1 fe) fun t env m=> .nx (env.set i (some t)) m):=
 ⟨tY (ps_setLc2 (vs1:=own1.map (·.2)) c.calm c.nd hy hyl hsw hi.pi ok (fun i h=>of_decide_eq_true (List.all_eq_true.mp hv i h)) (fun s H C cl fp=>(hc.sg s H C cl fp).pg) (fun s H C cl fp=>(hc.st s H C cl fp).pts) (fun s H C cl fp=>(h1.si s H C cl fp).pi) (fun s H C cl fp=>(h1.sg s H C cl fp).pg) (fun s H C cl fp=>(h1.st s H C cl fp).pts) (fun s H C cl fp=>(hc.se s H C cl fp).pe) hs hs1)
  fun D σ H h=>bCv accL hc.kg h1.kg (El:=fun D Nx σ H=>tr X.K W0 fe σ H fun y H4=>∃ acc,H4 D=some (.lst acc)∧acc.length < sizeLine∧Nx (upd H4 D (.lst (acc++[y]))))
   (fun D Nx σ H h=>by
    obtain⟨Φ,Z,ρ,env,m,F,p⟩:=aT0 h
    refine⟨Φ,Z,ρ,env,m,F,?_⟩
    cases e:fe env m with
    | ok t m1=>
     rw [e] at p
     intro Z' ρ' H' v e1 r rep
     obtain⟨y,acc,e2,q⟩:=p Z' ρ' H' v e1 r rep
     cases e2
     exact⟨acc,q⟩
    | ex _ _ _ _=>rw [e] at p; exact p
    | no=>rw [e] at p; exact p) (finL (mu:=mu)) (tV (k:=fun t env m=> .nx (env.set i (some t)) m) (fun Φ Z1 ρ1 H1 env m1 t v F r p=>p _ _ _ _ Ext.refl ⟨F.rel,F.env.set i r⟩ (by simp)) h)⟩
end
end Ev
namespace EvZ
open PySem PySem.Spec PyProof PyProof.Rows L2
theorem vals_back:∀ {xs:List V} {us:List Value} {j:Nat} {u:Value},Vals xs us→us[j]? =some u→∃ v,xs[j]? =some v∧RelV v u
 | [],_,_,_,r,e=>by cases r; simp at e
 | x::xs,_,0,_,r,e=>by
  cases r with
  | cons r t=>exact⟨x,rfl,by simp at e; exact e▸r⟩
 | x::xs,_,j+1,_,r,e=>by
  cases r with
  | cons r t=>
   obtain⟨v,h1,h2⟩:=vals_back (j:=j) t (by simpa using e)
   exact⟨v,by simpa using h1,h2⟩
inductive Src where
 | lst (a:Addr) | tup (a:Addr) | txt (z:Str) (t:Tok)
namespace Src
noncomputable def val:Src→Value
 | lst a=> .ref a
 | tup a=> .ref a
 | txt z t=> .str z t
noncomputable def it:Src→Addr→Nat→Heap→Prop
 | lst a=>fun I i h=>h.IsListIter I a i
 | tup a=>fun I i h=>h.IsTupleIter I a i
 | txt z t=>fun I i h=>h.IsStrIter I (strIterType z) z t i
noncomputable def has (K:PySem.W.Frag):Src→Hp→List V→Prop
 | lst a=>fun H xs=>SqL K H a xs
 | tup a=>fun H xs=>SqT K H a xs
 | txt z _=>fun _ xs=>xs=z.cps.toList.map fun c=>V.str ⟨#[c]⟩
noncomputable def ap:Src→Addr→Prop
 | lst a=>fun c=>a≠c
 | tup a=>fun c=>a≠c
 | txt _ _=>fun _=>True
theorem bBd {k:Src} {I:Addr} {i:Nat} {h h':Heap} (st:k.it I i h) (hk:∀ o,h.get? I=some o→h'.get? I=some o):k.it I i h':=by
 cases k with
 | lst a=>exact Heap.IsListIter.at st hk
 | tup a=>exact Heap.IsTupleIter.at st hk
 | txt z t=>obtain⟨o,ho,r⟩:=st; exact⟨o,hk o ho,r⟩
theorem aVn {k:Src} {I:Addr} {i:Nat} {h:Heap} (st:k.it I i h):∃ o,h.get? I=some o∧∀ v,o.data≠ .cell v:=by
 cases k with
 | lst a=>obtain⟨o,e,_,d⟩:=st; exact⟨o,e,fun v q=>by rw [d] at q; cases q⟩
 | tup a=>obtain⟨o,e,_,d⟩:=st; exact⟨o,e,fun v q=>by rw [d] at q; cases q⟩
 | txt z t=>obtain⟨o,e,_,d⟩:=st; exact⟨o,e,fun v q=>by rw [d] at q; cases q⟩
section
variable {X:Cx} {pins:List (Addr×Obj)} {σ:L2.St} {H:Hp} {s:Shared}
theorem inj {k:Src} {xs ys:List V} (I:Inv X pins σ H s) (h:k.has X.K H xs) (h':k.has X.K H ys):xs=ys:=by
 cases k with
 | lst a=>exact I.list_inj h h'
 | tup a=>exact I.tuple_inj h h'
 | txt z t=>exact Eq.trans h (Eq.symm h')
theorem draws {k:Src} {xs:List V} {it:Addr} {i:Nat} (I:Inv X pins σ H s) (hh:X.A.handled=none) (hs:k.has X.K H xs) (hit:k.it it i s.heap) (hap:k.ap it):
  ∃ fp P St,Draws X.prog X.w X.A.in1 it fp xs.length P St∧it∈fp∧(∀ c∈fp,c=it∨¬k.ap c)∧St i s.heap∧(∀ j h,St j h→k.it it j h)∧∀ j x,P j x→∃ v,xs[j]? =some v∧RelV v x:=by
 cases k with
 | lst a=>
  obtain⟨its,rv,p,_⟩:=I.list hs
  have D:=Draws.list (prog:=X.prog) (w:=X.w) (A:=X.A.in1) hh it a hap its.toArray
  rw [List.size_toArray,←rv.length] at D
  refine⟨_,_,_,D,by simp,fun c hc=>?_,⟨hit,p.isList⟩,fun j h st=>st.1,fun j x hx=>?_⟩
  ·rcases List.mem_cons.mp hc with e | e
   ·exact .inl e
   ·exact .inr fun q=>q (List.mem_singleton.mp e).symm
  ·obtain⟨v,h1,h2⟩:=vals_back rv (by simpa using hx)
   exact⟨v,h1,h2⟩
 | tup a=>
  obtain⟨its,rv,p,_⟩:=I.tuple hs
  have D:=Draws.tuple (prog:=X.prog) (w:=X.w) (A:=X.A.in1) hh it a hap its.toArray
  rw [List.size_toArray,←rv.length] at D
  refine⟨_,_,_,D,by simp,fun c hc=>?_,⟨hit,p⟩,fun j h st=>st.1,fun j x hx=>?_⟩
  ·rcases List.mem_cons.mp hc with e | e
   ·exact .inl e
   ·exact .inr fun q=>q (List.mem_singleton.mp e).symm
  ·obtain⟨v,h1,h2⟩:=vals_back rv (by simpa using hx)
   exact⟨v,h1,h2⟩
 | txt z t=>
  have D:=Draws.text (prog:=X.prog) (w:=X.w) (A:=X.A.in1) hh it z t
  have e:xs=z.cps.toList.map fun c=>V.str ⟨#[c]⟩:=hs
  have el:xs.length=z.cps.size:=by rw [e,List.length_map,Array.length_toList]
  rw [←el] at D
  refine⟨_,_,_,D,by simp,fun c hc=> .inl (List.mem_singleton.mp hc),hit,fun j h st=>st,fun j x hx=>?_⟩
  obtain⟨c,u,h1,h2⟩:=hx
  refine⟨V.str ⟨#[c]⟩,?_,u,h2⟩
  rw [e,List.getElem?_map,Array.getElem?_toList,h1]; rfl
end
end Src
noncomputable def Itm (K:PySem.W.Frag) (k1 k2:Src):It:=
 ⟨fun i H=>∃(xs ys:List V) (x y:V),k1.has K H xs∧k2.has K H ys∧xs[i]? =some x∧ys[i]? =some y,
  fun i H v H'=>∃ T x y,v= .ref T∧H T=none∧H'=upd H T (.tup [x,y])∧(∀ xs,k1.has K H xs→xs[i]? =some x)∧∀ ys,k2.has K H ys→ys[i]? =some y,
  fun i H=>∃ xs ys:List V,k1.has K H xs∧k2.has K H ys∧i≤xs.length∧i≤ys.length∧(i=xs.length∨i=ys.length)⟩
structure Sep (z TI TO i1 i2:Addr) (k1 k2:Src):Prop where
 nd:[z,TI,TO,i1,i2].Nodup
 a1:∀ c∈[z,TI,TO,i1,i2],k1.ap c
 a2:∀ c∈[z,TI,TO,i1,i2],k2.ap c
theorem Sep.two {z TI TO i1 i2:Addr} {k1 k2:Src} (S:Sep z TI TO i1 i2 k1 k2) {fp1 fp2:List Addr} (m1:i1∈fp1) (m2:i2∈fp2) (f1:∀ c∈fp1,c=i1∨¬k1.ap c) (f2:∀ c∈fp2,c=i2∨¬k2.ap c):ZipSep2 z TI TO i1 i2 fp1 fp2:=by
 have nd:=S.nd
 simp only [List.nodup_cons,List.mem_cons,List.not_mem_nil,or_false,not_or,List.nodup_nil,and_true,not_false_eq_true] at nd
 obtain⟨⟨n1,n2,n3,n4⟩,⟨n5,n6,n7⟩,⟨n8,n9⟩,n10⟩:=nd
 have q1:∀ c∈[z,TI,TO,i1,i2],c≠i1→c∉fp1:=fun c hc hn hm=>(f1 c hm).elim hn fun q=>q (S.a1 c hc)
 have q2:∀ c∈[z,TI,TO,i1,i2],c≠i2→c∉fp2:=fun c hc hn hm=>(f2 c hm).elim hn fun q=>q (S.a2 c hc)
 exact⟨Ne.symm n1,Ne.symm n2,n5,n6,m1,q1 z (by simp) n3,q1 TO (by simp) n8,n7,m2,q2 z (by simp) n4,q2 TO (by simp) n9,q2 i1 (by simp) n10,q1 i2 (by simp) (Ne.symm n10)⟩
theorem turn {P:Program} {w:World} {K:PySem.W.Frag} {elts:List Expr} {kk:Nat} {tpos:Pos} {z TI TO i1 i2:Addr} {k1 k2:Src} (S:Sep z TI TO i1 i2 k1 k2):
  Turn P w K (.Tuple elts kk tpos) (Itm K k1 k2) [z,TI,TO,i1,i2] z (fun i h=>IsZip h z TI TO .none∧IsPair h TI (.ref i1) (.ref i2)∧(∃ x y,IsPair h TO x y)∧k1.it i1 i h∧k2.it i2 i h) where
 mem:=by simp
 obj:=fun i h st c hc=>by
  obtain⟨hz,hTI,⟨x,y,hTO⟩,h1,h2⟩:=st
  have e':c=z∨c=TI∨c=TO∨c=i1∨c=i2:=by simpa using hc
  rcases e' with q | q | q | q | q
  ·rw [q]; exact⟨_,hz,fun v q=>nomatch q⟩
  ·rw [q]; exact⟨_,hTI,fun v q=>nomatch q⟩
  ·rw [q]; exact⟨_,hTO,fun v q=>nomatch q⟩
  ·rw [q]; exact Src.aVn h1
  ·rw [q]; exact Src.aVn h2
 keep:=fun i h h' st k=>by
  obtain⟨hz,hTI,⟨x,y,hTO⟩,h1,h2⟩:=st
  exact⟨k z (by simp) _ hz,k TI (by simp) _ hTI,⟨x,y,k TO (by simp) _ hTO⟩,Src.bBd h1 fun o q=>k i1 (by simp) o q,Src.bBd h2 fun o q=>k i2 (by simp) o q⟩
 item:=by
  intro X hP hw hK hc i pins s σ H E I hf st hg
  subst hP hw hK
  obtain⟨hz,hTI,⟨x0,y0,hTO⟩,h1,h2⟩:=st
  obtain⟨xs,ys,x,y,hqx,hqy,hx,hy⟩:=hg
  obtain⟨fp1,P1,St1,D1,m1,f1,s1,u1,r1⟩:=Src.draws I (I.ok.hd hc) hqx h1 (S.a1 _ (by simp))
  obtain⟨fp2,P2,St2,D2,m2,f2,s2,u2,r2⟩:=Src.draws I (I.ok.hd hc) hqy h2 (S.a2 _ (by simp))
  have Z:=S.two m1 m2 f1 f2
  have hzl:z < s.heap.objs.size:=Heap.lt_size hz
  refine wpAny_pyNext_zipD2_item Z D1 D2 hz hTI hTO s1 s2 (List.getElem?_eq_some_iff.mp hx).1 (List.getElem?_eq_some_iff.mp hy).1 fun x1 x2 h' tk p1 p2 z' TO' d1 d2 hT hsz hk=>?_
  obtain⟨x',e1,rx⟩:=r1 _ _ p1
  obtain⟨y',e2,ry⟩:=r2 _ _ p2
  rw [hx] at e1; cases e1
  rw [hy] at e2; cases e2
  refine⟨_,rfl,wpAny_letOwnedTupleGo_zip (s:={s with heap:=h',toks:=tk}) z' fun h'' z'' sb=>?_⟩
  have hT2:h''.get? s.heap.objs.size=some {cls:= .type "tuple",data:= .seq #[x1,x2]}:=(sb.2 _ (Nat.ne_of_gt hzl)).trans hT
  have new:ObjOk X.prog X.w (upd H s.heap.objs.size (.tup [x,y])) h'' s.heap.objs.size (.tup [x,y]):=
   ⟨by show 2≤sizeLine; decide,[x1,x2],.cons rx (.cons ry .nil),⟨_,hT2,rfl,_,rfl⟩⟩
  have I1:Inv X pins σ (upd H s.heap.objs.size (.tup [x,y])) {s with heap:=h'',toks:=tk}:=
   I.turnedNew (t':=tk) (ch:=[z,TI,TO,i1,i2]) (fun c o hb q=>(sb.2 c (fun q'=>hb (by simp [q']))).trans (hk c o (fun q'=>hb (by simp [q'])) (fun q'=>hb (by simp [q'])) (fun q'=>hb (by simp [q'])) (fun q'=>hb (by simp [q'])) q)) hf (Nat.le_refl _) new
  refine⟨.ref s.heap.objs.size,_,I1,rfl,⟨_,x,y,rfl,I.hok.fresh (Nat.le_refl _),rfl,fun l hl=>by rw [Src.inj I hl hqx]; exact hx,fun l hl=>by rw [Src.inj I hl hqy]; exact hy⟩,⟨z'',?_,⟨x1,x2,?_⟩,?_,?_⟩,fun c hcm=>?_⟩
  ·exact(sb.2 _ Z.TIz).trans (hk _ _ Z.TIz Z.TITO Z.TIi1 Z.TIi2 hTI)
  ·exact(sb.2 _ Z.TOz).trans TO'
  ·exact Src.bBd (u1 _ _ d1) fun o q=>(sb.2 _ (Ne.symm Z.zi1)).trans q
  ·exact Src.bBd (u2 _ _ d2) fun o q=>(sb.2 _ (Ne.symm Z.zi2)).trans q
  ·have hlt:c < s.heap.objs.size:=by
    have e':c=z∨c=TI∨c=TO∨c=i1∨c=i2:=by simpa using hcm
    rcases e' with q | q | q | q | q
    ·rw [q]; exact hzl
    ·rw [q]; exact Heap.lt_size hTI
    ·rw [q]; exact Heap.lt_size hTO
    ·rw [q]; obtain⟨_,e1,_⟩:=Src.aVn h1; exact Heap.lt_size e1
    ·rw [q]; obtain⟨_,e2,_⟩:=Src.aVn h2; exact Heap.lt_size e2
   rw [upd_ne (Nat.ne_of_lt hlt)]
   exact(hf c hcm).1
 done:=by
  intro X hP hw hK hc i pins s σ H E I hf st hg
  subst hP hw hK
  obtain⟨hz,hTI,⟨x0,y0,hTO⟩,h1,h2⟩:=st
  obtain⟨xs,ys,hqx,hqy,le1,le2,hend⟩:=hg
  obtain⟨fp1,P1,St1,D1,m1,f1,s1,u1,r1⟩:=Src.draws I (I.ok.hd hc) hqx h1 (S.a1 _ (by simp))
  obtain⟨fp2,P2,St2,D2,m2,f2,s2,u2,r2⟩:=Src.draws I (I.ok.hd hc) hqy h2 (S.a2 _ (by simp))
  exact wpAny_pyNext_zipD2_end (S.two m1 m2 f1 f2) D1 D2 hz hTI hTO s1 s2 le1 le2 hend fun h' tk hk=>⟨rfl,I.turnedL (t':=tk) (ch:=[z,TI,TO,i1,i2]) (fun c o hb q=>
   hk c o (fun q'=>hb (by simp [q'])) (fun q'=>hb (by simp [q'])) (fun q'=>hb (by simp [q'])) (fun q'=>hb (by simp [q'])) q) hf⟩
 self:=fun A i s Q E st h=>wpAny_pyIter_zip st.1 h
section
variable {X:Cx} {pins:List (Addr×Obj)} {σ:L2.St} {H:Hp} {s:Shared}
theorem Src.begins {k:Src} {xs:List V} (I:Inv X pins σ H s) (hs:k.has X.K H xs):∃ o φ,Begins k.val o φ∧φ s.heap∧(∀(h:Heap) (J:Addr),h.get? J=some o→k.it J 0 h)∧∀ c,s.heap.objs.size≤c→k.ap c:=by
 cases k with
 | lst a=>
  obtain⟨its,rv,p,_⟩:=I.list hs
  exact⟨_,_,begins_list a its.toArray,p.isList,fun h J e=>⟨_,e,rfl,rfl⟩,fun c hc=>Nat.ne_of_lt (Nat.lt_of_lt_of_le p.lt hc)⟩
 | tup a=>
  obtain⟨its,rv,p,_⟩:=I.tuple hs
  obtain⟨o,ho,_⟩:=id p
  exact⟨_,_,begins_tuple a its.toArray,p,fun h J e=>⟨_,e,rfl,rfl⟩,fun c hc=>Nat.ne_of_lt (Nat.lt_of_lt_of_le (Heap.lt_size ho) hc)⟩
 | txt z t=>exact⟨_,_,begins_text z t,trivial,fun h J e=>⟨_,e,rfl,rfl⟩,fun _ _=>trivial⟩
noncomputable def Src.of:Src→V
 | .lst a=> .ref a
 | .tup a=> .ref a
 | .txt z _=> .str z
theorem Src.real {K:PySem.W.Frag} {k:Src} {v:Value} (r:RelV k.of v):∃ k':Src,k'.val=v∧k'.has K=k.has K:=by
 cases k with
 | lst a=>cases r; exact⟨.lst a,rfl,rfl⟩
 | tup a=>cases r; exact⟨.tup a,rfl,rfl⟩
 | txt z t=>obtain⟨u,rfl⟩:=r; exact⟨.txt z u,rfl,rfl⟩
theorem bGf {K:PySem.W.Frag} {k1 k2 j1 j2:Src} (e1:j1.has K=k1.has K) (e2:j2.has K=k2.has K):Itm K j1 j2=Itm K k1 k2:=by
 unfold Itm; rw [e1,e2]
noncomputable def bHg (K:PySem.W.Frag) (ta:TA):TI:=fun σ H R=>ta σ H fun vs H1=>∃(k1 k2:Src) (xs ys:List V),vs=[k1.of,k2.of]∧k1.has K H1 xs∧k2.has K H1 ys∧R (Itm K k1 k2) H1
theorem bDy {e e2:Expr} {ta:TA} {p pos tpos:Pos} {elts:List Expr} {kk:Nat} (hg:Gl X "zip") (hm:X.mg "zip"=none) (ha:PA X [e,e2] ta)
  (hs:starEach [e,e2] X.env=(false,eval e X.env)::starEach [e2] X.env:=by rfl) (hpl:(backTo pos (starEach [e2] X.env)).any (·.1)=false:=by rfl):
  PI X (.Tuple elts kk tpos) (.Call (.Name "zip" p) [e,e2] [] pos) (bHg X.K ta):=by
 refine⟨fun pins s σ H R I h=>?_⟩
 refine Call_ (ld_blt I hg hm PyProof.Rows.boot_zip (PyProof.Rows.callWith_type1 (thn (ha.run pos pins s σ H _ I h) fun us s1 ⟨vs,H1,I1,r1,q1⟩=>?_) hs hpl))
 obtain⟨k1,k2,xs,ys,ex,hx,hy,q⟩:=q1
 subst ex
 cases r1 with
 | cons r rr=>
  cases rr with
  | cons r' rr=>
   cases rr
   obtain⟨j1,rfl,e1⟩:=Src.real (K:=X.K) r
   obtain⟨j2,rfl,e2⟩:=Src.real (K:=X.K) r'
   rw [←e1] at hx
   rw [←e2] at hy
   obtain⟨o1,φ1,B1,b1,i1,a1⟩:=Src.begins I1 hx
   obtain⟨o2,φ2,B2,b2,i2,a2⟩:=Src.begins I1 hy
   have ge:∀ c,c∈[s1.heap.objs.size+4,s1.heap.objs.size+2,s1.heap.objs.size+3,s1.heap.objs.size,s1.heap.objs.size+1]→s1.heap.objs.size≤c:=fun c hcm=>by
    have e':c=s1.heap.objs.size+4∨c=s1.heap.objs.size+2∨c=s1.heap.objs.size+3∨c=s1.heap.objs.size∨c=s1.heap.objs.size+1:=by simpa using hcm
    omega
   refine zip_begins2 B1 B2 b1 b2 fun h' hz hTI hTO h1 h2 hsz hk=>wpAny_pyIter_zip hz ?_
   have I2:Inv X pins σ H1 {s1 with heap:=h'}:=I1.kept (t':=s1.toks) hk
   rw [←bGf e1 e2] at q
   refine⟨s1.heap.objs.size+4,[s1.heap.objs.size+4,s1.heap.objs.size+2,s1.heap.objs.size+3,s1.heap.objs.size,s1.heap.objs.size+1],_,_,H1,rfl,I2,
    turn ⟨by simp,fun c hc=>a1 c (ge c hc),fun c hc=>a2 c (ge c hc)⟩,⟨hz,hTI,⟨_,_,hTO⟩,i1 _ _ h1,i2 _ _ h2⟩,fun c hcm=>?_,q⟩
   exact I1.fpOk (ge c hcm) (I1.hok.fresh (ge c hcm))
end
end EvZ
namespace Ev
open PySem PySem.Spec PyProof PyProof.Rows L2
variable [Wrl]
section
variable {K:PySem.W.Frag} {W:WX} {Φ Z Z':Hp} {ρ:List Addr} {σ:L2.St} {H:Hp} {m:Mem} {X:Cx}
theorem aF0 {k:EvZ.Src} {xs:List V} (e:Same Z Z') (h:k.has K Z xs):k.has K Z' xs:=by
 cases k with
 | lst a=>exact e.seq h
 | tup a=>exact Same.sqt e h
 | txt z t=>exact h
theorem bC4 {x:T} {v:V} {ts:List T} (rv:Rep K Z ρ x v) (h:zipI m x=some ts):∃(k:EvZ.Src) (vs:List V),v=k.of∧k.has K Z vs∧Reps K Z ρ ts vs:=by
 cases x with
 | str z=>
  have h:(if z.length≤lim then some (aTu z) else none)=some ts:=h
  split at h
  ·cases h
   unfold Rep at rv
   subst rv
   exact⟨.txt z 0,_,rfl,rfl,aIw _⟩
  ·cases h
 | tup us=>
  unfold Rep at rv
  obtain⟨a,vs,rfl,q,r⟩:=rv
  cases h
  exact⟨.tup a,vs,rfl,q,r⟩
 | lst us=>
  unfold Rep at rv
  obtain⟨a,vs,rfl,q,r⟩:=rv
  cases h
  exact⟨.lst a,vs,rfl,.of q,r⟩
 | rls us=>
  unfold Rep at rv
  obtain⟨a,vs,rfl,q,r⟩:=rv
  cases h
  exact⟨.lst a,vs,rfl,q,r⟩
 | _=>cases h
theorem bF6 {k1 k2:EvZ.Src} {xs ys:List V} {ts us:List T} (h1:k1.has K Z xs) (h2:k2.has K Z ys) (r1:Reps K Z ρ ts xs) (r2:Reps K Z ρ us ys):Wk K Z ρ (EvZ.Itm K k1 k2) ((ts.zip us).map fun p=> .tup [p.1,p.2]):=fun Φ Z1 ρ1 H m i e r=>by
 have q1:k1.has K H xs:=aF0 r.zin (aF0 e.z h1)
 have q2:k2.has K H ys:=aF0 r.zin (aF0 e.z h2)
 have l1:=r1.length
 have l2:=r2.length
 refine⟨fun hi=>⟨xs,ys,q1,q2,?_⟩,fun t ht=>?_⟩
 ·rw [List.length_map,List.length_zip] at hi
  omega
 ·rw [List.getElem?_map] at ht
  obtain⟨⟨t1,t2⟩,h7,rfl⟩:=Option.map_eq_some_iff.mp ht
  rw [List.getElem?_zip_eq_some] at h7
  obtain⟨v1,g1,p1⟩:=r1.get h7.1
  obtain⟨v2,g2,p2⟩:=r2.get h7.2
  refine⟨⟨xs,ys,v1,v2,q1,q2,g1,g2⟩,fun x H' ⟨p,x',y',ex,hp,eH,f1,f2⟩=>?_⟩
  subst ex; subst eH
  have e1:=f1 xs q1
  have e2:=f2 ys q2
  rw [g1] at e1; cases e1
  rw [g2] at e2; cases e2
  obtain⟨r',e'⟩:=r.allocZ hp (.tup [v1,v2])
  refine⟨_,e',r',?_⟩
  unfold Rep
  exact⟨p,_,rfl,.of upd_same,.cons (p1.ext (e.trans e')) (.cons (p2.ext (e.trans e')) .nil)⟩
theorem aXn {e e2:Expr} {fs:LF} {p pos tpos:Pos} {elts:List Expr} {kk n:Nat} (c:Cok X W n) (ha:SA X W [e,e2] fs) (hm:X.mg "zip"=none) (hg:Gl X "zip":=by rfl) (hs:starEach [e,e2] X.env=(false,eval e X.env)::starEach [e2] X.env:=by rfl)
  (hpl:(backTo pos (starEach [e2] X.env)).any (·.1)=false:=by rfl):SI X W (.Tuple elts kk tpos) (.Call (.Name "zip" p) [e,e2] [] pos) (iZipA fs):=by
 refine⟨_,EvZ.bDy hg hm ha.pa hs hpl,fun Φ Z ρ σ H env m R F p=>?_⟩
 refine trL_bind (P:=aIr X.K W Φ Z ρ σ R) F (fun ts m1 Z1 ρ1 H1 vs e0 e1 F1 r p1=>?_) (fun _ _ _ _ h=>h) (fun h=>h) p
 split at p1
 ·rename_i x y
  unfold Reps at r
  obtain⟨v,vs',rfl,rx,r⟩:=r
  obtain⟨u,rfl,ry⟩:=jE r
  split at p1
  ·rename_i ts us hx hy
   obtain⟨k1,xs,rfl,q1,s1⟩:=bC4 rx hx
   obtain⟨k2,ys,rfl,q2,s2⟩:=bC4 ry hy
   exact⟨k1,k2,xs,ys,rfl,aF0 F1.rel.zin q1,aF0 F1.rel.zin q2,p1 _ _ _ _ e1 F1.rel (bF6 q1 q2 s1 s2)⟩
  ·exact p1.elim
 ·exact p1.elim
end
end Ev
namespace EvB
open PySem PySem.Spec PySem.W PySem.Calls PyProof PyProof.Rows L2
section
variable {prog:Program} {w:World} {A:Around} {E:Value→Shared→Prop} {s:Shared}
theorem aY4 {it l:Addr} {items:Array Value} {x:Value} {rest:List Value} {T:String} {St:Nat→Heap→Prop} {Q:List Value→Shared→Prop} {h1:Heap}
  (hTm:T="str_ascii_iterator"∨T="str_iterator"∨T="list_iterator"∨T="tuple_iterator") (W:Walks prog w A.in1 it [it,l] [it] items.size (fun i v=>items[i]? =some v) St)
  (hT:∀ i (u:Shared),St i u.heap→u.TypeIs (.ref it) T) (e:items.toList=x::rest) (hz:items.size≤sizeLine) (st:St 1 h1) (b1:it < h1.objs.size) (b2:l < h1.objs.size) (hit:s.heap.objs.size≤it) (k1:∀ b o,s.heap.get? b=some o→h1.get? b=some o)
  (fin:∀(h':Heap) (tk:Nat),(∀ b o,s.heap.get? b=some o→h'.get? b=some o)→Q [x,.ref h'.objs.size] {s with heap:=h'.push (seqObj "list" rest.toArray 0),toks:=tk}):
  wpAny (model prog w) A (do
   let first:=(items.toList.drop 0).take 1
   if first.length < 1 then
    rule "unpack.star.too-few-before"
    raiseError "ValueError" s!"not enough values to unpack (expected at least {2 - 1}, got {first.length})"
   let rest ←holding first (collect (.ref it))
   let after:=2 - 1 - 1
   if rest.length < after then
    rule "unpack.star.too-few"
    raiseError "ValueError" s!"not enough values to unpack (expected at least {2 - 1}, got {1 + rest.length})"
   let mid:=rest.length - after
   return first++[←newList (rest.take mid)]++rest.drop mid) Q E {s with heap:=h1}:=by
 have e1:(items.toList.drop 0).take 1=[x]:=by rw [e]; rfl
 have e2:items.toList.drop 1=rest:=by rw [e]; rfl
 have e3:items.size=rest.length+1:=by rw [←Array.length_toList,e]; rfl
 rw [e1]
 show wpAny _ _ (holding [x] (collect (.ref it)) >>=_) _ _ _
 refine wpAny_bind (wpAny_holding (kun_collect (s:={s with heap:=h1}) hTm W hT (k:=1) (by omega) st b1 b2 (fun h2 tk hk=>?_) hz))
 rw [e2]
 show wpAny _ _ (newList (rest.take (rest.length - 0)) >>=fun d=>pure ([x]++[d]++rest.drop (rest.length - 0))) _ _ _
 rw [Nat.sub_zero,List.take_length,List.drop_length]
 have k2:∀ b o,s.heap.get? b=some o→h2.get? b=some o:=fun b o q=>hk b o (Nat.ne_of_lt (Nat.lt_of_lt_of_le (Heap.lt_size q) hit)) (k1 b o q)
 exact wpAny_bind (wpAny_newList (s:={s with heap:=h2,toks:=tk}) (wpAny_pure (fin h2 tk k2)) (by rw [sizeLine_eq] at hz ⊢; omega))
theorem aSw {l:Addr} {items:Array Value} {x:Value} {rest:List Value} {Q:List Value→Shared→Prop} (hl:s.heap.IsList l items) (hh:A.handled=none) (e:items.toList=x::rest) (hz:items.size≤sizeLine)
  (fin:∀(h':Heap) (tk:Nat),(∀ b o,s.heap.get? b=some o→h'.get? b=some o)→Q [x,.ref h'.objs.size] {s with heap:=h'.push (seqObj "list" rest.toArray 0),toks:=tk}):
  wpAny (model prog w) A (unpackItems (.ref l) 2 (some 1)) Q E s:=by
 have hll:l < s.heap.objs.size:=by obtain⟨o,ho,_⟩:=hl; exact Heap.lt_size ho
 have hlt:l≠s.heap.objs.size:=Nat.ne_of_lt hll
 have e3:items.size=rest.length+1:=by rw [←Array.length_toList,e]; rfl
 unfold unpackItems
 refine wpAny_bind ?_
 unfold notIterableAtAll
 refine wpAny_bind (wpAny_specialOf hl.typeIs F.slot_list_iter.lookup ?_)
 refine wpAny_pure ?_
 simp only [Bool.false_eq_true,if_false]
 refine wpAny_bind (wpAny_holding (wpAny_pyIter_list hl ?_))
 refine wpAny_bind (wpAny_holding (kun_draw hlt 1 0 _ _ ⟨_,Heap.get?_push_size _ rfl,rfl,rfl⟩ (hl.push _) (by omega) fun h₁ hit₁ hs₁=>?_))
 have hl₁:h₁.IsList l items:=(hl.push _).extBut hs₁.extBut hlt
 obtain⟨oi,hoi,_⟩:=id hit₁
 obtain⟨ol,hol,_⟩:=id hl₁
 exact aY4 (s:=s) (.inr (.inr (.inl rfl))) (Walks.list (A:=A.in1) hh s.heap.objs.size l hlt items) (fun j u st=>st.1.typeIs) e hz ⟨hit₁,hl₁⟩ (Heap.lt_size hoi) (Heap.lt_size hol) (Nat.le_refl _)
  (fun b o q=>hs₁.extBut b o (Nat.ne_of_lt (Heap.lt_size q)) (Heap.get?_push_of_some _ q)) fin
theorem aWa {l:Addr} {items:Array Value} {x:Value} {rest:List Value} {Q:List Value→Shared→Prop} (hl:IsTup s.heap l items) (hh:A.handled=none) (e:items.toList=x::rest) (hz:items.size≤sizeLine)
  (fin:∀(h':Heap) (tk:Nat),(∀ b o,s.heap.get? b=some o→h'.get? b=some o)→Q [x,.ref h'.objs.size] {s with heap:=h'.push (seqObj "list" rest.toArray 0),toks:=tk}):
  wpAny (model prog w) A (unpackItems (.ref l) 2 (some 1)) Q E s:=by
 have hll:l < s.heap.objs.size:=by obtain⟨o,ho,_⟩:=hl; exact Heap.lt_size ho
 have hlt:l≠s.heap.objs.size:=Nat.ne_of_lt hll
 have e3:items.size=rest.length+1:=by rw [←Array.length_toList,e]; rfl
 unfold unpackItems
 refine wpAny_bind ?_
 unfold notIterableAtAll
 refine wpAny_bind (wpAny_specialOf hl.typeIs F.slot_tuple_iter.lookup ?_)
 refine wpAny_pure ?_
 simp only [Bool.false_eq_true,if_false]
 refine wpAny_bind (wpAny_holding (iter_tuple hl ?_))
 refine wpAny_bind (wpAny_holding (draw_tuple hlt 1 0 _ _ ⟨_,Heap.get?_push_size _ rfl,rfl,rfl⟩ (hl.push _) (by omega) fun h₁ hit₁ hs₁=>?_))
 have hl₁:IsTup h₁ l items:=(hl.push _).extBut hs₁.extBut hlt
 obtain⟨oi,hoi,_⟩:=id hit₁
 obtain⟨ol,hol,_⟩:=id hl₁
 exact aY4 (s:=s) (.inr (.inr (.inr rfl))) (Walks.tuple (A:=A.in1) hh s.heap.objs.size l hlt items) (fun j u st=>st.1.typeIs) e hz ⟨hit₁,hl₁⟩ (Heap.lt_size hoi) (Heap.lt_size hol) (Nat.le_refl _)
  (fun b o q=>hs₁.extBut b o (Nat.ne_of_lt (Heap.lt_size q)) (Heap.get?_push_of_some _ q)) fin
end
section
variable {X:Cx}
noncomputable def bHh (K:PySem.W.Frag) (i j:Nat):TG:=fun v σ H Q=>∃ a x xs,v= .ref a∧(SqL K H a (x::xs)∨SqT K H a (x::xs))∧∀ D,H D=none→Q ((σ.set i (some x)).set j (some (.ref D))) (upd H D (.lst xs))
theorem bDz {a b:Str} {i j k:Nat} {p p1 p2 pos:Pos} (hc:X.calm=true) (hN:X.N.Nodup) (hi:X.N[i]? =some a) (hj:X.N[j]? =some b) (ha:Loc X.env.scope a) (hb:Loc X.env.scope b)
  (fa:X.fn a=true∨X.env.scope.names.lookup a=some .local) (fb:X.fn b=true∨X.env.scope.names.lookup b=some .local):
  PG X (.Tuple [.Name a p,.Starred (.Name b p1) p2] k pos) (bHh X.K i j):=by
 refine⟨fun pins s σ H v u Q I r h=>?_⟩
 obtain⟨l,x,xs,rfl,hq,q⟩:=h
 cases r
 rw [assign_Tuple]
 refine wpAny_bind (wpAny_standAt ?_)
 unfold unpack
 have done:∀(its:List Value),Vals (x::xs) its→its.length≤sizeLine→∃ y ys,its=y::ys∧∀(h':Heap) (tk:Nat),(∀ b o,s.heap.get? b=some o→h'.get? b=some o)→
   wpAny (model X.prog X.w) X.A (assignInOrder ((assignEach [.Name a p,.Starred (.Name b p1) p2] X.env).map (·.2)) [y,.ref h'.objs.size]) (fun _ s'=>∃ σ' H',Inv X pins σ' H' s'∧Q σ' H') X.xe {s with heap:=h'.push (seqObj "list" ys.toArray 0),toks:=tk}:=by
  intro its rv hz
  cases rv with
  | @cons _ y _ ys ry rv=>
   refine⟨y,ys,rfl,fun h' tk hk=>?_⟩
   have I1:Inv X pins σ H {s with heap:=h',toks:=tk}:=I.kept (t':=tk) hk
   have fr:=I1.hok.fresh (Nat.le_refl _)
   have I2:Inv X pins σ (upd H h'.objs.size (.lst xs)) {s with heap:=h'.push (seqObj "list" ys.toArray 0),toks:=tk}:=
    I1.laid (t':=tk) (fun b o e=>Heap.get?_push_of_some _ e) (Nat.le_refl _) (show ObjOk X.prog X.w _ _ _ (.lst xs) from ⟨by rw [rv.length]; rw [List.length_cons] at hz; omega,ys,0,rv,Heap.get?_push_size _ rfl⟩)
   have g:PGs X [.Name a p,.Name b p1] (gCons (gName i) (gCons (gName j) gNil)):=pgs_cons (pg_name hN hi ha fa) (pgs_cons (pg_name hN hj hb fb) pgs_nil)
   exact g.run pins _ σ _ [x,.ref h'.objs.size] _ Q I2 (.cons ry (.cons rfl .nil)) ⟨_,_,rfl,_,_,rfl,rfl,q _ fr⟩
 rcases hq with hq | hq
 ·obtain⟨its,rv,p,hz⟩:=I.list hq
  obtain⟨y,ys,e,fin⟩:=done its rv (by rw [←rv.length]; exact hz)
  exact wpAny_bind (wpAny_holding (aSw p.isList (I.ok.hd hc) (by simpa using e) (by rw [List.size_toArray,←rv.length]; exact hz) fin))
 ·obtain⟨its,rv,p,hz⟩:=I.tuple hq
  obtain⟨y,ys,e,fin⟩:=done its rv (by rw [←rv.length]; exact hz)
  exact wpAny_bind (wpAny_holding (aWa p (I.ok.hd hc) (by simpa using e) (by rw [List.size_toArray,←rv.length]; exact hz) fin))
end
end EvB
namespace Ev
open PySem PySem.Spec PyProof PyProof.Rows L2
variable [Wrl]
section
variable {K:PySem.W.Frag} {W:WX} {X:Cx}
end
end Ev
namespace Ev
open PySem L2
variable [Wrl]
section
variable {K:PySem.W.Frag} {W:WX} {Φ Φ' Z:Hp} {ρ:List Addr} {σ:L2.St} {H:Hp} {m:Mem} {X:Cx}
theorem Rel.less (r:Rel K Φ' Z ρ H m) (h:∀ a o,Φ a=some o→Φ' a=some o):Rel K Φ Z ρ H m:=⟨r.zin,fun a o e=>r.fin a o (h a o e),r.len,r.nd,r.trk,r.mem,fun q hq=>by
 obtain⟨t,h1,h2,h3⟩:=r.tab q hq
 refine⟨t,h1,?_,h3⟩
 cases e:Φ q.1 with
 | none=>rfl
 | some u=>have:=h _ _ e; rw [h2] at this; cases this⟩
structure SPs (X:Cx) (W:WX) (pos:Pos) (keys:List (Option Expr)) (values:List Expr) (fs:LF):Prop where
 ex:∃ trs,PPs X pos keys values trs∧∀(σ:L2.St) (H:Hp) (R:List V→Hp→Prop) (R':List (V×V)→Hp→Prop),(∀ ps H',R (ps.flatMap fun p=>[p.1,p.2]) H'→R' ps H')→trL X.K W fs σ H R→tPairs trs σ H R'
theorem aT4 {pos:Pos}:SPs X W pos [] [] lNil:=⟨[],pps_nil,fun σ H R R' hR ⟨Φ,Z,ρ,env,m,F,p⟩=>hR [] H (p Z ρ H [] Ext.refl F.rel .nil)⟩
theorem aUr {f:EF} {fs:LF} {R:List V→Hp→Prop} (h:trL K W (zX f fs) σ H R):tr K W f σ H fun x H1=>trL K W fs σ H1 fun ys H2=>R (x::ys) H2:=by
 obtain⟨Φ,Z,ρ,env,m,F,p⟩:=h
 refine tr_bind (P:=aMe K W Φ Z ρ σ R) F (fun x m1 Z1 ρ1 H1 vx _ e1 F1 rx p1=>?_) (fun _ _ _ _ h=>h) (fun h=>h) p
 refine trL_bind (P:=aMe K W Φ Z1 ρ1 σ R) F1 (fun xs m2 Z2 ρ2 H2 vs _ e2 F2 rs p2=>?_) (fun _ _ _ _ h=>h) (fun h=>h) (p1.ext e1)
 exact(p2.ext e2) Z2 ρ2 H2 _ Ext.refl F2.rel (.cons (rx.ext e2) rs)
theorem aXe {f:EF} {Q Q':VK} (h:tr K W f σ H Q) (hq:∀ x H1,Q x H1→Q' x H1):tr K W f σ H Q':=by
 obtain⟨Φ,Z,ρ,env,m,F,p⟩:=h
 refine⟨Φ,Z,ρ,env,m,F,?_⟩
 cases e:f env m with
 | ok t m1=>rw [e] at p; exact fun Z' ρ' H' v e1 r rv=>hq _ _ (p Z' ρ' H' v e1 r rv)
 | ex C ns vs m1=>rw [e] at p; exact p
 | no=>rw [e] at p; exact p
theorem aOr {pos:Pos} {k v:Expr} {ks:List (Option Expr)} {vs:List Expr} {fk fv:EF} {fs:LF} (hk:SE X W k fk) (hv:SE X W v fv) (hr:SPs X W pos ks vs fs):SPs X W pos (some k::ks) (v::vs) (zX fk (zX fv fs)):=by
 obtain⟨trs,h1,h2⟩:=hr.ex
 refine⟨_,pps_cons hk.pe hv.pe h1,fun σ H R R' hR h=>?_⟩
 exact aXe (aUr h) fun x H1 q=>aXe (aUr q) fun y H2 q=>h2 σ H2 (fun ys H3=>R (x::y::ys) H3) _ (fun ps H' q=>hR ((x,y)::ps) H' q) q
theorem aZi:∀(ps:List (V×V)) {xs:List T} {ks0 ks:List Key} {ts0 ts:List T} {ws0:List V},aX0 xs ks0 ts0=some (ks,ts)→Reps K Z ρ xs (ps.flatMap fun p=>[p.1,p.2])→ks0.length=ws0.length→Reps K Z ρ ts0 ws0→
  ∃(kvs:List (Key×V)) (ws:List V),ps=kvs.map (fun kv=>(kV kv.1,kv.2))∧mergeK (ks0.zip ws0) kvs=ks.zip ws∧ks.length=ws.length∧Reps K Z ρ ts ws∧2*kvs.length=xs.length
 | [],xs,ks0,ks,ts0,ts,ws0,h,r,hl,r0=>by
  have hx:=r.length
  have:xs=[]:=List.eq_nil_of_length_eq_zero hx
  subst this
  unfold aX0 at h
  cases h
  exact⟨[],ws0,rfl,rfl,hl,r0,rfl⟩
 | (v,u)::ps,xs,ks0,ks,ts0,ts,ws0,h,r,hl,r0=>by
  rw [List.flatMap_cons] at r
  match xs,r with
  | [],r=>unfold Reps at r; cases r
  | [_],r=>unfold Reps at r; obtain⟨_,_,e,_,r⟩:=r; cases e; unfold Reps at r; cases r
  | x::y::xs,r=>
   unfold Reps at r
   obtain⟨_,_,e,rx,r⟩:=r
   cases e
   unfold Reps at r
   obtain⟨_,_,e,ry,r⟩:=r
   cases e
   unfold aX0 at h
   split at h
   ·rename_i k hk
    obtain⟨ws1,q1,q2,q3⟩:=aTo (k:=k) ry hl r0
    obtain⟨kvs,ws,e1,e2,e3,e4,e5⟩:=aZi ps h r q2 q3
    refine⟨(k,u)::kvs,ws,?_,?_,e3,e4,?_⟩
    ·rw [List.map_cons,e1]; exact congrArg (·::_) (Prod.ext (aB8 rx hk) rfl)
    ·rw [←e2,←q1]; rfl
    ·rw [List.length_cons,List.length_cons,List.length_cons,←e5]; omega
   ·cases h
theorem aW1 {fs:LF} {trs:List (TE×TE)} {mu:Bool} {env:Env} {Q:VK} (h2:∀(σ:L2.St) (H:Hp) (R:List V→Hp→Prop) (R':List (V×V)→Hp→Prop),(∀ ps H',R (ps.flatMap fun p=>[p.1,p.2]) H'→R' ps H')→trL K W fs σ H R→tPairs trs σ H R') (F:Fits K Φ Z ρ σ H env m) (p:Post K W Φ Z ρ σ Q (aWz mu fs env m)):
  tDisp trs σ H fun v H1=>if mu then Q v H1 else ∃ a u,v= .ref a∧H1 a=some u∧Mut (some u)∧∀ od,Q v (upd H1 a (.frz od u)):=by
 intro D hD
 have hΦ:Φ D=none:=by
  cases e:Φ D with
  | none=>rfl
  | some o=>have:=(F.rel.fin D o e).1; rw [hD] at this; cases this
 have hΨ:∀ c u,Φ c=some u→(upd Φ D (.dK [])) c=some u∧c≠D:=fun c u e=>by
  have hc:c≠D:=fun z=>by subst z; rw [hΦ] at e; cases e
  exact⟨by rw [upd_ne hc]; exact e,hc⟩
 refine h2 σ (upd H D (.dK [])) (fun xs H2=>H2 D=some (.dK [])∧∀ ps:List (V×V),xs=ps.flatMap (fun p=>[p.1,p.2])→∃ kvs:List (Key×V),ps=kvs.map (fun kv=>(kV kv.1,kv.2))∧kvs.length≤15∧
   (if mu then Q (.ref D) (upd H2 D (.dK (mergeK [] kvs))) else ∃ a u,V.ref D= .ref a∧(upd H2 D (.dK (mergeK [] kvs))) a=some u∧Mut (some u)∧∀ od,Q (.ref D) (upd (upd H2 D (.dK (mergeK [] kvs))) a (.frz od u)))) _ (fun ps H' q=>?_) ?_
 ·obtain⟨e,q⟩:=q
  obtain⟨kvs,a,b,c⟩:=q ps rfl
  exact⟨e,kvs,a,b,c⟩
 ·have F1:Fits K (upd Φ D (.dK [])) Z ρ σ (upd H D (.dK [])) env m:=⟨F.rel.aside hD _,F.env⟩
  refine⟨_,Z,ρ,env,m,F1,?_⟩
  unfold aWz at p
  cases e:fs env m with
  | no=>rw [e] at p; exact p
  | ex C ns vs m1=>
   rw [e] at p
   exact fun Z' ρ' H' d us e1 r rs l1 l2=>p Z' ρ' H' d us e1 (r.less fun a o q=>(hΨ a o q).1) rs l1 l2
  | ok xs m1=>
   rw [e] at p
   have p:Post K W Φ Z ρ σ Q (if xs.length≤30 then match aX0 xs [] [] with | some (ks,ts)=>mkD mu ks ts m1 | none=> .no else .no):=p
   intro Z' ρ' H' vs e1 r rs
   refine⟨(r.fin D _ upd_same).1,fun ps eps=>?_⟩
   subst eps
   split at p
   ·rename_i h30
    split at p
    ·rename_i ks ts hd
     obtain⟨kvs,ws,q1,q2,q3,q4,q5⟩:=aZi ps (ws0:=[]) hd rs rfl .nil
     refine⟨kvs,q1,by omega,?_⟩
     have q2:mergeK [] kvs=ks.zip ws:=q2
     rw [q2]
     have r2:=r.aside_set (u:= .dK (ks.zip ws)) (p:=D) upd_same
     rw [upd_upd] at r2
     exact finD (mu:=mu) Φ Z' ρ' _ m1 D (ks,ts) _ r2 (fun c u e=>⟨by rw [upd_ne (hΨ c u e).2]; exact e,(hΨ c u e).2⟩) ⟨ws,rfl,q3,q4⟩ (p.ext e1)
    ·exact p.elim
   ·exact p.elim
theorem aTf {n:Nat} {pos:Pos} {keys:List (Option Expr)} {values:List Expr} {fs:LF} (mu:Bool) (c:Cok X W n) (h:SPs X W pos keys values fs) (hall:keys.all (·.isSome)=true:=by rfl) (hl:keys.length=values.length:=by rfl) (h0:keys≠[]:=by exact List.cons_ne_nil _ _)
  (h15:keys.length≤15:=by decide):SE X W (.Dict keys values pos) (aWz mu fs):=by
 obtain⟨trs,h1,h2⟩:=h.ex
 have pe:=pe_disp h1 hall hl h0 h15
 cases mu with
 | true=>exact⟨xY pe fun σ H Q ⟨Φ,Z,ρ,env,m,F,p⟩=>aW1 (mu:=true) h2 F p⟩
 | false=>exact⟨xY (aGy pe) fun σ H Q ⟨Φ,Z,ρ,env,m,F,p⟩=>aW1 (mu:=false) h2 F p⟩
end
end Ev
namespace Ev
open PySem L2
variable [Wrl]
section
variable {K:PySem.W.Frag} {W:WX} {Φ Z:Hp} {ρ:List Addr} {σ:L2.St} {H:Hp} {m:Mem} {X:Cx} {mg:Str→Option Value}
inductive IsCs (K:PySem.W.Frag) (c:Str) (C:Addr):List Str→List Addr→Prop
 | nil:IsCs K c C [] []
 | cons {y:Str} {D:Addr} {ys:List Str} {Ds:List Addr} (h:CAt K y D∧Cls K D∧PySem.W.findIn K (.ref D) "__class__"=some (some (.builtin "object.__class__"))∧PySem.W.mroIn K D (.type "object")=some true∧PySem.W.kitOne K (.ref D) (.ref C)=some (eqS y c))
   (t:IsCs K c C ys Ds):IsCs K c C (y::ys) (D::Ds)
noncomputable def IsC (K:PySem.W.Frag) (mg:Str→Option Value) (c:Str) (ys:List Str):Prop:=∃ C,CAt K c C∧mg c=some (.ref C)∧∃ Ds,
 (PySem.W.kitOne K (.type "NoneType") (.ref C)=some false∧PySem.W.kitOne K (.type "bool") (.ref C)=some false∧PySem.W.kitOne K (.type "int") (.ref C)=some false∧PySem.W.kitOne K (.type "str") (.ref C)=some false∧
  PySem.W.kitOne K (.type "tuple") (.ref C)=some false∧PySem.W.kitOne K (.type "list") (.ref C)=some false∧PySem.W.kitOne K (.type "dict") (.ref C)=some false)∧IsCs K c C ys Ds∧
 PySem.W.specialIn K (.builtin "object.__class__") "__get__"=some (some (.builtin "getset_descriptor.__get__"))∧PySem.W.takesIn K (.builtin "object.__class__")=some true
theorem IsCs.at {c:Str} {C:Addr}:∀ {ys:List Str} {Ds:List Addr} {d:Str},IsCs K c C ys Ds→ys.any (eqS d)=true→∃ D,CAt K d D∧Cls K D∧PySem.W.findIn K (.ref D) "__class__"=some (some (.builtin "object.__class__"))∧PySem.W.mroIn K D (.type "object")=some true∧PySem.W.kitOne K (.ref D) (.ref C)=some (eqS d c)
 | _,_,_,.nil,h=>by cases h
 | y::ys,D::Ds,d,.cons h t,e=>by
  rw [List.any_cons,Bool.or_eq_true] at e
  rcases e with e | e
  ·rw [uG.mp e]; exact⟨D,h⟩
  ·exact t.at e
theorem aWb {t:T} {n:String} (e:tyOf m t=some n):n="NoneType"∨n="bool"∨n="int"∨n="str"∨n="tuple"∨n="list"∨n="dict":=by
 unfold tyOf at e
 split at e<;>first
  | (cases e; simp; done)
  | (cases e; done)
  | (split at e<;>first | (cases e; simp; done) | (cases e; done))
theorem bDm {c:Str} {ys:List Str} {e:Expr} {f:EF} {p p2 pos:Pos} (he:SE X W e f) (I:IsC X.K X.mg c ys) (hm:X.mg "isinstance"=none) (hg:Gl X "isinstance":=by rfl) (hgc:Gl X c:=by rfl) (hd:(c ==("__debug__":Str))=false:=by decide)
  (h1:starEach [e,.Name c p2] X.env=(false,eval e X.env)::starEach [.Name c p2] X.env:=by rfl) (h2:starEach [.Name c p2] X.env=(false,eval (.Name c p2) X.env)::starEach [] X.env:=by rfl) (hpl:(backTo pos (starEach [.Name c p2] X.env)).any (·.1)=false:=by rfl):
  SE X W (.Call (.Name "isinstance" p) [e,.Name c p2] [] pos) (bGv c ys f):=by
 obtain⟨C,hC,hmg,Ds,⟨k1,k2,k3,k4,k5,k6,k7⟩,cs,i3,i4⟩:=I
 have pc:PE X (.Name c p2) (tC (.ref C)):=C8.pe_gc hgc ⟨_,hmg,rfl⟩ hd
 refine⟨xY (pe_callB call_isi hg hm (by decide+kernel) (pa_cons he.pe (pa_cons pc pa_nil h2) h1) (by decide) (by decide) h1 hpl) fun σ H Q ⟨Φ,Z,ρ,env,m,F,p⟩=>?_⟩
 refine tr_bind (P:=Post X.K W Φ Z ρ σ Q) F (fun x m1 Z1 ρ1 H1 vx _ e1 F1 rx p1=>?_) (fun _ _ _ _ h=>h) (fun h=>h) p
 split at p1
 ·rename_i d ns ts ha
  split at p1
  ·rename_i hy
   obtain⟨a,C',dx,vs,rfl,hC',hH,_,_⟩:=aF5 F1.rel rx ha
   obtain⟨D,hD,cl,f1,f2,f3⟩:=cs.at hy
   have:=hC'.inj hD
   subst this
   exact⟨.ref a,.ref C,.ref C',.ref C,eqS d c,rfl,.own C,.base (.ins hH cl f1 i3 i4 f2),f3,p1 _ _ _ _ e1 F1.rel tZ⟩
  ·exact p1.elim
 ·split at p1
  ·rename_i n hn
   have hk:PySem.W.kitOne X.K (.type n) (.ref C)=some false:=by
    rcases aWb hn with z | z | z | z | z | z | z<;>rw [z]<;>assumption
   exact⟨vx,.ref C,.type n,.ref C,false,rfl,.own C,aSy F1.rel rx hn,hk,p1 _ _ _ _ e1 F1.rel tZ⟩
  ·exact p1.elim
end
end Ev
namespace Ev
open PySem PySem.Spec PyProof PyProof.Rows L2
mutual
noncomputable def NIs (K:PySem.W.Frag) (H:Hp):NestedKey→V→Prop
 | .none,v=>v= .non
 | .num i,v=>v= .int i∨∃ b:Bool,v= .bl b∧i=(if b=true then 1 else 0)
 | .text x,v=>v= .str x
 | .tup ns,v=>∃ a vs,v= .ref a∧SqT K H a vs∧NIss K H ns vs
noncomputable def NIss (K:PySem.W.Frag) (H:Hp):List NestedKey→List V→Prop
 | [],vs=>vs=[]
 | n::ns,vs=>∃ v us,vs=v::us∧NIs K H n v∧NIss K H ns us
end
mutual
theorem NIs.mono {K:PySem.W.Frag} {H H':Hp} (e:Same H H'):∀ {n:NestedKey} {v:V},NIs K H n v→NIs K H' n v
 | .none,_,h=>by unfold NIs at h ⊢; exact h
 | .num _,_,h=>by unfold NIs at h ⊢; exact h
 | .text _,_,h=>by unfold NIs at h ⊢; exact h
 | .tup ns,_,h=>by
  unfold NIs at h ⊢
  obtain⟨a,vs,e1,q,r⟩:=h
  exact⟨a,vs,e1,Same.sqt e q,NIss.mono e r⟩
theorem NIss.mono {K:PySem.W.Frag} {H H':Hp} (e:Same H H'):∀ {ns:List NestedKey} {vs:List V},NIss K H ns vs→NIss K H' ns vs
 | [],_,h=>by unfold NIss at h ⊢; exact h
 | n::ns,_,h=>by
  unfold NIss at h ⊢
  obtain⟨v,us,e1,q,r⟩:=h
  exact⟨v,us,e1,NIs.mono e q,NIss.mono e r⟩
end
section
variable {X:Cx} {pins:List (Addr×Obj)} {σ:L2.St} {H:Hp} {s:Shared}
mutual
theorem aH1 (I:Inv X pins σ H s):∀(n:NestedKey) (v:V) (u:Value),NIs X.K H n v→RelV v u→NestedIs s.heap n u
 | .none,_,u,h,r=>by unfold NIs at h; subst h; cases (show u=Value.none from r); exact .none
 | .num i,_,u,h,r=>by
  unfold NIs at h
  rcases h with rfl | ⟨b,rfl,hb⟩
  ·obtain⟨t,rfl⟩:=(show ∃ t,u=Value.int i t from r); exact .int i t
  ·cases (show u=Value.bool b from r); exact .bool hb
 | .text x,_,u,h,r=>by unfold NIs at h; subst h; obtain⟨t,rfl⟩:=(show ∃ t,u=Value.str x t from r); exact .text x t
 | .tup ns,_,u,h,r=>by
  unfold NIs at h
  obtain⟨a,vs,rfl,q,rs⟩:=h
  cases (show u=Value.ref a from r)
  obtain⟨its,rv,⟨o,ho,hc,k,hd⟩,_⟩:=I.tuple q
  exact .tup ho hc hd (niss_heap I ns vs its rs rv)
theorem niss_heap (I:Inv X pins σ H s):∀(ns:List NestedKey) (vs:List V) (us:List Value),NIss X.K H ns vs→Vals vs us→NestedAll s.heap ns us
 | [],_,us,h,r=>by unfold NIss at h; subst h; cases r; exact .nil
 | n::ns,_,us,h,r=>by
  unfold NIss at h
  obtain⟨v,ws,rfl,q,rs⟩:=h
  cases r with
  | cons r t=>exact .cons (aH1 I n v _ q r) (niss_heap I ns ws _ rs t)
end
end
section
variable [Wrl]
section
variable {K:PySem.W.Frag} {Z:Hp} {ρ:List Addr}
mutual
theorem aG3:∀ {t:T} {n:NestedKey} {v:V},toNK t=some n→Rep K Z ρ t v→NIs K Z n v
 | .non,n,v,h,r=>by unfold toNK at h; cases h; unfold Rep at r; unfold NIs; exact r
 | .int i,n,v,h,r=>by unfold toNK at h; cases h; unfold Rep at r; unfold NIs; exact .inl r
 | .bl b,n,v,h,r=>by unfold toNK at h; cases h; unfold Rep at r; unfold NIs; exact .inr ⟨b,r,rfl⟩
 | .str x,n,v,h,r=>by unfold toNK at h; cases h; unfold Rep at r; unfold NIs; exact r
 | .tup ts,n,v,h,r=>by
  unfold toNK at h
  cases e:toNKs ts with
  | none=>rw [e] at h; cases h
  | some ns=>
   rw [e] at h
   cases h
   unfold Rep at r
   obtain⟨a,vs,rfl,q,rs⟩:=r
   unfold NIs
   exact⟨a,vs,rfl,q,reps_nis e rs⟩
 | .ty _,_,_,h,_ | .lst _,_,_,h,_ | .rls _,_,_,h,_ | .dct _ _,_,_,h,_ | .ins _ _ _,_,_,h,_ | .dcn _ _,_,_,h,_ | .exc _ _ _,_,_,h,_ | .set _,_,_,h,_ | .loc _,_,_,h,_=>by simp [toNK] at h
theorem reps_nis:∀ {ts:List T} {ns:List NestedKey} {vs:List V},toNKs ts=some ns→Reps K Z ρ ts vs→NIss K Z ns vs
 | [],ns,vs,h,r=>by unfold toNKs at h; cases h; unfold Reps at r; unfold NIss; exact r
 | t::ts,ns,vs,h,r=>by
  unfold toNKs at h
  cases e1:toNK t with
  | none=>rw [e1] at h; cases h
  | some k=>
   cases e2:toNKs ts with
   | none=>rw [e1,e2] at h; cases h
   | some ks=>
    rw [e1,e2] at h
    cases h
    unfold Reps at r
    obtain⟨v,us,rfl,r,rs⟩:=r
    unfold NIss
    exact⟨v,us,rfl,aG3 e1 r,reps_nis e2 rs⟩
end
end
mutual
theorem aG7:∀ {a b:T} {m n:NestedKey},toNK a=some m→toNK b=some n→(kEq a b=true↔m=n)
 | .non,b,m,n,h,h'=>by
  unfold toNK at h; cases h
  cases b<;>simp [toNK] at h'<;>try (subst h'; simp [kEq])
  obtain⟨_,_,rfl⟩:=h'; simp [kEq]
 | .int i,b,m,n,h,h'=>by
  unfold toNK at h; cases h
  cases b<;>simp [toNK] at h'<;>try (subst h'; simp [kEq])
  obtain⟨_,_,rfl⟩:=h'; simp [kEq]
 | .bl a,b,m,n,h,h'=>by
  unfold toNK at h; cases h
  cases b with
  | bl c=>unfold toNK at h'; cases h'; cases a<;>cases c<;>simp [kEq]
  | int j=>unfold toNK at h'; cases h'; unfold kEq; simp
  | non=>unfold toNK at h'; cases h'; simp [kEq]
  | str y=>unfold toNK at h'; cases h'; simp [kEq]
  | tup us=>
   unfold toNK at h'
   obtain⟨_,_,rfl⟩:=Option.map_eq_some_iff.mp h'
   simp [kEq]
  | _=>simp [toNK] at h'
 | .str x,b,m,n,h,h'=>by
  unfold toNK at h; cases h
  cases b<;>simp [toNK] at h'<;>try (subst h'; simp [kEq,uG])
  obtain⟨_,_,rfl⟩:=h'; simp [kEq]
 | .tup ts,b,m,n,h,h'=>by
  unfold toNK at h
  cases e:toNKs ts with
  | none=>rw [e] at h; cases h
  | some ns=>
   rw [e] at h
   cases h
   cases b with
   | tup us=>
    unfold toNK at h'
    cases e':toNKs us with
    | none=>rw [e'] at h'; cases h'
    | some ks=>
     rw [e'] at h'
     cases h'
     unfold kEq
     rw [kEqs_iff e e']
     exact⟨fun z=>by rw [z],fun z=>by cases z; rfl⟩
   | _=>simp [toNK] at h'<;>(subst h'; simp [kEq])
 | .ty _,_,_,_,h,_ | .lst _,_,_,_,h,_ | .rls _,_,_,_,h,_ | .dct _ _,_,_,_,h,_ | .ins _ _ _,_,_,_,h,_ | .dcn _ _,_,_,_,h,_ | .exc _ _ _,_,_,_,h,_ | .set _,_,_,_,h,_ | .loc _,_,_,_,h,_=>by simp [toNK] at h
theorem kEqs_iff:∀ {as bs:List T} {ms ns:List NestedKey},toNKs as=some ms→toNKs bs=some ns→(kEqs as bs=true↔ms=ns)
 | [],[],ms,ns,h,h'=>by unfold toNKs at h h'; cases h; cases h'; simp [kEqs]
 | [],b::bs,ms,ns,h,h'=>by
  unfold toNKs at h h'; cases h
  cases e1:toNK b<;>cases e2:toNKs bs<;>rw [e1,e2] at h'<;>cases h'<;>simp [kEqs]
 | a::as,[],ms,ns,h,h'=>by
  unfold toNKs at h h'; cases h'
  cases e1:toNK a<;>cases e2:toNKs as<;>rw [e1,e2] at h<;>cases h<;>simp [kEqs]
 | a::as,b::bs,ms,ns,h,h'=>by
  unfold toNKs at h h'
  cases e1:toNK a with
  | none=>rw [e1] at h; cases h
  | some m=>
   cases e2:toNKs as with
   | none=>rw [e1,e2] at h; cases h
   | some ms=>
    cases e3:toNK b with
    | none=>rw [e3] at h'; cases h'
    | some n=>
     cases e4:toNKs bs with
     | none=>rw [e3,e4] at h'; cases h'
     | some ns=>
      rw [e1,e2] at h
      rw [e3,e4] at h'
      cases h
      cases h'
      unfold kEqs
      rw [Bool.and_eq_true,aG7 e1 e3,kEqs_iff e2 e4]
      exact⟨fun⟨x,y⟩=>by rw [x,y],fun z=>by cases z; exact⟨rfl,rfl⟩⟩
end
noncomputable abbrev EnP:EnN→NestedKey×Addr×Value→Prop:=fun e x=>e.1=x.1∧e.2.1=x.2.1∧RelV e.2.2 x.2.2
noncomputable def atN (es:List EnN) (k:NestedKey):Option V:=(es.find? fun e=>decide (e.1=k)).map (·.2.2)
noncomputable def putE (k:NestedKey) (v:V) (e:EnN):EnN:=if e.1=k then(e.1,e.2.1,v) else e
noncomputable def uE (es:List EnN) (k:NestedKey) (a:Addr) (v:V):List EnN:=if(atN es k).isSome then es.map (putE k v) else es++[(k,a,v)]
theorem aSk {k:NestedKey}:∀ {es:List EnN} {xs:List (NestedKey×Addr×Value)},Paired EnP es xs→(atN es k).isSome=(atKey xs k).isSome∧∀ v,atN es k=some v→∃ p,atKey xs k=some p∧RelV v p.2
 | _,_,.nil=>⟨rfl,fun v h=>by cases h⟩
 | _,_,.cons (a:=e) (b:=x) r t=>by
  obtain⟨h1,h2⟩:=aSk (k:=k) t
  obtain⟨e1,e2,e3⟩:=r
  unfold atN atKey at h1 h2 ⊢
  by_cases hk:x.1=k
  ·have he:e.1=k:=e1.trans hk
   simp only [List.find?_cons,he,hk,decide_true,Option.map_some]
   exact⟨rfl,fun v z=>by cases z; exact⟨_,rfl,e3⟩⟩
  ·have he:¬e.1=k:=fun z=>hk (e1.symm.trans z)
   simp only [List.find?_cons,decide_eq_false he,decide_eq_false hk]
   exact⟨h1,h2⟩
theorem aO1 {k:NestedKey} {v:V} {u:Value} (r:RelV v u):∀ {es:List EnN} {xs:List (NestedKey×Addr×Value)},Paired EnP es xs→Paired EnP (es.map (putE k v)) (xs.map (putAt k u))
 | _,_,.nil=> .nil
 | _,_,.cons (a:=e) (b:=x) h t=>by
  rw [List.map_cons,List.map_cons]
  refine .cons ?_ (aO1 r t)
  obtain⟨e1,e2,e3⟩:=h
  unfold putE putAt
  by_cases hk:x.1=k
  ·rw [if_pos hk,if_pos (e1.trans hk)]; exact⟨e1,e2,r⟩
  ·rw [if_neg hk,if_neg (fun z=>hk (e1.symm.trans z))]; exact⟨e1,e2,e3⟩
theorem aGz {α β:Type} {F:α→β→Prop}:∀ {l₁ l₂:List α} {m₁ m₂:List β},Paired F l₁ m₁→Paired F l₂ m₂→Paired F (l₁++l₂) (m₁++m₂)
 | _,_,_,_,.nil,h=>h
 | _,_,_,_,.cons r t,h=> .cons r (aGz t h)
theorem aO0 {k:NestedKey} {a:Addr} {v:V} {u:Value} (r:RelV v u) {es:List EnN} {xs:List (NestedKey×Addr×Value)} (h:Paired EnP es xs):Paired EnP (uE es k a v) (storedH xs k a u):=by
 unfold uE storedH
 rw [(aSk (k:=k) h).1]
 split
 ·exact aO1 r h
 ·exact aGz h (.cons ⟨rfl,rfl,r⟩ .nil)
theorem paired_keys:∀ {es:List EnN} {xs:List (NestedKey×Addr×Value)},Paired EnP es xs→es.map (·.1)=xs.map (·.1)
 | _,_,.nil=>rfl
 | _,_,.cons r t=>by rw [List.map_cons,List.map_cons,paired_keys t,r.1]
theorem aO7:∀ {es:List EnN} {xs:List (NestedKey×Addr×Value)} {x:NestedKey×Addr×Value},Paired EnP es xs→x∈xs→∃ e∈es,EnP e x
 | _,_,_,.nil,h=>by cases h
 | _,_,_,.cons r t,h=>by
  rcases List.mem_cons.mp h with rfl | h
  ·exact⟨_,List.mem_cons_self,r⟩
  ·obtain⟨e,h1,h2⟩:=aO7 t h
   exact⟨e,List.mem_cons_of_mem _ h1,h2⟩
noncomputable def rawP (a:Addr) (es:List EnN) (h:Heap):Prop:=(a ==sysModules)=false∧es.length≤sizeLine∧(es.map (·.1)).Nodup∧(∀ e∈es,e.1.depth≤8)∧
 ∃ xs:List (NestedKey×Addr×Value),Paired EnP es xs∧∃ o ds ep,h.get? a=some o∧o.ExactDict∧o.data= .dict ds ep∧ds.toList=xs.map (entryOfKey (nestedKind Wrl.P Wrl.w))
section
variable {X:Cx} {pins:List (Addr×Obj)} {σ:L2.St} {H:Hp} {s:Shared}
theorem Cok.huN {W:WX} {k:Nat} (c:Cok X W k):X.A.units+20 < cLine:=by have:=c.room.units; omega
theorem aR4 {d:Addr} {es:List EnN} (hr:Here X) (I:Inv X pins σ H s) (h:Rd H d (rawN d es)) (hk:∀ e∈es,NIs X.K H e.1 (.ref e.2.1)):
  (d ==sysModules)=false∧es.length≤sizeLine∧(∀ e∈es,e.1.depth≤8)∧∃ xs,Paired EnP es xs∧s.heap.DictOfH (nestedKind X.prog X.w) d xs:=by
 have q:ObjOk X.prog X.w H s.heap d (.ext (rawP d es)):=Rd.ok h I.hok
 obtain⟨hd,hl,nd,dp,xs,pr,o,ds,ep,ho,hx,hdat,hds⟩:=q.1
 rw [hr.p,hr.w] at hds
 refine⟨hd,hl,dp,xs,pr,o,ds,ep,ho,hx,hdat,hds,fun x hm=>?_,by rw [←paired_keys pr]; exact nd⟩
 obtain⟨e,he,e1,e2,_⟩:=aO7 pr hm
 refine⟨?_,by rw [←e1]; exact dp e he⟩
 rw [←e1,←e2]
 exact aH1 I _ _ _ (hk e he) rfl
theorem aR3 {d:Addr} {es:List EnN} {xs:List (NestedKey×Addr×Value)} {h:Heap} (hr:Here X) (hd:(d ==sysModules)=false) (hl:es.length≤sizeLine) (pr:Paired EnP es xs) (D:h.DictOfH (nestedKind X.prog X.w) d xs):ObjOk X.prog X.w H h d (rawN d es):=by
 obtain⟨o,ds,ep,ho,hx,hdat,hds,hi,nd⟩:=D
 have hds':ds.toList=xs.map (entryOfKey (nestedKind Wrl.P Wrl.w)):=by rw [hr.p,hr.w]; exact hds
 refine⟨⟨hd,hl,by rw [paired_keys pr]; exact nd,fun e he=>?_,xs,pr,o,ds,ep,ho,hx,hdat,hds'⟩,⟨o,ho⟩,fun h1 h2 q k=>?_⟩
 ·have:e.1∈xs.map (·.1):=by rw [←paired_keys pr]; exact List.mem_map.mpr ⟨e,he,rfl⟩
  obtain⟨x,hm,e2⟩:=List.mem_map.mp this
  rw [←e2]; exact(hi x hm).2
 ·obtain⟨a1,a2,a3,a4,ys,a5,o2,ds2,ep2,b1,b2⟩:=q
  exact⟨a1,a2,a3,a4,ys,a5,o2,ds2,ep2,k _ b1,b2⟩
noncomputable def HasN (K:PySem.W.Frag) (H:Hp) (d:Addr) (es:List EnN):Prop:=Rd H d (rawN d es)∧∀ e∈es,NIs K H e.1 (.ref e.2.1)
theorem bB9 (hu:X.A.units+20 < cLine):(nestedKind X.prog X.w).room X.A.in1:=by
 show X.A.units+1+8 < cLine
 omega
theorem nkey {I:Inv X pins σ H s} {k:NestedKey} {a:Addr} (hy:NIs X.K H k (.ref a)) (h8:k.depth≤8):(nestedKind X.prog X.w).is s.heap k a:=⟨aH1 I _ _ _ hy rfl,h8⟩
noncomputable def rIxN (K:PySem.W.Frag):R2:=fun x y H Q=>∃ d es a k v,x= .ref d∧y= .ref a∧HasN K H d es∧NIs K H k (.ref a)∧atN es k=some v∧Q v H
theorem bGy {es:List EnN} {k:NestedKey} (h:(atN es k).isSome=true):∃ e∈es,e.1=k:=by
 unfold atN at h
 rw [Option.isSome_map] at h
 obtain⟨e,he⟩:=Option.isSome_iff_exists.mp h
 exact⟨e,List.mem_of_find?_eq_some he,of_decide_eq_true (List.find?_some (p:=fun e:EnN=>decide (e.1=k)) he)⟩
theorem aBw (hr:Here X) (hu:X.A.units+20 < cLine):IxR X (rIxN X.K):=by
 intro value slice pins s σ H x y v u Q I rx ry h hs
 obtain⟨d,es,a,k,w,rfl,rfl,⟨hd,hk⟩,hy,e,q⟩:=h
 obtain rfl:v=Value.ref d:=rx
 obtain rfl:u=Value.ref a:=ry
 obtain⟨h1,h2,h3,xs,pr,D⟩:=aR4 hr I hd hk
 obtain⟨p,e1,e2⟩:=(aSk (k:=k) pr).2 w e
 obtain⟨en,m1,m2⟩:=bGy (by rw [e]; rfl)
 refine PyProof.Rows.tail_any D.typeIs PySem.F.slot_dict_getitem.lookup (wpAny_getItem_heap (bB9 hu) (nkey (I:=I) hy (by rw [←m2]; exact h3 en m1)) D e1 ?_) hs
 exact⟨w,H,I.tok _,e2,q⟩
noncomputable def rInN (K:PySem.W.Frag) (neg:Bool):R2:=fun x y H Q=>∃ d es a k,y= .ref d∧x= .ref a∧HasN K H d es∧NIs K H k (.ref a)∧k.depth≤8∧Q (.bl (if neg then !(atN es k).isSome else(atN es k).isSome)) H
theorem bFs (hr:Here X) (hu:X.A.units+20 < cLine):OpR X (compareOp .In) (rInN X.K false):=by
 intro pins s σ H x y v u Q I rx ry h
 obtain⟨d,es,a,k,rfl,rfl,⟨hd,hk⟩,hy,h8,q⟩:=h
 obtain rfl:v=Value.ref a:=rx
 obtain rfl:u=Value.ref d:=ry
 obtain⟨h1,h2,h3,xs,pr,D⟩:=aR4 hr I hd hk
 refine wpAny_in_heap (bB9 hu) (nkey (I:=I) hy h8) h1 D ?_
 rw [←(aSk (k:=k) pr).1]
 exact⟨.bl (atN es k).isSome,H,I.tok _,rfl,q⟩
theorem jZ (hr:Here X) (hu:X.A.units+20 < cLine):OpR X (compareOp .NotIn) (rInN X.K true):=by
 intro pins s σ H x y v u Q I rx ry h
 obtain⟨d,es,a,k,rfl,rfl,⟨hd,hk⟩,hy,h8,q⟩:=h
 obtain rfl:v=Value.ref a:=rx
 obtain rfl:u=Value.ref d:=ry
 obtain⟨h1,h2,h3,xs,pr,D⟩:=aR4 hr I hd hk
 refine wpAny_notIn_heap (bB9 hu) (nkey (I:=I) hy h8) h1 D ?_
 rw [←(aSk (k:=k) pr).1]
 exact⟨.bl (!(atN es k).isSome),H,I.tok _,rfl,q⟩
noncomputable def bFe (K:PySem.W.Frag):TSet:=fun o i v H Q=>∃ d es a k,o= .ref d∧i= .ref a∧H d=some (rawN d es)∧(∀ e∈es,NIs K H e.1 (.ref e.2.1))∧NIs K H k (.ref a)∧k.depth≤8∧es.length < sizeLine∧Q (upd H d (rawN d (uE es k a v)))
theorem bD6 (hr:Here X) (hu:X.A.units+20 < cLine):PSet X (bFe X.K):=by
 intro pins s σ H o i v ov iv u Q I ro ri rv h
 obtain⟨d,es,a,k,rfl,rfl,hd,hk,hy,h8,hz,q⟩:=h
 obtain rfl:ov=Value.ref d:=ro
 obtain rfl:iv=Value.ref a:=ri
 obtain⟨h1,h2,h3,xs,pr,D⟩:=aR4 hr I (.inl hd) hk
 have pl:es.length=xs.length:=by rw [←List.length_map (f:=(·.1)),paired_keys pr,List.length_map]
 refine wpAny_setItem_heap (bB9 hu) (nkey (I:=I) hy h8) D (fun h' D' sb=>⟨_,?_,q⟩) (by omega)
 have pr':=aO0 (k:=k) (a:=a) rv pr
 have hl:(uE es k a v).length≤sizeLine:=by
  unfold uE
  split
  ·rw [List.length_map]; omega
  ·rw [List.length_append]; simp; omega
 refine I.write (t':=_) (by rw [hd]; exact True.intro) (.inl rfl) (fun c u hb q=>(sb.2 c hb).trans q) ?_ (aR3 hr h1 hl pr' D')
 obtain⟨o,_,_,e,_⟩:=D'
 exact⟨o,e⟩
end
section
variable {K:PySem.W.Frag} {W:WX} {Φ Z:Hp} {ρ:List Addr} {σ:L2.St} {H:Hp} {m:Mem} {X:Cx}
theorem aH0:∀ {es:List EnN},NIss K H (es.map (·.1)) (es.map fun e=> .ref e.2.1)→∀ e∈es,NIs K H e.1 (.ref e.2.1)
 | [],_,_,h=>by cases h
 | d::es,h,e,he=>by
  rw [List.map_cons,List.map_cons] at h
  unfold NIss at h
  obtain⟨v,us,e1,q,r⟩:=h
  cases e1
  rcases List.mem_cons.mp he with rfl | he
  ·exact q
  ·exact aH0 r e he
theorem aPw (r:Rel K Φ Z ρ H m) {t:T} {ks ts:List T} {v:V} (hv:Rep K Z ρ t v) (h:asN m t=some (ks,ts)):∃ a es,v= .ref a∧HasN K H a es∧toNKs ks=some (es.map (·.1))∧Reps K Z ρ ks (es.map fun e=> .ref e.2.1)∧Reps K Z ρ ts (es.map (·.2.2)):=by
 cases t with
 | dcn js us=>
  cases h
  unfold Rep at hv
  obtain⟨a,es,o,rfl,hn,q,r1,r2⟩:=hv
  exact⟨a,es,rfl,⟨.inr ⟨o,r.zin _ _ q⟩,fun e he=>(aH0 (reps_nis hn r1) e he).mono r.zin⟩,hn,r1,r2⟩
 | loc n=>
  unfold asN at h
  simp only at h
  split at h
  ·rename_i js us em
   cases h
   unfold Rep at hv
   obtain⟨a,ha,rfl⟩:=hv
   obtain⟨_,es,e1,hn,r1,r2⟩:=r.mem n _ a em ha
   exact⟨a,es,rfl,⟨.inl e1,fun e he=>(aH0 (reps_nis hn r1) e he).mono r.zin⟩,hn,r1,r2⟩
  ·cases h
 | _=>cases h
theorem aP8 {j:T} {ks:List T} {n:NestedKey} {ns:List NestedKey} (h:toNKs (j::ks)=some (n::ns)):toNK j=some n∧toNKs ks=some ns:=by
 unfold toNKs at h
 cases e1:toNK j with
 | none=>rw [e1] at h; cases h
 | some k=>
  cases e2:toNKs ks with
  | none=>rw [e1,e2] at h; cases h
  | some ms=>rw [e1,e2] at h; cases h; exact⟨rfl,rfl⟩
theorem aTs {ks:List T} (h:toNKs ks=some []):ks=[]:=by
 cases ks with
 | nil=>rfl
 | cons j ks=>
  unfold toNKs at h
  cases e1:toNK j<;>cases e2:toNKs ks<;>rw [e1,e2] at h<;>cases h
theorem aW3 {e:EnN} {es:List EnN} {k:NestedKey}:atN (e::es) k=if e.1=k then some e.2.2 else atN es k:=by
 unfold atN
 by_cases h:e.1=k
 ·simp [h]
 ·simp [h]
theorem bCi {y:T} {n:NestedKey} (hy:toNK y=some n):∀ {es:List EnN} {ks ts:List T} {t:T},toNKs ks=some (es.map (·.1))→Reps K Z ρ ts (es.map (·.2.2))→getN y ks ts=some t→∃ v,atN es n=some v∧Rep K Z ρ t v
 | [],ks,ts,t,hk,hr,h=>by
  rw [aTs hk] at h
  unfold getN at h
  cases ts<;>cases h
 | e::es,[],ts,t,hk,hr,h=>by unfold toNKs at hk; cases hk
 | e::es,j::ks,ts,t,hk,hr,h=>by
  obtain⟨h1,h2⟩:=aP8 hk
  match ts,hr with
  | [],hr=>unfold Reps at hr; cases hr
  | u::us,hr=>
   unfold Reps at hr
   obtain⟨v,vs,e1,r,rs⟩:=hr
   cases e1
   unfold getN at h
   rw [aW3]
   by_cases hj:kEq j y=true
   ·rw [if_pos hj] at h
    cases h
    rw [if_pos ((aG7 h1 hy).mp hj)]
    exact⟨_,rfl,r⟩
   ·rw [if_neg hj] at h
    rw [if_neg fun z=>hj ((aG7 h1 hy).mpr z)]
    exact bCi hy h2 rs h
theorem aYq {y:T} {n:NestedKey} (hy:toNK y=some n):∀ {es:List EnN} {ks:List T},toNKs ks=some (es.map (·.1))→memN y ks=(atN es n).isSome
 | [],ks,hk=>by rw [aTs hk]; rfl
 | e::es,[],hk=>by unfold toNKs at hk; cases hk
 | e::es,j::ks,hk=>by
  obtain⟨h1,h2⟩:=aP8 hk
  have ih:=aYq hy h2
  unfold memN at ih ⊢
  rw [List.any_cons,ih,aW3]
  by_cases hj:kEq j y=true
  ·rw [if_pos ((aG7 h1 hy).mp hj),hj]; rfl
  ·rw [if_neg fun z=>hj ((aG7 h1 hy).mpr z),Bool.eq_false_iff.mpr hj,Bool.false_or]
theorem aKw {y:T} {v:V} (h:isTup y=true) (r:Rep K Z ρ y v):∃ a,v= .ref a:=by
 cases y with
 | tup us=>unfold Rep at r; obtain⟨a,_,e,_⟩:=r; exact⟨a,e⟩
 | _=>cases h
theorem kJ:Sem2 K gIxN (rIxN K):=by
 intro W Φ Z ρ σ H m Q x y vx vy r rx ry p
 unfold gIxN at p
 split at p
 ·rename_i ks ts hx
  split at p
  ·rename_i hy
   rw [Bool.and_eq_true] at hy
   split at p
   ·rename_i t ht
    obtain⟨d,es,rfl,hd,hk,_,rs⟩:=aPw r rx hx
    obtain⟨n,hn⟩:=Option.isSome_iff_exists.mp hy.2
    obtain⟨a,rfl⟩:=aKw hy.1 ry
    obtain⟨v,h1,h2⟩:=bCi hn hk rs ht
    exact⟨d,es,a,n,v,rfl,rfl,hd,(aG3 hn ry).mono r.zin,h1,yP r h2 p⟩
   ·exact p.elim
  ·exact p.elim
 ·exact p.elim
theorem aKo {x:T} (h:aWr x=true):∃ n,toNK x=some n∧isTup x=true∧n.depth≤8:=by
 unfold aWr at h
 cases e:toNK x with
 | none=>rw [e] at h; cases h
 | some n=>
  rw [e] at h
  have h:(isTup x&&decide (n.depth≤8))=true:=h
  rw [Bool.and_eq_true] at h
  exact⟨n,rfl,h.1,of_decide_eq_true h.2⟩
theorem aAe {neg:Bool}:Sem2 K (gInN neg) (rInN K neg):=by
 intro W Φ Z ρ σ H m Q x y vx vy r rx ry p
 unfold gInN at p
 split at p
 ·rename_i ks ts hy
  split at p
  ·rename_i hx
   obtain⟨n,hn,ht,h8⟩:=aKo hx
   obtain⟨d,es,rfl,hd,hk,_,rs⟩:=aPw r ry hy
   obtain⟨a,rfl⟩:=aKw ht rx
   refine⟨d,es,a,n,rfl,rfl,hd,(aG3 hn rx).mono r.zin,h8,?_⟩
   rw [←aYq hn hk]
   exact yP r tZ p
  ·exact p.elim
 ·exact p.elim
theorem aVf {pos:Pos} (hr:Here X):PE X (.Dict [] [] pos) (fun σ H Q=>∀ p,H p=none→Q (.ref p) (upd H p (rawN p []))):=by
 refine⟨fun pins s σ H Q I h=>?_⟩
 refine wpAny_Dict_empty ⟨.ref s.heap.objs.size,_,I.laid (a:=s.heap.objs.size) (o:=rawN s.heap.objs.size []) (t':=s.toks) (fun _ _ q=>Heap.get?_push_of_some _ q) (Nat.le_refl _) ?_,rfl,h _ (I.hok.fresh (Nat.le_refl _))⟩
 have hm:(s.heap.objs.size ==sysModules)=false:=beq_eq_false_iff_ne.mpr (Nat.ne_of_gt I.big)
 exact aR3 hr hm (Nat.zero_le _) .nil (Heap.DictOfH.new s.heap)
theorem jK {pos:Pos} (hr:Here X) (mu:Bool):SE X W (.Dict [] [] pos) (aD3 mu):=by
 cases mu with
 | true=>
  refine⟨xY (aVf hr) fun σ H Q ⟨Φ,Z,ρ,env,m,F,p⟩ q hq=>?_⟩
  obtain⟨r2,e2⟩:=F.rel.allocC hq (o:=rawN q []) (u:= .dcn [] []) ⟨[],rfl,rfl,.nil,.nil⟩
  refine p _ _ _ _ e2 r2 ?_
  unfold Rep
  exact⟨q,by rw [←F.rel.len]; simp,rfl⟩
 | false=>
  refine⟨xY (aGy (aVf hr)) fun σ H Q ⟨Φ,Z,ρ,env,m,F,p⟩ q hq=>⟨q,_,rfl,upd_same,True.intro,fun od=>?_⟩⟩
  rw [upd_upd]
  obtain⟨r2,e2⟩:=F.rel.allocZ hq (.frz od (rawN q []))
  refine p _ _ _ _ e2 r2 ?_
  unfold Rep
  exact⟨q,[],od,rfl,rfl,upd_same,.nil,.nil⟩
theorem aVi {i:T} {n:NestedKey} (hn:toNK i=some n):∀ {ks:List T} {ns:List NestedKey},toNKs ks=some ns→toNKs (ks++[i])=some (ns++[n])
 | [],ns,h=>by
  unfold toNKs at h
  cases h
  show toNKs [i]=some [n]
  unfold toNKs
  rw [hn]; rfl
 | j::ks,ns,h=>by
  unfold toNKs at h
  cases e1:toNK j with
  | none=>rw [e1] at h; cases h
  | some k=>
   cases e2:toNKs ks with
   | none=>rw [e1,e2] at h; cases h
   | some ms=>
    rw [e1,e2] at h
    cases h
    rw [List.cons_append]
    unfold toNKs
    rw [e1,aVi hn e2]; rfl
theorem bAx {n:NestedKey} {v:V} (es:List EnN):(es.map (putE n v)).map (·.1)=es.map (·.1)∧(es.map (putE n v)).map (fun e=>V.ref e.2.1)=es.map (fun e=>V.ref e.2.1):=by
 constructor<;>rw [List.map_map]<;>refine List.map_congr_left fun e _=>?_<;>show _=_<;>simp only [Function.comp]<;>unfold putE<;>split<;>rfl
theorem aVa {i:T} {n:NestedKey} {t:T} {v:V} (hn:toNK i=some n) (rt:Rep K Z ρ t v):∀ {es:List EnN} {ks ts:List T},toNKs ks=some (es.map (·.1))→Reps K Z ρ ts (es.map (·.2.2))→Reps K Z ρ ((ks.zip ts).map fun p=>if kEq p.1 i then t else p.2) ((es.map (putE n v)).map (·.2.2))
 | [],ks,ts,hk,hr=>by
  rw [aTs hk]
  exact .nil
 | e::es,[],ts,hk,hr=>by unfold toNKs at hk; cases hk
 | e::es,j::ks,ts,hk,hr=>by
  obtain⟨h1,h2⟩:=aP8 hk
  match ts,hr with
  | [],hr=>unfold Reps at hr; cases hr
  | u::us,hr=>
   unfold Reps at hr
   obtain⟨w,vs,e1,r,rs⟩:=hr
   cases e1
   rw [List.zip_cons_cons,List.map_cons,List.map_cons,List.map_cons]
   refine .cons ?_ (aVa hn rt h2 rs)
   unfold putE
   by_cases hj:kEq j i=true
   ·rw [if_pos hj,if_pos ((aG7 h1 hn).mp hj)]; exact rt
   ·rw [if_neg hj,if_neg fun z=>hj ((aG7 h1 hn).mpr z)]; exact r
theorem aZv {i:T} {n:NestedKey} {a:Addr} {t:T} {v:V} (hn:toNK i=some n) (ri:Rep K Z ρ i (.ref a)) (rt:Rep K Z ρ t v) {es:List EnN} {ks ts:List T} (hk:toNKs ks=some (es.map (·.1))) (rk:Reps K Z ρ ks (es.map fun e=> .ref e.2.1)) (rs:Reps K Z ρ ts (es.map (·.2.2))):
  toNKs (addN i ks)=some ((uE es n a v).map (·.1))∧Reps K Z ρ (addN i ks) ((uE es n a v).map fun e=> .ref e.2.1)∧Reps K Z ρ (bAy i t ks ts) ((uE es n a v).map (·.2.2)):=by
 unfold addN bAy uE
 rw [aYq hn hk]
 by_cases h:(atN es n).isSome=true
 ·rw [if_pos h,if_pos h,if_pos h]
  obtain⟨p1,p2⟩:=bAx (n:=n) (v:=v) es
  rw [p1,p2]
  exact⟨hk,rk,aVa hn rt hk rs⟩
 ·rw [if_neg h,if_neg h,if_neg h,List.map_append,List.map_append,List.map_append]
  exact⟨aVi hn hk,rk.append (.cons ri .nil),rs.append (.cons rt .nil)⟩
theorem qJ {k:Nat} {o i e:Expr} {pos pos':Pos} {fe fo fi:EF} (c:Cok X W k) (he:SE X W e fe) (ho:SE X W o fo) (hi:SE X W i fi)
  (ha:∀ v,assign (.Subscript o i pos') X.env v=(do
   let ov ←holding [v] (eval o X.env)
   let iv ←holding [v,ov] (eval i X.env)
   standAt pos'
   holding [v,ov,iv] (setItem ov iv v)
   release [v,ov,iv] []):=by intro _; rfl)
  (hs:swapsWithSole [.Subscript o i pos'] e pos.line X.env=pure false:=by rfl) (hw:swappedStores [.Subscript o i pos'] e X.env=pure none:=by rfl)
  (h1:(assignEach [.Subscript o i pos'] X.env).map (·.2)=[assign (.Subscript o i pos') X.env]:=by rfl):SS X W (.Assign [.Subscript o i pos'] e pos) (aIb fe fo fi):=by
 refine⟨tY (ps_asg he.pe (pg_sub ho.pe hi.pe (bD6 c.here c.huN) ha) hs hw h1) fun D σ H h=>tV (fun Φ Z1 ρ1 H1 env m1 t v F r p=>?_) h⟩
 show tr X.K W fo σ H1 fun ov H2=>tr X.K W fi σ H2 fun iv H3=>bFe X.K ov iv v H3 fun H4=>D.nx σ H4
 cases eo:fo env m1 with
 | no=>simp only [eo] at p; exact p.elim
 | ex _ _ _ _=>simp only [eo] at p; exact p.elim
 | ok to m2=>
  simp only [eo] at p
  cases ei:fi env m2 with
  | no=>simp only [ei] at p; exact p.elim
  | ex _ _ _ _=>simp only [ei] at p; exact p.elim
  | ok ti m3=>
   simp only [ei] at p
   refine⟨Φ,Z1,ρ1,env,m1,F,?_⟩
   rw [eo]
   intro Z2 ρ2 H2 vo e2 r2 ro
   refine⟨Φ,Z2,ρ2,env,m2,⟨r2,F.env.ext e2⟩,?_⟩
   rw [ei]
   intro Z3 ρ3 H3 vi e3 r3 ri
   cases eg:bEq to ti t m3 with
   | none=>simp only [eg] at p; exact p.elim
   | some m4=>
    simp only [eg] at p
    cases to with
    | loc n0=>
     unfold bEq at eg
     simp only at eg
     split at eg
     ·rename_i js us em
      split at eg
      ·rename_i hc
       rw [Bool.and_eq_true] at hc
       cases eg
       have ro':=ro.ext e3
       unfold Rep at ro'
       obtain⟨a,ha',rfl⟩:=ro'
       obtain⟨hz,es,hH,hk,rk,rs⟩:=r3.mem n0 _ a em ha'
       obtain⟨n,hn,ht,h8⟩:=aKo hc.1
       obtain⟨b,rfl⟩:=aKw ht ri
       obtain⟨q1,q2,q3⟩:=aZv (a:=b) hn ri (r.ext (e2.trans e3)) hk rk rs
       have hl:es.length < sizeLine:=by
        have e9:js.length=es.length:=by rw [rk.length,List.length_map]
        rw [←e9]
        exact aLm (Nat.le_of_lt (of_decide_eq_true hc.2))
       exact⟨a,es,b,n,rfl,rfl,hH,fun e he=>(aH0 (reps_nis hk rk) e he).mono r3.zin,(aG3 hn ri).mono r3.zin,h8,hl,
        p _ _ _ _ (e2.trans e3) ⟨r3.write em ha' (u:= .dcn _ _) ⟨uE es n b v,rfl,q1,q2,q3⟩,F.env.ext (e2.trans e3)⟩ rfl⟩
      ·cases eg
     ·cases eg
    | _=>cases eg
theorem aKz (i:Nat) {st:Stmt} {g:SF} (h:SS X W st g):SS X W st (aTm i g):=by
 refine⟨tY (aVc h.ps) fun D σ H ⟨Φ,Z,ρ,env,m,F,p⟩=>?_⟩
 unfold aTm at p
 split at p
 ·rename_i n e1
  split at p
  ·rename_i ks ts e2
   obtain⟨v,h1,h2⟩:=F.env.get i _ e1
   unfold Rep at h2
   obtain⟨a,ha,rfl⟩:=h2
   obtain⟨hz,es,hH,hk,rk,rs⟩:=F.rel.mem n _ a e2 ha
   refine⟨a,_,hH,True.intro,fun od=>?_⟩
   obtain⟨r2,e3⟩:=F.rel.lockC e2 ha (.frz od (rawN a es))
   refine⟨Φ,_,ρ,_,_,⟨r2,?_⟩,p.ext e3⟩
   have E2:=F.env.ext e3
   refine⟨by simp [E2.len],fun j u ej=>?_⟩
   by_cases hj:i=j
   ·subst hj
    have hi:=(List.getElem?_eq_some_iff.mp e1).1
    rw [List.getElem?_set_self hi] at ej
    have eu:T.dcn ks ts=u:=by simpa using ej
    subst eu
    refine⟨.ref a,h1,?_⟩
    unfold Rep
    exact⟨a,es,od,rfl,hk,upd_same,rk.ext e3,rs.ext e3⟩
   ·rw [List.getElem?_set_ne hj] at ej
    exact E2.get j u ej
  ·exact p.elim
 ·exact p.elim
end
end
end Ev
namespace EvF
open PySem PySem.Spec PyProof PyProof.Rows L2
section
variable {prog:Program} {w:World} {A:Around} {E:Value→Shared→Prop} {s:Shared}
end
section
variable {X:Cx}
end
end EvF
namespace Ev
open PySem L2
variable [Wrl]
section
variable {K:PySem.W.Frag} {W:WX} {Φ Z:Hp} {ρ:List Addr} {σ:L2.St} {H:Hp} {m:Mem} {X:Cx}
theorem pe_or {e:Expr} {t u:TE} (h:PE X e t) (h':PE X e u):PE X e (fun σ H Q=>t σ H Q∨u σ H Q):=⟨fun pins s σ H Q I q=>q.elim (h.run pins s σ H Q I) (h'.run pins s σ H Q I)⟩
end
end Ev
namespace Ev
open PySem L2 PyProof.Rows
variable [Wrl]
section
variable {K:PySem.W.Frag} {W:WX} {Φ Z:Hp} {ρ:List Addr} {σ:L2.St} {H:Hp} {m:Mem} {X:Cx}
theorem Cok.hu66 {X:Cx} {W:WX} {k:Nat} (c:Cok X W k):X.A.units+66 < cLine:=by have:=c.room.un; omega
noncomputable def aKn (K:PySem.W.Frag):List V→Hp→VK→Prop:=fun vs H Q=>∃(a:Addr) (us:List V) (ds:List PyData),vs=[.ref a]∧SqL K H a us∧DpAll K H us ds∧PySem.W.AllAlike ds∧PySem.W.Sortable ds∧(∀ d∈ds,d.depth≤64)∧us.length≤sizeLine∧
 ∀ p,H p=none→Q (.ref p) (upd H p (.lst (((us.zip ds).mergeSort (PySem.W.dataLe false fun b:V×PyData=>b.2)).map (·.1))))
theorem aVw {s:Shared}:∀ {us:List V} {ds:List PyData} {its:List Value} {as:List Addr},Vals us its→ReadsAll s.heap its ds as→PySem.W.EachIs (fun(v:Value) (b:V×PyData)=>RelV b.1 v) its (us.zip ds)∧PySem.W.EachIs (fun(v:Value) (b:V×PyData)=>∃ as,Reads s.heap v b.2 as) its (us.zip ds)∧(us.zip ds).map (·.2)=ds
 | _,_,_,_,.nil,r=>by
  cases r
  exact⟨.nil,.nil,rfl⟩
 | _,_,_,_,.cons h t,r=>by
  cases r with
  | cons r1 r2=>
   obtain⟨a,b,c⟩:=aVw t r2
   exact⟨.cons h a,.cons ⟨_,r1⟩ b,by rw [List.zip_cons_cons,List.map_cons,c]⟩
theorem aS0:∀ {out:List Value} {bs:List (V×PyData)},PySem.W.EachIs (fun(v:Value) (b:V×PyData)=>RelV b.1 v) out bs→Vals (bs.map (·.1)) out
 | _,_,.nil=> .nil
 | _,_,.cons h t=> .cons h (aS0 t)
theorem vZ (hu:X.A.units+66 < cLine):CallR X (.builtin "sorted") (aKn X.K):=by
 intro pins s σ H vs us0 Q I r h
 obtain⟨a,us,ds,rfl,hs,hd,ha,hk,hdp,hz,q⟩:=h
 rw [Vals.ref1 r]
 obtain⟨its,rv,hl,_⟩:=I.list hs
 obtain⟨as,h4⟩:=Dp.readsAll I ds us its hd rv
 obtain⟨e1,e2,e3⟩:=aVw rv h4
 have hlen:(us.zip ds).length≤sizeLine:=by rw [List.length_zip]; omega
 refine PySem.W.sorted_data hl.isList e1 e2 (by rw [e3]; exact ha) (by rw [e3]; exact hk) hlen (fun b hb=>?_) fun out ho eo=>?_
 ·have hm:b.2∈ds:=by rw [←e3]; exact List.mem_map.mpr ⟨b,hb,rfl⟩
  have:=hdp _ hm
  omega
 ·obtain⟨ep,he'⟩:=sortedAll_at s.heap its out.toArray
  have hr:=aS0 eo
  refine⟨.ref _,upd H (s.heap.objs.size+1) (.lst _),I.laid (t':=s.toks) (fun _ _=>sortedAll_old) (Nat.le_succ _) ⟨?_,out,ep,hr,he'⟩,rfl,q _ (I.hok.fresh (Nat.le_succ _))⟩
  rw [List.length_map,List.length_mergeSort]; exact hlen
noncomputable def aIv (ds:List PyData):Bool:=(ds.all fun d=>ds.all fun d'=>PySem.W.alike d d')&&(ds.all (fun d=>match d with | .tuple (_::_)=>true | _=>false)||ds.all (fun d=>match d with | .none=>false | .tuple _=>false | _=>true))&&ds.all fun d=>decide (d.depth≤64)
theorem aQh {ds:List PyData} (h:aIv ds=true):PySem.W.AllAlike ds∧PySem.W.Sortable ds∧∀ d∈ds,d.depth≤64:=by
 unfold aIv at h
 rw [Bool.and_eq_true,Bool.and_eq_true,Bool.or_eq_true,List.all_eq_true,List.all_eq_true,List.all_eq_true,List.all_eq_true] at h
 obtain⟨⟨h1,h2⟩,h3⟩:=h
 refine⟨fun d hd d' hd'=>List.all_eq_true.mp (h1 d hd) d' hd',h2.imp (fun h d hd=>?_) (fun h d hd=>?_),fun d hd=>of_decide_eq_true (h3 d hd)⟩
 ·have:=h d hd
  split at this
  ·exact⟨_,_,rfl⟩
  ·cases this
 ·have:=h d hd
  split at this
  ·cases this
  ·cases this
  ·rename_i a b
   exact⟨fun e=>a e,fun xs e=>b xs e⟩
noncomputable def aKp (mu:Bool):List T→Mem→Out T:=fun xs m=>match xs with
 | [y]=>match asL m y with
  | some ts=>match txts ts with
   | some _=>gSortedA mu xs m
   | none=>match toDs m ts with
    | some ds=>if aIv ds&&decide (ts.length≤lim) then mk mu (((ts.zip ds).mergeSort (PySem.W.dataLe false fun b:T×PyData=>b.2)).map (·.1)) m else .no
    | none=> .no
  | none=>gSortedA mu xs m
 | _=> .no
theorem aTn:∀ {L:List (T×V)},(∀ x∈L,Rep K Z ρ x.1 x.2)→Reps K Z ρ (L.map (·.1)) (L.map (·.2))
 | [],_=> .nil
 | x::L,h=> .cons (h x (by simp)) (aTn fun y hy=>h y (by simp [hy]))
theorem aV7:∀ {ts:List T} {vs:List V},Reps K Z ρ ts vs→∀ x∈ts.zip vs,Rep K Z ρ x.1 x.2
 | [],_,h=>by unfold Reps at h; subst h; simp
 | t::ts,_,h=>by
  unfold Reps at h
  obtain⟨v,vs,rfl,r,rs⟩:=h
  intro x hx
  rw [List.zip_cons_cons,List.mem_cons] at hx
  rcases hx with rfl | hx
  ·exact r
  ·exact aV7 rs x hx
theorem zip3:∀ {ts:List T} {us:List V} {ds:List PyData},ts.length=us.length→us.length=ds.length→((ts.zip us).zip ds).map (fun x=>(x.1.1,x.2))=ts.zip ds∧((ts.zip us).zip ds).map (fun x=>(x.1.2,x.2))=us.zip ds
 | [],[],[],_,_=>⟨rfl,rfl⟩
 | t::ts,u::us,d::ds,h,h'=>by
  obtain⟨a,b⟩:=zip3 (ts:=ts) (us:=us) (ds:=ds) (by simpa using h) (by simpa using h')
  simp only [List.zip_cons_cons,List.map_cons,a,b,and_self]
 | [],_::_,_,h,_=>by simp at h
 | _::_,[],_,h,_=>by simp at h
 | _,[],_::_,_,h=>by simp at h
 | _,_::_,[],_,h=>by simp at h
theorem aY5 {ts:List T} {us:List V} {ds:List PyData} (rs:Reps K Z ρ ts us) (hl:us.length=ds.length):
  Reps K Z ρ (((ts.zip ds).mergeSort (PySem.W.dataLe false fun b:T×PyData=>b.2)).map (·.1)) (((us.zip ds).mergeSort (PySem.W.dataLe false fun b:V×PyData=>b.2)).map (·.1)):=by
 obtain⟨e1,e2⟩:=zip3 rs.length hl
 rw [←e1,←e2]
 have k1:=PySem.W.sort_maps (r:=PySem.W.dataLe false fun b:(T×V)×PyData=>b.2) (s:=PySem.W.dataLe false fun b:T×PyData=>b.2) (fun x:(T×V)×PyData=>(x.1.1,x.2)) (l:=(ts.zip us).zip ds) (fun _ _ _ _=>rfl)
 have k2:=PySem.W.sort_maps (r:=PySem.W.dataLe false fun b:(T×V)×PyData=>b.2) (s:=PySem.W.dataLe false fun b:V×PyData=>b.2) (fun x:(T×V)×PyData=>(x.1.2,x.2)) (l:=(ts.zip us).zip ds) (fun _ _ _ _=>rfl)
 rw [←k1,←k2,List.map_map,List.map_map]
 have:=aTn (K:=K) (Z:=Z) (ρ:=ρ) (L:=(((ts.zip us).zip ds).mergeSort (PySem.W.dataLe false fun b:(T×V)×PyData=>b.2)).map (·.1)) fun x hx=>by
  obtain⟨y,hy,rfl⟩:=List.mem_map.mp hx
  exact aV7 rs _ (List.of_mem_zip ((List.mem_mergeSort).mp hy)).1
 rw [List.map_map,List.map_map] at this
 exact this
theorem aUs {m:Mem}:∀ {ts:List T} {ds:List PyData},toDs m ts=some ds→ts.length=ds.length
 | [],ds,h=>by unfold toDs at h; cases h; rfl
 | t::ts,ds,h=>by
  unfold toDs at h
  split at h
  ·rename_i d es _ e
   cases h
   rw [List.length_cons,List.length_cons,aUs e]
  ·cases h
theorem aT8 {mu:Bool}:SemL K (aKp mu) (fun vs H Q=>aR5 K vs H Q∨aKn K vs H Q):=by
 intro W Φ Z ρ σ H m Q xs vs r rs p
 have old:Post K W Φ Z ρ σ Q (gSortedA mu xs m)→aR5 K vs H Q∨aKn K vs H Q:=fun p=> .inl (aT9 W Φ Z ρ σ H m Q xs vs r rs p)
 unfold aKp at p
 split at p
 ·rename_i y
  split at p
  ·rename_i ts hy
   split at p
   ·exact old p
   ·split at p
    ·rename_i ds hd
     split at p
     ·rename_i hc
      rw [Bool.and_eq_true] at hc
      obtain⟨v,rfl,rv⟩:=jE rs
      obtain⟨a,us,rfl,q,ru⟩:=aEg r rv hy
      obtain⟨h1,h2,h3⟩:=aQh hc.1
      have hl:us.length=ds.length:=by rw [←ru.length]; exact aUs hd
      refine .inr ⟨a,us,ds,rfl,q,toDs_ok r ru hd,h1,h2,h3,?_,fun l hn=>kB r (aY5 ru hl) p hn⟩
      rw [←ru.length]; exact aB7 (of_decide_eq_true hc.2)
     ·exact p.elim
    ·exact p.elim
  ·exact old p
 ·exact p.elim
end
end Ev
namespace EvG
open PySem PySem.Spec PyProof PyProof.Rows L2
end EvG
namespace Ev
open PySem L2 PyProof.Rows
variable [Wrl]
end Ev
namespace EvG
open PySem PySem.Spec PyProof PyProof.Rows L2
variable {X:Cx}
end EvG
namespace Ev
open PySem L2
variable [Wrl]
section
variable {K:PySem.W.Frag} {W:WX} {Φ Z:Hp} {ρ:List Addr} {σ:L2.St} {H:Hp} {m:Mem} {X:Cx}
end
end Ev
namespace PySem.HandSPX
open PySem Builtin Builtin.ObjectAttr
section
variable {M:Model} {A:Around} {E:Value→Shared→Prop} {h:Heap} {g:Array GenState} {d:Drawn} {t:Nat} {os:OsState}
variable {nm q:Str} {C N:Addr} {bs bm bmB:List Value} {hdct:Bool} {sn:List Str} {sub:List Value} {ab:Bool} {col:Option Bool} {dd:Option Addr} {k0 k1 k2 k3 k5:Option Value} {B newId initId:String}
end
section
variable {prog:Program} {w:World} {A:Around} {E:Value→Shared→Prop} {R:Result→Shared→Prop} {h:Heap} {g:Array GenState} {d:Drawn} {t:Nat} {os:OsState}
variable {nm q:Str} {C N:Addr} {bs bm bmB:List Value} {hdct:Bool} {sn:List Str} {sub:List Value} {ab:Bool} {col:Option Bool} {dd:Option Addr} {k0 k1 k2 k3 k5:Option Value} {B newId initId:String}
end
end PySem.HandSPX
namespace L2
open PySem PySem.Spec PyProof.Rows
section
variable {X:Cx} {CX:CXT} {k n:Nat} {f C:Addr} {fd:FuncData} {ps ks:List Str} {sp:Sp} {x:Str} {p pos p':Pos} {e:Expr} {es:List Expr} {kws:List Keyword} {t tk:TA} {g:List Value→List Value→List Value} {gV:List V→List V→List V}
end
end L2
namespace L2
open PySem PySem.Spec PyProof.Rows
section
variable {X:Cx}
end
end L2
namespace PySem.W
open PySem PySem.Spec PySem.Calls PyProof.Rows Builtin
section
variable {prog:Program} {w:World} {A A₀:Around} {E:Value→Shared→Prop} {s:Shared} {K:Frag} {x C L f:Addr} {h₀:Heap} {m:Str→Option Value} {ox:Obj} {od:Option Obj} {name:Str} {b tb:Value}
end
end PySem.W
namespace Ev
open PySem L2
variable [Wrl]
section
variable {K:PySem.W.Frag} {W:WX} {Φ Z:Hp} {ρ:List Addr} {σ:L2.St} {H:Hp} {m:Mem} {X:Cx} {mg:Str→Option Value}
end
end Ev
namespace Ev
open PySem L2
variable [Wrl]
section
variable {X:Cx} {W:WX}
theorem aS6 {K:PySem.W.Frag} {Φ Z:Hp} {ρ:List Addr} {H:Hp} {m:Mem} {a:Addr} {n i:Nat} {ts:List T} (r:Rel K Φ Z ρ H m) (ha:ρ[n]? =some a) (hm:m[n]? =some (some (.lst ts))):
  (ts.length≤i→(Itl K a).stop i H)∧∀ t,ts[i]? =some t→(Itl K a).go i H∧∀ x H',(Itl K a).yld i H x H'→H'=H∧Rep K Z ρ t x:=by
 obtain⟨_,vs,hH,rs⟩:=r.mem n _ a hm ha
 have q:SqL K H a vs:= .of hH
 refine⟨fun hi=>⟨vs,q,by rw [←rs.length]; exact hi⟩,fun t ht=>?_⟩
 obtain⟨v,h1,h2⟩:=rs.get ht
 refine⟨⟨vs,v,q,h1⟩,fun x H' ⟨e1,y⟩=>?_⟩
 subst e1
 have e3:v=x:=by have:=y vs q; rw [h1] at this; exact Option.some.inj this
 subst e3
 exact⟨rfl,h2⟩
noncomputable def aRa (n:Nat) (g:GF) (body:SF):Nat→Nat→Env→Mem→SOut
 | 0,i,env,m=>match m[n]? with
  | some (some (.lst ts))=>match ts[i]? with
   | none=> .nx env m
   | some _=> .no
  | _=> .no
 | k+1,i,env,m=>match m[n]? with
  | some (some (.lst ts))=>match ts[i]? with
   | none=> .nx env m
   | some t=>match g t env with
    | none=> .no
    | some env1=>match body env1 m with
     | .nx env2 m2=>aRa n g body k (i+1) env2 m2
     | .ct env2 m2=>aRa n g body k (i+1) env2 m2
     | .bk env2 m2=> .nx env2 m2
     | .rt t m2=> .rt t m2
     | .ex C ns vs env2 m2=> .ex C ns vs env2 m2
     | .no=> .no
  | _=> .no
noncomputable def bDu (f:EF) (g:GF) (body:SF):SF:=fun env m=>match f env m with
 | .ok (.loc n) m1=>match m1[n]? with
  | some (some (.lst ts))=>aRa n g body ts.length 0 env m1
  | _=> .no
 | _=>sFor (iVal f) g body env m
theorem bD1 {k:Nat} {tg iter:Expr} {body:List Stmt} {sl:List Nat} {f:EF} {g:GF} {fb:SF} {wg:TG} {pos:Pos} (c:Cok X W k) (h:SE X W iter f) (hg:SG X tg sl g wg) (hb:SSs X W body fb)
  (hs:∀ x,foldedSetIterable iter X.env x=pure x:=by intro _; rfl):SS X W (.For tg iter body [] pos) (bDu f g fb):=by
 obtain⟨wi,pi,ki⟩:=(yN (tg:=tg) h).ex
 have sf:=wJ (pos:=pos) c ⟨wi,pi,ki⟩ hg hb hs
 obtain⟨pg,kg⟩:=hg
 refine⟨tY (ps_for c.pass c.calm (aYf pi (pi_list h.pe)) pg hb.ps hs) fun D σ H ⟨Φ,Z,ρ,env,m,F,p⟩=>?_⟩
 unfold bDu at p
 split at p
 rotate_left
 ·
  refine .inl (ki Φ Z ρ σ H env m _ F ?_)
  unfold sFor at p
  cases e0:iVal f env m with
  | no=>rw [e0] at p; exact p
  | ex C ns us m1=>
   rw [e0] at p
   exact fun Z1 ρ1 H1 d us e1 r1 rs hl hd=>p Z1 ρ1 H1 σ d us e1 ⟨r1,F.env.ext e1⟩ rs hl hd
  | ok ts m1=>
   rw [e0] at p
   intro Z1 ρ1 H1 J e1 r1 wk
   let Pv:Nat→Nat→St→Hp→Prop:=fun i k σ2 H2=>k=ts.length - i∧i≤ts.length∧σ2.length=σ.length∧∃ Z2 ρ2 env2 m2,Ext Z1 Z2 ρ1 ρ2∧Fits X.K Φ Z2 ρ2 σ2 H2 env2 m2∧qC X.K W Φ Z2 ρ2 σ.length D (loop g fb (ts.drop i) env2 m2)
   refine⟨Pv,⟨ts.length,by simp,Nat.zero_le _,rfl,Z1,ρ1,env,m1,Ext.refl,⟨r1,F.env.ext e1⟩,by simpa using qC.ext (o:=loop g fb ts env m1) p e1⟩,?_⟩
   rintro i k σ2 H2 ⟨hk,hi,hl2,Z2,ρ2,env2,m2,e2,F2,p2⟩
   obtain⟨w1,w2⟩:=wk Φ Z2 ρ2 H2 m2 i e2 F2.rel
   by_cases hlt:i < ts.length
   ·have hti:ts[i]? =some ts[i]:=by simp [hlt]
    obtain⟨go,yld⟩:=w2 _ hti
    rw [List.drop_eq_getElem_cons hlt] at p2
    refine .inr ⟨go,fun σ' H'=>Pv (i+1) (ts.length - (i+1)) σ' H',fun σ' H' h'=>⟨_,by omega,h'⟩,fun x H3 y=>?_⟩
    obtain⟨Z3,e3,r3,rep⟩:=yld x H3 y
    unfold loop at p2
    cases eg:g ts[i] env2 with
    | none=>rw [eg] at p2; exact p2.elim
    | some env3=>
     rw [eg] at p2
     refine kg Φ Z3 ρ2 σ2 H3 env2 env3 m2 ts[i] x _ ⟨r3,F2.env.ext e3⟩ rep eg fun σ4 F4 hl4 _=>⟨Φ,Z3,ρ2,env3,m2,F4,?_⟩
     have fin:∀ env5 m5,qC X.K W Φ Z2 ρ2 σ.length D (loop g fb (ts.drop (i+1)) env5 m5)→∀ Z' ρ' H' σ',Ext Z3 Z' ρ2 ρ'→Fits X.K Φ Z' ρ' σ' H' env5 m5→σ'.length=σ4.length→Pv (i+1) (ts.length - (i+1)) σ' H':=
      fun env5 m5 q Z' ρ' H' σ' e' F' hl'=>⟨rfl,hlt,by rw [hl',hl4,hl2],Z',ρ',env5,m5,(e2.trans e3).trans e',F',q.ext (e3.trans e')⟩
     cases eb:fb env3 m2 with
     | nx env5 m5=>simp only [eb] at p2; exact fin env5 m5 p2
     | ct env5 m5=>simp only [eb] at p2; exact fin env5 m5 p2
     | bk env5 m5=>
      simp only [eb] at p2
      exact fun Z' ρ' H' σ' e' F' hl'=>p2 Z' ρ' H' σ' (e3.trans e') F' (by rw [hl',hl4,hl2])
     | rt t m5=>
      simp only [eb] at p2
      exact fun Z' ρ' H' v e'=>p2 Z' ρ' H' v (e3.trans e')
     | ex C ns us env5 m5=>
      simp only [eb] at p2
      exact fun Z' ρ' H' σ' d vs e'=>p2 Z' ρ' H' σ' d vs (e3.trans e')
     | no=>simp only [eb] at p2; exact p2.elim
   ·have hi':i=ts.length:=by omega
    refine .inl ⟨w1 hi',?_⟩
    rw [List.drop_eq_nil_of_le (by omega)] at p2
    exact p2 _ _ _ _ Ext.refl F2 hl2
 ·rename_i n m1 ef
  refine .inr ?_
  refine(show tr X.K W f σ H _ from ⟨Φ,Z,ρ,env,m,F,?_⟩)
  rw [ef]
  intro Z1 ρ1 H1 v e1 r1 rv
  unfold Rep at rv
  obtain⟨a,ha,rfl⟩:=rv
  split at p
  rotate_left
  ·exact p.elim
  rename_i ts0 hm0
  obtain⟨_,vs0,hH0,_⟩:=r1.mem n _ a hm0 ha
  refine⟨a,rfl,⟨vs0,.of hH0⟩,?_⟩
  let Pv:Nat→Nat→St→Hp→Prop:=fun i k σ2 H2=>σ2.length=σ.length∧∃ Z2 ρ2 env2 m2,Ext Z1 Z2 ρ1 ρ2∧Fits X.K Φ Z2 ρ2 σ2 H2 env2 m2∧qC X.K W Φ Z2 ρ2 σ.length D (aRa n g fb k i env2 m2)
  refine⟨Pv,⟨ts0.length,rfl,Z1,ρ1,env,m1,Ext.refl,⟨r1,F.env.ext e1⟩,qC.ext (o:=aRa n g fb ts0.length 0 env m1) p e1⟩,?_⟩
  rintro i k σ2 H2 ⟨hl2,Z2,ρ2,env2,m2,e2,F2,p2⟩
  have ha2:ρ2[n]? =some a:=aYd e2.p ha
  have stopped:∀ {ts:List T},m2[n]? =some (some (.lst ts))→ts[i]? =none→qC X.K W Φ Z2 ρ2 σ.length D (.nx env2 m2)→(Itl X.K a).stop i H2∧D.nx σ2 H2:=fun hm ht q=>
   ⟨(aS6 F2.rel ha2 hm).1 (List.getElem?_eq_none_iff.mp ht),q _ _ _ _ Ext.refl F2 hl2⟩
  cases k with
  | zero=>
   unfold aRa at p2
   split at p2
   ·rename_i ts hm
    split at p2
    ·rename_i ht
     exact .inl (stopped hm ht p2)
    ·exact p2.elim
   ·exact p2.elim
  | succ k=>
   unfold aRa at p2
   split at p2
   rotate_left
   ·exact p2.elim
   rename_i ts hm
   split at p2
   ·rename_i ht
    exact .inl (stopped hm ht p2)
   ·rename_i t ht
    obtain⟨go,yld⟩:=(aS6 F2.rel ha2 hm).2 t ht
    refine .inr ⟨go,fun σ' H'=>Pv (i+1) k σ' H',fun σ' H' h'=>⟨_,by omega,h'⟩,fun x H3 y=>?_⟩
    obtain⟨rfl,rep⟩:=yld x H3 y
    cases eg:g t env2 with
    | none=>rw [eg] at p2; exact p2.elim
    | some env3=>
     rw [eg] at p2
     refine kg Φ Z2 ρ2 σ2 H3 env2 env3 m2 t x _ F2 rep eg fun σ4 F4 hl4 _=>⟨Φ,Z2,ρ2,env3,m2,F4,?_⟩
     have fin:∀ env5 m5,qC X.K W Φ Z2 ρ2 σ.length D (aRa n g fb k (i+1) env5 m5)→∀ Z' ρ' H' σ',Ext Z2 Z' ρ2 ρ'→Fits X.K Φ Z' ρ' σ' H' env5 m5→σ'.length=σ4.length→Pv (i+1) k σ' H':=
      fun env5 m5 q Z' ρ' H' σ' e' F' hl'=>⟨by rw [hl',hl4,hl2],Z',ρ',env5,m5,e2.trans e',F',q.ext e'⟩
     cases eb:fb env3 m2 with
     | nx env5 m5=>simp only [eb] at p2; exact fin env5 m5 p2
     | ct env5 m5=>simp only [eb] at p2; exact fin env5 m5 p2
     | bk env5 m5=>
      simp only [eb] at p2
      exact fun Z' ρ' H' σ' e' F' hl'=>p2 Z' ρ' H' σ' e' F' (by rw [hl',hl4,hl2])
     | rt t m5=>
      simp only [eb] at p2
      exact fun Z' ρ' H' v e'=>p2 Z' ρ' H' v e'
     | ex C ns us env5 m5=>
      simp only [eb] at p2
      exact fun Z' ρ' H' σ' d vs e'=>p2 Z' ρ' H' σ' d vs e'
     | no=>simp only [eb] at p2; exact p2.elim
section
variable {elt tg iter:Expr} {ifs:List Expr} {scope:Scope} {own:List (Str×Nat)} {pos:Pos} {f:EF} {g:GF} {tt:BF} {fe:EF} {k:Nat} {wg:TG}
end
end
end Ev
namespace L2
open PySem PySem.Spec PyProof.Rows
section
variable {X:Cx} {CX:CXT} {k:Nat} {f C:Addr} {fd:FuncData} {ps:List Str} {sp:Sp}
end
end L2
namespace Ev
open PySem L2
variable [Wrl]
section
variable {X:Cx} {W:WX}
end
end Ev
namespace Ev
open PySem L2 PyProof.Rows
variable [Wrl]
section
variable {X:Cx} {W:WX}
end
end Ev
namespace Ev
open PySem L2
variable [Wrl]
section
variable {K:PySem.W.Frag} {W:WX} {Φ Z:Hp} {ρ:List Addr} {σ:L2.St} {H:Hp} {m:Mem} {X:Cx}
noncomputable def aVx (fz:Bool) (c:Str) (F:FS):EF:=fun _ m=>match F [.loc m.length] (m++[some (.ins c [] [])]) with
 | .ok .non m2=>if fz then match m2[m.length]? with
   | some (some (.ins d ns us))=> .ok (.ins d ns us) (m2.set m.length none)
   | _=> .no
  else .ok (.loc m.length) m2
 | _=> .no
theorem aV2 {k j:Nat} {c:Str} {F:FS} {p pos:Pos} (fz:Bool) (ck:Cok X W k) (D:InitOk X.prog X.w X.K X.mg X.base 0 j c F) (hj:j+1≤k:=by decide)
  (hg:Gl X c:=by rfl) (hdb:(c ==("__debug__":Str))=false:=by decide):SE X W (.Call (.Name c p) [] [] pos) (aVx fz c F):=by
 obtain⟨C,f,fd,ps,hn,hC,hm,M,hF,hb⟩:=D.ok
 refine⟨xY (pe_make0 (dvs:=[]) (ds:=[]) M hF (ck.room.mono hj) hg hm hb .nil passL hdb) fun σ H Q ⟨Φ,Z,ρ,env,m,Fi,p1⟩=>?_⟩
 intro y dx hy hdx hne
 have r2:=Fi.rel.junk hdx (.own y)
 have hy2:(upd H dx (.own y)) y=none:=by rw [upd_ne (Ne.symm hne)]; exact hy
 obtain⟨r3,e3⟩:=r2.allocC hy2 (o:= .ins C dx []) (u:= .ins c [] []) ⟨C,dx,[],rfl,hC,rfl,.nil⟩
 have rself:Rep X.K Z (ρ++[y]) (.loc m.length) (.ref y):=by
  unfold Rep
  exact⟨y,by rw [←Fi.rel.len]; simp,rfl⟩
 have rxs:Reps X.K Z (ρ++[y]) [.loc m.length] [.ref y]:= .cons rself .nil
 refine⟨Φ,Z,ρ++[y],_,_,r3,rxs,by simp,?_⟩
 have p1:=p1.ext e3
 unfold aVx at p1
 cases er:F [.loc m.length] (m++[some (.ins c [] [])]) with
 | no=>rw [er] at p1; exact p1.elim
 | ex C' ns us m2=>rw [er] at p1; exact p1.elim
 | ok t m2=>
  rw [er] at p1
  intro Z4 ρ4 H4 v e4 r4 rt
  cases t with
  | non=>
   unfold Rep at rt
   refine⟨rt,?_⟩
   cases fz with
   | false=>
    simp only [Bool.false_eq_true,if_false] at p1
    exact p1 _ _ _ _ e4 r4 (rself.ext e4)
   | true=>
    simp only [if_true] at p1
    split at p1
    ·rename_i d ns us em
     have rs4:=rself.ext e4
     unfold Rep at rs4
     obtain⟨a,ha,ea⟩:=rs4
     cases ea
     obtain⟨hz,C2,dx2,ws,q,k2,hl2,rw2⟩:=r4.mem _ _ _ em ha
     obtain⟨r5,e5⟩:=r4.freeze em ha q
     refine p1 _ _ _ _ (e4.trans e5) r5 ?_
     unfold Rep
     exact⟨y,C2,dx2,ws,rfl,k2,upd_same,hl2,rw2.ext e5⟩
    ·exact p1.elim
  | _=>exact(show False from p1).elim
end
end Ev
namespace EvSM
open PySem PySem.Spec PyProof.Rows L2
noncomputable def aAy (ks:List Key):List Key:=ks.foldl Ev.addK []
theorem aX2 {ks:List Key} {i:Nat} (h:i < ks.length):aAy (ks.take (i+1))=Ev.addK (aAy (ks.take i)) ks[i]:=by
 unfold aAy
 rw [←List.take_append_getElem h,List.foldl_append]; rfl
theorem bBu (ks:List Key) (k:Key):(Ev.addK ks k).length≤ks.length+1:=by
 unfold Ev.addK
 split
 ·omega
 ·simp
theorem aZj (ks:List Key):(aAy ks).length≤ks.length:=by
 have:∀(ks acc:List Key),(ks.foldl Ev.addK acc).length≤acc.length+ks.length:=by
  intro ks
  induction ks with
  | nil=>intro acc; simp
  | cons k ks ih=>intro acc; have:=ih (Ev.addK acc k); have:=bBu acc k; simp only [List.foldl_cons,List.length_cons]; omega
 have h:=this ks []
 simp only [List.length_nil,Nat.zero_add] at h
 exact h
theorem aKv {xs:List V} {us:List Value} (h:Vals xs us) {i:Nat} {u:Value} (e:us[i]? =some u):∃ x,xs[i]? =some x∧RelV x u:=by
 unfold Vals at h
 induction h generalizing i with
 | nil=>simp at e
 | cons r t ih=>cases i with
  | zero=>simp at e; subst e; exact⟨_,rfl,r⟩
  | succ i=>simpa using ih (by simpa using e)
section
variable {prog:Program} {w:World} {A:Around} {R:Result→Shared→Prop} {E:Value→Shared→Prop} {s:Shared}
noncomputable abbrev setW (w:World):Obj:={cls:= .type "set",dict:=none,data:= .set #[] 0 (.fresh 0 0 (!w.params.followText "set-order"))}
theorem aNi (a:Value) {Q₁:Value→Shared→Prop}
  (h:Q₁ (.ref s.heap.objs.size) {s with heap:=s.heap.push (setW w)}):
  codeAny (model prog w) A (.call (.builtin "set.__new__") ⟨[.type "set",a],[]⟩) (wants Q₁ E) s:=by
 refine codeAny_of_tree ?_
 show wpAny _ A.in1 (do checkBuiltinCall "set.__new__" ⟨[.type "set",a],[]⟩; again (.builtin "set.__new__" ⟨[.type "set",a],[]⟩)) _ _ s
 refine wpAny_bind (wpAny_of_eq (F.newCall_set_1 a) (wpAny_pure ⟨plainId_quiet F.plain_set_new _,codeAny_builtin F.entry_set_new ?_⟩))
 rw [Around.under_plainId F.plain_set_new _]
 unfold Builtin.«set.__new__» Builtin.Frozenset.newClass
 have hsub:=sub_set_self
 obtain⟨hp,g,d,tk,os⟩:=s
 dsimp only at h ⊢
 wp_walk
 refine wpAny_askSetting (wpAny_pure ?_)
 dsimp only
 simp only [newObj]
 refine wpAny_bind (wpAny_alloc (wpAny_pure ?_))
 exact wpAny_pure h
variable {I:Addr} {fp wr:List Addr} {G:Array GenState→Array GenState→Prop} {n:Nat} {P:Nat→Value→Prop} {St:Nat→Shared→Prop}
theorem bGr (V:WalksS prog w A.in1 I fp wr G n P St) (S:Addr) (hS:S∉fp) (ks:List Key) (hx:ks.length=n) (hb:n < 3000) (hv:∀ i v (h:i < ks.length),P i v→RelV (kV ks[i]) v):
  ∀(k i:Nat) (s:Shared),n - i=k→i≤n→St i s→Ev.SetM prog w s.heap S (aAy (ks.take i))→
   (∀ s',Moved (S::wr) G s s'→Ev.SetM prog w s'.heap S (aAy ks)→R (.ok (.ret .none)) s')→
   codeAny (model prog w) A (.builtin "set.update.loop" ⟨[.ref S,.ref I],[]⟩) R s:=by
 have hw:S∉wr:=fun h=>hS (V.sub _ h)
 have up:∀ b∈wr,b∈S::wr:=fun b hb=>List.mem_cons_of_mem _ hb
 have keep:∀ {s s':Shared} {js:List Key},Moved wr G s s'→Ev.SetM prog w s.heap S js→Ev.SetM prog w s'.heap S js:=fun hm ⟨o,es,ep,t,ho,r⟩=>⟨o,es,ep,t,hm.heap S _ hw ho,r⟩
 intro k
 induction k with
 | zero=>
  intro i s hk hi st hs hR
  obtain rfl:i=n:=by omega
  refine codeAny_builtin F.entry_set_update_loop ?_
  rw [Around.under_plainId F.plain_set_update_loop _]
  show wpAny _ A.in1 (pyNext (.ref I) >>=_) _ _ s
  rw [←hx,List.take_length] at hs
  exact wpAny_bind (V.done s _ _ st fun s' hm=>(show wpAny _ A.in1 (ret Value.none) _ _ s' from wpAny_pure (hR s' (hm.mono up) (keep hm hs))))
 | succ k ih=>
  intro i s hk hi st hs hR
  have hlt:i < n:=by omega
  have hlt':i < ks.length:=by omega
  refine codeAny_builtin F.entry_set_update_loop ?_
  rw [Around.under_plainId F.plain_set_update_loop _]
  show wpAny _ A.in1 (pyNext (.ref I) >>=_) _ _ s
  refine wpAny_bind (V.item i s _ _ hlt st fun v s' hP st' hm=>?_)
  have rv:=hv i v hlt' hP
  have hs':=keep hm hs
  show wpAny _ A.in1 (holding [v] (setAdd S v) >>=_) _ _ s'
  refine wpAny_bind (wpAny_holding ?_)
  unfold setAdd
  refine wpAny_holding (wpAny_bind ((mixKind prog w).pyHash (kV_is rv) ?_))
  have few:(aAy (ks.take i)).length < 4000:=by
   have:=aZj (ks.take i)
   rw [List.length_take] at this
   omega
  refine EvM.aGo (s:={s' with toks:=s'.toks+1}) hs' rv few fun h' sb h2 r=>?_
  rw [←aX2 hlt'] at h2
  refine wpAny_pure ⟨plainId_quiet F.plain_set_update_loop _,ih (i+1) _ (by omega) hlt (V.frame _ s' _ _ st' (Nat.le_succ _) fun b hb o e=>?_) h2 fun s2 hm2 h4=>?_⟩
  ·rw [sb.2 b (fun z:b=S=>hS (by rw [←z]; exact hb))]
   exact e
  ·refine hR s2 (Moved.trans V.gtrans ((hm.mono up).then_heap (Nat.le_succ _) fun b o hb e=>?_) hm2) h4
   rw [sb.2 b (fun z:b=S=>hb (by rw [z]; exact List.mem_cons_self))]
   exact e
end
section
variable {prog:Program} {w:World} {A:Around} {E:Value→Shared→Prop} {s:Shared}
set_option maxHeartbeats 3200000 in
theorem aL6 {a:Value} {D:Shared→Prop} {Q:Value→Shared→Prop}
  (init:wpAny (model prog w) A.in1.in1 (Builtin.«set.__init__» ⟨[.ref s.heap.objs.size,a],[]⟩) (fun fin s'=>match fin with
   | .done f=>wants (fun r s₂=>r= .none∧D s₂) E (.ok f) s'
   | .again c'=>c'.quiet=true∧codeAny (model prog w) A.in1 c' (wants (fun r s₂=>r= .none∧D s₂) E) s') (fun e s'=>wants (fun r s₂=>r= .none∧D s₂) E (.error e) s') {s with heap:=s.heap.push (setW w)})
  (end_:∀ s₂,D s₂→Q (.ref s.heap.objs.size) s₂):wpAny (model prog w) A (call (.type "set") [a]) Q E s:=by
 obtain⟨c,tl,hmro⟩:=PySem.F.called_set.mro
 have hmade:=PySem.F.called_set.made
 have hsub:=PySem.F.called_set.sub
 refine wpAny_call (codeAny_of_tree (show wpAny _ _ (callAny (.type "set") _) _ _ _ from wpAny_pure ⟨Code.quiet_builtin _ (by decide+kernel),codeAny_builtin PySem.F.entry_type_call ?_⟩))
 rw [Around.under_plain (weight_type_call_type "set" [a] []) rfl]
 have h1:=PySem.F.called_set.notType
 have h2:=PySem.F.called_set.canCreate
 have hct:=PySem.F.typeCall_set_1 a
 repeat (any_goals (first | assumption | wp_step))
 refine codeAny_mono (aNi a (w:=w) (E:=E) (Q₁:=fun obj s₁=>obj= .ref s.heap.objs.size∧s₁={s with heap:=s.heap.push (setW w)}) ⟨rfl,rfl⟩) fun r s₁ hr=>?_
 match r,hr with
 | .error e,hr=>exact hr
 | .ok .next,hr=>exact hr.elim
 | .ok .brk,hr=>exact hr.elim
 | .ok .cont,hr=>exact hr.elim
 | .ok (.ret obj),hr=>
  obtain⟨rfl,rfl⟩:=hr
  have hT:Shared.TypeIs {s with heap:=s.heap.push (setW w)} (.ref s.heap.objs.size) "set":=⟨_,Heap.get?_push_size _ rfl,rfl⟩
  have hli:=PySem.F.called_set.init.lookup
  have hbi:=PySem.F.called_set.init.bind (.ref s.heap.objs.size)
  repeat (any_goals (first | assumption | wp_step))
  refine codeAny_mono (codeAny_call_builtin (R:=wants (fun r s₂=>r= .none∧D s₂) E) PySem.F.called_set.init.plain PySem.F.entry_set_init (check_set_init_1 hT init)) fun r₂ s₂ hr₂=>?_
  match r₂,hr₂ with
  | .error e,hr₂=>exact hr₂
  | .ok .next,hr₂=>exact hr₂.elim
  | .ok .brk,hr₂=>exact hr₂.elim
  | .ok .cont,hr₂=>exact hr₂.elim
  | .ok (.ret r),hr₂=>
   obtain⟨rfl,hd⟩:=hr₂
   repeat (any_goals (first | assumption | wp_step))
   exact end_ _ hd
set_option maxHeartbeats 3200000 in
theorem aNk {l:Addr} {items:Array Value} {ks:List Key} {Q:Value→Shared→Prop} (hh:A.handled=none) (hl:s.heap.IsList l items) (hi:Vals (ks.map kV) items.toList) (hb:ks.length < 3000)
  (h:∀(h':Heap) (tk:Nat),Ev.SetM prog w h' s.heap.objs.size (aAy ks)→(∀ b o,b < s.heap.objs.size→s.heap.get? b=some o→h'.get? b=some o)→Q (.ref s.heap.objs.size) {s with heap:=h',toks:=tk}):
  wpAny (model prog w) A (call (.type "set") [.ref l]) Q E s:=by
 refine aL6 (D:=fun s₂=>∃ h' tk,s₂={s with heap:=h',toks:=tk}∧Ev.SetM prog w h' s.heap.objs.size (aAy ks)∧
   (∀ b o,b < s.heap.objs.size→s.heap.get? b=some o→h'.get? b=some o)) ?_ fun s₂ ⟨h',tk,e,hs',hk'⟩=>by subst e; exact h _ _ hs' hk'
 have hS:(s.heap.push (setW w)).get? s.heap.objs.size=some (setW w):=Heap.get?_push_size _ rfl
 obtain⟨⟨oc,od,dt,sl⟩,hol,hc1,nl,hd1⟩:=hl
 replace hc1:oc= .type "list":=hc1
 replace hd1:dt= .seq items nl:=hd1
 subst hc1
 subst hd1
 have hol':(s.heap.push (setW w)).get? l=some {cls:= .type "list",dict:=od,data:= .seq items nl,slots:=sl}:=Heap.get?_push_of_some _ hol
 have q1:=PySem.F.sub_list_set
 have q2:=PySem.F.sub_list_frozenset
 have q3:(Value.type "list"==Value.type "dict")=false:=by decide
 have hl1:(s.heap.push (setW w)).IsList l items:=⟨_,hol',rfl,nl,rfl⟩
 unfold Builtin.«set.__init__» noKeywords Builtin.Frozenset.updateFrom
 generalize hPI:pyIter=PI
 wp_walk
 subst hPI
 refine wpAny_pyIter_list hl1 (wpAny_bind (wpAny_runValue ?_))
 have hlS:l < s.heap.objs.size:=Heap.lt_size hol
 have hz:(s.heap.push (setW w)).objs.size=s.heap.objs.size+1:=Heap.size_push ..
 have a1:A.in1.in1.in1.handled=none:=by simp [hh]
 have a2:l≠(s.heap.push (setW w)).objs.size:=by rw [hz]; exact Nat.ne_of_lt (Nat.lt_succ_of_lt hlS)
 have a3:s.heap.objs.size∉[(s.heap.push (setW w)).objs.size,l]:=by
  rw [hz]
  simp only [List.mem_cons,List.not_mem_nil,or_false,not_or]
  exact⟨Nat.ne_of_lt (Nat.lt_succ_self _),Nat.ne_of_gt hlS⟩
 have a4:ks.length=items.size:=by rw [←Array.length_toList,←hi.length,List.length_map]
 have a5:∀(i:Nat) (v:Value) (h:i < ks.length),items[i]? =some v→RelV (kV ks[i]) v:=fun i v h hv=>by
  obtain⟨x,h1,h2⟩:=aKv hi (i:=i) (u:=v) (by rw [Array.getElem?_toList]; exact hv)
  rw [List.getElem?_map,List.getElem?_eq_getElem h] at h1
  have h1':kV ks[i]=x:=by simpa using h1
  rw [h1']; exact h2
 refine bGr ((Walks.list a1 _ l a2 items).toS) s.heap.objs.size a3 ks a4 (by omega) a5 (items.size - 0) 0 _ (by omega) (Nat.zero_le _) ⟨⟨_,Heap.get?_push_size _ rfl,rfl,rfl⟩,(hl1.push _)⟩ ?_ fun s' hm h9=>?_
 ·have hg:((s.heap.push (setW w)).push {cls:= .type "list_iterator",data:= .fields #[.ref l,.int 0 0]}).get? s.heap.objs.size=some (setW w):=Heap.get?_push_of_some _ hS
  exact⟨_,#[],0,_,hg,⟨rfl,rfl,rfl⟩,rfl,(fun _ z=>by simp at z),.nil,List.nodup_nil,(by show (0:Nat) < 4090; decide),rfl,List.Pairwise.nil,by cases hw:w.params.followText "set-order" with | true=>exact .inl rfl | false=>exact .inr rfl⟩
 ·obtain⟨h',g',d',tk',os'⟩:=s'
  obtain rfl:g'=s.gens:=hm.gens
  obtain rfl:d'=s.drawn:=hm.drawn
  obtain rfl:os'=s.os:=hm.os
  refine wpAny_pure (show wpAny _ _ (ret Value.none) _ _ _ from wpAny_pure ⟨rfl,h',tk',rfl,h9,fun b o hb e=>hm.heap b o ?_ (Heap.get?_push_of_some _ (Heap.get?_push_of_some _ e))⟩)
  simp only [List.mem_cons,List.not_mem_nil,or_false,not_or]
  exact⟨Nat.ne_of_lt hb,by rw [hz]; exact Nat.ne_of_lt (Nat.lt_succ_of_lt hb)⟩
set_option maxHeartbeats 3200000 in
theorem aM6 {l:Addr} {items:Array Value} {ks:List Key} {Q:Value→Shared→Prop} (hh:A.handled=none) (hl:s.heap.IsTuple l items) (hi:Vals (ks.map kV) items.toList) (hb:ks.length < 3000)
  (h:∀(h':Heap) (tk:Nat),Ev.SetM prog w h' s.heap.objs.size (aAy ks)→(∀ b o,b < s.heap.objs.size→s.heap.get? b=some o→h'.get? b=some o)→Q (.ref s.heap.objs.size) {s with heap:=h',toks:=tk}):
  wpAny (model prog w) A (call (.type "set") [.ref l]) Q E s:=by
 refine aL6 (D:=fun s₂=>∃ h' tk,s₂={s with heap:=h',toks:=tk}∧Ev.SetM prog w h' s.heap.objs.size (aAy ks)∧
   (∀ b o,b < s.heap.objs.size→s.heap.get? b=some o→h'.get? b=some o)) ?_ fun s₂ ⟨h',tk,e,hs',hk'⟩=>by subst e; exact h _ _ hs' hk'
 have hS:(s.heap.push (setW w)).get? s.heap.objs.size=some (setW w):=Heap.get?_push_size _ rfl
 obtain⟨⟨oc,od,dt,sl⟩,hol,hc1,nl,hd1⟩:=hl
 replace hc1:oc= .type "tuple":=hc1
 replace hd1:dt= .seq items nl:=hd1
 subst hc1
 subst hd1
 have hol':(s.heap.push (setW w)).get? l=some {cls:= .type "tuple",dict:=od,data:= .seq items nl,slots:=sl}:=Heap.get?_push_of_some _ hol
 have q1:=PySem.F.sub_tuple_set
 have q2:=PySem.F.sub_tuple_frozenset
 have q3:(Value.type "tuple"==Value.type "dict")=false:=by decide
 have hl1:(s.heap.push (setW w)).IsTuple l items:=⟨_,hol',rfl,nl,rfl⟩
 unfold Builtin.«set.__init__» noKeywords Builtin.Frozenset.updateFrom
 generalize hPI:pyIter=PI
 wp_walk
 subst hPI
 refine wpAny_pyIter_tuple hl1 (wpAny_bind (wpAny_runValue ?_))
 have hlS:l < s.heap.objs.size:=Heap.lt_size hol
 have hz:(s.heap.push (setW w)).objs.size=s.heap.objs.size+1:=Heap.size_push ..
 have a1:A.in1.in1.in1.handled=none:=by simp [hh]
 have a2:l≠(s.heap.push (setW w)).objs.size:=by rw [hz]; exact Nat.ne_of_lt (Nat.lt_succ_of_lt hlS)
 have a3:s.heap.objs.size∉[(s.heap.push (setW w)).objs.size,l]:=by
  rw [hz]
  simp only [List.mem_cons,List.not_mem_nil,or_false,not_or]
  exact⟨Nat.ne_of_lt (Nat.lt_succ_self _),Nat.ne_of_gt hlS⟩
 have a4:ks.length=items.size:=by rw [←Array.length_toList,←hi.length,List.length_map]
 have a5:∀(i:Nat) (v:Value) (h:i < ks.length),items[i]? =some v→RelV (kV ks[i]) v:=fun i v h hv=>by
  obtain⟨x,h1,h2⟩:=aKv hi (i:=i) (u:=v) (by rw [Array.getElem?_toList]; exact hv)
  rw [List.getElem?_map,List.getElem?_eq_getElem h] at h1
  have h1':kV ks[i]=x:=by simpa using h1
  rw [h1']; exact h2
 refine bGr ((Walks.tuple a1 _ l a2 items).toS) s.heap.objs.size a3 ks a4 (by omega) a5 (items.size - 0) 0 _ (by omega) (Nat.zero_le _) ⟨⟨_,Heap.get?_push_size _ rfl,rfl,rfl⟩,(hl1.push _)⟩ ?_ fun s' hm h9=>?_
 ·have hg:((s.heap.push (setW w)).push {cls:= .type "tuple_iterator",data:= .fields #[.ref l,.int 0 0]}).get? s.heap.objs.size=some (setW w):=Heap.get?_push_of_some _ hS
  exact⟨_,#[],0,_,hg,⟨rfl,rfl,rfl⟩,rfl,(fun _ z=>by simp at z),.nil,List.nodup_nil,(by show (0:Nat) < 4090; decide),rfl,List.Pairwise.nil,by cases hw:w.params.followText "set-order" with | true=>exact .inl rfl | false=>exact .inr rfl⟩
 ·obtain⟨h',g',d',tk',os'⟩:=s'
  obtain rfl:g'=s.gens:=hm.gens
  obtain rfl:d'=s.drawn:=hm.drawn
  obtain rfl:os'=s.os:=hm.os
  refine wpAny_pure (show wpAny _ _ (ret Value.none) _ _ _ from wpAny_pure ⟨rfl,h',tk',rfl,h9,fun b o hb e=>hm.heap b o ?_ (Heap.get?_push_of_some _ (Heap.get?_push_of_some _ e))⟩)
  simp only [List.mem_cons,List.not_mem_nil,or_false,not_or]
  exact⟨Nat.ne_of_lt hb,by rw [hz]; exact Nat.ne_of_lt (Nat.lt_succ_of_lt hb)⟩
end
end EvSM
namespace Ev
open PySem L2 PySem.Spec PyProof.Rows
variable [Wrl]
section
variable {X:Cx} {W:WX}
noncomputable def aYu:List T→Option (List Key)
 | []=>some []
 | t::ts=>match keyT t,aYu ts with
  | some k,some ks=>some (k::ks)
  | _,_=>none
theorem aRg {K:PySem.W.Frag} {Z:Hp} {ρ:List Addr}:∀ {ts:List T} {ks:List Key} {vs:List V},aYu ts=some ks→Reps K Z ρ ts vs→vs=ks.map kV
 | [],ks,vs,h,r=>by unfold aYu at h; cases h; unfold Reps at r; exact r
 | t::ts,ks,vs,h,r=>by
  unfold aYu at h
  split at h
  ·rename_i k ks' h1 h2
   cases h
   unfold Reps at r
   obtain⟨v,us,rfl,r1,r2⟩:=r
   rw [List.map_cons,aB8 r1 h1,aRg h2 r2]
  ·cases h
noncomputable def bFm (K:PySem.W.Frag):List V→Hp→VK→Prop:=fun xs H Q=>∃(l:Addr) (ks:List Key),xs=[.ref l]∧(SqL K H l (ks.map kV)∨SqT K H l (ks.map kV))∧ks.length < 3000∧∀ p,H p=none→Q (.ref p) (upd H p (setO p (EvSM.aAy ks)))
theorem aZm (hr:Here X) (hc:X.calm=true):CallR X (.type "set") (bFm X.K):=by
 intro pins s σ H xs us Q I r h
 obtain⟨l,ks,rfl,hq,hl,q⟩:=h
 obtain⟨u,rfl,rx⟩:=vals1 r
 cases rx
 have fin:∀(h':Heap) (tk:Nat),SetM X.prog X.w h' s.heap.objs.size (EvSM.aAy ks)→(∀ b o,b < s.heap.objs.size→s.heap.get? b=some o→h'.get? b=some o)→EP X pins σ Q (.ref s.heap.objs.size) {s with heap:=h',toks:=tk}:=fun h' tk hS kp=>
  ⟨.ref s.heap.objs.size,_,I.laid (t':=tk) (fun b o e=>kp b o (Heap.lt_size e) e) (Nat.le_refl _) (EvN.aXq hr hS),rfl,q _ (I.hok.fresh (Nat.le_refl _))⟩
 rcases hq with hq | hq
 ·obtain⟨its,r',pl,hz⟩:=I.list hq
  exact EvSM.aNk (I.ok.hd hc) pl.isList (by simpa using r') hl fin
 ·obtain⟨its,r',pl,hz⟩:=I.tuple hq
  exact EvSM.aM6 (I.ok.hd hc) pl (by simpa using r') hl fin
noncomputable def gSetA:List T→Mem→Out T:=fun xs m=>match xs with
 | [y]=>match aDh m y with
  | some ts=>match aYu ts with
   | some ks=>if ks.length < 3000 then .ok (.set (EvSM.aAy ks)) m else .no
   | none=> .no
  | none=> .no
 | _=> .no
theorem bAk {K:PySem.W.Frag}:SemL K gSetA (bFm K):=by
 intro W Φ Z ρ σ H m Q xs vs r rs p
 unfold gSetA at p
 split at p
 ·rename_i y
  obtain⟨v,rfl,rv⟩:=jE rs
  split at p
  ·rename_i ts ht
   split at p
   ·rename_i ks hk
    split at p
    ·rename_i hl
     obtain⟨a,us,rfl,hq,ru⟩:=jA r rv ht
     have:=aRg hk ru
     subst this
     refine⟨a,ks,rfl,hq,hl,fun d hd=>?_⟩
     obtain⟨r',e⟩:=r.allocZ hd (setO d (EvSM.aAy ks))
     refine p _ _ _ _ e r' ?_
     unfold Rep
     exact⟨d,rfl,upd_same⟩
    ·exact p.elim
   ·exact p.elim
  ·exact p.elim
 ·exact p.elim
end
end Ev
namespace Ev
open PySem L2
variable [Wrl]
section
variable {K:PySem.W.Frag} {W:WX} {Φ Z:Hp} {ρ:List Addr} {σ:L2.St} {H:Hp} {m:Mem} {X:Cx} {a:Addr} {od:Obj} {kvs:List (Key×V)}
end
end Ev
namespace PySem.W
open PySem PySem.Calls PyProof.Rows PyProof.V PySem.Spec
section
variable {prog:Program} {w:World} {K:Type} [DecidableEq K] {knd:KeyKind prog w K} {A:Around} {E:Value→Shared→Prop} {s:Shared}
end
end PySem.W
namespace L2
open PySem PySem.Spec PyProof.Rows
section
variable {X:Cx} {CX:CXT} {k:Nat} {f C:Addr} {fd:FuncData} {ps:List Str} {sp:Sp}
end
end L2
namespace Ev
open PySem L2
mutual
noncomputable def nlT:T→Bool
 | .tup ts=>nlTs ts
 | .lst ts=>nlTs ts
 | .rls ts=>nlTs ts
 | .dct _ ts=>nlTs ts
 | .ins _ _ ts=>nlTs ts
 | .dcn ks ts=>nlTs ks&&nlTs ts
 | .exc _ _ ts=>nlTs ts
 | .odd k t=>nlT k&&nlT t
 | .fn _ _ _ _ _ _=>false
 | .loc _=>false
 | _=>true
noncomputable def nlTs:List T→Bool
 | []=>true
 | t::ts=>nlT t&&nlTs ts
end
noncomputable def bCl:List T→List T→Bool
 | t::ts,u::us=>(match t,u with
  | .tup xs,.tup ys=>xs.length !=ys.length
  | _,_=>false)||bCl ts us
 | _,_=>false
noncomputable def apart:T→T→Bool
 | .ins _ _ ts,.ins _ _ us=>bCl ts us
 | _,_=>false
variable [Wrl]
section
variable {K:PySem.W.Frag} {Φ Z:Hp} {ρ:List Addr} {H:Hp} {m:Mem} {X:Cx} {W:WX}
mutual
theorem Rep.free:∀ {t:T} {v:V},nlT t=true→Rep K Z ρ t v→Rep K Z [] t v
 | .non,_,_,h=>by unfold Rep at h ⊢; exact h
 | .bl _,_,_,h=>by unfold Rep at h ⊢; exact h
 | .int _,_,_,h=>by unfold Rep at h ⊢; exact h
 | .str _,_,_,h=>by unfold Rep at h ⊢; exact h
 | .ty _,_,_,h=>by unfold Rep at h ⊢; exact h
 | .tup ts,_,n,h=>by
  unfold Rep at h ⊢
  unfold nlT at n
  obtain⟨b,vs,e,q,r⟩:=h
  exact⟨b,vs,e,q,Reps.free n r⟩
 | .lst ts,_,n,h=>by
  unfold Rep at h ⊢
  unfold nlT at n
  obtain⟨b,vs,e,q,r⟩:=h
  exact⟨b,vs,e,q,Reps.free n r⟩
 | .rls ts,_,n,h=>by
  unfold Rep at h ⊢
  unfold nlT at n
  obtain⟨b,vs,e,q,r⟩:=h
  exact⟨b,vs,e,q,Reps.free n r⟩
 | .dct ks ts,_,n,h=>by
  unfold Rep at h ⊢
  unfold nlT at n
  obtain⟨b,vs,o,e,q,l,r⟩:=h
  exact⟨b,vs,o,e,q,l,Reps.free n r⟩
 | .ins C ns ts,_,n,h=>by
  unfold Rep at h ⊢
  unfold nlT at n
  obtain⟨b,C,dx,vs,e,k,q,l,r⟩:=h
  exact⟨b,C,dx,vs,e,k,q,l,Reps.free n r⟩
 | .dcn ks ts,_,n,h=>by
  unfold Rep at h ⊢
  unfold nlT at n
  rw [Bool.and_eq_true] at n
  obtain⟨b,es,o,e,k,q,r,r2⟩:=h
  exact⟨b,es,o,e,k,q,Reps.free n.1 r,Reps.free n.2 r2⟩
 | .exc c ns ts,_,n,h=>by
  unfold Rep at h ⊢
  unfold nlT at n
  obtain⟨b,C,d,vs,e,k,q,q2,l,r⟩:=h
  exact⟨b,C,d,vs,e,k,q,q2,l,Reps.free n r⟩
 | .set ks,_,_,h=>by
  unfold Rep at h ⊢
  exact h
 | .odd k t,_,n,h=>by
  unfold Rep at h ⊢
  unfold nlT at n
  rw [Bool.and_eq_true] at n
  obtain⟨b,x,y,o,e,q,r1,r2⟩:=h
  exact⟨b,x,y,o,e,q,Rep.free n.1 r1,Rep.free n.2 r2⟩
 | .fn _ _ _ _ _ _,_,n,_=>by unfold nlT at n; cases n
 | .loc _,_,n,h=>by unfold nlT at n; cases n
theorem Reps.free:∀ {ts:List T} {vs:List V},nlTs ts=true→Reps K Z ρ ts vs→Reps K Z [] ts vs
 | [],_,_,h=>by unfold Reps at h ⊢; exact h
 | t::ts,_,n,h=>by
  unfold Reps at h ⊢
  unfold nlTs at n
  rw [Bool.and_eq_true] at n
  obtain⟨v,us,e,r,rs⟩:=h
  exact⟨v,us,e,Rep.free n.1 r,Reps.free n.2 rs⟩
end
theorem Rel.pure (r:Rel K Φ Z ρ H m):∃ Φ':Hp,Rel K Φ' Z [] H []∧∀ Z2 ρ2 H2 m2,Same Z Z2→Rel K Φ' Z2 ρ2 H2 m2→Rel K Φ Z2 ρ H2 m:=by
 classical
 let Φ':Hp:=fun b=>if Z b=none then(if b∈ρ then H b else Φ b) else none
 have of:∀ b,Z b=none→b∈ρ→Φ' b=H b:=fun b h1 h2=>by show (if _ then _ else _)=_; rw [if_pos h1,if_pos h2]
 have of2:∀ b,Z b=none→b∉ρ→Φ' b=Φ b:=fun b h1 h2=>by show (if _ then _ else _)=_; rw [if_pos h1,if_neg h2]
 have none_:∀ b u,Φ' b=some u→Z b=none:=fun b u e=>by
  by_cases h:Z b=none
  ·exact h
  ·have:Φ' b=none:=by show (if _ then _ else _)=_; rw [if_neg h]
   rw [this] at e; cases e
 refine⟨Φ',⟨r.zin,fun a o e=>?_,rfl,List.nodup_nil,(fun _ h=>nomatch h),(fun _ _ _ h=>nomatch h),fun p hp=>?_⟩,fun Z2 ρ2 H2 m2 e2 q=>⟨q.zin,fun a o e=>?_,r.len,r.nd,fun a ha=>?_,fun i o a h1 h2=>?_,fun p hp=>?_⟩⟩
 ·have h0:=none_ a o e
  refine⟨?_,h0,(fun h=>nomatch h)⟩
  by_cases ha:a∈ρ
  ·rw [of a h0 ha] at e; exact e
  ·rw [of2 a h0 ha] at e; exact(r.fin a o e).1
 ·obtain⟨t,h1,h2,h3⟩:=r.tab p hp
  exact⟨t,h1,by rw [of2 _ h1 h3]; exact h2,(fun h=>nomatch h)⟩
 ·obtain⟨h1,h2,h3⟩:=r.fin a o e
  obtain⟨h4,h5,_⟩:=q.fin a o (by rw [of2 a h2 h3]; exact e)
  exact⟨h4,h5,h3⟩
 ·by_cases h0:Z a=none
  ·have hH:=r.trk a ha
   cases e:H a with
   | none=>exact absurd e hH
   | some o=>
    have:=(q.fin a o (by rw [of a h0 ha]; exact e)).1
    rw [this]; exact fun z=>nomatch z
  ·cases e:Z a with
   | none=>exact absurd e h0
   | some o=>rw [q.zin a o (e2 a o e)]; exact fun z=>nomatch z
 ·obtain⟨h3,h4⟩:=r.mem i o a h1 h2
  have ha:a∈ρ:=List.mem_of_getElem? h2
  cases e:H a with
  | none=>exact absurd e (r.trk a ha)
  | some u=>
   obtain⟨h5,h6,_⟩:=q.fin a u (by rw [of a h3 ha]; exact e)
   refine⟨h6,?_⟩
   rw [h5,←e]
   exact h4.mono e2 (List.prefix_refl _)
 ·obtain⟨t,h1,h2,h3⟩:=r.tab p hp
  obtain⟨t',h1',_,_⟩:=q.tab p hp
  exact⟨t',h1',h2,h3⟩
end
end Ev
namespace EvF1
open PySem PySem.Spec PyProof.Rows
section
variable {prog:Program} {w:World} {A:Around} {E:Value→Shared→Prop} {s:Shared}
theorem aN0 {env:Env} {k v:Expr} {pos:Pos} {Q:Value→Shared→Prop}
  (h:wpAny (model prog w) A (eval k env) (fun kv s₁=>wpAny (model prog w) A (eval v env) (fun vv s₂=>wpAny (model prog w) A (dictSet s.heap.objs.size kv vv) (fun _ s₃=>Q (.ref s.heap.objs.size) s₃) E s₂) E s₁) E
   {s with heap:=s.heap.push {cls:= .type "dict",data:= .dict #[]}}):
  wpAny (model prog w) A (eval (.Dict [some k] [v] pos) env) Q E s:=by
 have hz:=zip_pairTrees [some k] [v] env pos rfl rfl
 rw [arm_eval_Dict,hz,dictDisplay_pairs (pairTrees [some k] [v] env pos) (by simp [pairTrees]) (by simp [pairTrees])]
 refine wpAny_bind (wpAny_standAt (wpAny_bind ?_))
 unfold subDict
 refine wpAny_bind (wpAny_alloc ?_)
 refine wpAny_bind (wpAny_holding ?_)
 rw [if_pos (by simp [pairTrees])]
 refine wpAny_bind (pairTrees_cons_walk (wpAny_mono h (fun kv s₁ h₁=>wpAny_mono h₁ (fun vv s₂ h₂=>pairTrees_nil_walk ?_) fun _ _ e=>e) fun _ _ e=>e))
 refine wpAny_holding ?_
 simp only [List.forIn_cons,List.forIn_nil]
 refine wpAny_bind (wpAny_bind (wpAny_bind (wpAny_mono h₂ (fun _ s₃ h₃=>?_) fun _ _ e=>e)))
 repeat (first | exact h₃ | refine wpAny_pure ?_ | refine wpAny_bind ?_)
end
end EvF1
namespace Ev
open PySem L2 PySem.Spec PyProof.Rows
section
variable {X:Cx} {W:WX}
variable [Wrl]
end
end Ev
namespace EvG1
open PySem PySem.Spec PyProof.Rows
section
variable {prog:Program} {w:World} {A:Around} {E:Value→Shared→Prop} {s:Shared}
end
end EvG1
namespace Ev
open PySem L2 PySem.Spec PyProof.Rows
section
variable {X:Cx} {W:WX}
theorem bFp {tg e:Expr} {t u:TI} (h:PI X tg e t) (k:PI X tg e u):PI X tg e (fun σ H R=>t σ H R∨u σ H R):=⟨fun pins s σ H R I q=>q.elim (h.run pins s σ H R I) (k.run pins s σ H R I)⟩
variable [Wrl] {K:PySem.W.Frag}
end
end Ev
namespace Ev
open PySem L2
variable [Wrl]
section
variable {X:Cx} {K:PySem.W.Frag}
end
end Ev
namespace Ev
open PySem L2 PySem.Spec PyProof.Rows
variable [Wrl]
section
variable {K:PySem.W.Frag} {W:WX} {Φ Z:Hp} {ρ:List Addr} {σ:L2.St} {H:Hp} {m:Mem} {X:Cx}
noncomputable def vF (F:FS):FS:=fun ts m=>if nlTs ts then match F ts [] with
 | .ok t _=>if nlT t then .ok t m else .no
 | .ex C ns vs _=>if nlTs vs then .ex C ns vs m else .no
 | .no=> .no else .no
theorem bAc {n:Nat} {F:FS} {vs:List V} {Q:VK} {E:XK} (h:spF K n (vF F) vs H Q E):spF K n F vs H Q E:=by
 obtain⟨Φ,Z,ρ,m,ts,r,rs,hl,p⟩:=h
 unfold vF at p
 split at p
 rotate_left
 ·exact p.elim
 rename_i hn
 obtain⟨Φ',r0,back⟩:=r.pure
 refine⟨Φ',Z,[],[],ts,r0,Reps.free hn rs,hl,?_⟩
 cases e:F ts [] with
 | no=>rw [e] at p; exact p
 | ok t m1=>
  rw [e] at p
  have p:Post K (fun c d _ H'=>E c d H') Φ Z ρ [] Q (if nlT t then .ok t m else .no):=p
  split at p
  rotate_left
  ·exact p.elim
  rename_i ht
  intro Z2 ρ2 H2 v e2 r2 rv
  exact p Z2 ρ H2 v ⟨e2.z,List.prefix_refl _⟩ (back _ _ _ _ e2.z r2) ((rv.free ht).mono (Same.refl _) (List.nil_prefix))
 | ex C ns us m1=>
  rw [e] at p
  have p:Post K (fun c d _ H'=>E c d H') Φ Z ρ [] Q (if nlTs us then .ex C ns us m else .no):=p
  split at p
  rotate_left
  ·exact p.elim
  rename_i ht
  intro Z2 ρ2 H2 d ws e2 r2 rv l1 l2
  exact p Z2 ρ H2 d ws ⟨e2.z,List.prefix_refl _⟩ (back _ _ _ _ e2.z r2) ((Reps.free ht rv).mono (Same.refl _) (List.nil_prefix)) l1 l2
theorem DefOk.pure {P:Program} {w:World} {mg:Str→Option Value} {base:Heap} {n k:Nat} {x:Str} {F:FS} (D:DefOk P w K mg base n k x F):DefOk P w K mg base n k x (vF F):=by
 obtain⟨f,fd,ps,hn,hF,h3,h4,h5⟩:=D.ok
 exact⟨f,fd,ps,hn,hF.imp fun vs H Q E h=>bAc h,h3,h4,h5⟩
noncomputable def gListN (mu:Bool):List T→Mem→Out T:=fun xs m=>match xs with
 | [y]=>match asN m y with
  | some (ks,_)=>mk mu ks m
  | none=> .no
 | _=> .no
noncomputable def bC9:List V→Hp→VK→Prop:=fun xs H Q=>∃(d:Addr) (es:List EnN),xs=[.ref d]∧Rd H d (rawN d es)∧∀ p,H p=none→Q (.ref p) (upd H p (.lst (es.map fun e=> .ref e.2.1)))
theorem aV9 {pins:List (Addr×Obj)} {s:Shared} {d:Addr} {es:List EnN} (hr:Here X) (I:Inv X pins σ H s) (h:Rd H d (rawN d es)):
  (d ==sysModules)=false∧es.length≤sizeLine∧∃(xs:List (NestedKey×Addr×Value)) (o:Obj) (ds:Array DictEntry) (ep:Nat),Paired EnP es xs∧s.heap.get? d=some o∧o.ExactDict∧o.data= .dict ds ep∧ds.toList=xs.map (entryOfKey (nestedKind X.prog X.w)):=by
 have q:ObjOk X.prog X.w H s.heap d (.ext (rawP d es)):=Rd.ok h I.hok
 obtain⟨hd,hl,nd,dp,xs,pr,o,ds,ep,ho,hx,hdat,hds⟩:=q.1
 rw [hr.p,hr.w] at hds
 exact⟨hd,hl,xs,o,ds,ep,pr,ho,hx,hdat,hds⟩
theorem refs_of:∀ {es:List EnN} {xs:List (NestedKey×Addr×Value)},Paired EnP es xs→Vals (es.map fun e=>V.ref e.2.1) (xs.map fun x=>Value.ref x.2.1)
 | _,_,.nil=> .nil
 | _,_,.cons r t=> .cons (by
  obtain⟨_,e,_⟩:=r
  show Value.ref _=Value.ref _
  rw [e]) (refs_of t)
theorem aOg (hr:Here X) (hc:X.calm=true):CallR X (.type "list") bC9:=by
 intro pins s σ H xs us Q I r h
 obtain⟨d,es,rfl,hd,q⟩:=h
 obtain⟨u,rfl,rx⟩:=vals1 r
 cases (show u=Value.ref d from rx)
 obtain⟨hs,hl,ks,o,ds,ep,pr,ho,hx,hdt,he⟩:=aV9 hr I hd
 have l1:ds.size=ks.length:=by rw [←Array.length_toList,he,List.length_map]
 have l2:es.length=ks.length:=pr.length
 refine PySem.W.kdl_call (kdl_raw hs hx hdt) (I.ok.hd hc) ho (by omega) fun h' tk acc' c' kp e it=>?_
 have ea:acc'.toList=ks.map fun x=>Value.ref x.2.1:=by
  apply List.ext_getElem?
  intro j
  rw [List.getElem?_map]
  cases hj:acc'.toList[j]? with
  | none=>
   have h1:=List.getElem?_eq_none_iff.mp hj
   have h2:acc'.toList.length=ks.length:=by rw [Array.length_toList,it.1]; exact l1
   rw [List.getElem?_eq_none (by omega)]
   all_goals rfl
  | some v=>
   obtain⟨en,hen,hv⟩:=it.2 j v (by rw [←Array.getElem?_toList]; exact hj)
   rw [←Array.getElem?_toList,he,List.getElem?_map] at hen
   obtain⟨x,h1,h2⟩:=Option.map_eq_some_iff.mp hen
   rw [h1,hv,←h2]
   all_goals rfl
 have rv:Vals (es.map fun e=>V.ref e.2.1) acc'.toList:=by rw [ea]; exact refs_of pr
 refine⟨.ref s.heap.objs.size,_,I.laid (t':=tk) (o:= .lst (es.map fun e=>V.ref e.2.1)) kp (Nat.le_refl _) ?_,rfl,q _ (I.hok.fresh (Nat.le_refl _))⟩
 exact⟨by rw [List.length_map]; exact hl,acc'.toList,c',rv,by rw [Array.toArray_toList]; exact e⟩
theorem aQi {mu:Bool}:SemL K (gListN mu) bC9:=by
 intro W Φ Z ρ σ H m Q xs vs r rs p
 unfold gListN at p
 split at p
 ·rename_i y
  split at p
  ·rename_i ks ts ht
   obtain⟨v,rfl,rv⟩:=jE rs
   obtain⟨a,es,rfl,q,_,rk,_⟩:=aPw r rv ht
   exact⟨a,es,rfl,q.1,fun l hp=>kB r rk p hp⟩
  ·exact p.elim
 ·exact p.elim
noncomputable def Itn (d:Addr) (o:Obj) (es:List EnN):It:=⟨fun i H=>H d=some (.frz o (rawN d es))∧i < es.length,fun i H v H'=>∃(T:Addr) (e:EnN),es[i]? =some e∧v= .ref T∧H T=none∧H'=upd H T (.tup [.ref e.2.1,e.2.2]),fun i H=>H d=some (.frz o (rawN d es))∧es.length≤i⟩
theorem aIf {pins:List (Addr×Obj)} {s:Shared} {d:Addr} {o:Obj} {es:List EnN} (hr:Here X) (I:Inv X pins σ H s) (h:H d=some (.frz o (rawN d es))):
  (d ==sysModules)=false∧es.length≤sizeLine∧s.heap.get? d=some o∧o.ExactDict∧∃(xs:List (NestedKey×Addr×Value)) (ds:Array DictEntry) (ep:Nat),Paired EnP es xs∧o.data= .dict ds ep∧ds.toList=xs.map (entryOfKey (nestedKind X.prog X.w)):=by
 obtain⟨hg,q,_⟩:=(show ObjOk X.prog X.w H s.heap d (.frz o (rawN d es)) from I.hok d _ h)
 obtain⟨hd,hl,xs,o',ds,ep,pr,ho,hx,hdat,hds⟩:=aV9 hr I (.inr ⟨o,h⟩)
 rw [hg] at ho
 cases ho
 exact⟨hd,hl,hg,hx,xs,ds,ep,pr,hdat,hds⟩
theorem bDw:∀ {es:List EnN} {xs:List (NestedKey×Addr×Value)} (_:Paired EnP es xs) {i:Nat} {e:EnN},es[i]? =some e→∃ x,xs[i]? =some x∧EnP e x
 | _,_,.nil,i,e,h=>by simp at h
 | _,_,.cons (b:=b) r t,0,e,h=>by
  rw [List.getElem?_cons_zero] at h
  cases h
  exact⟨b,rfl,r⟩
 | _,_,.cons r t,i+1,e,h=>by
  rw [List.getElem?_cons_succ] at h
  obtain⟨x,h1,h2⟩:=bDw t h
  exact⟨x,by rw [List.getElem?_cons_succ]; exact h1,h2⟩
theorem bF9 {P:Program} {w:World} {d:Addr} {o:Obj} {es:List EnN} {ds:Array DictEntry} {ep:Nat} {elts:List Expr} {kk:Nat} {tpos:Pos} (hP:Wrl.P=P) (hW:Wrl.w=w) (it:Addr) (hod:o.data= .dict ds ep):
  Turn P w K (.Tuple elts kk tpos) (Itn d o es) [it] it (fun i h=>∃ ok ov,IsItemIter h it d i ds.size ep ok ov) where
 mem:=by simp
 obj:=fun i h st b hb=>by
  have e:b=it:=by simpa using hb
  subst e
  obtain⟨ok,ov,g⟩:=st
  exact⟨_,g,fun v z=>(nomatch z)⟩
 keep:=fun i h h' st k=>let ⟨ok,ov,e⟩:=st; ⟨ok,ov,k it (by simp) _ e⟩
 item:=by
  intro X hP' hw hK hc i pins s σ H E I hf ⟨ok,ov,st⟩ ⟨hd,hi⟩
  subst hP' hw hK
  obtain⟨z,hl,hg,hx,xs,ds',ep',pr,hdt,hds⟩:=aIf ⟨hP,hW⟩ I hd
  rw [hod] at hdt
  cases hdt
  have hlt:it < s.heap.objs.size:=Heap.lt_size st
  have l1:ds.size=es.length:=by rw [←Array.length_toList,hds,List.length_map,pr.length]
  have hi':i < ds.size:=by omega
  obtain⟨x,hx1,ex1,ex2,ex3⟩:=bDw pr (List.getElem?_eq_getElem hi)
  have hen:ds[i]=entryOfKey (nestedKind X.prog X.w) x:=by
   have h1:ds[i]? =some ds[i]:=Array.getElem?_eq_getElem hi'
   rw [←Array.getElem?_toList,hds,List.getElem?_map,hx1] at h1
   exact(Option.some.inj h1).symm
  refine DT.nextI (es:=ds) st ⟨o,hg,hx,hod⟩ hi' fun h' ho hT hz hk=>⟨_,rfl,wpAny_letOwnedTupleGo_items (s:={s with heap:=h'}) ho fun h'' he' sb=>?_⟩
  have hT2:h''.get? s.heap.objs.size=some {cls:= .type "tuple",data:= .seq #[ds[i].key,ds[i].val]}:=(sb.2 _ (Nat.ne_of_gt hlt)).trans hT
  have rk:RelV (.ref es[i].2.1) ds[i].key:=by rw [hen,ex2]; rfl
  have rw_:RelV es[i].2.2 ds[i].val:=by rw [hen]; exact ex3
  have new:ObjOk X.prog X.w (upd H s.heap.objs.size (.tup [.ref es[i].2.1,es[i].2.2])) h'' s.heap.objs.size (.tup [.ref es[i].2.1,es[i].2.2]):=⟨by show 2≤sizeLine; decide,[ds[i].key,ds[i].val],.cons rk (.cons rw_ .nil),⟨_,hT2,rfl,_,rfl⟩⟩
  refine⟨.ref s.heap.objs.size,_,I.turnedNew (t':=s.toks) (ch:=[it]) (fun b ob hb e=>(sb.2 b (by simpa using hb)).trans (hk b ob (by simpa using hb) e)) hf (Nat.le_refl _) new,rfl,⟨_,es[i],List.getElem?_eq_getElem hi,rfl,I.hok.fresh (Nat.le_refl _),rfl⟩,⟨ds[i].key,ds[i].val,he'⟩,fun b hb=>?_⟩
  have e:b=it:=by simpa using hb
  rw [e,upd_ne (Nat.ne_of_lt hlt)]; exact(hf it (by simp)).1
 done:=by
  intro X hP' hw hK hc i pins s σ H E I hf ⟨ok,ov,st⟩ ⟨hd,hi⟩
  subst hP' hw hK
  obtain⟨g0,g1,g2,g3,g4,g5⟩:=hf it (by simp)
  obtain⟨z,hl,hg,hx,xs,ds',ep',pr,hdt,hds⟩:=aIf ⟨hP,hW⟩ I hd
  rw [hod] at hdt
  cases hdt
  have l1:ds.size=es.length:=by rw [←Array.length_toList,hds,List.length_map,pr.length]
  exact DT.endI (es:=ds) (I.ok.hd hc) st ⟨o,hg,hx,hod⟩ (by omega) fun h' eb=>⟨rfl,I.turned (t':=s.toks) (fun b ob hb e=>eb b ob hb e) g0 g1 g3 g4 g5⟩
 self:=fun A i s Q E st h=>let ⟨_,_,e⟩:=st; PySem.W.kcp_self e h
noncomputable def bBe (td:TE):TI:=fun σ H R=>td σ H fun v H1=>∃ d o es,v= .ref d∧H1 d=some (.frz o (rawN d es))∧R (Itn d o es) H1
theorem aYg (hr:Here X) {e:Expr} {td:TE} {apos cpos:Pos} {elts:List Expr} {kk:Nat} {tpos:Pos} (he:PE X e td) (hbase:attributeBase e "items" X.env (eval e X.env)=eval e X.env:=by rfl) (hline:(apos.endLine ==cpos.line)=true:=by rfl):
  PI X (.Tuple elts kk tpos) (.Call (.Attribute e "items" apos) [] [] cpos) (bBe td):=by
 refine⟨fun pins s σ H R I h=>wpAny_Call_method (T:="dict") (id:="dict.items") hbase rfl hline F.plainAttrs_dict F.slot_dict_items F.type_dict_items (thn (he.run pins s σ H _ I h) fun u s1 ⟨v,H1,I1,rx,d,o,es,ex,hd,q⟩=>?_)⟩
 subst ex
 cases (show u=Value.ref d from rx)
 obtain⟨z,hl,hg,hx,xs,ds,ep,pr,hdt,hds⟩:=aIf hr I1 hd
 have hm:DT.Raw s1.heap d ds ep:=⟨o,hg,hx,hdt⟩
 refine⟨hm.typeIs,(fun a e=>by cases e; exact⟨o,hg,hx.2.1⟩),?_⟩
 have I2:Inv X pins σ H1 {s1 with heap:=s1.heap.push {cls:= .type "dict_items",data:= .fields #[.ref d]}}:=I1.kept (t':=s1.toks) fun b ob q=>Heap.get?_push_of_some _ q
 have fin:wpAny (model X.prog X.w) X.A (pyIter (.ref s1.heap.objs.size)) (PIE X pins σ (.Tuple elts kk tpos) R) X.xe {s1 with heap:=s1.heap.push {cls:= .type "dict_items",data:= .fields #[.ref d]}}:=
  DT.iterI (es:=ds) (ep:=ep) (d:=d) ⟨_,Heap.get?_push_size _ rfl,rfl,rfl⟩ (hm.push _) (pi_one (tk:=s1.toks) I2 _ (bF9 hr.p hr.w _ hdt) ⟨.none,.none,Heap.get?_push_size _ rfl⟩ q)
 show wpAny _ _ (callWith cpos (.builtin "dict.items") [.ref d] [] []) _ X.xe s1
 exact method_meetsIn F.slot_dict_items F.entry_dict_items rfl (PySem.evalArgs_none ⟨rfl,hm.typeIs,F.args_dict_items_1 _,_,DT.meetsItems (es:=ds) (ep:=ep) z,⟨hm,fin⟩⟩)
noncomputable def aO6 (ks ts:List T):List T:=(ks.zip ts).map fun p=> .tup [p.1,p.2]
theorem wk_N {a:Addr} {o:Obj} {es:List EnN} {ks ts:List T} (h:Z a=some (.frz o (rawN a es))) (rk:Reps K Z ρ ks (es.map fun e=> .ref e.2.1)) (rs:Reps K Z ρ ts (es.map (·.2.2))):Wk K Z ρ (Itn a o es) (aO6 ks ts):=fun Φ Z1 ρ1 H m i e r=>by
 have q:=r.zin _ _ (e.z _ _ h)
 have l1:ks.length=es.length:=by rw [rk.length,List.length_map]
 have l2:ts.length=es.length:=by rw [rs.length,List.length_map]
 have hz:es.length=(aO6 ks ts).length:=by unfold aO6; rw [List.length_map,List.length_zip,l1,l2,Nat.min_self]
 refine⟨fun hi=>⟨q,by rw [hi,hz]; exact Nat.le_refl _⟩,fun t ht=>?_⟩
 have hi:=(List.getElem?_eq_some_iff.mp ht).1
 refine⟨⟨q,by rw [hz]; exact hi⟩,fun x H' ⟨p,en,h3,h4,h5,h6⟩=>?_⟩
 subst h4; subst h6
 unfold aO6 at ht
 rw [List.getElem?_map] at ht
 obtain⟨⟨k2,t2⟩,h7,rfl⟩:=Option.map_eq_some_iff.mp ht
 rw [List.getElem?_zip_eq_some] at h7
 obtain⟨v1,k1,k3⟩:=rk.get h7.1
 obtain⟨v2,k4,k5⟩:=rs.get h7.2
 rw [List.getElem?_map,h3] at k1 k4
 cases k1
 cases k4
 obtain⟨r',e'⟩:=r.allocZ h5 (.tup [.ref en.2.1,en.2.2])
 refine⟨_,e',r',?_⟩
 unfold Rep
 exact⟨p,_,rfl,.of upd_same,.cons (k3.ext (e.trans e')) (.cons (k5.ext (e.trans e')) .nil)⟩
noncomputable def aZ1 (f:EF):LF:=fun env m=>(f env m).bind fun t m1=>match t with
 | .dcn ks ts=> .ok (aO6 ks ts) m1
 | _=> .no
theorem aWf (hr:Here X) {e:Expr} {elts:List Expr} {kk:Nat} {tpos:Pos} {f:EF} {apos cpos:Pos} (h:SE X W e f) (hbase:attributeBase e "items" X.env (eval e X.env)=eval e X.env:=by rfl) (hline:(apos.endLine ==cpos.line)=true:=by rfl):SI X W (.Tuple elts kk tpos) (.Call (.Attribute e "items" apos) [] [] cpos) (aZ1 f):=by
 refine⟨_,aYg hr h.pe hbase hline,fun Φ Z ρ σ H env m R F p=>?_⟩
 refine tr_bind (P:=aIr X.K W Φ Z ρ σ R) F (fun t m1 Z1 ρ1 H1 v e0 e1 F1 r p1=>?_) (fun _ _ _ _ h=>h) (fun h=>h) p
 cases t with
 | dcn ks ts=>
  unfold Rep at r
  obtain⟨a,es,o,rfl,hn,q,r1,r2⟩:=r
  exact⟨a,o,es,rfl,F1.rel.zin _ _ q,p1 _ _ _ _ e1 F1.rel (wk_N q r1 r2)⟩
 | _=>exact(show False from p1).elim
noncomputable def jW (f:EF):LF:=fun env m=>match f env m with
 | .ok (.dcn ks ts) m1=> .ok (aO6 ks ts) m1
 | _=>aZ2 f env m
theorem vB (hr:Here X) {e:Expr} {elts:List Expr} {kk:Nat} {tpos:Pos} {f:EF} {apos cpos:Pos} (h:SE X W e f) (hbase:attributeBase e "items" X.env (eval e X.env)=eval e X.env:=by rfl) (hline:(apos.endLine ==cpos.line)=true:=by rfl):SI X W (.Tuple elts kk tpos) (.Call (.Attribute e "items" apos) [] [] cpos) (jW f):=by
 obtain⟨t1,k1,j1⟩:=aXo (elts:=elts) (kk:=kk) (tpos:=tpos) h hbase hline
 obtain⟨t2,k2,j2⟩:=aWf hr (elts:=elts) (kk:=kk) (tpos:=tpos) h hbase hline
 refine⟨_,bFp k1 k2,fun Φ Z ρ σ H env m R F p=>?_⟩
 unfold jW at p
 split at p
 ·rename_i k v m1 e1
  refine .inr (j2 Φ Z ρ σ H env m R F ?_)
  unfold aZ1
  rw [e1]
  exact p
 ·exact .inl (j1 Φ Z ρ σ H env m R F p)
noncomputable def aM4 (k:Key):List Key→List T→List Key×List T
 | j::ks,t::ts=>if aPd j k then aM4 k ks ts else let (a,b):=aM4 k ks ts; (j::a,t::b)
 | _,_=>([],[])
theorem aW0 {k:Key}:∀ {ks:List Key} {ts:List T} {vs:List V},ks.length=vs.length→Reps K Z ρ ts vs→∃ ws,dropK (ks.zip vs) k=(aM4 k ks ts).1.zip ws∧(aM4 k ks ts).1.length=ws.length∧Reps K Z ρ (aM4 k ks ts).2 ws
 | [],ts,vs,hl,rs=>⟨[],by unfold aM4; rfl,by unfold aM4; rfl,by unfold aM4; exact .nil⟩
 | j::ks,[],vs,hl,rs=>by unfold Reps at rs; subst rs; cases hl
 | j::ks,t::ts,vs,hl,rs=>by
  unfold Reps at rs
  obtain⟨v,us,rfl,r,rs⟩:=rs
  obtain⟨ws,h1,h2,h3⟩:=aW0 (k:=k) (ks:=ks) (by simpa using hl) rs
  unfold aM4
  unfold dropK at h1 ⊢
  rw [List.zip_cons_cons,List.filter_cons]
  by_cases hj:j=k
  ·rw [if_neg (by simp [hj]),if_pos (tX.mpr hj)]
   exact⟨ws,h1,h2,h3⟩
  ·rw [if_pos (by simp [hj]),if_neg fun z=>hj (tX.mp z),h1]
   exact⟨v::ws,rfl,by simp [h2],.cons r h3⟩
noncomputable def bGn:T→T→Mem→Out T:=fun x y m=>match cellD m x,keyT y with
 | some (n,ks,ts),some k=>match getT k ks ts with
  | some t=> .ok t (m.set n (some (.dct (aM4 k ks ts).1 (aM4 k ks ts).2)))
  | none=> .no
 | _,_=> .no
noncomputable def bGu (fo fe:EF):EF:=fun env m=>(fo env m).bind fun x m1=>if(cellD m1 x).isSome then(fe env m1).bind fun y m2=>bGn x y m2 else .no
theorem bDj {o e:Expr} {fo fe:EF} {apos cpos:Pos} (ho:SE X W o fo) (he:SE X W e fe) (m1:M1 X o "pop" apos e cpos:=by exact⟨rfl,rfl,rfl,rfl⟩):SE X W (.Call (.Attribute o "pop" apos) [e] [] cpos) (bGu fo fe):=by
 refine⟨xY (pe_dpop1 ho.pe he.pe m1) fun σ H Q ⟨Φ,Z,ρ,env,m,F,p⟩=>?_⟩
 refine tr_bind (P:=Post X.K W Φ Z ρ σ Q) F (fun x m1 Z1 ρ1 H1 vx _ e1 F1 rx p1=>?_) (fun _ _ _ _ h=>h) (fun h=>h) p
 split at p1
 rotate_left
 ·exact p1.elim
 rename_i hx
 obtain⟨⟨n0,js,us⟩,hx⟩:=Option.isSome_iff_exists.mp hx
 have hl:∃ n,x= .loc n:=by
  cases x with
  | loc n=>exact⟨n,rfl⟩
  | _=>cases hx
 obtain⟨n,rfl⟩:=hl
 have hxs:∃ a,vx= .ref a∧IsD H1 a:=by
  have rx:=rx
  unfold Rep at rx
  obtain⟨a,ha,rfl⟩:=rx
  unfold cellD at hx
  simp only at hx
  split at hx
  ·rename_i js' us' em
   obtain⟨_,ws,hH,hl,ru⟩:=F1.rel.mem n _ a em ha
   exact⟨a,rfl,.inl ⟨_,.inl hH⟩⟩
  ·cases hx
 obtain⟨a,rfl,hIs⟩:=hxs
 refine⟨a,rfl,hIs,?_⟩
 refine tr_bind (P:=Post X.K W Φ Z1 ρ1 σ Q) F1 (fun y m2 Z2 ρ2 H2 vy _ e2 F2 ry p2=>?_) (fun _ _ _ _ h=>h) (fun h=>h) (p1.ext e1)
 unfold bGn at p2
 split at p2
 rotate_left
 ·exact p2.elim
 rename_i n2 ks ts k hc2 hk
 split at p2
 rotate_left
 ·exact p2.elim
 rename_i t ht
 unfold cellD at hc2
 simp only at hc2
 split at hc2
 rotate_left
 ·cases hc2
 rename_i js' us' em
 cases hc2
 have rx2:=rx.ext e2
 unfold Rep at rx2
 obtain⟨b,hb,eb⟩:=rx2
 cases eb
 obtain⟨_,ws,hH,hl,ru⟩:=F2.rel.mem n _ a em hb
 obtain⟨v,h1,h2⟩:=(aTx (k:=k) hl ru).1 t ht
 obtain⟨zs,q1,q2,q3⟩:=aW0 (k:=k) hl ru
 refine⟨_,k,v,hH,aB8 ry hk,h1,?_⟩
 rw [q1]
 exact p2 _ _ _ _ e2 (F2.rel.write em hb (u:= .dct _ _) ⟨zs,rfl,q2,q3⟩) h2
theorem bB6 {k v:Expr} {tk tv:TE} {pos:Pos} (hr:Here X) (hu:X.A.units+20 < cLine) (hk:PE X k tk) (hv:PE X v tv):PE X (.Dict [some k] [v] pos) (fun σ H Q=>∀ p,H p=none→tk σ (upd H p (.dK [])) fun x H1=>tv σ H1 fun y H2=>H2 p=some (.dK [])∧
  ∃(a:Addr) (n:NestedKey),x= .ref a∧NIs X.K H2 n x∧n.depth≤8∧Q (.ref p) (upd H2 p (rawN p [(n,a,y)]))):=by
 refine⟨fun pins s σ H Q I q=>EvF1.aN0 ?_⟩
 have hn:=I.hok.fresh (Nat.le_refl s.heap.objs.size)
 have I1:=I.laid (a:=s.heap.objs.size) (o:= .dK []) (h':=s.heap.push {cls:= .type "dict",data:= .dict #[]}) (t':=s.toks) (fun _ _ q=>Heap.get?_push_of_some _ q) (Nat.le_refl _) (dk_empty s.heap I.big)
 refine thn (hk.run pins _ σ _ _ I1 (q _ hn)) fun u s1 ⟨x,H1,I2,rx,q1⟩=>thn (hv.run pins s1 σ H1 _ I2 q1) fun v s2 ⟨y,H2,I3,ry,e,hq⟩=>?_
 obtain⟨a,n,rfl,hn1,h8,hq⟩:=hq
 obtain⟨z,hd,vs0,r0,dd⟩:=dk_of I3.hok e
 cases r0
 obtain⟨o,es,ep,ho,hx',hd',hk',hp',_⟩:=dd
 have hes:es=#[]:=by
  have:=hp'.length
  rw [List.length_nil] at this
  exact Array.eq_empty_of_size_eq_zero (by rw [←Array.length_toList]; exact this)
 subst hes
 cases (show u=Value.ref a from rx)
 have hm:s2.heap.DictOfH (nestedKind X.prog X.w) s.heap.objs.size []:=⟨o,#[],ep,ho,hx',hd',rfl,(fun _ h=>nomatch h),List.nodup_nil⟩
 refine wpAny_dictSet_heap (knd:=nestedKind X.prog X.w) (k:=n) (show X.A.units+8 < cLine by omega) ⟨aH1 I3 n _ _ hn1 rfl,h8⟩ hm (fun h' hm' sb=>?_) (by simp)
 have e1:storedH ([]:List (NestedKey×Addr×Value)) n a v=[(n,a,v)]:=rfl
 rw [e1] at hm'
 obtain⟨ob,h1⟩:∃ ob,h'.get? s.heap.objs.size=some ob:=let ⟨ob,_,_,h1,_⟩:=hm'; ⟨ob,h1⟩
 refine⟨.ref s.heap.objs.size,_,?_,rfl,hq⟩
 exact d_write I3 (by rw [e]; exact True.intro) sb ⟨ob,h1⟩ (aR3 hr hd (by simp [sizeLine_eq]) (.cons ⟨rfl,rfl,ry⟩ .nil) hm')
noncomputable def aZf (fk fv:EF):EF:=fun env m=>(fk env m).bind fun x m1=>(fv env m1).bind fun y m2=>if aWr x then .ok (.loc m2.length) (m2++[some (.dcn [x] [y])]) else .no
theorem bAp {n:Nat} {k v:Expr} {fk fv:EF} {pos:Pos} (c:Cok X W n) (hk:SE X W k fk) (hv:SE X W v fv):SE X W (.Dict [some k] [v] pos) (aZf fk fv):=by
 have hu:X.A.units+20 < cLine:=c.huN
 refine⟨xY (bB6 (pos:=pos) c.here hu hk.pe hv.pe) fun σ H Q ⟨Φ,Z,ρ,env,m,F,p⟩ D hD=>?_⟩
 have hΦ:Φ D=none:=by
  cases e:Φ D with
  | none=>rfl
  | some o=>have:=(F.rel.fin D o e).1; rw [hD] at this; cases this
 have hΨ:∀ c u,Φ c=some u→(upd Φ D (.dK [])) c=some u∧c≠D:=fun c u e=>by
  have hc:c≠D:=fun z=>by subst z; rw [hΦ] at e; cases e
  exact⟨by rw [upd_ne hc]; exact e,hc⟩
 have F1:Fits X.K (upd Φ D (.dK [])) Z ρ σ (upd H D (.dK [])) env m:=⟨F.rel.aside hD _,F.env⟩
 have less:∀ {Z':Hp} {ρ':List Addr} {H':Hp} {m':Mem},Rel X.K (upd Φ D (.dK [])) Z' ρ' H' m'→Rel X.K Φ Z' ρ' H' m':=fun r=>r.less fun a o q=>(hΨ a o q).1
 unfold aZf at p
 refine⟨_,Z,ρ,env,m,F1,?_⟩
 cases e1:fk env m with
 | no=>rw [e1] at p; exact p
 | ex C ns vs m1=>
  rw [e1] at p
  exact fun Z' ρ' H' d us ee r rs l1 l2=>p Z' ρ' H' d us ee (less r) rs l1 l2
 | ok x m1=>
  rw [e1] at p
  simp only [Out.bind] at p
  intro Z1 ρ1 H1 vx ee1 r1 rx
  refine⟨_,Z1,ρ1,env,m1,⟨r1,F.env.ext ee1⟩,?_⟩
  cases e2:fv env m1 with
  | no=>rw [e2] at p; exact p
  | ex C ns vs m2=>
   rw [e2] at p
   exact fun Z' ρ' H' d us ee r rs l1 l2=>p Z' ρ' H' d us (ee1.trans ee) (less r) rs l1 l2
  | ok y m2=>
   rw [e2] at p
   simp only at p
   intro Z2 ρ2 H2 vy ee2 r2 ry
   refine⟨(r2.fin D _ upd_same).1,?_⟩
   have rx2:=rx.ext ee2
   split at p
   ·rename_i hk0
    obtain⟨nk,h1,h2,h3⟩:=aKo hk0
    obtain⟨a,rfl⟩:=aKw h2 rx
    refine⟨a,nk,rfl,(aG3 h1 rx2).mono r2.same,h3,?_⟩
    have r3:=r2.aside_set (u:=rawN D [(nk,a,vy)]) (p:=D) upd_same
    rw [upd_upd] at r3
    have rk:toNKs [x]=some [nk]:=by unfold toNKs; rw [h1]; rfl
    obtain⟨r4,e4⟩:=r3.backC (Ψ:=Φ) (u:= .dcn [x] [y]) upd_same (fun c u e=>⟨by rw [upd_ne (hΨ c u e).2]; exact e,(hΨ c u e).2⟩) ⟨[(nk,a,vy)],rfl,rk,.cons rx2 .nil,.cons ry .nil⟩
    refine p _ _ _ _ ((ee1.trans ee2).trans e4) r4 ?_
    unfold Rep
    exact⟨D,by rw [←r2.len]; simp,rfl⟩
   ·exact p.elim
noncomputable def aZy:Nat→Hp→(Hp→Prop)→Prop
 | 0,H,R=>R H
 | n+1,H,R=>∃(a:Addr) (u:HO),H a=some u∧Mut (some u)∧∀ od,aZy n (upd H a (.frz od u)) R
theorem aRb {pins:List (Addr×Obj)} {s:Shared} {R:Hp→Prop}:∀ {n:Nat} {H:Hp},Inv X pins σ H s→aZy n H R→∃ H',Inv X pins σ H' s∧R H'
 | 0,H,I,h=>⟨H,I,h⟩
 | n+1,H,I,h=>by
  unfold aZy at h
  obtain⟨a,u,ea,mu,q⟩:=h
  obtain⟨od,I2⟩:=I.lock ea mu
  exact aRb I2 (q od)
theorem bB5 {e:Expr} {t:TE} (h:PE X e t):PE X e (fun σ H Q=>t σ H fun v H1=>∃ n,aZy n H1 (Q v)):=by
 refine⟨fun pins s σ H Q I hw=>?_⟩
 refine thn (h.run pins s σ _ _ I hw) fun v s1 ⟨x,H1,I1,r,n,q⟩=>?_
 obtain⟨H2,I2,q2⟩:=aRb I1 q
 exact⟨x,H2,I2,r,q2⟩
noncomputable def aX1:List T→Mem→Option (List T×Mem)
 | [],m=>some ([],m)
 | .loc n::ts,m=>match m[n]? with
  | some (some (.dcn ks us))=>match aX1 ts (m.set n none) with
   | some (ws,m2)=>some (.dcn ks us::ws,m2)
   | none=>none
  | _=>none
 | _::_,_=>none
theorem aS5 {R:Hp→Prop}:∀ {ts us:List T} {vs:List V} {Z:Hp} {ρ:List Addr} {H:Hp} {m m2:Mem},Rel K Φ Z ρ H m→Reps K Z ρ ts vs→aX1 ts m=some (us,m2)→(∀ Z' H',Ext Z Z' ρ ρ→Rel K Φ Z' ρ H' m2→Reps K Z' ρ us vs→R H')→aZy ts.length H R
 | [],us,vs,Z,ρ,H,m,m2,r,rs,h,q=>by
  unfold aX1 at h
  cases h
  exact q Z H Ext.refl r rs
 | t::ts,us,vs,Z,ρ,H,m,m2,r,rs,h,q=>by
  cases t with
  | loc n=>
   unfold aX1 at h
   split at h
   rotate_left
   ·cases h
   rename_i ks ws em
   split at h
   rotate_left
   ·cases h
   rename_i xs m3 hd
   cases h
   unfold Reps at rs
   obtain⟨v,vs',rfl,rv,rs⟩:=rs
   unfold Rep at rv
   obtain⟨a,ha,rfl⟩:=rv
   obtain⟨hz,es,hH,hk,rk,ru⟩:=r.mem n _ a em ha
   refine⟨a,rawN a es,hH,True.intro,fun od=>?_⟩
   obtain⟨r2,e3⟩:=r.lockC em ha (.frz od (rawN a es))
   refine aS5 r2 (rs.ext e3) hd fun Z' H' e4 r4 rs4=>q Z' H' (e3.trans e4) r4 (.cons ?_ rs4)
   unfold Rep
   exact⟨a,es,od,rfl,hk,e4.z _ _ upd_same,(rk.ext e3).ext e4,(ru.ext e3).ext e4⟩
  | _=>unfold aX1 at h; cases h
noncomputable def bGw (f:EF):EF:=fun env m=>(f env m).bind fun t m1=>match t with
 | .dct ks ts=>match aX1 ts m1 with
  | some (us,m2)=> .ok (.dct ks us) m2
  | none=> .no
 | _=> .no
theorem bDo {e:Expr} {f:EF} (h:SE X W e f):SE X W e (bGw f):=by
 refine⟨xY (bB5 h.pe) fun σ H Q ⟨Φ,Z,ρ,env,m,F,p⟩=>?_⟩
 refine tr_bind (P:=Post X.K W Φ Z ρ σ Q) F (fun x m1 Z1 ρ1 H1 vx _ e1 F1 rx p1=>?_) (fun _ _ _ _ h=>h) (fun h=>h) p
 cases x with
 | dct ks ts=>
  simp only at p1
  split at p1
  rotate_left
  ·exact p1.elim
  rename_i us m2 hd
  unfold Rep at rx
  obtain⟨a,vs,o,rfl,ea,hl,rs⟩:=rx
  refine⟨_,aS5 F1.rel rs hd fun Z' H' e2 r2 rs2=>p1 _ _ _ _ (e1.trans e2) r2 ?_⟩
  unfold Rep
  exact⟨a,vs,o,rfl,e2.z _ _ ea,hl,rs2⟩
 | _=>exact(show False from p1).elim
end
end Ev
namespace Ev
open PySem L2 PySem.Spec PyProof.Rows
variable [Wrl]
section
variable {K:PySem.W.Frag} {W:WX} {Φ Z:Hp} {ρ:List Addr} {σ:L2.St} {H:Hp} {m:Mem} {X:Cx}
noncomputable def gMinB:List T→Mem→Out T:=fun xs m=>match xs with
 | [.int i,.int j]=> .ok (.int (if j < i then j else i)) m
 | ys=>gMin ys m
noncomputable def gMaxB:List T→Mem→Out T:=fun xs m=>match xs with
 | [.int i,.int j]=> .ok (.int (if i < j then j else i)) m
 | ys=>gMax ys m
theorem aUz:SemL K gMinB (fun xs H Q=>(∃ i j,xs=[.int i,.int j]∧Q (.int (if j < i then j else i)) H)∨rMin K xs H Q):=by
 intro W Φ Z ρ σ H m Q xs vs r rs p
 unfold gMinB at p
 split at p
 ·rename_i i j
  obtain⟨v,us,rfl,rv,ru⟩:=(by unfold Reps at rs; exact rs:∃ v us,vs=v::us∧Rep K Z ρ (.int i) v∧Reps K Z ρ [.int j] us)
  obtain⟨u,rfl,rw⟩:=jE ru
  unfold Rep at rv rw
  subst rv rw
  exact .inl ⟨i,j,rfl,yP r wW p⟩
 ·exact .inr (bDb W Φ Z ρ σ H m Q _ vs r rs p)
theorem aV0:SemL K gMaxB (fun xs H Q=>(∃ i j,xs=[.int i,.int j]∧Q (.int (if i < j then j else i)) H)∨rMax K xs H Q):=by
 intro W Φ Z ρ σ H m Q xs vs r rs p
 unfold gMaxB at p
 split at p
 ·rename_i i j
  obtain⟨v,us,rfl,rv,ru⟩:=(by unfold Reps at rs; exact rs:∃ v us,vs=v::us∧Rep K Z ρ (.int i) v∧Reps K Z ρ [.int j] us)
  obtain⟨u,rfl,rw⟩:=jE ru
  unfold Rep at rv rw
  subst rv rw
  exact .inl ⟨i,j,rfl,yP r wW p⟩
 ·exact .inr (bDc W Φ Z ρ σ H m Q _ vs r rs p)
end
end Ev
namespace Ev
open PySem L2
variable [Wrl]
section
variable {X:Cx} {W:WX}
end
end Ev
namespace EvE1
open PySem PySem.W PySem.Spec PyProof PyProof.Rows L2
noncomputable def aIc (p:Pos):Arguments:={posonlyargs:=[],args:=[{arg:="row",annotation:=none,pos:=p}],vararg:=none,kwonlyargs:=[],kw_defaults:=[],kwarg:=none,defaults:=[]}
noncomputable def qX:Scope:={kind:= .function,names:=[("row",.local)],isGenerator:=false,isCoroutine:=false,more:=[]}
noncomputable def aG2 (p1 p2 p3:Pos):Expr:= .Subscript (.Name "row" p1) (.Constant (.int 0) 0 p2) p3
section
variable {prog:Program} {w:World} {A:Around} {E:Value→Shared→Prop} {s:Shared}
theorem aZn {f c' t:Addr} {qual:Str} {pm ctv:Value} {p p1 p2 p3:Pos} {items:Array Value} {i:Int} {tk:Tok} {Q:Value→Shared→Prop} (hd:A.depth < recursionLimit) (lim:s.heap.NoLimit)
  (hf:s.heap.get? f=some (kla_obj "<lambda>" qual (aIc p) (aG2 p1 p2 p3) qX [] pm c' ctv)) (hc:s.heap.CodeRec (.ref c') qual) (ht:IsTup s.heap t items) (h0:items[0]? =some (.int i tk))
  (hQ:∀ h' tk',(∀ b o,s.heap.get? b=some o→h'.get? b=some o)→s.toks≤tk'→Q (.int i tk) {s with heap:=h',toks:=tk'}):wpAny (model prog w) A (call (.ref f) [.ref t]) Q E s:=by
 refine wpAny_call (kla_callFunE hd hf rfl rfl rfl rfl hc ?_)
 have hb:bindArgs (kla_fn "<lambda>" qual (aIc p) (aG2 p1 p2 p3) qX [] pm (.ref c') ctv) ⟨[.ref t],[]⟩=pure [(("row":Str),Value.ref t)]:=rfl
 rw [hb]
 refine wpAny_pure (wpAny_newFunctionEnv (fun x hx=>?_) (fun x hx=>?_) (fun h₁ hns hsb=>⟨lim.fresh _ hsb,?_⟩) rfl)
 ·obtain rfl:x=(("row":Str),NameKind.local):=by simpa [qX] using hx
  exact fun z=>nomatch z
 ·obtain rfl:x=(("row":Str),Value.ref t):=by simpa using hx
  rfl
 have kp:∀ b o,s.heap.get? b=some o→h₁.get? b=some o:=fun b o e=>hsb.extBut b o (Nat.ne_of_lt (Heap.lt_size e)) (Heap.get?_push_of_some _ e)
 show codeAny _ _ (.expr (aG2 p1 p2 p3) (envX qual qX s.heap.objs.size f (.ref c') [])) _ _
 refine kla_codeExpr ?_
 show wpAny _ _ (eval (.Subscript (.Name "row" p1) (.Constant (.int 0) 0 p2) p3) (envX qual qX s.heap.objs.size f (.ref c') [])) _ _ _
 refine Subscript_ (wpAny_Name (wpAny_loadName_local rfl rfl hns (v:= .ref t) rfl ?_))
 refine wpAny_Constant_int ?_
 obtain⟨o,e1,e2⟩:=ht
 have ht1:IsTup h₁ t items:=⟨o,kp _ _ e1,e2⟩
 have hsz:0 < items.size:=(Array.getElem?_eq_some_iff.mp h0).1
 refine subscriptTail_builtinR (x:= .int i tk) (IsTup.typeIs (s:={s with heap:=h₁,toks:=_}) ht1) slot_tuple_getitem.lookup (getItem_tuple (j:=0) ht1 (by decide) (by decide) ?_ h0 ⟨rfl,hQ _ _ kp (show s.toks≤s.toks+1+1 by omega)⟩) rfl
 unfold seqIndex?
 simp [hsz]
theorem aZo {f c' l:Addr} {qual:Str} {pm ctv:Value} {p p1 p2 p3:Pos} {vs:List Value} {kf:Nat→Int} {Q:Value→Shared→Prop} (hh:A.in1.handled=none) (hd:A.in1.depth < recursionLimit) (lim:s.heap.NoLimit)
  (hf:s.heap.get? f=some (kla_obj "<lambda>" qual (aIc p) (aG2 p1 p2 p3) qX [] pm c' ctv)) (hc:s.heap.CodeRec (.ref c') qual) (hl:s.heap.IsList l vs.toArray) (hn:0 < vs.length)
  (hr:∀(i:Nat) v,vs[i]? =some v→∃(t:Addr) (items:Array Value) (tk:Tok),v= .ref t∧IsTup s.heap t items∧items[0]? =some (.int (kf i) tk))
  (hQ:∀ v h' tk',vs[argBest (fun i j=>decide (kf i < kf j)) (vs.length - 1)]? =some v→(∀ b o,s.heap.get? b=some o→h'.get? b=some o)→Q v {s with heap:=h',toks:=tk'}):
  wpAny (model prog w) A (call (.builtin "min") [.ref l] [(Str.ofString "key",.ref f)]) Q E s:=by
 refine call_min_walkK (wpAny_pyIter_list hl ?_)
 have hls:l≠s.heap.objs.size:=Nat.ne_of_lt (let ⟨_,ho,_⟩:=hl; Heap.lt_size ho)
 have W:=(Walks.list (prog:=prog) (w:=w) (A:=A.in1) hh s.heap.objs.size l hls vs.toArray).toS
 have keepC:∀ {h':Heap},(∀ b o,s.heap.get? b=some o→h'.get? b=some o)→h'.CodeRec (.ref c') qual:=fun {h'} k=>by
  obtain⟨c,oc,us,tq,a1,a2,a3,a4⟩:=hc
  exact⟨c,oc,us,tq,a1,k _ _ a2,a3,a4⟩
 have keepL:∀ {h':Heap},(∀ b o,s.heap.get? b=some o→h'.get? b=some o)→h'.NoLimit:=fun {h'} k=>lim.keeps k
 refine⟨_,_,_,_,_,_,_,fun s2=>∃ h' tk',s2={s with heap:=h',toks:=tk'}∧∀ b o,s.heap.get? b=some o→h'.get? b=some o,fun i k _=>∃ t,k= .int (kf i) t,fun i j=>decide (kf i < kf j),rfl,W,⟨?_,?_⟩,?_,?_,⟨?_,?_,?_,?_⟩,?_,?_⟩
 ·exact⟨_,Heap.get?_push_size _ rfl,rfl,rfl⟩
 ·exact let ⟨o,ho,r⟩:=hl; ⟨o,Heap.get?_push_of_some _ ho,r⟩
 ·intro b hb
  show b < (s.heap.push _).objs.size
  rw [Heap.size_push]
  rcases List.mem_cons.mp hb with e | e
  ·exact Nat.lt_succ_of_le (Nat.le_of_eq e)
  ·have e:b=l:=by simpa using e
   rw [e]
   exact Nat.lt_succ_of_lt (let ⟨_,ho,_⟩:=hl; Heap.lt_size ho)
 ·rw [List.size_toArray]; exact hn
 ·rintro s1 s2 ⟨h1,t1,rfl,k1⟩ mv
  refine⟨s2.heap,s2.toks,?_,fun b o e=>mv.heap b o (fun z=>?_) (k1 b o e)⟩
  ·obtain⟨a,b,c,d,e⟩:=s2
   have e1:b=s.gens:=mv.gens
   have e2:c=s.drawn:=mv.drawn
   have e3:e=s.os:=mv.os
   subst e1 e2 e3
   rfl
  ·have hb:=Heap.lt_size e
   rcases List.mem_cons.mp z with z | z
   ·have z2:b=s.heap.objs.size+1:=z.trans (Heap.size_push _ _)
    exact absurd hb (by rw [z2]; exact Nat.not_lt.mpr (Nat.le_succ _))
   ·have z:b=s.heap.objs.size:=by simpa using z
    exact absurd hb (by rw [z]; exact Nat.lt_irrefl _)
 ·rintro i k s1 s2 h _
  exact h
 ·rintro i v s1 o Q' E' hi hv ⟨h1,t1,rfl,k1⟩ hst hS k
  obtain⟨t,items,tk,rfl,ht,h0⟩:=hr i v (by simpa using hv)
  refine aZn hd (keepL k1) (k1 _ _ hf) (keepC k1) (ht.keeps k1) h0 fun h' tk' k2 htk=>?_
  exact k _ _ ⟨h',tk',rfl,fun b o e=>k2 b o (k1 b o e)⟩ (W.frame (i+1) {s with heap:=h1,toks:=t1} h' tk' hst htk fun b _ o e=>k2 b o e) (k2 _ _ hS) ⟨tk,rfl⟩ fun j k' h=>h
 ·rintro i j ki kj s1 Q' E' _ ⟨ti,rfl⟩ ⟨tj,rfl⟩ q
  exact CmpOf.ints_lt (prog:=prog) (w:=w) (A:=A.in1) (P:=fun i v=>∃ t,v= .int (kf i) t) kf (fun i v h=>h) i j _ _ _ _ _ ⟨ti,rfl⟩ ⟨tj,rfl⟩ q
 ·exact⟨_,s.toks,rfl,fun b o e=>Heap.get?_push_of_some _ e⟩
 ·rintro v s1 hv ⟨h1,t1,rfl,k1⟩
  exact hQ v h1 t1 (by simpa using hv) k1
end
end EvE1
namespace Ev
open PySem PySem.W PySem.Spec PyProof PyProof.Rows L2
section
variable {X:Cx} {pins:List (Addr×Obj)} {σ:L2.St} {H:Hp} {s:Shared}
structure LamAt (X:Cx) (c P:Addr):Prop where
 tb:LamX.TabB X.base X.mg c P
 code:X.env.code= .ref c
noncomputable def aQ5 (H H1:Hp) (P c':Addr) (q:Str):Prop:=H1=H∨∃(ps more:Array Value),H P=some (.tbl ps)∧H c'=none∧H1=upd (upd H P (.tbl (ps++more))) c' (LamX.CodeO c' q)∧TriplesOk (ps++more).toList∧∀ pos cv,codeAmong pos (ps++more).toList=some cv→codeAmong pos ps.toList=some cv∨cv= .ref c'
theorem bBc {c P:Addr} {params:Arguments} {body:Expr} {scope:Scope} {pos:Pos} {ps:Array Value} {E:Value→Shared→Prop} {Q:Value→Shared→Prop} (I:Inv X pins σ H s) (L:LamAt X c P) (hP:H P=some (.tbl ps)) (tri:TriplesOk ps.toList)
  (alls:∀(p':Pos) (cv:Value),codeAmong p' ps.toList=some cv→∃ c0,cv= .ref c0∧H c0=some (LamX.CodeO c0 (X.env.qual++"<lambda>"))) (hdef:defaultsOf params X.env=([],[])) (hn:∀ y∈scope.names,y.2≠ .free)
  (k:∀(f c':Addr) (pm ctv:Value) (H1:Hp) (s':Shared),Inv X pins σ H1 s'→aQ5 H H1 P c' (X.env.qual++"<lambda>")→
   s'.heap.get? f=some (kla_obj "<lambda>" (X.env.qual++"<lambda>") params body scope (cloFrom X.env.cells scope.names []) pm c' ctv)→H1 c'=some (LamX.CodeO c' (X.env.qual++"<lambda>"))→Q (.ref f) s'):
  wpAny (model X.prog X.w) X.A (eval (.Lambda params body scope pos) X.env) Q E s:=by
 have bt:s.heap.BuiltinsAt X.mg P:=L.tb.bm.keeps I.bk
 have gt:s.heap.get? P=some {cls:= .none,data:= .fields ps}:=I.hok P _ hP
 have hd:s.heap.Ns mainGlobals X.mg:=I.mod.glob.keeps I.bk
 have cl:closureFor scope X.env=pure (cloFrom X.env.cells scope.names []):=closure_ok fun y hy e=>absurd e (hn y hy)
 refine kla_eval hdef ?_
 cases hc:codeAmong pos ps.toList with
 | some cv=>
  obtain⟨c',rfl,hco⟩:=alls pos cv hc
  refine kla_makeFunctionHit (mg:=X.mg) (c:=c) (P:=P) (ps:=ps) cl I.ok.glob hd L.code (L.tb.code.keeps I.bk) gt tri hc bt fun ctv h' tk kp hs=>?_
  refine k h'.objs.size c' ((X.mg "__name__").getD .none) ctv H _ (I.kept fun b o e=>Heap.get?_push_of_some _ (kp b o e)) (.inl rfl) (Heap.get?_push_size _ rfl) hco
 | none=>
  refine kla_makeFunction (mg:=X.mg) (c:=c) (P:=P) (ps:=ps) cl I.ok.glob hd L.code (L.tb.code.keeps I.bk) gt tri hc L.tb.gP bt fun c' ctv h' tk kp hge hlt hrec htb=>?_
  obtain⟨c2,oc,us,t,e2,hoc,hdc,hv⟩:=hrec
  cases e2
  have nC:H c'=none:=I.hok.fresh hge
  have J:=LamX.inv_table (t':=tk) (q:=X.env.qual++"<lambda>") (more:=#[rawInt pos.line,rawInt pos.col,.ref c'])
   (h':=h'.push (kla_obj "<lambda>" (X.env.qual++"<lambda>") params body scope (cloFrom X.env.cells scope.names []) ((X.mg "__name__").getD .none) c' ctv)) I hP
   (fun b o hb e=>Heap.get?_push_of_some _ (kp b o hb e)) (Heap.get?_push_of_some _ htb) hge ⟨oc,us,t,Heap.get?_push_of_some _ hoc,hdc,hv⟩
  have el:(ps++#[rawInt pos.line,rawInt pos.col,.ref c']).toList=ps.toList++[rawInt pos.line,rawInt pos.col,.ref c']:=by simp
  refine k h'.objs.size c' ((X.mg "__name__").getD .none) ctv _ _ J (.inr ⟨ps,_,hP,nC,rfl,by rw [el]; exact TriplesOk_snoc _ _ _ _ tri,fun p' cv q=>?_⟩) (Heap.get?_push_size _ rfl) upd_same
  rw [el] at q
  exact LamX.among_app _ tri q
end
section
variable [Wrl]
variable {K:PySem.W.Frag} {W:WX} {Φ Z:Hp} {ρ:List Addr} {σ:L2.St} {H:Hp} {m:Mem} {X:Cx}
theorem Rel.grown (r:Rel K Φ Z ρ H m) {H1:Hp} {P c':Addr} {q:Str} (hp:(P,q)∈Wrl.tabs) (hu:∀ p∈Wrl.tabs,p.1=P→p.2=q) (g:aQ5 H H1 P c' q):∃ Z1,Ext Z Z1 ρ ρ∧Rel K Φ Z1 ρ H1 m∧∀ a o,H a=some o→a≠P→H1 a=some o:=by
 rcases g with rfl | ⟨ps,more,hP,hc,rfl,tri,al⟩
 ·exact⟨Z,Ext.refl,r,fun a o e _=>e⟩
 obtain⟨⟨ps',t1,t2,t3⟩,t4,t5,t6⟩:=r.tab _ hp
 have nPc:P≠c':=ne_of_none hP hc
 obtain⟨r2,e2⟩:=r.allocZ hc (LamX.CodeO c' q)
 have at_:∀ b,b≠P→upd (upd H P (.tbl (ps++more))) c' (LamX.CodeO c' q) b=upd H c' (LamX.CodeO c' q) b:=fun b hb=>by
  by_cases h:b=c'
  ·rw [h,upd_same,upd_same]
  ·rw [upd_ne h,upd_ne h,upd_ne hb]
 have zP:(upd Z c' (LamX.CodeO c' q)) P=none:=by rw [upd_ne nPc]; exact t4
 refine⟨_,e2,⟨fun a o e=>?_,fun a o e=>?_,r2.len,r2.nd,fun a ha=>?_,fun i o a h1 h2=>?_,fun p hp'=>?_⟩,fun a o e n=>?_⟩
 ·have n:a≠P:=fun z=>by rw [z,zP] at e; cases e
  rw [at_ a n]; exact r2.zin a o e
 ·obtain⟨h1,h2,h3⟩:=r2.fin a o e
  have n:a≠P:=fun z=>by rw [z] at e; rw [t5] at e; cases e
  rw [at_ a n]; exact⟨h1,h2,h3⟩
 ·have n:a≠P:=fun z=>t6 (z▸ha)
  rw [at_ a n]; exact r2.trk a ha
 ·have n:a≠P:=fun z=>t6 (z▸List.mem_of_getElem? h2)
  rw [at_ a n]; exact r2.mem i o a h1 h2
 ·obtain⟨⟨ps2,u1,u2,u3⟩,u4,u5,u6⟩:=r2.tab p hp'
  refine⟨?_,u4,u5,u6⟩
  by_cases n:p.1=P
  ·have eq:=hu p hp' n
   rw [n,eq]
   refine⟨ps++more,by rw [upd_ne nPc,upd_same],tri,fun pos cv hcv=>?_⟩
   rcases al pos cv hcv with h | h
   ·rw [hP] at t1
    cases t1
    obtain⟨c0,e1,e3⟩:=t3 pos cv h
    exact⟨c0,e1,e2.z _ _ e3⟩
   ·exact⟨c',h,upd_same⟩
  ·exact⟨ps2,by rw [at_ _ n]; exact u1,u2,u3⟩
 ·rw [at_ a n,upd_ne (ne_of_none e hc)]; exact e
theorem aQ5.sql {H H1:Hp} {P c' l:Addr} {q:Str} {xs:List V} {ps:Array Value} (g:∀ a o,H a=some o→a≠P→H1 a=some o) (hP:H P=some (.tbl ps)) (h:SqL K H l xs):SqL K H1 l xs:=by
 rcases h with (h | ⟨o,h⟩) | h
 ·exact .inl (.inl (g _ _ h fun z=>by rw [z,hP] at h; cases h))
 ·exact .inl (.inr ⟨o,g _ _ h fun z=>by rw [z,hP] at h; cases h⟩)
 ·exact .inr h
theorem aQ5.sqt {H H1:Hp} {P c' l:Addr} {q:Str} {xs:List V} {ps:Array Value} (g:∀ a o,H a=some o→a≠P→H1 a=some o) (hP:H P=some (.tbl ps)) (h:SqT K H l xs):SqT K H1 l xs:=by
 rcases h with (h | ⟨o,h⟩) | h
 ·exact .inl (.inl (g _ _ h fun z=>by rw [z,hP] at h; cases h))
 ·exact .inl (.inr ⟨o,g _ _ h fun z=>by rw [z,hP] at h; cases h⟩)
 ·exact .inr h
theorem aQ5.at_ {H H1:Hp} {P c':Addr} {q:Str} (g:aQ5 H H1 P c' q):∀ a o,H a=some o→a≠P→H1 a=some o:=by
 rcases g with rfl | ⟨ps,more,hP,hc,rfl,_,_⟩
 ·exact fun a o e _=>e
 ·intro a o e n
  rw [upd_ne (ne_of_none e hc),upd_ne n]; exact e
noncomputable def bF4 (X:Cx) (P:Addr) (Q:VK) (v:V) (H1:Hp):Prop:=∃(ps:Array Value) (l:Addr) (xs:List V) (kf:Nat→Int),H1 P=some (.tbl ps)∧TriplesOk ps.toList∧
   (∀(p':Pos) (cv:Value),codeAmong p' ps.toList=some cv→∃ c0,cv= .ref c0∧H1 c0=some (LamX.CodeO c0 (X.env.qual++"<lambda>")))∧v= .ref l∧SqL X.K H1 l xs∧0 < xs.length∧(∀ i x,xs[i]? =some x→∃ a ys,x= .ref a∧SqT X.K H1 a ys∧ys[0]? =some (.int (kf i)))∧
   ∀ x H2 c',xs[argBest (fun i j=>decide (kf i < kf j)) (xs.length - 1)]? =some x→aQ5 H1 H2 P c' (X.env.qual++"<lambda>")→Q x H2
noncomputable def bGd (X:Cx) (P:Addr) (Q:VK) (vs:List V) (H1:Hp):Prop:=match vs with
 | [v]=>bF4 X P Q v H1
 | _=>False
open EvE1 in
theorem bE1 {e:Expr} {te:TE} {p pos kp lp pa p1 p2 p3:Pos} {c P:Addr} (hc:X.calm=true) (hd:X.A.depth < recursionLimit) (he:PE X e te) (hg:Gl X "min") (hm:X.mg "min"=none) (L:LamAt X c P) (hbk:backTo pos (starEach [e] X.env)=(false,eval e X.env)::backTo pos (starEach [] X.env):=by rfl) (hpl:(backTo pos (starEach [e] X.env)).any (·.1)=false:=by rfl) (hs:starEach [e] X.env=(false,eval e X.env)::starEach [] X.env:=by rfl):
  PE X (.Call (.Name "min" p) [e] [⟨some "key",.Lambda (aIc pa) (aG2 p1 p2 p3) qX lp,kp⟩] pos) (fun σ H Q=>te σ H (bF4 X P Q)):=by
 refine⟨fun pins s σ H Q I h=>?_⟩
 refine wpAny_Call_Name_kw (ld_blt I hg hm (u:= .builtin "min") (by decide+kernel) ?_ (by decide) (by decide))
 refine PyProof.Rows.callWith_kw (thn ((pa_cons he pa_nil hs).run pos pins s σ H (bGd X P Q) I h) fun us s1 ⟨vs,H1,I1,r1,q1⟩=>?_) hbk hpl rfl rfl
 obtain⟨v,rfl,hq⟩:∃ v,vs=[v]∧bF4 X P Q v H1:=by
  unfold bGd at q1
  split at q1
  ·exact⟨_,rfl,q1⟩
  ·exact q1.elim
 obtain⟨ps,l,xs,kf,hP,tri,al,rfl,hl,hn,hx,q⟩:=hq
 obtain⟨u,rfl,ru⟩:=vals1 r1
 cases (show u=Value.ref l from ru)
 show wpAny _ _ (evalAll [(do let v ←eval (.Lambda (aIc pa) (aG2 p1 p2 p3) qX lp) X.env; standAt pos; pure v)]) _ _ s1
 refine wpAny_evalAll_cons (wpAny_bind (bBc I1 L hP tri al rfl (fun y hy=>?_) fun f c' pm ctv H2 s2 I2 g hf hco=>wpAny_bind (wpAny_standAt (wpAny_pure (wpAny_evalAll_nil ?_)))))
 ·obtain rfl:y=(("row":Str),NameKind.local):=by simpa [qX] using hy
  exact fun z=>nomatch z
 have ga:=g.at_
 obtain⟨its,r2,pl,hz⟩:=I2.list (aQ5.sql (c':=c') (q:=X.env.qual++"<lambda>") ga hP hl)
 obtain⟨⟨oc,us,t,e1,e2,e3⟩,_,_⟩:=I2.hok c' _ hco
 have le:=r2.length
 show wpAny _ _ (call (.builtin "min") [.ref l] [(Str.ofString "key",.ref f)]) _ _ _
 refine aZo (kf:=kf) (I2.ok.hd hc) hd I2.nolimit hf ⟨c',oc,us,t,rfl,e1,e2,e3⟩ (let ⟨o,n,a1,a2,_,a4⟩:=pl; ⟨o,a1,a2,n,a4⟩) (by omega) (fun i w hw=>?_) fun w h' tk' hw kp=>?_
 ·obtain⟨x,ex,rx⟩:∃ x,xs[i]? =some x∧RelV x w:=by
   have hi:i < xs.length:=by have:=(List.getElem?_eq_some_iff.mp hw).1; omega
   obtain⟨w',h1,h2⟩:=r2.get (List.getElem?_eq_getElem hi)
   rw [hw] at h1
   cases h1
   exact⟨_,List.getElem?_eq_getElem hi,h2⟩
  obtain⟨a,ys,rfl,hy,h0⟩:=hx i x ex
  cases (show w=Value.ref a from rx)
  obtain⟨items,r3,ht,_⟩:=I2.tuple (aQ5.sqt (c':=c') (q:=X.env.qual++"<lambda>") ga hP hy)
  obtain⟨w0,h3,h4⟩:=r3.get h0
  obtain⟨tk,rfl⟩:=h4
  exact⟨a,items.toArray,tk,rfl,ht,by simpa using h3⟩
 ·obtain⟨x,ex,rx⟩:∃ x,xs[argBest (fun i j=>decide (kf i < kf j)) (xs.length - 1)]? =some x∧RelV x w:=by
   rw [←le] at hw
   have hi:argBest (fun i j=>decide (kf i < kf j)) (xs.length - 1) < xs.length:=by have:=(List.getElem?_eq_some_iff.mp hw).1; omega
   obtain⟨w',h1,h2⟩:=r2.get (List.getElem?_eq_getElem hi)
   rw [hw] at h1
   cases h1
   exact⟨_,List.getElem?_eq_getElem hi,h2⟩
  exact⟨x,H2,I2.kept kp,rx,q x H2 c' ex g⟩
noncomputable def keyOf (L:List T) (i:Nat):Int:=((L[i]?).bind aM1).getD 0
noncomputable abbrev bestOf (L:List T):Nat→Nat:=argBest fun i j=>decide (keyOf L i < keyOf L j)
theorem aLl {L:List T} {u:T}:∀(us:List T) (j:Nat) (b:T),L.drop (j+1)=us→L[bestOf L j]? =some b→j < L.length→min0 b (keyOf L (bestOf L j)) us=some u→L[bestOf L (L.length - 1)]? =some u
 | [],j,b,hd,hb,hj,h=>by
  unfold min0 at h
  cases h
  have:=congrArg List.length hd
  rw [List.length_drop,List.length_nil] at this
  have e:L.length - 1=j:=by omega
  rw [e]; exact hb
 | t::us,j,b,hd,hb,hj,h=>by
  unfold min0 at h
  have ht:L[j+1]? =some t:=by
   have:(L.drop (j+1))[0]? =some t:=by rw [hd]; rfl
   rwa [List.getElem?_drop] at this
  have hl:j+1 < L.length:=(List.getElem?_eq_some_iff.mp ht).1
  have hd2:L.drop (j+1+1)=us:=by
   have:=congrArg List.tail hd
   rwa [List.tail_drop] at this
  split at h
  ·rename_i k hk
   have ek:keyOf L (j+1)=k:=by unfold keyOf; rw [ht]; simp [hk]
   have step:bestOf L (j+1)=if decide (keyOf L (j+1) < keyOf L (bestOf L j)) then j+1 else bestOf L j:=rfl
   split at h
   ·rename_i hlt
    rw [←ek] at hlt h
    rw [if_pos (decide_eq_true hlt)] at step
    refine aLl us (j+1) t hd2 (by rw [step]; exact ht) hl ?_
    rw [step]; exact h
   ·rename_i hlt
    rw [←ek] at hlt
    rw [if_neg (by simpa using hlt)] at step
    refine aLl us (j+1) b hd2 (by rw [step]; exact hb) hl ?_
    rw [step]; exact h
  ·cases h
theorem aPa {u:T}:∀(us:List T) (b:T) (k:Int),min0 b k us=some u→∀ t∈us,∃ i,aM1 t=some i
 | [],_,_,_=>fun _ h=>nomatch h
 | t::us,b,k,h=>by
  unfold min0 at h
  split at h
  ·rename_i i hi
   intro t' ht
   rcases List.mem_cons.mp ht with rfl | ht
   ·exact⟨i,hi⟩
   ·split at h
    ·exact aPa us _ _ h t' ht
    ·exact aPa us _ _ h t' ht
  ·cases h
theorem aZd {t:T} {i:Int} {v:V} (h:aM1 t=some i) (r:Rep K Z ρ t v):∃ a ys,v= .ref a∧SqT K Z a ys∧ys[0]? =some (.int i):=by
 unfold aM1 at h
 split at h
 ·rename_i j ts
  cases h
  unfold Rep at r
  obtain⟨a,vs,rfl,q,rs⟩:=r
  obtain⟨w,h1,h2⟩:=rs.get (i:=0) (t:= .int i) rfl
  unfold Rep at h2
  exact⟨a,vs,rfl,q,by rw [h1,h2]⟩
 ·cases h
open EvE1 in
theorem bDk {n:Nat} {e:Expr} {f:EF} {p pos kp lp pa p1 p2 p3:Pos} {c P:Addr} (ck:Cok X W n) (he:SE X W e f) (hm:X.mg "min"=none) (L:LamAt X c P) (hp:(P,X.env.qual++"<lambda>")∈Wrl.tabs) (hu:∀ p∈Wrl.tabs,p.1=P→p.2=X.env.qual++"<lambda>")
  (hg:Gl X "min":=by rfl) (hbk:backTo pos (starEach [e] X.env)=(false,eval e X.env)::backTo pos (starEach [] X.env):=by rfl) (hpl:(backTo pos (starEach [e] X.env)).any (·.1)=false:=by rfl) (hs:starEach [e] X.env=(false,eval e X.env)::starEach [] X.env:=by rfl):
  SE X W (.Call (.Name "min" p) [e] [⟨some "key",.Lambda (aIc pa) (aG2 p1 p2 p3) qX lp,kp⟩] pos) (eOfL aWt (zX f lNil)):=by
 refine⟨xY (bE1 ck.calm ck.room.depth he.pe hg hm L hbk hpl hs) fun σ H Q ⟨Φ,Z,ρ,env,m,F,p⟩=>?_⟩
 have p:Post X.K W Φ Z ρ σ Q ((f env m).bind fun x m1=>aWt [x] m1):=by
  have e:eOfL aWt (zX f lNil) env m=(f env m).bind fun x m1=>aWt [x] m1:=by
   unfold eOfL zX lNil
   cases f env m<;>rfl
  rwa [e] at p
 refine tr_bind (P:=Post X.K W Φ Z ρ σ Q) F (fun x m1 Z1 ρ1 H1 vx _ e1 F1 rx p1=>?_) (fun _ _ _ _ h=>h) (fun h=>h) p
 unfold aWt at p1
 simp only at p1
 split at p1
 rotate_left
 ·exact p1.elim
 rename_i t ts hL
 split at p1
 rotate_left
 ·exact p1.elim
 rename_i a ha
 split at p1
 rotate_left
 ·exact p1.elim
 rename_i u hm0
 obtain⟨l,us,rfl,q,ru⟩:=aEg F1.rel rx hL
 obtain⟨⟨ps,t1,t2,t3⟩,t4,t5,t6⟩:=F1.rel.tab _ hp
 have k0:keyOf (t::ts) (bestOf (t::ts) 0)=a:=by
  show keyOf (t::ts) 0=a
  unfold keyOf
  simp [ha]
 have hbest:(t::ts)[bestOf (t::ts) ((t::ts).length - 1)]? =some u:=aLl ts 0 t rfl rfl (by simp) (by rw [k0]; exact hm0)
 refine⟨ps,l,us,keyOf (t::ts),t1,t2,fun p' cv hcv=>?_,rfl,q,by rw [←ru.length]; simp,fun i x hx=>?_,fun x H2 c' hx g=>?_⟩
 ·obtain⟨c0,h1,h2⟩:=t3 p' cv hcv
  exact⟨c0,h1,F1.rel.zin _ _ h2⟩
 ·obtain⟨tt,h1,h2⟩:=ru.getV hx
  obtain⟨k,hk⟩:∃ k,aM1 tt=some k:=by
   rcases List.mem_cons.mp (List.mem_of_getElem? h1) with rfl | h
   ·exact⟨a,ha⟩
   ·exact aPa ts t a hm0 tt h
  obtain⟨b,ys,h3,h4,h5⟩:=aZd hk h2
  refine⟨b,ys,h3,Same.sqt F1.rel.same h4,?_⟩
  rw [h5]
  unfold keyOf
  rw [h1]; simp [hk]
 ·obtain⟨Z2,e2,r2,_⟩:=F1.rel.grown hp hu g
  obtain⟨tt,h1,h2⟩:=ru.getV hx
  rw [←ru.length,hbest] at h1
  cases h1
  exact p1 _ _ _ _ (e1.trans e2) r2 (h2.ext e2)
end
end Ev
namespace EvT1
open PySem PySem.Spec PyProof.Rows L2
theorem aZ6 {K:PySem.W.Frag} {y:Str} (h:(PySem.W.tabIn K y).isSome=true):PySem.W.tabIn K y=some ((xJ K y).1,(xJ K y).2):=by
 obtain⟨p,hp⟩:=Option.isSome_iff_exists.mp h
 unfold xJ
 rw [hp]; rfl
noncomputable def aNz (K:PySem.W.Frag) (ys:List Str):List (Addr×Str):=ys.map fun y=>((xJ K y).2,(y++".<locals>.")++"<lambda>")
theorem bA9 {K:PySem.W.Frag} {ys:List Str} {y:Str} (h:y∈ys):((xJ K y).2,(y++".<locals>.")++"<lambda>")∈aNz K ys:=List.mem_map.mpr ⟨y,h,rfl⟩
theorem aUt {K:PySem.W.Frag}:∀ {ys:List Str},(ys.map fun y=>(xJ K y).2).Nodup→∀ {y:Str},y∈ys→∀ p∈aNz K ys,p.1=(xJ K y).2→p.2=(y++".<locals>.")++"<lambda>"
 | [],_,_,h,_,_,_=>by cases h
 | z::ys,nd,y,h,p,hp,e=>by
  rw [List.map_cons,List.nodup_cons] at nd
  rcases List.mem_cons.mp (show p∈((xJ K z).2,(z++".<locals>.")++"<lambda>")::aNz K ys from hp) with rfl | hp2
  ·rcases List.mem_cons.mp h with rfl | h
   ·rfl
   ·exact absurd (List.mem_map.mpr ⟨y,h,e.symm⟩) nd.1
  ·rcases List.mem_cons.mp h with rfl | h
   ·obtain⟨u,hu,rfl⟩:=List.mem_map.mp (show p∈ys.map (fun y=>((xJ K y).2,(y++".<locals>.")++"<lambda>")) from hp2)
    exact absurd (List.mem_map.mpr ⟨u,hu,e⟩) nd.1
   ·exact aUt nd.2 h p hp2 e
end EvT1
namespace Ev
open PySem L2 EvT1
variable [Wrl]
theorem bGp {P:Program} {w:World} {K:PySem.W.Frag} {mg:Str→Option Value} {base:Heap} {x qual:Str} {st:Stmt} {f:Addr} {fd:FuncData} {N ps:List Str} {k:Nat} {g:SF} {c T:Addr} (hw:HereP P w) (Fn:Fun K x qual st f fd) (hc:fd.code= .ref c) (tb:LamX.TabB base mg c T) (S:FnScope N ps (defScope st))
  (hbody:∀(A:Around) (outer:List PySem.Env) (s:Shared) (H:Hp) (E:XK),Cok (cxOf (L2.CX P w) P w K mg base N qual (defScope st) f (.ref c) A outer s H E) (fun cls d _ H=>E cls d H) k→LamAt (cxOf (L2.CX P w) P w K mg base N qual (defScope st) f (.ref c) A outer s H E) c T→
   SSs (cxOf (L2.CX P w) P w K mg base N qual (defScope st) f (.ref c) A outer s H E) (fun cls d _ H=>E cls d H) (defBody st) g):FnOk P w K mg base (L2.CX P w) (k+1) f fd ps (spF K ps.length (fnOf N.length g)):=by
 obtain⟨oc,od,kV,doc,pm,an,cdv,ct,osl,rfl,lk,hcd⟩:=Fn.ex
 have hc:cdv= .ref c:=hc
 subst hc
 refine fn_of lk hcd S (fun vs H Q E ⟨Φ,Z,ρ,m,ts,_,_,hl,_⟩=>hl) fun A outer s H vs Q E hr ⟨Φ,Z,ρ,m,ts,r,rs,hl,p⟩=>?_
 have ck:Cok (cxOf (L2.CX P w) P w K mg base N qual (defScope st) f (.ref c) A outer s H E) (fun cls d _ H=>E cls d H) k:=⟨takes_of rfl rfl rfl rfl,passes_of rfl,rfl,S.nd,hr,⟨hw.p,hw.w⟩⟩
 refine⟨_,(hbody A outer s H E ck ⟨tb,rfl⟩).ps,Φ,Z,ρ,_,m,⟨r,aOe N rs⟩,?_⟩
 unfold fnOf at p
 cases e:g (ts.map some++List.replicate (N.length - ts.length) none) m with
 | nx env1 m1=>rw [e] at p; exact fun Z1 ρ1 H1 σ1 e1 F1 _=>p Z1 ρ1 H1 .non e1 F1.rel aIe
 | rt t m1=>rw [e] at p; exact p
 | ex C ns us env1 m1=>rw [e] at p; exact fun Z1 ρ1 H1 σ1 d us e1 F1 rs hl hd=>p Z1 ρ1 H1 d us e1 F1.rel rs hl hd
 | bk _ _=>rw [e] at p; exact(show False from p).elim
 | ct _ _=>rw [e] at p; exact(show False from p).elim
 | no=>rw [e] at p; exact p
end Ev
namespace Ev
open PySem L2 EvT1
theorem aY6 [Wrl] {K:PySem.W.Frag} {ys:List Str} (h0:Wrl.tabs=aNz K ys) {H:Hp} {a:Addr} {xs:List V} (ht:∀ y∈ys,H (xJ K y).2=some (.tbl #[])) (hs:SqL K H a xs):∃ Z,Rel K (fun _=>none) Z [] H []∧SqL K Z a xs:=by
 classical
 have isT:∀ b,b∈ys.map (fun y=>(xJ K y).2)→H b=some (.tbl #[]):=fun b hb=>by
  obtain⟨y,hy,rfl⟩:=List.mem_map.mp hb
  exact ht y hy
 refine⟨fun b=>if b∈ys.map (fun y=>(xJ K y).2) then none else H b,⟨fun b o e=>?_,(fun _ _ h=>nomatch h),rfl,List.nodup_nil,(fun _ h=>nomatch h),(fun _ _ _ h=>nomatch h),fun q hq=>?_⟩,?_⟩
 ·by_cases h:b∈ys.map (fun y=>(xJ K y).2)
  ·exact absurd ((if_pos h).symm.trans e) (by simp)
  ·exact(if_neg h).symm.trans e
 ·rw [h0] at hq
  obtain⟨y,hy,rfl⟩:=List.mem_map.mp (show q∈ys.map (fun y=>((xJ K y).2,(y++".<locals>.")++"<lambda>")) from hq)
  refine⟨⟨#[],ht y hy,True.intro,fun pos cv hc=>?_⟩,if_pos (List.mem_map.mpr ⟨y,hy,rfl⟩),rfl,fun h=>nomatch h⟩
  have z:codeAmong pos []=some cv:=hc
  simp [codeAmong] at z
 ·have out:∀ b o,H b=some o→o≠ .tbl #[]→(if b∈ys.map (fun y=>(xJ K y).2) then none else H b)=some o:=fun b o e n=>by
   by_cases h:b∈ys.map (fun y=>(xJ K y).2)
   ·rw [isT b h] at e
    cases e
    exact absurd rfl n
   ·rw [if_neg h]; exact e
  rcases hs with (h | ⟨o,h⟩) | h
  ·exact .inl (.inl (out _ _ h fun z=>nomatch z))
  ·exact .inl (.inr ⟨o,out _ _ h fun z=>nomatch z⟩)
  ·exact .inr h
end Ev
namespace Ev
open PySem PySem.Spec PyProof PyProof.Rows L2
section
variable {X:Cx} [Wrl]
noncomputable def tDcN (K:PySem.W.Frag) (wi:TI) (g:TG) (tt:TT) (tk tv:TE) (vs:List Nat):TE:=fun σ H Q=>wi σ H fun J H1=>∀ D,H1 D=none→∃ W:Nat→Nat→Hp→Prop,(∃ m,W 0 m (upd H1 D (rawN D [])))∧∀ i m H,W i m H→
 (J.stop i H∧Q (.ref D) H)∨(J.go i H∧∃ Nx:Hp→Prop,(∀ H',Nx H'→∃ m',m' < m∧W (i+1) m' H')∧∀ x H',J.yld i H x H'→g x (wipe σ vs) H' fun σ2 H2=>wipe σ2 vs=wipe σ vs∧tt σ2 H2 fun b H3=>
  if b=true then tk σ2 H3 fun y H4=>tv σ2 H4 fun z H5=>∃(es:List EnN) (a:Addr) (k:NestedKey),y= .ref a∧H5 D=some (rawN D es)∧(∀ e∈es,NIs K H5 e.1 (.ref e.2.1))∧NIs K H5 k (.ref a)∧k.depth≤8∧es.length < sizeLine∧Nx (upd H5 D (rawN D (uE es k a z))) else Nx H3)
theorem aR6 {pins:List (Addr×Obj)} {σ:L2.St} {H:Hp} {s:Shared} {E:Value→Shared→Prop} {D a:Addr} {es:List EnN} {k:NestedKey} {z:V} {kv vv:Value} {Q:Unit→Shared→Prop} (hr:Here X) (hu:X.A.units+20 < cLine) (I:Inv X pins σ H s) (hD:H D=some (rawN D es))
  (hk:∀ e∈es,NIs X.K H e.1 (.ref e.2.1)) (hy:NIs X.K H k (.ref a)) (h8:k.depth≤8) (hz:es.length < sizeLine) (rk:RelV (.ref a) kv) (rv:RelV z vv)
  (fin:∀ s',Inv X pins σ (upd H D (rawN D (uE es k a z))) s'→Q () s'):wpAny (model X.prog X.w) X.A (dictSet D kv vv) Q E s:=by
 cases (show kv=Value.ref a from rk)
 obtain⟨h1,h2,h3,xs,pr,Dk⟩:=aR4 hr I (.inl hD) hk
 have pl:es.length=xs.length:=by rw [←List.length_map (f:=(·.1)),paired_keys pr,List.length_map]
 refine wpAny_dictSet_heap (knd:=nestedKind X.prog X.w) (k:=k) (show X.A.units+8 < cLine by omega) (nkey (I:=I) hy h8) Dk (fun h' D' sb=>fin _ ?_) (by omega)
 have pr':=aO0 (k:=k) (a:=a) rv pr
 have hl:(uE es k a z).length≤sizeLine:=by
  unfold uE
  split
  ·rw [List.length_map]; omega
  ·rw [List.length_append]; simp; omega
 refine I.write (t':=_) (by rw [hD]; exact True.intro) (.inl rfl) (fun c u hb q=>(sb.2 c hb).trans q) ?_ (aR3 hr h1 hl pr' D')
 obtain⟨o,_,_,e,_⟩:=D'
 exact⟨o,e⟩
end
section
variable {K:PySem.W.Frag} {W:WX} {Φ Z:Hp} {ρ:List Addr} {σ:L2.St} {H:Hp} {m:Mem} {X:Cx} [Wrl]
noncomputable def stN (a:List T×List T) (ys:List T):Option (List T×List T):=match ys with
 | [y,z]=>if aWr y&&decide (a.1.length < lim) then some (addN y a.1,bAy y z a.1 a.2) else none
 | _=>none
noncomputable def AdN (K:PySem.W.Frag):ADD:=fun D ys H Nx=>∃(y z:V) (es:List EnN) (a:Addr) (k:NestedKey),ys=[y,z]∧y= .ref a∧H D=some (rawN D es)∧(∀ e∈es,NIs K H e.1 (.ref e.2.1))∧NIs K H k (.ref a)∧k.depth≤8∧es.length < sizeLine∧Nx (upd H D (rawN D (uE es k a z)))
noncomputable def raN (K:PySem.W.Frag) (Z:Hp) (ρ:List Addr) (D:Addr) (a:List T×List T) (o:HO):Prop:=∃ es:List EnN,o=rawN D es∧toNKs a.1=some (es.map (·.1))∧Reps K Z ρ a.1 (es.map fun e=> .ref e.2.1)∧Reps K Z ρ a.2 (es.map (·.2.2))
theorem accN:AccOk K (([]:List T),([]:List T)) stN (fun D=>rawN D []) (raN K) (AdN K) where
 init:=fun Z ρ D=>⟨[],rfl,rfl,.nil,.nil⟩
 mono:=fun⟨es,e,k,r1,r2⟩ x=>⟨es,e,k,r1.ext x,r2.ext x⟩
 add:=by
  rintro Z ρ D ⟨ks,us⟩ a1 o ts vs H Nx sm ⟨es,rfl,hk,r1,r2⟩ rs e hD nx
  unfold stN at e
  split at e
  ·rename_i y z
   split at e
   ·rename_i hc
    rw [Bool.and_eq_true] at hc
    cases e
    unfold Reps at rs
    obtain⟨v,ws2,rfl,rv,rs⟩:=rs
    unfold Reps at rs
    obtain⟨v2,ws3,rfl,rv2,rn⟩:=rs
    unfold Reps at rn
    subst rn
    obtain⟨n,hn,ht,h8⟩:=aKo hc.1
    obtain⟨a,rfl⟩:=aKw ht rv
    obtain⟨q1,q2,q3⟩:=aZv (a:=a) hn rv rv2 hk r1 r2
    have hl:es.length < sizeLine:=by
     have e9:ks.length=es.length:=by rw [r1.length,List.length_map]
     rw [←e9]
     exact aLm (Nat.le_of_lt (of_decide_eq_true hc.2))
    exact⟨_,v2,es,a,n,rfl,rfl,hD,fun e he=>(aH0 (reps_nis hk r1) e he).mono sm,(aG3 hn rv).mono sm,h8,hl,nx _ ⟨uE es n a v2,rfl,q1,q2,q3⟩⟩
   ·cases e
  ·cases e
theorem finN {mu:Bool} {σ:L2.St} {Q:VK} (Φ Z:Hp) (ρ:List Addr) (H:Hp) (m:Mem) (D:Addr) (a:List T×List T) (o:HO) (r:Rel K (upd Φ D o) Z ρ H m) (hΨ:∀ c u,Φ c=some u→(upd Φ D o) c=some u∧c≠D) (ra:raN K Z ρ D a o)
  (p:Post K W Φ Z ρ σ Q (mkN mu a.1 a.2 m)):if mu then Q (.ref D) H else ∃ b u,V.ref D= .ref b∧H b=some u∧Mut (some u)∧∀ od,Q (.ref D) (upd H b (.frz od u)):=by
 obtain⟨es,rfl,hk,r1,r2⟩:=ra
 cases mu with
 | true=>
  obtain⟨r5,e5⟩:=r.backC (Ψ:=Φ) (u:= .dcn a.1 a.2) upd_same hΨ ⟨es,rfl,hk,r1,r2⟩
  refine p _ _ _ _ e5 r5 ?_
  unfold Rep
  exact⟨D,by rw [←r.len]; simp,rfl⟩
 | false=>
  refine⟨D,_,rfl,(r.fin D _ upd_same).1,True.intro,fun od=>?_⟩
  have r3:=r.aside_set (u:= .frz od (rawN D es)) (p:=D) upd_same
  rw [upd_upd] at r3
  obtain⟨r5,e5⟩:=r3.back (Ψ:=Φ) upd_same (fun c u e=>by
   obtain⟨_,q⟩:=hΨ c u e
   exact⟨by rw [upd_ne q]; exact e,q⟩)
  refine p _ _ _ _ e5 r5 ?_
  unfold Rep
  exact⟨D,es,od,rfl,hk,upd_same,r1.ext e5,r2.ext e5⟩
noncomputable def aZg (mu:Bool) (sl:List Nat) (fi:LF) (g:GF) (tt:BF) (fe fv:EF):EF:=aVz ([],[]) stN (fun a m=>mkN mu a.1 a.2 m) sl fi g tt (zX fe (zX fv lNil))
end
end Ev
namespace Ev
open PySem PySem.Spec PyProof PyProof.Rows L2
section
variable {X:Cx} [Wrl] {σ:L2.St} {H:Hp}
noncomputable def aW9 (d p:Addr):HO:= .ext fun h=>h.get? p=some {cls:= .type "dict_values",data:= .fields #[.ref d]}
theorem bE0 (hr:Here X) {e:Expr} {td:TE} {apos cpos:Pos} (he:PE X e td) (hbase:attributeBase e "values" X.env (eval e X.env)=eval e X.env:=by rfl) (hline:(apos.endLine ==cpos.line)=true:=by rfl):
  PE X (.Call (.Attribute e "values" apos) [] [] cpos) (fun σ H Q=>td σ H fun v H1=>∃(d:Addr) (es:List EnN),v= .ref d∧Rd H1 d (rawN d es)∧∀ p,H1 p=none→Q (.ref p) (upd H1 p (aW9 d p))):=by
 refine⟨fun pins s σ H Q I h=>wpAny_Call_method (T:="dict") (id:="dict.values") hbase rfl hline F.plainAttrs_dict F.slot_dict_values F.type_dict_values (thn (he.run pins s σ H _ I h) fun u s1 ⟨v,H1,I1,rx,d,es,ex,hd,q⟩=>?_)⟩
 subst ex
 cases (show u=Value.ref d from rx)
 obtain⟨z,hl,xs,o,ds,ep,pr,ho,hx,hdt,hds⟩:=aV9 hr I1 hd
 have hm:s1.heap.DictRaw d ds ep:=⟨o,ho,hx,hdt⟩
 refine⟨hm.typeIs,(fun a e=>by cases e; exact⟨o,ho,hx.2.1⟩),?_⟩
 have fin:EP X pins σ Q (.ref s1.heap.objs.size) {s1 with heap:=s1.heap.push {cls:= .type "dict_values",data:= .fields #[.ref d]}}:=by
  refine⟨.ref s1.heap.objs.size,_,I1.laid (a:=s1.heap.objs.size) (o:=aW9 d s1.heap.objs.size) (t':=s1.toks) (fun _ _ q=>Heap.get?_push_of_some _ q) (Nat.le_refl _) ?_,rfl,q _ (I1.hok.fresh (Nat.le_refl _))⟩
  exact⟨Heap.get?_push_size _ rfl,⟨_,Heap.get?_push_size _ rfl⟩,fun h1 h2 a st=>st _ a⟩
 show wpAny _ _ (callWith cpos (.builtin "dict.values") [.ref d] [] []) _ X.xe s1
 exact method_meetsIn F.slot_dict_values F.entry_dict_values rfl (PySem.evalArgs_none ⟨rfl,hm.typeIs,F.args_dict_values_1 _,_,meets_dict_values_raw d z,⟨⟨ds,ep,hm⟩,fin⟩⟩)
noncomputable def bFn:List V→Hp→VK→Prop:=fun xs H Q=>∃(p d:Addr) (es:List EnN),xs=[.ref p]∧H p=some (aW9 d p)∧Rd H d (rawN d es)∧∀ l,H l=none→Q (.ref l) (upd H l (.lst (es.map (·.2.2))))
theorem aKv:∀ {es:List EnN} {xs:List (NestedKey×Addr×Value)},Paired EnP es xs→Vals (es.map (·.2.2)) (xs.map fun x=>x.2.2)
 | _,_,.nil=> .nil
 | _,_,.cons r t=> .cons r.2.2 (aKv t)
theorem aX4 (hr:Here X) (hc:X.calm=true):CallR X (.type "list") bFn:=by
 intro pins s σ H xs us Q I r h
 obtain⟨p,d,es,rfl,hp,hd,q⟩:=h
 obtain⟨u,rfl,rx⟩:=vals1 r
 cases (show u=Value.ref p from rx)
 obtain⟨hs,hl,ks,o,ds,ep,pr,ho,hx,hdt,he⟩:=aV9 hr I hd
 have hv:s.heap.get? p=some {cls:= .type "dict_values",data:= .fields #[.ref d]}:=(I.hok p _ hp).1
 have l1:ds.size=ks.length:=by rw [←Array.length_toList,he,List.length_map]
 have l2:es.length=ks.length:=pr.length
 refine PySem.W.kdl_call (KdlSrc.rawValues (r:=p) (d:=d) (es:=ds) (ep:=ep)) (I.ok.hd hc) ⟨⟨_,hv,rfl,rfl⟩,⟨o,ho,hx,hdt⟩⟩ (by omega) fun h' tk acc' c' kp e it=>?_
 have ea:acc'.toList=ks.map fun x=>x.2.2:=by
  apply List.ext_getElem?
  intro j
  rw [List.getElem?_map]
  cases hj:acc'.toList[j]? with
  | none=>
   have h1:=List.getElem?_eq_none_iff.mp hj
   have h2:acc'.toList.length=ks.length:=by rw [Array.length_toList,it.1]; exact l1
   rw [List.getElem?_eq_none (by omega)]
   all_goals rfl
  | some v=>
   obtain⟨hi,hv⟩:=it.2 j v (by rw [←Array.getElem?_toList]; exact hj)
   have hen:ds.toList[j]? =some ds[j]:=by rw [Array.getElem?_toList]; exact Array.getElem?_eq_getElem hi
   rw [he,List.getElem?_map] at hen
   obtain⟨x,h1,h2⟩:=Option.map_eq_some_iff.mp hen
   rw [h1,hv,←h2]
   all_goals rfl
 have rv:Vals (es.map (·.2.2)) acc'.toList:=by rw [ea]; exact aKv pr
 refine⟨.ref s.heap.objs.size,_,I.laid (t':=tk) (o:= .lst (es.map (·.2.2))) kp (Nat.le_refl _) ?_,rfl,q _ (I.hok.fresh (Nat.le_refl _))⟩
 exact⟨by rw [List.length_map]; exact hl,acc'.toList,c',rv,by rw [Array.toArray_toList]; exact e⟩
end
section
variable {X:Cx} {W:WX} [Wrl] {σ:L2.St} {H:Hp}
noncomputable def aS3 (mu:Bool) (f:EF):EF:=fun env m=>(f env m).bind fun t m1=>match asN m1 t with
 | some (_,ts)=>mk mu ts m1
 | none=> .no
theorem aTe {k:Nat} {e:Expr} {f:EF} {p pos apos cpos:Pos} (mu:Bool) (c:Cok X W k) (he:SE X W e f) (hm:X.mg "list"=none) (hG:Gl X "list":=by rfl) (hbase:attributeBase e "values" X.env (eval e X.env)=eval e X.env:=by rfl) (hline:(apos.endLine ==cpos.line)=true:=by rfl)
  (h1:starEach [.Call (.Attribute e "values" apos) [] [] cpos] X.env=(false,eval (.Call (.Attribute e "values" apos) [] [] cpos) X.env)::starEach [] X.env:=by rfl) (h2:(backTo pos (starEach [] X.env)).any (·.1)=false:=by rfl):
  SE X W (.Call (.Name "list" p) [.Call (.Attribute e "values" apos) [] [] cpos] [] pos) (aS3 mu f):=by
 refine⟨xY (pe_callTy (aX4 c.here c.calm) hG hm (by decide+kernel) (pa_cons (bE0 c.here he.pe hbase hline) pa_nil h1) (by decide) (by decide) h1 h2) fun σ H Q ⟨Φ,Z,ρ,env,m,F,p⟩=>?_⟩
 refine tr_bind (P:=Post X.K W Φ Z ρ σ Q) F (fun t m1 Z1 ρ1 H1 v _ e1 F1 r p1=>?_) (fun _ _ _ _ h=>h) (fun h=>h) p
 split at p1
 rotate_left
 ·exact p1.elim
 rename_i ks ts ht
 obtain⟨a,es,rfl,q,_,_,rs⟩:=aPw F1.rel r ht
 refine⟨a,es,rfl,q.1,fun b hb=>?_⟩
 have hv:(upd H1 b (aW9 a b)) b=some (aW9 a b):=upd_same
 have hd:Rd (upd H1 b (aW9 a b)) a (rawN a es):=by
  rcases q.1 with h | ⟨o,h⟩
  ·exact .inl (by rw [upd_ne (ne_of_none h hb)]; exact h)
  ·exact .inr ⟨o,by rw [upd_ne (ne_of_none h hb)]; exact h⟩
 exact⟨b,a,es,rfl,hv,hd,fun l hl=>kB (F1.rel.junk hb _) rs (p1.ext e1) hl⟩
end
section
variable {X:Cx} {W:WX} [Wrl] {σ:L2.St} {H:Hp}
theorem aXj {M:Model} {A:Around} {E:Value→Shared→Prop} {s:Shared} {env:PySem.Env} {o e:Expr} {mn:Str} {p apos pos:Pos} {Q:Value→Shared→Prop} (hb:attributeBase o mn env (eval o env)=eval o env) (hst:starEach [.Starred e p] env=[(true,eval e env)])
  (k:wpAny M A (eval o env) (fun ov s₁=>wpAny M A (getAttr ov mn true) (fun f s₂=>wpAny M A (callWith pos f [] (backTo pos [(true,eval e env)]) []) Q E s₂) E s₁) E s):wpAny M A (eval (.Call (.Attribute o mn apos) [.Starred e p] [] pos) env) Q E s:=by
 have nokw:backToKw pos (keywordEach [] env)=[]:=rfl
 have shape:methodCallForm ([Expr.Starred e p].length+([]:List Keyword).length) (backTo pos [(true,eval e env)]) []=false:=rfl
 have place:methodCallPos false o env apos pos=pure pos:=rfl
 have who:∀ ov,calleeOf false o env ov mn=(getAttr ov mn true >>=fun v=>pure (v,[])):=fun _=>rfl
 rw [arm_eval_Call,hb,hst,nokw]
 refine wpAny_bind (wpAny_mono k (fun ov s₁ k1=>wpAny_bind (wpAny_standAt ?_)) fun _ _ x=>x)
 unfold methodCall
 rw [shape,place,who]
 exact wpAny_bind (wpAny_holding (wpAny_bind (wpAny_mono k1 (fun f s₂ k2=>wpAny_pure (wpAny_bind (wpAny_pure k2))) fun _ _ x=>x)))
noncomputable def aXi (K:PySem.W.Frag) (C:Addr) (mn:Str) (g:Addr) (sp:Sp) (E:XK) (ta te:TE):TE:=fun σ H Q=>ta σ H fun x H1=>∃ a dx fs,x= .ref a∧H1 a=some (.ins C dx fs)∧fs.lookup mn=none∧
 ∀ q,H1 q=none→te σ (upd H1 q (.met g a)) fun y H3=>∃ b vs,y= .ref b∧(SqT K H3 b vs∨SqL K H3 b vs)∧H3 q=some (.met g a)∧sp (.ref a::vs) H3 Q E
theorem aTp {C0:CXT} {k:Nat} {C g:Addr} {mn:Str} {sp:Sp} {E:XK} {o e:Expr} {ta te:TE} {p apos pos:Pos} (ho:PE X o ta) (cl:Cls X.K C) (b:BMeth X.K C mn g) (F:FnR X.prog X.w X.K X.mg X.base C0 k g sp) (hr:Room k X.A) (hx:Passes C0 X E) (he:PE X e te)
  (hb:attributeBase o mn X.env (eval o X.env)=eval o X.env:=by rfl) (hst:starEach [.Starred e p] X.env=[(true,eval e X.env)]:=by rfl):PE X (.Call (.Attribute o mn apos) [.Starred e p] [] pos) (aXi X.K C mn g sp E ta te):=by
 refine⟨fun pins s σ H Q I h=>aXj hb hst (thn (ho.run pins s σ H _ I h) fun u s1 ⟨x,H1,I1,rx,a,dx,fs,ex,ea,l,q⟩=>?_)⟩
 subst ex
 cases (show u=Value.ref a from rx)
 refine getbound_ok I1 ea cl b l fun q1 s2 hq1 I2=>PySem.W.ks_call (P:=PySem.W.MethP X.K q1 g (.ref a)) rfl (PySem.W.keeps_M b.fi) (PySem.W.ks_lone (thn (he.run pins s2 σ _ _ I2 (q q1 hq1)) fun w s4 ⟨y,H3,I4,ry,t,vs,ey,ht,hm,hsp⟩=>?_))
 subst ey
 cases (show w=Value.ref t from ry)
 refine StX.star_any I4 ht fun us s5 I5 rv=>?_
 show PySem.W.MethP X.K q1 g (.ref a) s5.heap∧wpAny (model X.prog X.w) X.A (call (.ref q1) us []) (EP X pins σ Q) X.xe s5
 exact⟨met_P I5 hm,wpAny_call (PySem.W.method_call (met_P I5 hm).1 (run_fnR (us:=Value.ref a::us) (vs:=V.ref a::vs) F hr hx I5 (.cons rfl rv) hsp))⟩
structure MethOkB (P:Program) (w:World) (K:PySem.W.Frag) (mg:Str→Option Value) (base:Heap) (n k:Nat) (c mn:Str) (F:FS):Prop where
 ok:∃(C f:Addr) (fd:FuncData) (ps:List Str),ps.length=n∧CAt K c C∧Cls K C∧BMeth K C mn f∧FnOk P w K mg base (L2.CX P w) k f fd ps (spF K n F)∧Binds K fd ps []
noncomputable def aS2 (c mn:Str) (n:Nat) (F:FS) (fo fe:EF):EF:=fun env m=>(fo env m).bind fun x m1=>match aUb m1 x with
 | some (d,ns,_)=>if eqS d c&&!memS mn ns then(fe env m1).bind fun y m2=>match aDh m2 y with
  | some ts=>if ts.length+1=n then match F (x::ts) m2 with
   | .ok t m3=> .ok t m3
   | _=> .no else .no
  | none=> .no else .no
 | none=> .no
theorem aTd {k j n:Nat} {c mn:Str} {F:FS} {o e:Expr} {fo fe:EF} {p apos pos:Pos} (ck:Cok X W k) (D:MethOkB X.prog X.w X.K X.mg X.base n j c mn F) (ho:SE X W o fo) (he:SE X W e fe) (hj:j≤k:=by decide)
  (hb:attributeBase o mn X.env (eval o X.env)=eval o X.env:=by rfl) (hst:starEach [.Starred e p] X.env=[(true,eval e X.env)]:=by rfl):SE X W (.Call (.Attribute o mn apos) [.Starred e p] [] pos) (aS2 c mn n F fo fe):=by
 obtain⟨C,f,fd,ps,hn,hC,hcl,hm,hF,hbi⟩:=D.ok
 refine⟨xY (aTp ho.pe hcl hm (hF.raw hbi .nil) (ck.room.mono hj) passL he.pe hb hst) fun σ H Q ⟨Φ,Z,ρ,env,m,Fi,p⟩=>?_⟩
 refine tr_bind (P:=Post X.K W Φ Z ρ σ Q) Fi (fun x m1 Z1 ρ1 H1 vx _ e1 F1 rx p1=>?_) (fun _ _ _ _ h=>h) (fun h=>h) p
 split at p1
 rotate_left
 ·exact p1.elim
 rename_i d ns ts0 hi
 split at p1
 rotate_left
 ·exact p1.elim
 rename_i hd
 rw [Bool.and_eq_true] at hd
 have hno:=aPb hd.2
 obtain rfl:=uG.mp hd.1
 obtain⟨a,C',dx,us,rfl,k',q,hl,rs⟩:=aF5 F1.rel rx hi
 have:=k'.inj hC
 subst this
 refine⟨a,dx,_,rfl,q,aVu hno,fun b hq=>?_⟩
 have rj:=F1.rel.junk hq (.met f a)
 have hΦ:∃ Φ',Rel X.K Φ' Z1 ρ1 (upd H1 b (.met f a)) m1∧Φ' b=some (.met f a)∧∀ c u,Φ c=some u→Φ' c=some u:=by
  refine⟨upd Φ b (.met f a),F1.rel.aside hq _,upd_same,fun c u e=>?_⟩
  have hc:c≠b:=fun z=>by rw [z] at e; rw [(F1.rel.fin b u e).1] at hq; cases hq
  rw [upd_ne hc]; exact e
 obtain⟨Φ',r',hb',less⟩:=hΦ
 refine⟨Φ',Z1,ρ1,env,m1,⟨r',F1.env⟩,?_⟩
 have p1:=p1.ext e1
 cases ee:fe env m1 with
 | no=>rw [ee] at p1; exact p1.elim
 | ex C2 ns2 us2 m2=>
  rw [ee] at p1
  exact fun Z' ρ' H' d us e1 r rs l1 l2=>p1 Z' ρ' H' d us e1 (r.less less) rs l1 l2
 | ok y m2=>
  rw [ee] at p1
  simp only [Out.bind] at p1
  intro Z2 ρ2 H2 vy e2 r2 ry
  split at p1
  rotate_left
  ·exact p1.elim
  rename_i ts hs
  split at p1
  rotate_left
  ·exact p1.elim
  rename_i hlen
  have seq:∃ t vs,vy= .ref t∧(SqT X.K H2 t vs∨SqL X.K H2 t vs)∧Reps X.K Z2 ρ2 ts vs:=let ⟨a,vs,h1,h2,h3⟩:=jA r2 ry hs; ⟨a,vs,h1,h2.symm,h3⟩
  obtain⟨t,vs,rfl,hsq,rts⟩:=seq
  refine⟨t,vs,rfl,hsq,(r2.fin b _ hb').1,?_⟩
  have rxs:Reps X.K Z2 ρ2 (x::ts) (.ref a::vs):= .cons (rx.ext e2) rts
  show spF X.K n F ((.ref a::vs)++[]) H2 Q fun _ _ _=>False
  rw [List.append_nil]
  refine⟨Φ,Z2,ρ2,m2,x::ts,r2.less less,rxs,by rw [←rxs.length]; exact hlen,?_⟩
  cases er:F (x::ts) m2 with
  | no=>rw [er] at p1; exact p1.elim
  | ex _ _ _ _=>rw [er] at p1; exact p1.elim
  | ok v m3=>
   rw [er] at p1
   exact fun Z' ρ' H' u e3 r3 rv=>p1 Z' ρ' H' u (e2.trans e3) r3 rv
end
end Ev
namespace Ev
open PySem PySem.Spec PyProof PyProof.Rows L2
section
variable {X:Cx} [Wrl]
theorem bBn {pins:List (Addr×Obj)} {s:Shared} {σ:L2.St} {H:Hp} {Q:VK} {pos':Pos} {use:Option (Value→Sem Unit)} {Qf:Value→Shared→Prop} {elt vx a ia:Expr} {fa:List Expr} {sc:Scope} {own:List (Str×Nat)} {po:Pos} {wi:TI} {g:TG} {tt:TT} {te tv:TE} (hr:Ev.Here X) (hu:X.A.units+20 < cLine) (hc:X.calm=true) (hN:X.N.Nodup) (hi:PI X a ia wi) (ok:BlkOk X.N X.env.scope sc own)
  (k0:EvN.Blk X sc a fa g tt) (he:∀ z H C cl fp,PE (EvN.bkX X sc z H C cl fp) elt te) (hv:∀ z H C cl fp,PE (EvN.bkX X sc z H C cl fp) vx tv) (hs:∀ x,foldedSetIterable ia X.env x=pure x) (I:Inv X pins σ H s) (h:tDcN X.K wi g tt te tv (own.map (·.2)) σ H Q)
  (hRR:∀ D C s' m H',Inv X pins σ H' s'→Q (.ref D) H'→s'.heap.Ns C m→FpOk X pins H' C→compPost (model X.prog X.w) X.A X.xe use Qf (.ref D) C (.ok .next) s'):
  wpAny (model X.prog X.w) X.A (comprehension (.DictComp elt vx [⟨a,ia,fa,0⟩] sc po) sc X.env pos' newDict false (eval ia X.env) use) Qf X.xe s:=by
 have cellsAt:∀ y∈sc.names,y.2= .free→∃ c,X.env.cells.lookup y.1=some c:=fun y hy e=>(ok.free y hy e).elim (fun k=>I.ok.has _ (.inl k)) fun k=>I.ok.has _ (.inr k)
 refine wpAny_comprehension_free (use:=use) rfl hs (closure_ok cellsAt) ok.kind (fun y hy e=>by rw [ok.uniq y hy,e]) (thn (hi.run pins s σ H _ I h) fun xv z1 hx=>thn hx fun itv z2 h2=>?_)
 obtain⟨it,fp,tn,J,H2,e,I2,T,st2,f2,q⟩:=h2
 subst e
 refine wpAny_newObj_type (newEnv_comp ?_)
 generalize hD:z2.heap.objs.size=D
 have freshD:H2 D=none:=I2.hok.fresh (Nat.le_of_eq hD)
 obtain⟨W,⟨m0,w0⟩,turn⟩:=q D freshD
 generalize ez:({z2 with heap:=z2.heap.push {cls:= .type "dict",data:= .dict #[]}}:Shared)=z3
 have hp3:z3.heap=z2.heap.push {cls:= .type "dict",data:= .dict #[]}:=by rw [←ez]
 have I3:Inv X pins σ (upd H2 D (rawN D [])) z3:=by
  rw [←ez]
  refine I2.laid (t':=z2.toks) (fun c o e=>Heap.get?_push_of_some _ e) (Nat.le_of_eq hD) ?_
  rw [←hD]
  exact aR3 hr (beq_eq_false_iff_ne.mpr (Nat.ne_of_gt I2.big)) (Nat.zero_le _) .nil (Heap.DictOfH.new z2.heap)
 have below:∀ c∈fp,c < z2.heap.objs.size:=fun c hm=>let ⟨_,e,_⟩:=T.obj _ _ st2 c hm; Heap.lt_size e
 have f3:∀ c∈fp,FpOk X pins (upd H2 D (rawN D [])) c∧c < z3.heap.objs.size:=fun c hm=>by
  have lt:=below c hm
  refine⟨⟨?_,(f2 c hm).2⟩,by rw [hp3,Heap.size_push]; exact Nat.lt_succ_of_lt lt⟩
  rw [upd_ne (by rw [←hD]; exact Nat.ne_of_lt lt)]; exact(f2 c hm).1
 have st3:tn 0 z3.heap:=T.keep _ _ _ st2 fun c _ o e=>by rw [hp3]; exact Heap.get?_push_of_some _ e
 have I4:=block_start I3 ok hN f3
 generalize hH3:upd H2 D (rawN D [])=H3 at I3 I4 w0 f3
 generalize hcl:cellsFrom (z3.heap.objs.size+1) sc.names (cloFrom X.env.cells sc.names [])=cl at I4
 have pg:PG (X.blk z3 H3 sc (compEnvC sc cl z3.heap.objs.size X.env) fp) a g:=k0.g z3 H3 z3.heap.objs.size cl fp
 have pt:PTs (X.blk z3 H3 sc (compEnvC sc cl z3.heap.objs.size X.env) fp) fa tt:=k0.t z3 H3 z3.heap.objs.size cl fp
 have pe:PE (X.blk z3 H3 sc (compEnvC sc cl z3.heap.objs.size X.env) fp) elt te:=he z3 H3 z3.heap.objs.size cl fp
 have pv:PE (X.blk z3 H3 sc (compEnvC sc cl z3.heap.objs.size X.env) fp) vx tv:=hv z3 H3 z3.heap.objs.size cl fp
 have noneF:∀ c∈fp,H3 c=none:=fun c hm=>(f3 c hm).1.1
 have back:∀ {σ':L2.St} {Hn:Hp} {zn:Shared},Inv (X.blk z3 H3 sc (compEnvC sc cl z3.heap.objs.size X.env) fp) [] σ' Hn zn→Q (.ref D) Hn→compPost (model X.prog X.w) X.A X.xe use Qf (.ref D) z3.heap.objs.size (.ok .next) zn:=fun {σ' Hn zn} In qq=>by
  have Iq:Inv X pins σ Hn zn:=I3.call' (ch:=fp) In.os In.base In.hok In.bare fun c hm=>⟨(f3 c hm).1.2.2.2.1,(f3 c hm).1.2.1,(f3 c hm).1.2.2.2.2.1,(f3 c hm).1.2.2.2.2.2⟩
  have nC:Hn z3.heap.objs.size=none:=In.free
  obtain⟨mm,hn,_⟩:=In.loc
  exact hRR D z3.heap.objs.size zn mm Hn Iq qq hn (I3.fpOk (Nat.le_refl z3.heap.objs.size) nC)
 show codeAny _ _ (.compStart (.DictComp elt vx [⟨a,ia,fa,0⟩] sc po) 0 (.ref it) (.ref D) (compEnvC sc cl z3.heap.objs.size X.env)) (compPost (model X.prog X.w) X.A X.xe use Qf (.ref D) z3.heap.objs.size) {z3 with heap:=pushCells (z3.heap.push {cls:= .type "dict",data:= .dict #[]}) sc.names}
 generalize hce:compEnvC sc cl z3.heap.objs.size X.env=ce at I4 pg pt pe pv back ⊢
 generalize hz4:({z3 with heap:=pushCells (z3.heap.push {cls:= .type "dict",data:= .dict #[]}) sc.names}:Shared)=z4 at I4 ⊢
 have st4:tn 0 z4.heap:=T.keep _ _ _ st3 fun c _ o e=>by rw [←hz4]; exact pushCells_keeps _ _ _ _ (Heap.get?_push_of_some _ e)
 let B:Cx:=X.blk z3 H3 sc ce fp
 have stat:∀ {σ':L2.St} {Hn:Hp} {zn:Shared},Inv B [] σ' Hn zn→(∀ c∈fp,Hn c=none)→∀ c∈fp,FpOk B [] Hn c:=fun {σ' Hn zn} In hn c hm=>
  ⟨hn c hm,(In.ok.exf c hm).1,In.ok.exfs c hm,.inl hm,fun x y e=>(In.ok.exf c hm).2 x y e,fun p hp=>absurd (show p∈([]:List (Addr×Obj))++[] from hp) (by simp)⟩
 let V:=own.map (·.2)
 have loop:codeAny (model X.prog X.w) X.A (.compLoop (.DictComp elt vx [⟨a,ia,fa,0⟩] sc po) 0 (.ref it) (.ref D) ce) (compPost (model X.prog X.w) X.A X.xe use Qf (.ref D) z3.heap.objs.size) z4:=by
  refine compLoop_anyD (fun n z=>∃ i Hn,Inv B [] (wipe σ V) Hn z∧tn i z.heap∧(∀ c∈fp,Hn c=none)∧W i n Hn) ?_ m0 ⟨0,H3,I4,st4,noneF,w0⟩
  rintro n z5 ⟨i,H5,I5,st5,n5,w5⟩
  rcases turn i n H5 w5 with ⟨stop,qq⟩ | ⟨go,Nx,hNx,step⟩
  ·refine thnF (T.done B rfl rfl rfl hc i [] z5 _ H5 (fun _ _=>False) I5 (stat I5 n5) st5 stop) fun r z6 ⟨hr6,I6⟩=>?_
   subst hr6
   exact back I6 qq
  ·refine thnF (T.item B rfl rfl rfl hc i [] z5 _ H5 (fun _ _=>False) I5 (stat I5 n5) st5 go) fun r z6 ⟨u,hr6,h6⟩=>?_
   subst hr6
   refine thnF h6 fun _ z7 ⟨x,H7,I7,r7,y7,st7,n7⟩=>?_
   have P7:=I7.pinned (stat I7 n7) (T.obj _ _ st7)
   refine thnF (pg.run _ z7 _ H7 x u _ P7 r7 (step x H7 y7)) fun _ z8 ⟨σ8,H8,I8,w8,q8⟩=>thnF (pt.run _ z8 σ8 H8 _ I8 q8) fun t8 z9 ⟨H9,I9,q9⟩=>?_
   have on:∀ {zn:Shared} {Hn:Hp},Inv B ([]++pinsAt fp z7.heap) σ8 Hn zn→Nx Hn→∃ l,l < n∧∃ i Hn,Inv B [] (wipe σ V) Hn zn∧tn i zn.heap∧(∀ c∈fp,Hn c=none)∧W i l Hn:=fun {zn Hn} In nx=>by
    obtain⟨l,hl2,wn⟩:=hNx Hn nx
    have pinned:∀ c∈fp,∀ o,z7.heap.get? c=some o→zn.heap.get? c=some o∧Hn c=none:=fun c hm o e=>
     let y:=In.pin (c,o) (List.mem_append_right _ (List.mem_append_right _ (mem_pinsAt hm e)))
     ⟨y.1,y.2.1⟩
    exact⟨l,hl2,i+1,Hn,(In.unpinned (pins:=[])).weak (by rw [←w8,wipe_length]) (fun j v e=>by rw [←w8] at e; exact(wipe_some e).1),T.keep _ _ _ st7 fun c hm o e=>(pinned c hm o e).1,fun c hm=>let ⟨o,e,_⟩:=T.obj _ _ st7 c hm; (pinned c hm o e).2,wn⟩
   cases t8 with
   | false=>
    simp only [Bool.false_eq_true,if_false] at q9 ⊢
    exact on I9 q9
   | true=>
    simp only [if_true] at q9 ⊢
    refine thnF (pe.run _ z9 σ8 H9 _ I9 q9) fun kv zI ⟨yk,HI,II,rI,qI⟩=>thnF (pv.run _ zI σ8 HI _ II qI) fun vv zJ ⟨yv,HJ,IJ,rJ,es,ad,kk,eyk,hDJ,hkn,hkk,h8,hz,nx⟩=>?_
    subst eyk
    exact aR6 (X:=B) ⟨hr.p,hr.w⟩ hu IJ hDJ hkn hkk h8 hz rI rJ fun zK IK=>on IK nx
 exact codeAny_compStart_dict loop (T.self X.A 0 _ _ _ st4 loop)
theorem aUu {elt vx:Expr} {gs:List Comprehension} {scope:Scope} {pos py:Pos} {y:Str} {l:Nat} {env:PySem.Env} (hk:env.scope.kind= .function) (hy:env.scope.names.lookup y=some .local) (hl:(py.line ==pos.line)=true)
  (ha:(scope.names.any fun(n,k)=>n ==y&&(k == .local||k == .cell))=false):swapsWith (.DictComp elt vx gs scope pos) (some (.Name y py)) l env=pure true:=by
 have ky:env.kindOf y=some .local:=hy
 have hb:env.blockKind= .function:=by unfold Env.blockKind; rw [hk]; rfl
 unfold swapsWith
 simp only [hb,ky,ha,Expr.pos,hl]
 rfl
noncomputable def kept (Q:VK):VK:=fun v H=>Q v H∨∃ a u,v=V.ref a∧H a=some u∧Mut (some u)∧∀ od,Q v (upd H a (.frz od u))
theorem aYc {i:Nat} {y:Str} {py:Pos} {elt vx tg iter:Expr} {ifs:List Expr} {scope:Scope} {pos spos:Pos} {t:TE} (hN:X.N.Nodup) (hy:X.N[i]? =some y) (hyl:X.env.scope.names.lookup y=some .local)
  (hsw:swapsWith (.DictComp elt vx [⟨tg,iter,ifs,0⟩] scope pos) (some (.Name y py)) spos.line X.env=pure true)
  (core:∀(pins:List (Addr×Obj)) (s:Shared) (σ:L2.St) (H:Hp) (Q:VK) (pos':Pos) (use:Option (Value→Sem Unit)) (Qf:Value→Shared→Prop),Inv X pins σ H s→t σ H Q→
   (∀ D C s' m H',Inv X pins σ H' s'→Q (.ref D) H'→s'.heap.Ns C m→FpOk X pins H' C→compPost (model X.prog X.w) X.A X.xe use Qf (.ref D) C (.ok .next) s')→
   wpAny (model X.prog X.w) X.A (comprehension (.DictComp elt vx [⟨tg,iter,ifs,0⟩] scope pos) scope X.env pos' newDict false (eval iter X.env) use) Qf X.xe s):
  PS X (.Assign [.Name y py] (.DictComp elt vx [⟨tg,iter,ifs,0⟩] scope pos) spos) (fun D σ H=>t σ H (kept fun x H1=>gName i x σ H1 D.nx)):=by
 refine⟨fun pins s σ H D I h=>?_⟩
 rw [exec_Assign_Name_used _ _ _ _ hsw]
 refine wpAny_bind (wpAny_standAt (wpAny_bind ?_))
 show wpAny _ X.A (do let _ ←comprehension (.DictComp elt vx [⟨tg,iter,ifs,0⟩] scope pos) scope X.env (firstIterPos [⟨tg,iter,ifs,0⟩] pos) newDict false (eval iter X.env) (some (assign (.Name y py) X.env))) _ _ s
 refine wpAny_bind (thn (core pins s σ H _ _ _ (fun _ s'=>SP X pins D .next s') I h fun L C s' m H' I' q hn f=>?_) fun _ s' hq=>wpAny_pure (wpAny_pure hq))
 show wpAny _ _ (assign (.Name y py) X.env (.ref L)) _ _ _
 obtain⟨f0,f1,f2,f3,f4,f5⟩:=f
 obtain⟨H'',I'',f0,q⟩:∃ H'',Inv X pins σ H'' s'∧H'' C=none∧gName i (.ref L) σ H'' D.nx:=by
  rcases q with q | ⟨a,u,e,ea,mu,q⟩
  ·exact⟨H',I',f0,q⟩
  ·obtain⟨od,I2⟩:=I'.lock ea mu
   exact⟨_,I2,by rw [upd_ne (fun e=>by rw [e,ea] at f0; cases f0)]; exact f0,q od⟩
 refine wpAny_assign_Name (store_ok2 (v:=V.ref L) I'' hN hy (.inl hyl) rfl (fun s2 I2 ⟨a,sb,ha⟩=>?_) (.inr hyl))
 have haC:C≠a:=by
  rcases ha with z | z
  ·rw [z]; exact f1
  ·exact fun e=>f4 y a z e.symm
 refine⟨m,hn.sameBut sb haC,fun h3 sb3=>?_⟩
 exact⟨_,H'',I2.turned (t':=s2.toks) (fun b o hb e=>(sb3.2 b hb).trans e) f0 f1 f3 f4 f5,q⟩
end
section
variable {K:PySem.W.Frag} {W:WX} {X:Cx} [Wrl]
variable {elt vx tg iter:Expr} {ifs:List Expr} {scope:Scope} {own:List (Str×Nat)} {pos:Pos} {fi:LF} {g:GF} {tt:BF} {fe fv:EF} {k:Nat} {wg:TG}
theorem aYv {mu:Bool} {Q:VK} {D:Addr} {H:Hp} (h:if mu then Q (.ref D) H else ∃ b u,V.ref D= .ref b∧H b=some u∧Mut (some u)∧∀ od,Q (.ref D) (upd H b (.frz od u))):kept Q (.ref D) H:=by
 cases mu with
 | true=>exact .inl h
 | false=>exact .inr h
theorem aT2 (mu:Bool) (i:Nat) {y:Str} {py spos:Pos} (c:Cok X W k) (hi:SI X W tg iter fi) (ok:BlkOk X.N X.env.scope scope own) (hc:CompOk X scope own tg ifs elt g tt fe wg) (hv:∀(s:Shared) (H:Hp) (C:Addr) (cl:List (Str×Addr)) (fp:List Addr),SE (X.blk s H scope (compEnvC scope cl C X.env) fp) W0 vx fv)
  (hy:X.N[i]? =some y:=by rfl) (hyl:X.env.scope.names.lookup y=some .local:=by rfl) (hsw:swapsWith (.DictComp elt vx [⟨tg,iter,ifs,0⟩] scope pos) (some (.Name y py)) spos.line X.env=pure true:=by exact aUu rfl rfl rfl (by decide+kernel)) (hs:∀ x,foldedSetIterable iter X.env x=pure x:=by intro _; rfl):
  SS X W (.Assign [.Name y py] (.DictComp elt vx [⟨tg,iter,ifs,0⟩] scope pos) spos) (sOf (aEa mu (own.map (·.2)) fi g tt fe fv) fun t env m=> .nx (env.set i (some t)) m):=by
 have rule:=aYc (X:=X) (t:=tDc (trI X.K W fi) wg (trB X.K W0 tt) (tr X.K W0 fe) (tr X.K W0 fv) (own.map (·.2))) c.nd hy hyl hsw fun pins s σ H Q pos' use Qf I h hRR=>
  dc_core (kx:=elt) (vx:=vx) (pos:=pos) (pos':=pos') (own:=own) c.calm c.nd I hi.pi ok (fun s H C cl fp=>(hc.sg s H C cl fp).pg) (fun s H C cl fp=>(hc.st s H C cl fp).pts) (fun s H C cl fp=>(hc.se s H C cl fp).pe) (fun s H C cl fp=>(hv s H C cl fp).pe) hs h hRR
 have el:∀(D:Addr) (Nx:Hp→Prop) (σ:L2.St) (H:Hp),trL X.K W0 (zX fe (zX fv lNil)) σ H (fun ys H4=>AdD D ys H4 Nx)→tr X.K W0 fe σ H fun y H4=>tr X.K W0 fv σ H4 fun z H5=>∃ kvs k,y=kV k∧H5 D=some (.dK kvs)∧kvs.length < sizeLine∧Nx (upd H5 D (.dK (putK kvs k z))):=by
  intro D Nx σ H h
  obtain⟨Φ,Z,ρ,env,m,F,p⟩:=aSz h
  refine⟨Φ,Z,ρ,env,m,F,?_⟩
  cases e:fe env m with
  | ok t m1=>
   rw [e] at p
   intro Z' ρ' H' v e1 r rep
   obtain⟨Φ2,Z2,ρ2,env2,m2,F2,p2⟩:=p Z' ρ' H' v e1 r rep
   refine⟨Φ2,Z2,ρ2,env2,m2,F2,?_⟩
   cases e3:fv env2 m2 with
   | ok t3 m3=>
    rw [e3] at p2
    intro Z4 ρ4 H4 v4 e4 r4 rep4
    obtain⟨y,z,kvs,kk,e5,q⟩:=p2 Z4 ρ4 H4 v4 e4 r4 rep4
    cases e5
    exact⟨kvs,kk,q⟩
   | ex _ _ _ _=>rw [e3] at p2; exact p2
   | no=>rw [e3] at p2; exact p2
  | ex _ _ _ _=>rw [e] at p; exact p
  | no=>rw [e] at p; exact p
 exact⟨tY rule fun D σ H h=>bA7 (Qr:=kept fun x H1=>gName i x σ H1 D.nx) accD hc.kg el (fun Φ Z ρ H m D a o r hΨ ra p=>aYv (finD (mu:=mu) Φ Z ρ H m D a o r hΨ ra p))
  (tV (k:=fun t env m=> .nx (env.set i (some t)) m) (fun Φ Z1 ρ1 H1 env m1 t v F r p=>p _ _ _ _ Ext.refl ⟨F.rel,F.env.set i r⟩ (by simp)) h)⟩
theorem aQf (mu:Bool) (i:Nat) {y:Str} {py spos:Pos} (c:Cok X W k) (hi:SI X W tg iter fi) (ok:BlkOk X.N X.env.scope scope own) (hc:CompOk X scope own tg ifs elt g tt fe wg) (hv:∀(s:Shared) (H:Hp) (C:Addr) (cl:List (Str×Addr)) (fp:List Addr),SE (X.blk s H scope (compEnvC scope cl C X.env) fp) W0 vx fv)
  (hy:X.N[i]? =some y:=by rfl) (hyl:X.env.scope.names.lookup y=some .local:=by rfl) (hsw:swapsWith (.DictComp elt vx [⟨tg,iter,ifs,0⟩] scope pos) (some (.Name y py)) spos.line X.env=pure true:=by exact aUu rfl rfl rfl (by decide+kernel)) (hs:∀ x,foldedSetIterable iter X.env x=pure x:=by intro _; rfl):
  SS X W (.Assign [.Name y py] (.DictComp elt vx [⟨tg,iter,ifs,0⟩] scope pos) spos) (sOf (aZg mu (own.map (·.2)) fi g tt fe fv) fun t env m=> .nx (env.set i (some t)) m):=by
 have rule:=aYc (X:=X) (t:=tDcN X.K (trI X.K W fi) wg (trB X.K W0 tt) (tr X.K W0 fe) (tr X.K W0 fv) (own.map (·.2))) c.nd hy hyl hsw fun pins s σ H Q pos' use Qf I h hRR=>
  bBn (elt:=elt) (vx:=vx) (po:=pos) (pos':=pos') (own:=own) c.here c.huN c.calm c.nd hi.pi ok ⟨fun s H C cl fp=>(hc.sg s H C cl fp).pg,fun s H C cl fp=>(hc.st s H C cl fp).pts⟩ (fun s H C cl fp=>(hc.se s H C cl fp).pe) (fun s H C cl fp=>(hv s H C cl fp).pe) hs I h hRR
 have el:∀(D:Addr) (Nx:Hp→Prop) (σ:L2.St) (H:Hp),trL X.K W0 (zX fe (zX fv lNil)) σ H (fun ys H4=>AdN X.K D ys H4 Nx)→tr X.K W0 fe σ H fun y H4=>tr X.K W0 fv σ H4 fun z H5=>∃(es:List EnN) (a:Addr) (k:NestedKey),y= .ref a∧H5 D=some (rawN D es)∧(∀ e∈es,NIs X.K H5 e.1 (.ref e.2.1))∧NIs X.K H5 k (.ref a)∧k.depth≤8∧es.length < sizeLine∧Nx (upd H5 D (rawN D (uE es k a z))):=by
  intro D Nx σ H h
  obtain⟨Φ,Z,ρ,env,m,F,p⟩:=aSz h
  refine⟨Φ,Z,ρ,env,m,F,?_⟩
  cases e:fe env m with
  | ok t m1=>
   rw [e] at p
   intro Z' ρ' H' v e1 r rep
   obtain⟨Φ2,Z2,ρ2,env2,m2,F2,p2⟩:=p Z' ρ' H' v e1 r rep
   refine⟨Φ2,Z2,ρ2,env2,m2,F2,?_⟩
   cases e3:fv env2 m2 with
   | ok t3 m3=>
    rw [e3] at p2
    intro Z4 ρ4 H4 v4 e4 r4 rep4
    obtain⟨y,z,es,a,kk,e5,q⟩:=p2 Z4 ρ4 H4 v4 e4 r4 rep4
    cases e5
    exact⟨es,a,kk,q⟩
   | ex _ _ _ _=>rw [e3] at p2; exact p2
   | no=>rw [e3] at p2; exact p2
  | ex _ _ _ _=>rw [e] at p; exact p
  | no=>rw [e] at p; exact p
 exact⟨tY rule fun D σ H h=>bA7 (Qr:=kept fun x H1=>gName i x σ H1 D.nx) accN hc.kg el (fun Φ Z ρ H m D a o r hΨ ra p=>aYv (finN (mu:=mu) Φ Z ρ H m D a o r hΨ ra p))
  (tV (k:=fun t env m=> .nx (env.set i (some t)) m) (fun Φ Z1 ρ1 H1 env m1 t v F r p=>p _ _ _ _ Ext.refl ⟨F.rel,F.env.set i r⟩ (by simp)) h)⟩
end
end Ev
namespace Ev
open PySem PySem.Spec PyProof PyProof.Rows L2
section
variable {X:Cx} [Wrl]
end
section
variable {K:PySem.W.Frag} {W:WX} {X:Cx} [Wrl]
end
end Ev
namespace EvB
open PySem PySem.Spec PySem.W PySem.Calls PyProof PyProof.Rows L2
section
variable {prog:Program} {w:World} {A:Around} {E:Value→Shared→Prop} {s:Shared}
theorem aV6 {it l:Addr} {items:Array Value} {x z:Value} {mids:List Value} {T:String} {St:Nat→Heap→Prop} {Q:List Value→Shared→Prop} {h1:Heap}
  (hTm:T="str_ascii_iterator"∨T="str_iterator"∨T="list_iterator"∨T="tuple_iterator") (W:Walks prog w A.in1 it [it,l] [it] items.size (fun i v=>items[i]? =some v) St)
  (hT:∀ i (u:Shared),St i u.heap→u.TypeIs (.ref it) T) (e:items.toList=x::(mids++[z])) (hz:items.size≤sizeLine) (st:St 1 h1) (b1:it < h1.objs.size) (b2:l < h1.objs.size) (hit:s.heap.objs.size≤it) (k1:∀ b o,s.heap.get? b=some o→h1.get? b=some o)
  (fin:∀(h':Heap) (tk:Nat),(∀ b o,s.heap.get? b=some o→h'.get? b=some o)→Q [x,.ref h'.objs.size,z] {s with heap:=h'.push (seqObj "list" mids.toArray 0),toks:=tk}):
  wpAny (model prog w) A (do
   let first:=(items.toList.drop 0).take 1
   if first.length < 1 then
    rule "unpack.star.too-few-before"
    raiseError "ValueError" s!"not enough values to unpack (expected at least {3 - 1}, got {first.length})"
   let rest ←holding first (collect (.ref it))
   let after:=3 - 1 - 1
   if rest.length < after then
    rule "unpack.star.too-few"
    raiseError "ValueError" s!"not enough values to unpack (expected at least {3 - 1}, got {1 + rest.length})"
   let mid:=rest.length - after
   return first++[←newList (rest.take mid)]++rest.drop mid) Q E {s with heap:=h1}:=by
 have e1:(items.toList.drop 0).take 1=[x]:=by rw [e]; rfl
 have e2:items.toList.drop 1=mids++[z]:=by rw [e]; rfl
 have e3:items.size=mids.length+2:=by rw [←Array.length_toList,e]; simp
 rw [e1]
 show wpAny _ _ (holding [x] (collect (.ref it)) >>=_) _ _ _
 refine wpAny_bind (wpAny_holding (kun_collect (s:={s with heap:=h1}) hTm W hT (k:=1) (by omega) st b1 b2 (fun h2 tk hk=>?_) hz))
 rw [e2]
 have hl:¬(mids++[z]).length < 1:=by simp
 have k2:∀ b o,s.heap.get? b=some o→h2.get? b=some o:=fun b o q=>hk b o (Nat.ne_of_lt (Nat.lt_of_lt_of_le (Heap.lt_size q) hit)) (k1 b o q)
 have t1:(mids++[z]).take ((mids++[z]).length - 1)=mids:=by simp
 have t2:(mids++[z]).drop ((mids++[z]).length - 1)=[z]:=by simp
 have step:wpAny (model prog w) A (newList ((mids++[z]).take ((mids++[z]).length - 1)) >>=fun d=>pure ([x]++[d]++(mids++[z]).drop ((mids++[z]).length - 1))) Q E {s with heap:=h2,toks:=tk}:=by
  rw [t1,t2]
  exact wpAny_bind (wpAny_newList (s:={s with heap:=h2,toks:=tk}) (wpAny_pure (fin h2 tk k2)) (by rw [sizeLine_eq] at hz ⊢; omega))
 show wpAny _ _ (if(mids++[z]).length < 1 then _ else _) _ _ _
 rw [if_neg hl]
 exact step
theorem aQd {l:Addr} {items:Array Value} {x z:Value} {mids:List Value} {Q:List Value→Shared→Prop} (hl:s.heap.IsList l items) (hh:A.handled=none) (e:items.toList=x::(mids++[z])) (hz:items.size≤sizeLine)
  (fin:∀(h':Heap) (tk:Nat),(∀ b o,s.heap.get? b=some o→h'.get? b=some o)→Q [x,.ref h'.objs.size,z] {s with heap:=h'.push (seqObj "list" mids.toArray 0),toks:=tk}):
  wpAny (model prog w) A (unpackItems (.ref l) 3 (some 1)) Q E s:=by
 have hll:l < s.heap.objs.size:=by obtain⟨o,ho,_⟩:=hl; exact Heap.lt_size ho
 have hlt:l≠s.heap.objs.size:=Nat.ne_of_lt hll
 have e3:items.size=mids.length+2:=by rw [←Array.length_toList,e]; simp
 unfold unpackItems
 refine wpAny_bind ?_
 unfold notIterableAtAll
 refine wpAny_bind (wpAny_specialOf hl.typeIs F.slot_list_iter.lookup ?_)
 refine wpAny_pure ?_
 simp only [Bool.false_eq_true,if_false]
 refine wpAny_bind (wpAny_holding (wpAny_pyIter_list hl ?_))
 refine wpAny_bind (wpAny_holding (kun_draw hlt 1 0 _ _ ⟨_,Heap.get?_push_size _ rfl,rfl,rfl⟩ (hl.push _) (by omega) fun h₁ hit₁ hs₁=>?_))
 have hl₁:h₁.IsList l items:=(hl.push _).extBut hs₁.extBut hlt
 obtain⟨oi,hoi,_⟩:=id hit₁
 obtain⟨ol,hol,_⟩:=id hl₁
 exact aV6 (s:=s) (.inr (.inr (.inl rfl))) (Walks.list (A:=A.in1) hh s.heap.objs.size l hlt items) (fun j u st=>st.1.typeIs) e hz ⟨hit₁,hl₁⟩ (Heap.lt_size hoi) (Heap.lt_size hol) (Nat.le_refl _)
  (fun b o q=>hs₁.extBut b o (Nat.ne_of_lt (Heap.lt_size q)) (Heap.get?_push_of_some _ q)) fin
theorem aSv {l:Addr} {items:Array Value} {x z:Value} {mids:List Value} {Q:List Value→Shared→Prop} (hl:IsTup s.heap l items) (hh:A.handled=none) (e:items.toList=x::(mids++[z])) (hz:items.size≤sizeLine)
  (fin:∀(h':Heap) (tk:Nat),(∀ b o,s.heap.get? b=some o→h'.get? b=some o)→Q [x,.ref h'.objs.size,z] {s with heap:=h'.push (seqObj "list" mids.toArray 0),toks:=tk}):
  wpAny (model prog w) A (unpackItems (.ref l) 3 (some 1)) Q E s:=by
 have hll:l < s.heap.objs.size:=by obtain⟨o,ho,_⟩:=hl; exact Heap.lt_size ho
 have hlt:l≠s.heap.objs.size:=Nat.ne_of_lt hll
 have e3:items.size=mids.length+2:=by rw [←Array.length_toList,e]; simp
 unfold unpackItems
 refine wpAny_bind ?_
 unfold notIterableAtAll
 refine wpAny_bind (wpAny_specialOf hl.typeIs F.slot_tuple_iter.lookup ?_)
 refine wpAny_pure ?_
 simp only [Bool.false_eq_true,if_false]
 refine wpAny_bind (wpAny_holding (iter_tuple hl ?_))
 refine wpAny_bind (wpAny_holding (draw_tuple hlt 1 0 _ _ ⟨_,Heap.get?_push_size _ rfl,rfl,rfl⟩ (hl.push _) (by omega) fun h₁ hit₁ hs₁=>?_))
 have hl₁:IsTup h₁ l items:=(hl.push _).extBut hs₁.extBut hlt
 obtain⟨oi,hoi,_⟩:=id hit₁
 obtain⟨ol,hol,_⟩:=id hl₁
 exact aV6 (s:=s) (.inr (.inr (.inr rfl))) (Walks.tuple (A:=A.in1) hh s.heap.objs.size l hlt items) (fun j u st=>st.1.typeIs) e hz ⟨hit₁,hl₁⟩ (Heap.lt_size hoi) (Heap.lt_size hol) (Nat.le_refl _)
  (fun b o q=>hs₁.extBut b o (Nat.ne_of_lt (Heap.lt_size q)) (Heap.get?_push_of_some _ q)) fin
end
section
variable {X:Cx}
noncomputable def bGm (K:PySem.W.Frag) (i j l:Nat):TG:=fun v σ H Q=>∃ a x xs z,v= .ref a∧(SqL K H a (x::(xs++[z]))∨SqT K H a (x::(xs++[z])))∧∀ D,H D=none→Q (((σ.set i (some x)).set j (some (.ref D))).set l (some z)) (upd H D (.lst xs))
theorem aQb:∀ {xs:List V} {z:V} {us:List Value},Vals (xs++[z]) us→∃ ys u,us=ys++[u]∧Vals xs ys∧RelV z u
 | [],z,us,r=>by
  obtain⟨u,rfl,h⟩:=vals1 r
  exact⟨[],u,rfl,.nil,h⟩
 | x::xs,z,us,r=>by
  cases r with
  | cons h t=>
   obtain⟨ys,u,rfl,h1,h2⟩:=aQb t
   exact⟨_::ys,u,rfl,.cons h h1,h2⟩
theorem bB1 {a b d:Str} {i j e k:Nat} {p p1 p2 p3 pos:Pos} (hc:X.calm=true) (hN:X.N.Nodup) (hi:X.N[i]? =some a) (hj:X.N[j]? =some b) (hd:X.N[e]? =some d) (ha:Loc X.env.scope a) (hb:Loc X.env.scope b) (he:Loc X.env.scope d)
  (fa:X.fn a=true∨X.env.scope.names.lookup a=some .local) (fb:X.fn b=true∨X.env.scope.names.lookup b=some .local) (fd:X.fn d=true∨X.env.scope.names.lookup d=some .local):
  PG X (.Tuple [.Name a p,.Starred (.Name b p1) p2,.Name d p3] k pos) (bGm X.K i j e):=by
 refine⟨fun pins s σ H v u Q I r h=>?_⟩
 obtain⟨l,x,xs,z,rfl,hq,q⟩:=h
 cases r
 rw [assign_Tuple]
 refine wpAny_bind (wpAny_standAt ?_)
 unfold unpack
 have done:∀(its:List Value),Vals (x::(xs++[z])) its→its.length≤sizeLine→∃ y ys w,its=y::(ys++[w])∧∀(h':Heap) (tk:Nat),(∀ b o,s.heap.get? b=some o→h'.get? b=some o)→
   wpAny (model X.prog X.w) X.A (assignInOrder ((assignEach [.Name a p,.Starred (.Name b p1) p2,.Name d p3] X.env).map (·.2)) [y,.ref h'.objs.size,w]) (fun _ s'=>∃ σ' H',Inv X pins σ' H' s'∧Q σ' H') X.xe {s with heap:=h'.push (seqObj "list" ys.toArray 0),toks:=tk}:=by
  intro its rv hz
  cases rv with
  | @cons _ y _ us ry rv=>
   obtain⟨ys,w,rfl,rv,rw'⟩:=aQb rv
   refine⟨y,ys,w,rfl,fun h' tk hk=>?_⟩
   have I1:Inv X pins σ H {s with heap:=h',toks:=tk}:=I.kept (t':=tk) hk
   have fr:=I1.hok.fresh (Nat.le_refl _)
   have I2:Inv X pins σ (upd H h'.objs.size (.lst xs)) {s with heap:=h'.push (seqObj "list" ys.toArray 0),toks:=tk}:=
    I1.laid (t':=tk) (fun b o e=>Heap.get?_push_of_some _ e) (Nat.le_refl _) (show ObjOk X.prog X.w _ _ _ (.lst xs) from ⟨by rw [rv.length]; rw [List.length_cons,List.length_append] at hz; omega,ys,0,rv,Heap.get?_push_size _ rfl⟩)
   have g:PGs X [.Name a p,.Name b p1,.Name d p3] (gCons (gName i) (gCons (gName j) (gCons (gName e) gNil))):=pgs_cons (pg_name hN hi ha fa) (pgs_cons (pg_name hN hj hb fb) (pgs_cons (pg_name hN hd he fd) pgs_nil))
   exact g.run pins _ σ _ [x,.ref h'.objs.size,z] _ Q I2 (.cons ry (.cons rfl (.cons rw' .nil))) ⟨_,_,rfl,_,_,rfl,_,_,rfl,rfl,q _ fr⟩
 rcases hq with hq | hq
 ·obtain⟨its,rv,p,hz⟩:=I.list hq
  obtain⟨y,ys,w,e,fin⟩:=done its rv (by rw [←rv.length]; exact hz)
  exact wpAny_bind (wpAny_holding (aQd p.isList (I.ok.hd hc) (by simpa using e) (by rw [List.size_toArray,←rv.length]; exact hz) fin))
 ·obtain⟨its,rv,p,hz⟩:=I.tuple hq
  obtain⟨y,ys,w,e,fin⟩:=done its rv (by rw [←rv.length]; exact hz)
  exact wpAny_bind (wpAny_holding (aSv p (I.ok.hd hc) (by simpa using e) (by rw [List.size_toArray,←rv.length]; exact hz) fin))
end
end EvB
namespace Ev
open PySem PySem.Spec PyProof PyProof.Rows L2
variable [Wrl]
section
variable {K:PySem.W.Frag} {W:WX} {X:Cx} {Z:Hp} {ρ:List Addr}
noncomputable def aL0:List T→Option (List T×T)
 | []=>none
 | x::xs=>match aL0 xs with
  | none=>some ([],x)
  | some (ys,z)=>some (x::ys,z)
theorem aT5:∀ {xs:List T},aL0 xs=none→xs=[]
 | [],_=>rfl
 | x::xs,h=>by
  unfold aL0 at h
  split at h<;>cases h
theorem aQg:∀ {xs ys:List T} {z:T},aL0 xs=some (ys,z)→xs=ys++[z]
 | [],_,_,h=>by cases h
 | x::xs,ys,z,h=>by
  unfold aL0 at h
  split at h
  ·rename_i e
   cases h
   rw [aT5 e]; rfl
  ·rename_i us u e
   cases h
   rw [aQg e]; rfl
theorem aR0:∀ {ts:List T} {t:T} {vs:List V},Reps K Z ρ (ts++[t]) vs→∃ us v,vs=us++[v]∧Reps K Z ρ ts us∧Rep K Z ρ t v
 | [],t,vs,r=>by
  obtain⟨v,rfl,h⟩:=jE r
  exact⟨[],v,rfl,.nil,h⟩
 | x::xs,t,vs,r=>by
  have r:Reps K Z ρ (x::(xs++[t])) vs:=r
  unfold Reps at r
  obtain⟨y,ys,rfl,ry,rs⟩:=r
  obtain⟨us,v,rfl,h1,h2⟩:=aR0 rs
  exact⟨y::us,v,rfl,.cons ry h1,h2⟩
noncomputable def bC6 (i j l:Nat) (mu:Bool) (f:EF):SF:=sOf f fun t env m=>match aDh m t with
 | some (x::xs)=>match aL0 xs with
  | some (ys,z)=>match mk mu ys m with
   | .ok u m1=> .nx (((env.set i (some x)).set j (some u)).set l (some z)) m1
   | _=> .no
  | none=> .no
 | _=> .no
theorem bAa {n:Nat} (i j l:Nat) (mu:Bool) {a b d:Str} {e:Expr} {f:EF} {kk:Nat} {p p1 p2 p3 pos' pos:Pos} (c:Cok X W n) (he:SE X W e f) (hi:X.N[i]? =some a:=by rfl) (hj:X.N[j]? =some b:=by rfl) (hl:X.N[l]? =some d:=by rfl)
  (ha:Loc X.env.scope a:=by first | exact Or.inl rfl | exact Or.inr rfl) (hb:Loc X.env.scope b:=by first | exact Or.inl rfl | exact Or.inr rfl) (hd:Loc X.env.scope d:=by first | exact Or.inl rfl | exact Or.inr rfl)
  (fa:X.fn a=true∨X.env.scope.names.lookup a=some .local:=by first | exact .inl rfl | exact .inr rfl) (fb:X.fn b=true∨X.env.scope.names.lookup b=some .local:=by first | exact .inl rfl | exact .inr rfl) (fd:X.fn d=true∨X.env.scope.names.lookup d=some .local:=by first | exact .inl rfl | exact .inr rfl)
  (hs:swapsWithSole [.Tuple [.Name a p,.Starred (.Name b p1) p2,.Name d p3] kk pos'] e pos.line X.env=pure false:=by rfl) (hw:swappedStores [.Tuple [.Name a p,.Starred (.Name b p1) p2,.Name d p3] kk pos'] e X.env=pure none:=by rfl)
  (h1:(assignEach [.Tuple [.Name a p,.Starred (.Name b p1) p2,.Name d p3] kk pos'] X.env).map (·.2)=[assign (.Tuple [.Name a p,.Starred (.Name b p1) p2,.Name d p3] kk pos') X.env]:=by rfl):
  SS X W (.Assign [.Tuple [.Name a p,.Starred (.Name b p1) p2,.Name d p3] kk pos'] e pos) (bC6 i j l mu f):=by
 refine⟨tY (ps_asg he.pe (EvB.bB1 c.calm c.nd hi hj hl ha hb hd fa fb fd) hs hw h1) fun D σ H h=>tV (k:=fun t env m=>match aDh m t with
  | some (x::xs)=>match aL0 xs with
   | some (ys,z)=>match mk mu ys m with
    | .ok u m1=> .nx (((env.set i (some x)).set j (some u)).set l (some z)) m1
    | _=> .no
   | none=> .no
  | _=> .no) (fun Φ Z1 ρ1 H1 env m1 t v F r p=>?_) h⟩
 split at p
 ·rename_i x xs ht
  split at p
  rotate_left
  ·exact p.elim
  rename_i zs z hz
  obtain⟨l0,vs,rfl,hq,rs⟩:=jA F.rel r ht
  rw [aQg hz] at rs
  unfold Reps at rs
  obtain⟨y,ys,rfl,ry,rs⟩:=rs
  obtain⟨us,v,rfl,rs,rv⟩:=aR0 rs
  refine⟨l0,y,us,v,rfl,hq,fun d hd=>?_⟩
  refine kB (mu:=mu) (W:=W) (σ:=σ) (Q:=fun u H=>D.nx (((σ.set i (some y)).set j (some u)).set l (some v)) H) F.rel rs ?_ hd
  cases hm:mk mu zs m1 with
  | ok u m2=>
   rw [hm] at p
   exact fun Z' ρ' H' v' e1 r1 rv'=>p Z' ρ' H' _ e1 ⟨r1,(((F.env.ext e1).set i (ry.ext e1)).set j rv').set l (rv.ext e1)⟩ (by simp)
  | ex _ _ _ _=>unfold mk at hm; cases mu<;>cases hm
  | no=>unfold mk at hm; cases mu<;>cases hm
 ·exact p.elim
noncomputable def aTt (i j:Nat) (body:SF):List T→Env→Mem→SOut
 | [],env,m=> .nx env m
 | t::ts,env,m=>match aDh m t with
  | some (x::xs)=>match body ((env.set i (some x)).set j (some (.lst xs))) m with
   | .nx env2 m2=>aTt i j body ts env2 m2
   | .ct env2 m2=>aTt i j body ts env2 m2
   | .bk env2 m2=> .nx env2 m2
   | .rt t m2=> .rt t m2
   | .ex C ns vs env2 m2=> .ex C ns vs env2 m2
   | .no=> .no
  | _=> .no
noncomputable def bDt (i j:Nat) (fi:LF) (body:SF):SF:=fun env m=>match fi env m with
 | .ok ts m1=>aTt i j body ts env m1
 | .ex C ns vs m1=> .ex C ns vs env m1
 | .no=> .no
theorem bD0 {k:Nat} (i j:Nat) {a b:Str} {iter:Expr} {body:List Stmt} {fi:LF} {fb:SF} {kk:Nat} {p p1 p2 pos' pos:Pos} (c:Cok X W k) (hi:SI X W (.Tuple [.Name a p,.Starred (.Name b p1) p2] kk pos') iter fi) (hb:SSs X W body fb)
  (ia:X.N[i]? =some a:=by rfl) (ib:X.N[j]? =some b:=by rfl)
  (la:Loc X.env.scope a:=by first | exact Or.inl rfl | exact Or.inr rfl) (lb:Loc X.env.scope b:=by first | exact Or.inl rfl | exact Or.inr rfl)
  (fa:X.fn a=true∨X.env.scope.names.lookup a=some .local:=by first | exact .inl rfl | exact .inr rfl) (fb':X.fn b=true∨X.env.scope.names.lookup b=some .local:=by first | exact .inl rfl | exact .inr rfl)
  (hs:∀ x,foldedSetIterable iter X.env x=pure x:=by intro _; rfl):SS X W (.For (.Tuple [.Name a p,.Starred (.Name b p1) p2] kk pos') iter body [] pos) (bDt i j fi fb):=by
 obtain⟨wi,pi,ki⟩:=hi.ex
 refine⟨tY (ps_for c.pass c.calm pi (EvB.bDz c.calm c.nd ia ib la lb fa fb') hb.ps hs) fun D σ H ⟨Φ,Z,ρ,env,m,F,p⟩=>ki Φ Z ρ σ H env m _ F ?_⟩
 unfold bDt at p
 cases e0:fi env m with
 | no=>rw [e0] at p; exact p
 | ex C ns us m1=>
  rw [e0] at p
  exact fun Z1 ρ1 H1 d us e1 r1 rs hl hd=>p Z1 ρ1 H1 σ d us e1 ⟨r1,F.env.ext e1⟩ rs hl hd
 | ok ts m1=>
  rw [e0] at p
  intro Z1 ρ1 H1 J e1 r1 wk
  let Pv:Nat→Nat→L2.St→Hp→Prop:=fun i0 k σ2 H2=>k=ts.length - i0∧i0≤ts.length∧σ2.length=σ.length∧∃ Z2 ρ2 env2 m2,Ext Z1 Z2 ρ1 ρ2∧Fits X.K Φ Z2 ρ2 σ2 H2 env2 m2∧qC X.K W Φ Z2 ρ2 σ.length D (aTt i j fb (ts.drop i0) env2 m2)
  refine⟨Pv,⟨ts.length,by simp,Nat.zero_le _,rfl,Z1,ρ1,env,m1,Ext.refl,⟨r1,F.env.ext e1⟩,by simpa using qC.ext (o:=aTt i j fb ts env m1) p e1⟩,?_⟩
  rintro i0 k σ2 H2 ⟨hk,hi,hl2,Z2,ρ2,env2,m2,e2,F2,p2⟩
  obtain⟨w1,w2⟩:=wk Φ Z2 ρ2 H2 m2 i0 e2 F2.rel
  by_cases hlt:i0 < ts.length
  ·have hti:ts[i0]? =some ts[i0]:=by simp [hlt]
   obtain⟨go,yld⟩:=w2 _ hti
   rw [List.drop_eq_getElem_cons hlt] at p2
   refine .inr ⟨go,fun σ' H'=>Pv (i0+1) (ts.length - (i0+1)) σ' H',fun σ' H' h'=>⟨_,by omega,h'⟩,fun x H3 y=>?_⟩
   obtain⟨Z3,e3,r3,rep⟩:=yld x H3 y
   unfold aTt at p2
   split at p2
   rotate_left
   ·exact p2.elim
   rename_i x1 xs1 eg
   obtain⟨l0,vs,rfl,hq,rs⟩:=jA r3 rep eg
   unfold Reps at rs
   obtain⟨y1,ys,rfl,ry,rs⟩:=rs
   refine⟨l0,y1,ys,rfl,hq,fun d hd=>?_⟩
   obtain⟨r4,e4⟩:=r3.allocZ hd (.lst ys)
   have e34:=e3.trans e4
   have F4:Fits X.K Φ (upd Z3 d (.lst ys)) ρ2 ((σ2.set i (some y1)).set j (some (.ref d))) (upd H3 d (.lst ys)) ((env2.set i (some x1)).set j (some (.lst xs1))) m2:=
    ⟨r4,((F2.env.ext e34).set i (ry.ext e4)).set j (by unfold Rep; exact⟨d,ys,rfl,upd_same,rs.ext e4⟩)⟩
   have hl4:((σ2.set i (some y1)).set j (some (.ref d))).length=σ2.length:=by simp
   refine⟨Φ,upd Z3 d (.lst ys),ρ2,_,m2,F4,?_⟩
   have fin:∀ env5 m5,qC X.K W Φ Z2 ρ2 σ.length D (aTt i j fb (ts.drop (i0+1)) env5 m5)→∀ Z' ρ' H' σ',Ext (upd Z3 d (.lst ys)) Z' ρ2 ρ'→Fits X.K Φ Z' ρ' σ' H' env5 m5→σ'.length=((σ2.set i (some y1)).set j (some (.ref d))).length→Pv (i0+1) (ts.length - (i0+1)) σ' H':=
    fun env5 m5 q Z' ρ' H' σ' e' F' hl'=>⟨rfl,hlt,by rw [hl',hl4,hl2],Z',ρ',env5,m5,(e2.trans e34).trans e',F',q.ext (e34.trans e')⟩
   cases eb:fb ((env2.set i (some x1)).set j (some (.lst xs1))) m2 with
   | nx env5 m5=>simp only [eb] at p2; exact fin env5 m5 p2
   | ct env5 m5=>simp only [eb] at p2; exact fin env5 m5 p2
   | bk env5 m5=>
    simp only [eb] at p2
    exact fun Z' ρ' H' σ' e' F' hl'=>p2 Z' ρ' H' σ' (e34.trans e') F' (by rw [hl',hl4,hl2])
   | rt t m5=>
    simp only [eb] at p2
    exact fun Z' ρ' H' v e'=>p2 Z' ρ' H' v (e34.trans e')
   | ex C ns us env5 m5=>
    simp only [eb] at p2
    exact fun Z' ρ' H' σ' d vs e'=>p2 Z' ρ' H' σ' d vs (e34.trans e')
   | no=>simp only [eb] at p2; exact p2.elim
  ·have hi':i0=ts.length:=by omega
   refine .inl ⟨w1 hi',?_⟩
   rw [List.drop_eq_nil_of_le (by omega)] at p2
   exact p2 _ _ _ _ Ext.refl F2 hl2
end
section
variable {K:PySem.W.Frag} {W:WX} {Φ Z:Hp} {ρ:List Addr} {σ:L2.St} {H:Hp} {m:Mem} {X:Cx}
noncomputable def ItkN (d:Addr) (o:Obj) (es:List EnN):It:=⟨fun i H=>H d=some (.frz o (rawN d es))∧i < es.length,fun i H v H'=>∃ e:EnN,es[i]? =some e∧v= .ref e.2.1∧H'=H,fun i H=>H d=some (.frz o (rawN d es))∧es.length≤i⟩
theorem bCs {P:Program} {w:World} {d:Addr} {o:Obj} {es:List EnN} {ds:Array DictEntry} {ep:Nat} {tg:Expr} (hP:Wrl.P=P) (hW:Wrl.w=w) (it:Addr) (hod:o.data= .dict ds ep):
  Turn P w K tg (ItkN d o es) [it] it (fun i h=>h.IsKeyIter it d i es.length ep) where
 mem:=by simp
 obj:=fun i h st b hb=>by
  have e:b=it:=by simpa using hb
  subst e
  obtain⟨oi,e,c,dd⟩:=st
  exact⟨oi,e,fun v z=>by rw [dd] at z; cases z⟩
 keep:=fun i h h' st k=>st.at fun oi e=>k it (by simp) oi e
 item:=by
  intro X hP' hw hK hc i pins s σ H E I hf st ⟨hd,hi⟩
  subst hP' hw hK
  obtain⟨f0,f1,f2,f3,f4,f5⟩:=hf it (by simp)
  obtain⟨z,hl,hg,hx,xs,ds',ep',pr,hdt,hds⟩:=aIf ⟨hP,hW⟩ I hd
  rw [hod] at hdt
  cases hdt
  have l1:ds.size=es.length:=by rw [←Array.length_toList,hds,List.length_map,pr.length]
  have hi':i < ds.size:=by omega
  obtain⟨x,hx1,ex1,ex2,ex3⟩:=bDw pr (List.getElem?_eq_getElem hi)
  have hen:ds[i]=entryOfKey (nestedKind X.prog X.w) x:=by
   have h1:ds[i]? =some ds[i]:=Array.getElem?_eq_getElem hi'
   rw [←Array.getElem?_toList,hds,List.getElem?_map,hx1] at h1
   exact(Option.some.inj h1).symm
  refine next_key_item st hg hod l1 (Array.getElem?_eq_getElem hi') fun h' st' sb=>?_
  have I1:Inv X pins σ H {s with heap:=h'}:=I.turned (t':=s.toks) (fun b ob hb e=>(sb.2 b hb).trans e) f0 f1 f3 f4 f5
  obtain⟨oi,e,c,dd⟩:=id st'
  have rk:RelV (.ref es[i].2.1) ds[i].key:=by rw [hen,ex2]; rfl
  exact⟨ds[i].key,rfl,go_of (s:={s with heap:=h'}) e c dd (by decide) ⟨.ref es[i].2.1,H,I1,rk,⟨es[i],List.getElem?_eq_getElem hi,rfl,rfl⟩,st',fun b hb=>(hf b hb).1⟩⟩
 done:=by
  intro X hP' hw hK hc i pins s σ H E I hf st ⟨hd,hi⟩
  subst hP' hw hK
  obtain⟨f0,f1,f2,f3,f4,f5⟩:=hf it (by simp)
  obtain⟨z,hl,hg,hx,xs,ds',ep',pr,hdt,hds⟩:=aIf ⟨hP,hW⟩ I hd
  rw [hod] at hdt
  cases hdt
  have l1:ds.size=es.length:=by rw [←Array.length_toList,hds,List.length_map,pr.length]
  exact next_key_end (I.ok.hd hc) st hg hod l1 hi fun h' eb=>⟨rfl,I.turned (t':=s.toks) (fun b ob hb e=>eb b ob hb e) f0 f1 f3 f4 f5⟩
 self:=fun A i s Q E st h=>by
  refine wpAny_pyIter_slot st.typeIs F.slot_dict_keyiterator_iter (wpAny_call_entry F.slot_dict_keyiterator_iter st.typeIs F.entry_dict_keyiterator_iter ?_ (F.args_dict_keyiterator_iter_1 _))
  show wpAny _ _ (ret (.ref it)) _ _ s
  exact wpAny_pure ⟨_,rfl,"dict_keyiterator",_,st.typeIs,F.slot_dict_keyiterator_next.lookup,h⟩
noncomputable def bEp (td:TE):TI:=fun σ H R=>td σ H fun v H1=>∃ d o es,v= .ref d∧H1 d=some (.frz o (rawN d es))∧R (ItkN d o es) H1
theorem bAz (hr:Here X) {tg e:Expr} {td:TE} (he:PE X e td):PI X tg e (bEp td):=by
 refine⟨fun pins s σ H R I h=>thn (he.run pins s σ H _ I h) fun u s1 ⟨v,H1,I1,rx,d,o,es,ex,hd,q⟩=>?_⟩
 subst ex
 cases (show u=Value.ref d from rx)
 obtain⟨z,hl,hg,hx,xs,ds,ep,pr,hdt,hds⟩:=aIf hr I1 hd
 have l1:ds.size=es.length:=by rw [←Array.length_toList,hds,List.length_map,pr.length]
 refine iter_keys z hg hx hdt (pi_one (tk:=s1.toks) I1 _ (bCs hr.p hr.w _ hdt) ⟨_,Heap.get?_push_size _ rfl,rfl,?_⟩ q)
 rw [l1]<;>rfl
theorem bH2 {a:Addr} {o:Obj} {es:List EnN} {ks:List T} (h:Z a=some (.frz o (rawN a es))) (rk:Reps K Z ρ ks (es.map fun e=> .ref e.2.1)):Wk K Z ρ (ItkN a o es) ks:=fun Φ Z1 ρ1 H m i e r=>by
 have q:=r.zin _ _ (e.z _ _ h)
 have l1:ks.length=es.length:=by rw [rk.length,List.length_map]
 refine⟨fun hi=>⟨q,by rw [hi,l1]; exact Nat.le_refl _⟩,fun t ht=>?_⟩
 have hi:=(List.getElem?_eq_some_iff.mp ht).1
 refine⟨⟨q,by rw [←l1]; exact hi⟩,fun x H' ⟨en,h3,h4,h5⟩=>?_⟩
 subst h4; subst h5
 obtain⟨v1,k1,k3⟩:=rk.get ht
 rw [List.getElem?_map,h3] at k1
 cases k1
 exact⟨Z1,Ext.refl,r,k3.ext e⟩
noncomputable def bCf (f:EF):LF:=fun env m=>(f env m).bind fun t m1=>match t with
 | .dcn ks _=> .ok ks m1
 | _=> .no
theorem bAi (hr:Here X) {tg e:Expr} {f:EF} (h:SE X W e f):SI X W tg e (bCf f):=by
 refine⟨_,bAz hr h.pe,fun Φ Z ρ σ H env m R F p=>?_⟩
 refine tr_bind (P:=aIr X.K W Φ Z ρ σ R) F (fun t m1 Z1 ρ1 H1 v e0 e1 F1 r p1=>?_) (fun _ _ _ _ h=>h) (fun h=>h) p
 cases t with
 | dcn ks ts=>
  unfold Rep at r
  obtain⟨a,es,o,rfl,hn,q,r1,r2⟩:=r
  exact⟨a,o,es,rfl,F1.rel.zin _ _ q,p1 _ _ _ _ e1 F1.rel (bH2 q r1)⟩
 | _=>exact(show False from p1).elim
end
section
variable {K:PySem.W.Frag} {X:Cx}
noncomputable def gIxB (x y:T) (m:Mem):Out T:=match asN m x with
 | some _=>gIxN x y m
 | none=>gIx x y m
theorem bDd:Sem2 K gIxB (fun x y H Q=>rIxN K x y H Q∨rIx3 K x y H Q):=by
 intro W Φ Z ρ σ H m Q x y vx vy r rx ry p
 unfold gIxB at p
 split at p
 ·exact .inl (kJ W Φ Z ρ σ H m Q x y vx vy r rx ry p)
 ·exact .inr (yL W Φ Z ρ σ H m Q x y vx vy r rx ry p)
theorem ix_B (hr:Here X) (hu:X.A.units+20 < cLine) (hu1:X.A.units+1 < cLine):IxR X (fun x y H Q=>rIxN X.K x y H Q∨rIx3 X.K x y H Q):=(aBw hr hu).or (yK hu1)
end
end Ev
namespace EvT1
open PySem PySem.Spec PyProof.Rows L2
end EvT1
namespace Ev
open PySem L2 EvT1
variable [Wrl]
section
variable {X:Cx} {W:WX}
end
section
variable {K:PySem.W.Frag} {W:WX} {Φ Z:Hp} {ρ:List Addr} {σ:L2.St} {H:Hp} {m:Mem} {X:Cx}
end
end Ev
namespace EvQ1
open PySem PySem.Spec PyProof PyProof.Rows L2
noncomputable abbrev Zp (h:Heap) (q u r:Addr) (x:Value) (f:Bool):Prop:=h.get? q=some {cls:= .type "zip",dict:=none,data:= .fields #[x,.bool f,.bool false,.ref u,.ref r],slots:=#[]}
noncomputable def Out (x:Value):Prop:=x= .none∨∃ b:Addr,x=rawInt b
section
variable {prog:Program} {w:World} {A:Around} {E:Value→Shared→Prop} {s:Shared} {q u r j:Addr} {fp:List Addr} {n i:Nat} {P:Nat→Value→Prop} {St:Nat→Heap→Prop} {a x0:Value} {f:Bool}
theorem bEr {Q:Bool→Shared→Prop} (zq:Zp s.heap q u r x0 f) (ho:Out x0) (h1:Q true s) (h2:∀ h',Zp h' q u r x0 true→Heap.SameBut q s.heap h'→Q false {s with heap:=h'}):
  wpAny (model prog w) A (Builtin.SmallTypes.ownedTupleIsFree (.ref q)) Q E s:=by
 unfold Builtin.SmallTypes.ownedTupleIsFree
 rcases ho with rfl | ⟨b,rfl⟩
 ·exact wpAny_bind (wpAny_field (x:= .none) zq rfl rfl (wpAny_pure h1))
 ·refine wpAny_bind (wpAny_field (x:=rawInt b) zq rfl rfl ?_)
  show wpAny _ _ (loadIfAlive (((b:Nat):Int).toNat) >>=_) _ _ _
  rw [Int.toNat_natCast]
  refine wpAny_bind ?_
  cases hb:s.heap.get? b with
  | some o=>
   refine PySem.W.kdx_alive hb ?_
   simp only [Option.isNone_some,Bool.false_eq_true,if_false]
   refine wpAny_bind (wpAny_field (x:= .bool f) zq rfl rfl ?_)
   cases f with
   | true=>
    rw [if_neg (show ¬((Value.bool true !=Value.bool true)=true) by decide)]
    exact wpAny_pure (h2 s.heap zq (Heap.SameBut.refl _ _))
   | false=>
    rw [if_pos (show (Value.bool false !=Value.bool true)=true by decide)]
    exact wpAny_bind (wpAny_setField_rec zq (by simp) fun g zg sg=>wpAny_pure (h2 g zg sg))
  | none=>
   have hn:∀ {Q':Option Obj→Shared→Prop},Q' none s→wpAny (model prog w) A (loadIfAlive b) Q' E s:=fun {Q'} h=>by
    have h':Q' (s.heap.get? b) s:=by rw [hb]; exact h
    exact fun _ _ _=>h'
   refine hn ?_
   simp only [Option.isNone_none,if_true]
   exact wpAny_pure h1
end
section
variable {prog:Program} {w:World} {A:Around} {E:Value→Shared→Prop} {s:Shared}
end
open EvZ
section
variable {X:Cx}
end
end EvQ1
namespace Ev
open PySem PySem.Spec PyProof PyProof.Rows L2
variable [Wrl]
section
variable {K:PySem.W.Frag} {W:WX} {Φ Z Z':Hp} {ρ:List Addr} {σ:L2.St} {H:Hp} {m:Mem} {X:Cx}
end
end Ev
namespace Ev
open PySem L2 PySem.Spec PyProof.Rows
variable [Wrl]
section
variable {K:PySem.W.Frag} {W:WX} {Φ Z:Hp} {ρ:List Addr} {σ:L2.St} {H:Hp} {m:Mem} {X:Cx}
end
end Ev
namespace Ev
open PySem L2
noncomputable def addS (cs:List Nat) (n:Nat):Nat:=cs.rec (Nat.add (Nat.mul n 4194304) 1) (fun c _ r=>Nat.add (Nat.mul r 4194304) (Nat.add c 2))
noncomputable def bFb (cs:List Nat):Bool:=cs.rec true (fun c _ r=>match Nat.blt c 4194302 with
 | true=>r
 | false=>false)
noncomputable def encL (ts:List T):Nat:=ts.rec 1 (fun t _ r=>match t with
 | .str z=>match bFb z.cps.toList with
  | true=>match r with
   | 0=>0
   | n+1=>addS z.cps.toList (n+1)
  | false=>0
 | _=>0)
noncomputable def codeN (t:T):Nat:=match t with
 | .tup ts=>match ts with
  | [.str a,.tup ss]=>Nat.mul 2 (encL (.str a::ss))
  | ss=>match encL ss with
   | 0=>0
   | n+1=>Nat.add (Nat.mul 2 (n+1)) 1
 | _=>0
noncomputable def kEqF (j k:T):Bool:=match Nat.beq (codeN j) 0 with
 | true=>kEq j k
 | false=>match Nat.beq (codeN k) 0 with
  | true=>kEq j k
  | false=>Nat.beq (codeN j) (codeN k)
noncomputable def memF (k:T) (ks:List T):Bool:=ks.rec false (fun j _ r=>match kEqF j k with
 | true=>true
 | false=>r)
noncomputable def putF (k v:T) (ks ts:List T):List T:=match memF k ks with
 | true=>(ks.zip ts).map fun p=>match kEqF p.1 k with
  | true=>v
  | false=>p.2
 | false=>ts++[v]
section
variable [Wrl] {K:PySem.W.Frag} {X:Cx} {W:WX}
end
end Ev
namespace Ev
open PySem PySem.Spec PyProof PyProof.Rows L2
section
variable {K:PySem.W.Frag} {W:WX} {X:Cx} [Wrl]
end
end Ev
namespace Ev
open PySem PySem.Spec L2 PyProof.Rows
section
variable {K:PySem.W.Frag} {W:WX} {Φ Z:Hp} {ρ:List Addr} {σ:L2.St} {H:Hp} {m:Mem} {X:Cx}
variable [Wrl]
end
end Ev
namespace Ev
open PySem PySem.Spec L2 PyProof.Rows
section
variable {α:Type}
noncomputable def mgF (le:α→α→Bool):Nat→List α→List α→List α
 | 0,xs,_=>xs
 | _+1,[],ys=>ys
 | _+1,x::xs,[]=>x::xs
 | n+1,x::xs,y::ys=>if le x y then x::mgF le n xs (y::ys) else y::mgF le n (x::xs) ys
theorem aYp (le:α→α→Bool):∀(n:Nat) (xs ys:List α),xs.length+ys.length < n→mgF le n xs ys=List.merge xs ys le
 | 0,_,_,h=>by omega
 | n+1,[],ys,_=>by unfold mgF; simp
 | n+1,x::xs,[],_=>by unfold mgF; simp
 | n+1,x::xs,y::ys,h=>by
  unfold mgF
  simp only [List.length_cons] at h
  rw [aYp le n xs (y::ys) (by simp only [List.length_cons]; omega),aYp le n (x::xs) ys (by simp only [List.length_cons]; omega),List.cons_merge_cons]
noncomputable def msF (le:α→α→Bool):Nat→List α→List α
 | 0,xs=>xs
 | _+1,[]=>[]
 | _+1,[a]=>[a]
 | n+1,a::b::xs=>mgF le (xs.length+3) (msF le n ((a::b::xs).take ((xs.length+3) / 2))) (msF le n ((a::b::xs).drop ((xs.length+3) / 2)))
theorem aP9 (le:α→α→Bool):∀(n:Nat) (xs:List α),xs.length≤n→msF le n xs=xs.mergeSort le
 | 0,xs,h=>by
  have:xs=[]:=List.length_eq_zero_iff.mp (by omega)
  subst this; unfold msF; simp
 | n+1,[],_=>by unfold msF; simp
 | n+1,[a],_=>by unfold msF; simp
 | n+1,a::b::xs,h=>by
  simp only [List.length_cons] at h
  unfold msF
  rw [aP9 le n _ (by simp only [List.length_take,List.length_cons]; omega),aP9 le n _ (by simp only [List.length_drop,List.length_cons]; omega)]
  rw [aYp le _ _ _ (by simp only [List.length_mergeSort,List.length_take,List.length_drop,List.length_cons]; omega)]
  conv=>rhs; rw [List.mergeSort]
  simp only [List.MergeSort.Internal.splitInTwo_fst,List.MergeSort.Internal.splitInTwo_snd,List.length_cons]
end
variable [Wrl]
section
variable {K:PySem.W.Frag}
noncomputable def wA (mu:Bool):List T→Mem→Out T:=fun xs m=>match xs with
 | [y]=>match asL m y with
  | some ts=>match txts ts with
   | some _=>gSortedA mu xs m
   | none=>match toDs m ts with
    | some ds=>if aIv ds&&decide (ts.length≤lim) then mk mu ((msF (PySem.W.dataLe false fun b:T×PyData=>b.2) ts.length (ts.zip ds)).map (·.1)) m else .no
    | none=> .no
  | none=>gSortedA mu xs m
 | _=> .no
theorem bEn {α β:Type} (le:α×β→α×β→Bool) (ts:List α) (ds:List β):msF le ts.length (ts.zip ds)=(ts.zip ds).mergeSort le:=aP9 _ _ _ (by rw [List.length_zip]; omega)
theorem aWe:@wA=@aKp:=by
 funext mu xs m
 unfold wA aKp
 simp only [bEn]
 try rfl
theorem xD {mu:Bool}:SemL K (wA mu) (fun vs H Q=>aR5 K vs H Q∨aKn K vs H Q):=by
 rw [aWe]; exact aT8
end
end Ev
namespace Ev
open PySem PySem.Spec L2 PyProof.Rows
section
variable [Wrl]
variable {K:PySem.W.Frag} {W:WX} {Φ Z:Hp} {ρ:List Addr} {σ:L2.St} {H:Hp} {m:Mem} {X:Cx}
end
end Ev
namespace Ev
open PySem PySem.Spec L2 PyProof.Rows
section
variable {prog:Program} {w:World} {A:Around} {E:Value→Shared→Prop} {s:Shared}
end
section
variable {X:Cx}
end
section
variable [Wrl]
variable {K:PySem.W.Frag} {W:WX} {Φ Z:Hp} {ρ:List Addr} {σ:L2.St} {H:Hp} {m:Mem} {X:Cx}
end
end Ev
namespace Ev
open PySem PySem.Spec L2 PyProof.Rows
section
variable [Wrl]
variable {K:PySem.W.Frag} {W:WX} {Φ Z:Hp} {ρ:List Addr} {σ:L2.St} {H:Hp} {m:Mem} {X:Cx}
end
end Ev
namespace Ev
open PySem PySem.Spec PyProof L2 PyProof.Rows
section
variable [Wrl]
variable {K:PySem.W.Frag} {W:WX} {Φ Z:Hp} {ρ:List Addr} {σ:L2.St} {H:Hp} {m:Mem} {X:Cx}
end
section
variable {X:Cx} [Wrl]
end
section
variable {K:PySem.W.Frag} {W:WX} {X:Cx} [Wrl]
end
end Ev
namespace EvZn
open PySem PySem.Spec PyProof PyProof.Rows L2
open EvQ1 (Zp Out bEr)
inductive Two {α β:Type} (R:α→β→Prop):List α→List β→Prop
 | nil:Two R [] []
 | cons {a:α} {b:β} {as:List α} {bs:List β}:R a b→Two R as bs→Two R (a::as) (b::bs)
theorem Two.len {α β:Type} {R:α→β→Prop} {as:List α} {bs:List β} (h:Two R as bs):as.length=bs.length:=by
 induction h with
 | nil=>rfl
 | cons _ _ ih=>simp [ih]
theorem Two.get {α β:Type} {R:α→β→Prop} {as:List α} {bs:List β} (h:Two R as bs):∀ {i:Nat} {a:α},as[i]? =some a→∃ b,bs[i]? =some b∧R a b:=by
 induction h with
 | nil=>intro i a e; simp at e
 | cons q _ ih=>
  intro i a e
  cases i with
  | zero=>exact⟨_,rfl,by simpa using (by simpa using e:_=a)▸q⟩
  | succ i=>exact ih (i:=i) (by simpa using e)
section
variable {prog:Program} {w:World} {A:Around} {E:Value→Shared→Prop} {s:Shared} {q u r:Addr} {i:Nat} {x0:Value} {f:Bool}
end
section
variable {prog:Program} {w:World} {A:Around} {E:Value→Shared→Prop} {s:Shared} {q u r:Addr} {i:Nat} {x0:Value} {f:Bool}
end
structure Bg where
 v:Value
 o:Obj
 H:Heap→Prop
 B:Begins v o H
noncomputable def adr (k:Nat):List Bg→List Value
 | []=>[]
 | _::bs=> .ref k::adr (k+1) bs
section
variable {prog:Program} {w:World} {A:Around} {E:Value→Shared→Prop} {s:Shared}
end
end EvZn
namespace EvZn
open PySem PySem.Spec PyProof PyProof.Rows L2 EvZ
open EvQ1 (Zp Out)
noncomputable def Col (i:Nat) (xss:List (List V)) (ys:List V):Prop:=Two (fun(xs:List V) y=>xs[i]? =some y) xss ys
noncomputable def Hass (K:PySem.W.Frag) (ks:List Src) (H:Hp) (xss:List (List V)):Prop:=Two (fun(k:Src) xs=>k.has K H xs) ks xss
section
variable {prog:Program} {w:World} {A:Around} {K:PySem.W.Frag} {i:Nat} {h:Heap}
end
section
variable {X:Cx} {pins:List (Addr×Obj)} {σ:L2.St} {H:Hp} {s:Shared}
end
section
variable {X:Cx} {pins:List (Addr×Obj)} {σ:L2.St} {H:Hp} {s:Shared}
end
end EvZn
namespace Ev
open PySem PySem.Spec PyProof PyProof.Rows L2
open EvZn (Two Hass Col)
variable [Wrl]
section
variable {K:PySem.W.Frag} {W:WX} {Φ Z Z':Hp} {ρ:List Addr} {σ:L2.St} {H:Hp} {m:Mem} {X:Cx}
end
end Ev
namespace EvZr
open PySem PySem.Spec PyProof PyProof.Rows L2
variable {X:Cx}
end EvZr
namespace Ev
open PySem PySem.Spec PyProof PyProof.Rows L2
variable [Wrl]
section
variable {K:PySem.W.Frag} {X:Cx}
end
end Ev
namespace Ev
open PySem PySem.Spec L2 PyProof.Rows
variable [Wrl]
section
variable {X:L2.Cx}
end
section
variable {K:PySem.W.Frag}
end
end Ev
namespace EvZt
open PySem PySem.Spec PyProof PyProof.Rows L2 PySem.SeqAt PySem.W PySem.Calls
section
open AutoSeq1 (wpAny_loadPart')
variable {prog:Program} {w:World}
end
section
variable {X:Cx}
end
end EvZt
namespace Ev
open PySem L2 PyProof.Rows
variable [Wrl]
end Ev
namespace Ev
open PySem PySem.Spec PySem.SeqAt PyProof PyProof.Rows L2
variable [Wrl]
section
variable {K:PySem.W.Frag} {X:Cx}
end
end Ev
namespace Ev
open PySem PySem.Spec PyProof PyProof.Rows L2
variable [Wrl]
section
variable {K:PySem.W.Frag} {W:WX} {Φ Z:Hp} {ρ:List Addr} {σ:L2.St} {H:Hp} {m:Mem} {X:Cx}
end
end Ev
namespace Ev
open PySem PySem.Spec L2 PyProof.Rows
section
variable {X:Cx} {pins:List (Addr×Obj)} {σ:L2.St} {H:Hp} {s:Shared}
end
section
variable [Wrl]
variable {K:PySem.W.Frag} {W:WX} {Φ Z:Hp} {ρ:List Addr} {σ:L2.St} {H:Hp} {m:Mem} {X:Cx}
end
end Ev
namespace Ev
open PySem PySem.Spec PyProof PyProof.Rows L2
variable [Wrl]
section
variable {X:Cx} {W:WX} {K:PySem.W.Frag} {Z:Hp} {ρ:List Addr}
end
end Ev
namespace EvSk
open PySem PySem.Spec PyProof PyProof.Rows L2
noncomputable def KAt (h:Heap) (k:NestedKey) (a:Addr):Prop:=NestedIs h k (.ref a)∧k.depth≤6
theorem KAt.keep {h h':Heap} {k:NestedKey} {a:Addr} (x:KAt h k a) (hk:∀ b o,h.get? b=some o→h'.get? b=some o):KAt h' k a:=⟨NestedIs.at (fun b o vs n e _=>hk b o e) k _ x.1,x.2⟩
theorem KAt.same {h h':Heap} {k:NestedKey} {a c:Addr} {o:Obj} {es:Array (Int×Value)} {ep:Nat} {t:SetTable} (x:KAt h k a) (h0:h.get? c=some o) (hd:o.data= .set es ep t) (sb:Heap.SameBut c h h'):KAt h' k a:=
 ⟨NestedIs.at (fun b u vs n e eu=>(sb.2 b fun z=>by
  subst z
  rw [h0] at e
  cases e
  rw [hd] at eu
  cases eu).trans e) k _ x.1,x.2⟩
theorem KAt.ty {h:Heap} {k:NestedKey} {a:Addr} (x:KAt h k a):∃ o vs n ks,h.get? a=some o∧o.cls= .type "tuple"∧o.data= .seq vs n∧k= .tup ks∧NestedAll h ks vs.toList:=by
 obtain⟨x1,_⟩:=x
 cases x1 with
 | tup h1 h2 h3 h4=>exact⟨_,_,_,_,h1,h2,h3,rfl,h4⟩
section
variable {P:Program} {w:World} {A:Around} {E:Value→Shared→Prop} {s:Shared}
theorem aTr:∀(n:Nat) (k:NestedKey) (v:Value) {s:Shared} {Q:Bool→Shared→Prop},k.depth≤n→NestedIs s.heap k v→Q false s→wpAny (model P w) A (ofAClassStatement n v) Q E s
 | n,.none,v,s,Q,_,x,q=>by cases x; cases n<;>exact wpAny_pure q
 | n,.num i,v,s,Q,_,x,q=>by cases x<;>cases n<;>exact wpAny_pure q
 | n,.text y,v,s,Q,_,x,q=>by cases x; cases n<;>exact wpAny_pure q
 | 0,.tup ks,v,s,Q,hn,x,q=>by simp [NestedKey.depth] at hn
 | n+1,.tup ks,v,s,Q,hn,x,q=>by
  cases x with
  | tup h1 h2 h3 h4=>
   rename_i a o vs m
   simp only [NestedKey.depth] at hn
   unfold ofAClassStatement
   refine wpAny_bind (wpAny_typeOf (T:="tuple") ⟨o,h1,h2⟩ ?_)
   dsimp only
   have same:(("tuple":String)=="tuple")=true:=rfl
   simp only [same,if_true,Bool.not_true,Bool.false_eq_true,if_false]
   try refine wpAny_bind (wpAny_pure ?_)
   try simp only [Bool.not_true,Bool.false_eq_true,if_false]
   show wpAny _ _ (seqItems? (.ref a) >>=_) _ _ s
   refine wpAny_bind (wpAny_seqItems h1 h3 ?_)
   dsimp only
   refine wpAny_bind ?_
   show wpAny _ _ (forIn vs _ _) _ _ s
   rw [←Array.forIn_toList]
   refine wpAny_forIn_list _ (fun rest r s'=>r.1=none∧s'=s∧∃ js,NestedAll s.heap js rest∧NestedKey.depthAll js≤n) _ ?_ ?_ _ _ ⟨rfl,rfl,ks,h4,by omega⟩
   ·rintro u rest r s' ⟨hr,rfl,js,hj,hd⟩
    cases hj with
    | cons z1 z2=>
     simp only [NestedKey.depthAll] at hd
     refine wpAny_bind (aTr n _ _ (by omega) z1 ?_)
     simp only [Bool.false_eq_true,if_false]
     exact wpAny_pure ⟨rfl,rfl,_,z2,by omega⟩
   ·rintro⟨r1,r2⟩ s' ⟨hr,rfl,_⟩
    simp only at hr
    subst hr
    exact wpAny_pure q
theorem aIh:∀(n:Nat) (k:NestedKey) (v:Value) {s:Shared} {Q:Bool→Shared→Prop},k.depth≤n→NestedIs s.heap k v→(∀ b,Q b s)→wpAny (model P w) A (hashByValue n v) Q E s
 | n,.none,v,s,Q,_,x,q=>by cases x; cases n<;>exact wpAny_pure (q _)
 | n,.num i,v,s,Q,_,x,q=>by cases x<;>cases n<;>exact wpAny_pure (q _)
 | n,.text y,v,s,Q,_,x,q=>by cases x; cases n<;>exact wpAny_pure (q _)
 | 0,.tup ks,v,s,Q,hn,x,q=>by simp [NestedKey.depth] at hn
 | n+1,.tup ks,v,s,Q,hn,x,q=>by
  cases x with
  | tup h1 h2 h3 h4=>
   rename_i a o vs m
   simp only [NestedKey.depth] at hn
   unfold hashByValue
   have ty:s.TypeIs (.ref a) "tuple":=⟨o,h1,h2⟩
   refine wpAny_bind (wpAny_specialOf ty F.slot_tuple_hash.lookup ?_)
   show wpAny _ _ (seqItems? (.ref a) >>=_) _ _ s
   refine wpAny_bind (wpAny_seqItems h1 h3 ?_)
   refine wpAny_bind ?_
   show wpAny _ _ (forIn vs _ _) _ _ s
   rw [←Array.forIn_toList]
   refine wpAny_forIn_list _ (fun rest r s'=>s'=s∧∃ js,NestedAll s.heap js rest∧NestedKey.depthAll js≤n) _ ?_ ?_ _ _ ⟨rfl,ks,h4,by omega⟩
   ·rintro u rest r s' ⟨rfl,js,hj,hd⟩
    cases hj with
    | cons z1 z2=>
     simp only [NestedKey.depthAll] at hd
     refine wpAny_bind (aIh n _ _ (by omega) z1 fun b=>?_)
     cases b with
     | true=>
      simp only [Bool.not_true,Bool.false_eq_true,if_false]
      exact wpAny_pure ⟨rfl,_,z2,by omega⟩
     | false=>
      simp only [Bool.not_false,if_true]
      exact wpAny_pure (wpAny_pure (q _))
   ·rintro⟨r1,r2⟩ s' ⟨rfl,_⟩
    cases r1 with
    | none=>exact wpAny_pure (q _)
    | some b=>exact wpAny_pure (q _)
theorem bAm {k:NestedKey} {b:Addr} {Q:Bool→Shared→Prop} (hk:KAt s.heap k b) {ys:List Value} (hy:∀ y∈ys,∃ j c,y=Value.ref c∧KAt s.heap j c) (q:Q false s):wpAny (model P w) A (searchCouldBeSeen (.ref b) ys) Q E s:=by
 unfold searchCouldBeSeen
 refine wpAny_bind ?_
 refine wpAny_forIn_list _ (fun rest r z=>r.1=none∧z=s∧∀ y∈rest,∃ j c,y=Value.ref c∧KAt s.heap j c) _ ?_ ?_ _ _ ⟨rfl,rfl,hy⟩
 ·rintro y rest r z ⟨hr,rfl,all⟩
  obtain⟨j,c,rfl,hc⟩:=all y List.mem_cons_self
  have more:∀ u∈rest,∃ j c,u=Value.ref c∧KAt z.heap j c:=fun u hu=>all u (List.mem_cons_of_mem _ hu)
  dsimp only
  by_cases very:(b ==c||(carriedByValue (.ref b)&&carriedByValue (.ref c)))=true
  ·exact wp_if_pos very (wpAny_pure ⟨rfl,rfl,more⟩)
  ·refine wp_if_neg very (wpAny_bind (quiet_key k _ 8 z hk.1 (by have:=hk.2; omega) A E _ ?_))
   simp only [Bool.not_true,Bool.false_eq_true,if_false]
   refine wpAny_bind (quiet_key j _ 8 z hc.1 (by have:=hc.2; omega) A E _ ?_)
   simp only [Bool.not_true,Bool.false_eq_true,if_false]
   refine wpAny_bind (aTr 8 k _ (by have:=hk.2; omega) hk.1 ?_)
   simp only [Bool.false_eq_true,if_false]
   refine wpAny_bind (aTr 8 j _ (by have:=hc.2; omega) hc.1 ?_)
   simp only [Bool.false_eq_true,if_false]
   exact wpAny_pure ⟨rfl,rfl,more⟩
 ·rintro⟨r1,r2⟩ z ⟨hr,rfl,_⟩
  simp only at hr
  subst hr
  exact wpAny_pure q
noncomputable abbrev NL:=List (Addr×NestedKey)
noncomputable def hsh (w:World) (L:NL):List Int:=L.map fun p=>p.2.hash w
noncomputable def ent (w:World) (p:Addr×NestedKey):Int×Value:=(p.2.hash w,.ref p.1)
noncomputable abbrev aZz (w:World) (t:SetTable):Prop:=w.params.followText "set-order"=true∨t.led=true
structure NSet (w:World) (h:Heap) (a:Addr) (L:NL) (es:Array (Int×Value)) (ep:Nat) (t:SetTable):Prop where
 ob:∃ u,h.get? a=some u∧u.ExactSet∧u.data= .set es ep t
 row:es.toList=L.map (ent w)
 tab:TabOk t (hsh w L)
 nd:(L.map (·.2)).Nodup
 key:∀ p∈L,KAt h p.2 p.1
 led:aZz w t
 room:L.length*5 < t.mask*3
 few:L.length < 64
variable {a:Addr} {L:NL} {es:Array (Int×Value)} {ep:Nat} {t:SetTable}
theorem NSet.len (R:NSet w s.heap a L es ep t):es.size=L.length:=by
 have:=congrArg List.length R.row
 rwa [Array.length_toList,List.length_map] at this
theorem NSet.plc (R:NSet w s.heap a L es ep t):t.place.size=L.length:=by
 have:=R.tab.sz
 unfold hsh at this
 rwa [List.length_map] at this
theorem fits_of {t:SetTable} {n:Nat} (h1:t.dummies=#[]) (h2:t.place.size=n) (h3:n≤t.mask):t.fits n=true:=by
 unfold SetTable.fits
 unfold SetTable.fill
 rw [h1,Bool.and_eq_true,beq_iff_eq,decide_eq_true_eq]
 refine⟨h2,?_⟩
 show t.place.size+0≤t.mask
 omega
theorem NSet.fit (R:NSet w s.heap a L es ep t):t.fits es.size=true:=by
 have h1:=R.room
 rw [R.len]
 exact fits_of R.tab.dm R.plc (by omega)
theorem NSet.at (R:NSet w s.heap a L es ep t) {i:Nat} {p:Addr×NestedKey} (h:L[i]? =some p):es[i]? =some (ent w p):=by
 rw [←Array.getElem?_toList,R.row,List.getElem?_map,h]; rfl
theorem bCe (m:Nat):∀(n:Nat) (p:SetTable.Probe),p.dummy=none→(nth m p n).dummy=none
 | 0,_,h=>h
 | n+1,p,h=>bCe m n (adv m p) (by unfold adv; split<;>exact h)
noncomputable abbrev aZ8 (m:Nat) (h:Int):SetTable.Probe:=runAt m (SetTable.bits h % (m+1)) (SetTable.bits h)
theorem aG5 (m:Nat) (h:Int) (c q:Nat):(nth m (nth m (aZ8 m h) c) q).j=way m h (c+q):=by rw [←nth_add]
theorem aXw (R:NSet w s.heap a L es ep t) {x:Addr} {k:NestedKey} (hx:KAt s.heap k x) (hu:A.units+8 < cLine) {N:Nat} (n1:N < 10*SetTable.turns t.mask) (n2:way t.mask (k.hash w) N∉t.place.toList) (n3:∀ c,c < N→way t.mask (k.hash w) c∈t.place.toList)
  {Q:SetFound→Shared→Prop} (yes:k∈L.map (·.2)→Q (.there none) s) (no:k∉L.map (·.2)→Q (.free (way t.mask (k.hash w) N) false) s):
  ∀(f c:Nat) (st:Option SetTable.Probe),st.getD (t.probeStart (k.hash w))=nth t.mask (aZ8 t.mask (k.hash w)) c→c≤N→N - c < f→(∀(i:Nat) p,L[i]? =some p→p.2=k→∃ d,c≤d∧d < N∧t.place.toList[i]? =some (way t.mask (k.hash w) d))→
   wpAny (model P w) A (setSearchFrom a (.ref x) (k.hash w) true f st) Q E s
 | 0,_,_,_,_,z,_=>absurd z (Nat.not_lt_zero _)
 | f+1,c,st,hst,hc,hf,ahead=>by
  obtain⟨ob,h0,hex,hd⟩:=R.ob
  have fit:=R.fit
  have odd:¬t.gaveWay=true:=by
   unfold SetTable.gaveWay
   rw [mask_odd R.tab.mok]
   decide
  have atH:∀(i:Nat) p,L[i]? =some p→(es[i]?.map (·.1)).getD 0=p.2.hash w:=fun i p hp=>by rw [R.at hp]; rfl
  rw [setSearchFrom_succ]
  refine wpAny_bind (wpAny_setState_of h0 hd fit ?_)
  dsimp only
  refine wp_if_neg odd ?_
  try refine wpAny_bind (wpAny_pure ?_)
  have spec:=go_spec t R.tab.ris R.tab.dm (fun i=>(es[i]?.map (·.1)).getD 0) (k.hash w) (10*SetTable.turns t.mask) (N - c) (nth t.mask (aZ8 t.mask (k.hash w)) c) (bCe _ _ _ rfl) (by omega)
   (fun q hq=>by rw [aG5]; exact n3 (c+q) (by omega)) (by rw [aG5,show c+(N - c)=N by omega]; exact n2)
  rcases spec with ⟨q,i,hq,hi,_,before,pr⟩ | ⟨before,pr⟩
  ·rw [aG5] at hi
   have pr2:t.probe (fun i=>(es[i]?.map (·.1)).getD 0) (k.hash w) (st.getD (t.probeStart (k.hash w)))=some (.candidate (way t.mask (k.hash w) (c+q)) i (nth t.mask (aZ8 t.mask (k.hash w)) (c+(q+1)))):=by
    rw [hst,←aG5 t.mask (k.hash w) c q,nth_add]
    exact pr
   rw [pr2]
   dsimp only
   have hil:i < L.length:=by
    have z:=(List.getElem?_eq_some_iff.mp hi).1
    rw [Array.length_toList,R.plc] at z
    exact z
   obtain⟨p,hp⟩:∃ p,L[i]? =some p:=⟨_,List.getElem?_eq_getElem hil⟩
   have hm:p∈L:=List.mem_of_getElem? hp
   have kp:=R.key p hm
   have live:=slot_live R.tab.ris hi
   have rest:wpAny (model P w) A (searchRest a (.ref x) (k.hash w) true f es t (way t.mask (k.hash w) (c+q)) i (nth t.mask (aZ8 t.mask (k.hash w)) (c+(q+1)))) Q E s:=by
    unfold searchRest
    rw [R.at hp]
    dsimp only [ent]
    refine wpAny_bind (wpAny_holding (eqAt_key p.2 k A s _ _ kp.1 hx.1 (by have:=kp.2; have:=hx.2; omega) _ _ _ _ ?_))
    rw [←NestedKey.decide_eq]
    refine wpAny_bind (wpAny_setState_of h0 hd fit ?_)
    dsimp only
    by_cases same:p.2=k
    ·exact wp_if_pos (by simp [same]) (wpAny_pure (yes (List.mem_map.mpr ⟨p,hm,same⟩)))
    ·refine wp_if_neg (by simp [same]) ?_
     try refine wpAny_bind (wpAny_pure ?_)
     rw [sameMem]
     dsimp only
     simp only [if_true,live,R.at hp,ent]
     refine wpAny_bind (wpAny_isSame_ref_self ?_)
     refine wpAny_bind (wpAny_pure ?_)
     simp only [if_true]
     refine wp_if_neg (by simp [same]) ?_
     refine aXw R hx hu n1 n2 n3 yes no f (c+(q+1)) _ rfl (by omega) (by omega) fun j r hj hr=>?_
     obtain⟨d,d1,d2,d3⟩:=ahead j r hj hr
     refine⟨d,?_,d2,d3⟩
     refine Classical.byContradiction fun late=>?_
     rcases Nat.lt_or_ge d (c+q) with z | z
     ·refine before (d - c) j (by omega) (by rw [aG5,show c+(d - c)=d by omega]; exact d3) ?_
      show (es[j]?.map (·.1)).getD 0=_
      rw [atH j r hj,hr]
     ·have ed:d=c+q:=by omega
      rw [ed] at d3
      have l2:=slot_live R.tab.ris d3
      rw [live] at l2
      injection l2 with l2
      rw [←l2,hp] at hj
      exact same ((congrArg Prod.snd (Option.some.inj hj)).trans hr)
   by_cases hl:t.led=true
   ·refine wp_if_neg (fun z=>by simp [hl] at z) ?_
    try refine wpAny_bind (wpAny_pure ?_)
    exact rest
   ·refine wp_if_pos (by simp [hl]) (wpAny_bind (bAm hx (fun y hy=>?_) ?_))
    ·obtain⟨e,he,rfl⟩:=List.mem_map.mp hy
     have he1:e∈es.toList:=by
      have:e∈es∧e.1=k.hash w:=by simpa using he
      simpa using this.1
     rw [R.row] at he1
     obtain⟨r,hr,rfl⟩:=List.mem_map.mp he1
     exact⟨r.2,r.1,rfl,R.key r hr⟩
    ·refine wp_if_neg (by decide) ?_
     try refine wpAny_bind (wpAny_pure ?_)
     exact rest
  ·have pr2:t.probe (fun i=>(es[i]?.map (·.1)).getD 0) (k.hash w) (st.getD (t.probeStart (k.hash w)))=some (.empty (way t.mask (k.hash w) N) none):=by
    have e2:=aG5 t.mask (k.hash w) c (N - c)
    rw [show c+(N - c)=N by omega] at e2
    rw [hst,←e2]
    exact pr
   rw [pr2]
   dsimp only
   refine wpAny_pure (no fun z=>?_)
   obtain⟨r,hr,er⟩:=List.mem_map.mp z
   obtain⟨j,hj,ej⟩:=List.getElem_of_mem hr
   have hjj:L[j]? =some r:=by rw [List.getElem?_eq_getElem hj,ej]
   obtain⟨d,d1,d2,d3⟩:=ahead j r hjj er
   refine before (d - c) j (by omega) (by rw [aG5,show c+(d - c)=d by omega]; exact d3) ?_
   show (es[j]?.map (·.1)).getD 0=_
   rw [atH j r hjj,er]
theorem bDi (R:NSet w s.heap a L es ep t) {x:Addr} {k:NestedKey} (hx:KAt s.heap k x) (hu:A.units+8 < cLine) {Q:SetFound→Shared→Prop} (yes:k∈L.map (·.2)→Q (.there none) s)
  (no:∀ N,k∉L.map (·.2)→way t.mask (k.hash w) N∉t.place.toList→(∀ c,c < N→way t.mask (k.hash w) c∈t.place.toList)→Q (.free (way t.mask (k.hash w) N) false) s):wpAny (model P w) A (setSearch a (.ref x) (k.hash w) true) Q E s:=by
 have rm:=R.room
 obtain⟨N,n1,n2,n3⟩:=R.tab.first (by unfold hsh; rw [List.length_map]; omega) (k.hash w)
 have small:N < 100000:=by
  have most:SetTable.turns t.mask*10≤1420:=by
   unfold SetTable.turns
   rcases R.tab.mok with z | z | z<;>omega
  omega
 unfold setSearch
 refine aXw R hx hu n1 n2 n3 yes (fun z=>no N z n2 n3) 100000 0 none rfl (Nat.zero_le _) (by omega) fun i p hp hk=>?_
 have hi:(hsh w L)[i]? =some (k.hash w):=by
  unfold hsh
  rw [List.getElem?_map,hp,←hk]; rfl
 have inP:i < t.place.toList.length:=by
  rw [Array.length_toList,R.plc]
  exact(List.getElem?_eq_some_iff.mp hp).1
 have hj:=List.getElem?_eq_getElem inP
 obtain⟨d,d1,d2⟩:=R.tab.before n2 hi hj
 exact⟨d,Nat.zero_le _,d1,by rw [hj,d2]⟩
theorem take_all (L:NL):∀ n:Nat,n≤L.length→(List.range n).filterMap (fun i=>L[i]?)=L.take n
 | 0,_=>rfl
 | n+1,h=>by
  have lt:n < L.length:=h
  rw [List.range_succ,List.filterMap_append,take_all L n (Nat.le_of_lt lt),List.take_succ]
  simp [List.getElem?_eq_getElem lt]
theorem aYi {L:NL} {es:Array (Int×Value)} {ord:Array Nat} (hr:es.toList=L.map (ent w)) (hp:ord.toList.Perm (List.range L.length)):
  ∃ L2:NL,(ord.filterMap (es[·]?)).toList=L2.map (ent w)∧L2.Perm L∧hsh w L2=ord.toList.map fun i=>(es.map (·.1)).getD i 0:=by
 have he:∀ i:Nat,es[i]? =(L[i]?).map (ent w):=fun i=>by rw [←Array.getElem?_toList,hr,List.getElem?_map]
 have hf:(fun i:Nat=>es[i]?)=fun i:Nat=>(L[i]?).map (ent w):=funext he
 refine⟨ord.toList.filterMap fun i=>L[i]?,?_,?_,?_⟩
 ·rw [List.map_filterMap]
  show (ord.filterMap fun i=>es[i]?).toList=_
  rw [hf]
  first | rw [Array.toList_filterMap] | simp
 ·have h1:=hp.filterMap fun i=>L[i]?
  rwa [take_all L L.length (Nat.le_refl _),List.take_length] at h1
 ·have key:∀ l:List Nat,(∀ i∈l,i < L.length)→hsh w (l.filterMap fun i=>L[i]?)=l.map fun i=>(es.map (·.1)).getD i 0:=by
   intro l
   induction l with
   | nil=>intro _; rfl
   | cons i l ih=>
    intro hl
    have hi:=hl i List.mem_cons_self
    have h2:=ih fun j hj=>hl j (List.mem_cons_of_mem _ hj)
    have h3:(es.map (·.1))[i]? =some ((L[i]).2.hash w):=by
     rw [Array.getElem?_map,he,List.getElem?_eq_getElem hi]; rfl
    rw [List.filterMap_cons_some (List.getElem?_eq_getElem hi),List.map_cons,←h2]
    have h4:(es.map (·.1)).getD i 0=(L[i]).2.hash w:=by simp [Array.getD_eq_getD_getElem?,h3]
    rw [h4]; rfl
  exact key ord.toList fun i hi=>List.mem_range.mp (hp.mem_iff.mp hi)
theorem bFk {ob:Obj} (h0:s.heap.get? a=some ob) (hx:ob.ExactSet) (hd:ob.data= .set es ep t) (row:es.toList=L.map (ent w)) (T:TabOk t (hsh w L)) (full:L.length≤t.mask) (nd:(L.map (·.2)).Nodup) (key:∀ p∈L,KAt s.heap p.2 p.1)
  (led:aZz w t) (few:L.length < 64) {want M:Nat} (hw:SetTable.sizeAbove want - 1=M) (hM:MaskOk M) (hw2:SetTable.sizeAbove want≤128) (hn:L.length*5 < M*3) {Q:Unit→Shared→Prop}
  (fin:∀ h1 L1 es1 ep1 t1,Heap.SameBut a s.heap h1→NSet w h1 a L1 es1 ep1 t1→L1.Perm L→Q () {s with heap:=h1}):wpAny (model P w) A (setRelay a want) Q E s:=by
 have len:es.size=L.length:=by
  have:=congrArg List.length row
  rwa [Array.length_toList,List.length_map] at this
 have plc:t.place.size=L.length:=by
  have:=T.sz
  unfold hsh at this
  rwa [List.length_map] at this
 have fit:t.fits es.size=true:=by rw [len]; exact fits_of T.dm plc full
 obtain⟨t1,ord,e,hp,T1,em,el,_,_⟩:=relaid_ok t (hs:=es.map (·.1)) (wanted:=want) hw hM (by rw [Array.size_map,len]; omega)
 rw [Array.size_map,len] at hp
 obtain⟨L2,r1,r2,r3⟩:=aYi row hp
 rw [←r3] at T1
 have len2:(ord.filterMap (es[·]?)).size=es.size:=by
  have:=congrArg List.length r1
  rw [Array.length_toList,List.length_map,r2.length_eq] at this
  rw [this,len]
 rw [setRelay_eq]
 refine wpAny_bind (wpAny_setState_of h0 hd fit ?_)
 dsimp only
 refine wp_if_neg (by have:=sizeLine_eq; omega) ?_
 try refine wpAny_bind (wpAny_pure ?_)
 rw [e]
 dsimp only
 refine wpAny_bind ?_
 refine wp_if_neg (by simp [len2]) ?_
 try refine wpAny_bind (wpAny_pure ?_)
 refine wpAny_pure ?_
 dsimp only
 refine wpAny_storeSet_of h0 hd ?_ (by have:=sizeLine_eq; omega)
 have sb:Heap.SameBut a s.heap (s.heap.update a (Obj.putSet (ord.filterMap (es[·]?)) t1)):=Heap.SameBut.update ..
 refine fin _ L2 _ (ep+1) t1 sb ⟨⟨_,store_at h0 hd,⟨hx.1,hx.2.1,hx.2.2⟩,rfl⟩,r1,T1,(r2.map (·.2)).nodup_iff.mpr nd,fun p hpm=>(key p (r2.mem_iff.mp hpm)).same h0 hd sb,by unfold aZz; rw [el]; exact led,?_,by rw [r2.length_eq]; exact few⟩ r2
 rw [r2.length_eq,em]
 exact hn
theorem bBo {α:Type} (l:List α) (n:Nat) (x:α):(l.take n++x::l.drop n).Perm (x::l):=by
 have h:=List.perm_middle (a:=x) (l₁:=l.take n) (l₂:=l.drop n)
 rwa [List.take_append_drop] at h
theorem addN (R:NSet w s.heap a L es ep t) {x:Addr} {k:NestedKey} (hx:KAt s.heap k x) (hu:A.units+8 < cLine) (room:L.length+1 < 64) {Q:Bool→Shared→Prop}
  (fin:∀ b h1 L1 es1 ep1 t1,Heap.SameBut a s.heap h1→NSet w h1 a L1 es1 ep1 t1→(k∈L.map (·.2)→L1=L)→(k∉L.map (·.2)→L1.Perm ((x,k)::L))→Q b {s with heap:=h1}):wpAny (model P w) A (setAddHashed a (.ref x) (k.hash w)) Q E s:=by
 obtain⟨ob,h0,hex,hd⟩:=R.ob
 have fit:=R.fit
 have len:=R.len
 have rm:=R.room
 unfold setAddHashed
 refine wpAny_holding ?_
 show wpAny _ _ (setAddHashedIn a (.ref x) (k.hash w) (99999+1)) _ _ s
 rw [setAddHashedIn_succ]
 refine wpAny_bind (wpAny_setState_of h0 hd fit ?_)
 dsimp only
 have notScanned:¬byScan (.ref x) es=true:=by simp [byScan,Value.scannable]
 refine wp_if_neg notScanned ?_
 try refine wpAny_bind (wpAny_pure ?_)
 refine wpAny_bind (bDi R hx hu (fun z=>?_) fun N hm n2 n3=>?_)
 ·dsimp only
  exact wpAny_pure (fin false s.heap L es ep t (Heap.SameBut.refl a s.heap) R (fun _=>rfl) fun c=>absurd z c)
 dsimp only
 refine wpAny_bind (wpAny_setState_of h0 hd fit ?_)
 dsimp only
 obtain⟨q1,q2,q3,q4,q5,q6,q7,q8,q9⟩:=R.tab.put n2 n3
 generalize hpt:t.put (way t.mask (k.hash w) N)=pt at q1 q3 q4 q5 q6 q7 q8 q9 ⊢
 obtain⟨tp,pp⟩:=pt
 dsimp only at q1 q3 q4 q5 q6 q7 q8 q9 ⊢
 subst q1
 generalize hcut:SetTable.below t.place (way t.mask (k.hash w) N)=cut at q2 q3 ⊢
 have pm:=bBo L cut (x,k)
 have hrow:(SetTable.insertAt es cut (k.hash w,Value.ref x)).toList=(L.take cut++(x,k)::L.drop cut).map (ent w):=by
  rw [SetTable.toList_insertAt,R.row,List.map_append,List.map_cons,List.map_take,List.map_drop]
  rfl
 have hh:hsh w (L.take cut++(x,k)::L.drop cut)=(hsh w L).take cut++k.hash w::(hsh w L).drop cut:=by
  unfold hsh
  simp only [List.map_append,List.map_cons,List.map_drop,List.map_take]
 rw [←hh] at q3
 have nd1:((L.take cut++(x,k)::L.drop cut).map (·.2)).Nodup:=(pm.map (·.2)).nodup_iff.mpr (by rw [List.map_cons]; exact List.nodup_cons.mpr ⟨hm,R.nd⟩)
 have len1:=pm.length_eq
 rw [List.length_cons] at len1
 have es1:(SetTable.insertAt es cut (k.hash w,Value.ref x)).size=L.length+1:=by
  have:=congrArg List.length hrow
  rw [Array.length_toList,List.length_map,len1] at this
  exact this
 generalize SetTable.insertAt es cut (k.hash w,Value.ref x)=esN at hrow es1 ⊢
 generalize L.take cut++(x,k)::L.drop cut=LN at pm len1 q3 nd1 hrow
 have fill9:tp.fill=L.length+1:=by rw [q9]; unfold hsh; rw [List.length_map]
 have rest:∀ tn:SetTable,tn.mask=tp.mask→tn.place=tp.place→tn.dummies=tp.dummies→tn.led=tp.led→tn.fill=tp.fill→tn.tooFull=tp.tooFull→TabOk tn (hsh w LN)→
   wpAny (model P w) A (do
    storeSet a esN tn
    if !false&&tn.tooFull then setRelay a (SetTable.grown (es.size+1))
    return true:Sem Bool) Q E s:=fun tn m1 m2 m3 m4 m5 m6 TN=>by
  refine wpAny_bind (wpAny_storeSet_of h0 hd ?_ (by rw [es1]; have:=sizeLine_eq; omega))
  have sb:Heap.SameBut a s.heap (s.heap.update a (Obj.putSet esN tn)):=Heap.SameBut.update ..
  have h1:=store_at (es':=esN) (t':=tn) h0 hd
  generalize s.heap.update a (Obj.putSet esN tn)=hp at sb h1 ⊢
  have keys:∀ p∈LN,KAt hp p.2 p.1:=fun p hpm=>by
   rcases List.mem_cons.mp (pm.mem_iff.mp hpm) with e | e
   ·rw [e]; exact hx.same h0 hd sb
   ·exact(R.key p e).same h0 hd sb
  have led1:aZz w tn:=by unfold aZz; rw [m4,q5]; exact R.led
  by_cases over:tn.tooFull=true
  ·have full:(L.length+1)*5≥tp.mask*3:=by
    have z:=over
    unfold SetTable.tooFull at z
    rw [decide_eq_true_eq,m5,fill9,m1] at z
    exact z
   rw [len]
   have two:(t.mask=7∧L.length=4)∨(t.mask=31∧L.length=18):=by
    rcases R.tab.mok with e | e | e
    ·left; rw [q4,e] at full; rw [e] at rm; exact⟨e,by omega⟩
    ·right; rw [q4,e] at full; rw [e] at rm; exact⟨e,by omega⟩
    ·exfalso; rw [q4,e] at full; omega
   have anew:∀ M:Nat,MaskOk M→SetTable.sizeAbove (SetTable.grown (L.length+1)) - 1=M∧SetTable.sizeAbove (SetTable.grown (L.length+1))≤128→(L.length+1)*5 < M*3→
     wpAny (model P w) A (setRelay a (SetTable.grown (L.length+1))) (fun _ z=>wpAny (model P w) A (pure true) Q E z) E {s with heap:=hp}:=fun M g2 ⟨g1,g3⟩ g4=>by
    refine bFk (s:={s with heap:=hp}) h1 ⟨hex.1,hex.2.1,hex.2.2⟩ rfl hrow TN (by rw [len1,m1,q4]; rcases two with ⟨e,e2⟩ | ⟨e,e2⟩<;>omega) nd1 keys led1 (by rw [len1]; exact room) g1 g2 g3 (by rw [len1]; exact g4) fun h2 L2 e2 ep2 t2 sb2 R2 p2=>?_
    exact wpAny_pure (fin true h2 L2 e2 ep2 t2 (sb.trans sb2) R2 (fun z=>absurd z hm) fun _=>p2.trans pm)
   first
    | refine wp_if_pos (by simp [over]) (wpAny_bind ?_)
    | (refine wpAny_bind ?_; refine wp_if_pos (by simp [over]) ?_)
   rcases two with ⟨_,e2⟩ | ⟨_,e2⟩
   ·exact anew 31 (.inr (.inl rfl)) ⟨by rw [e2,size_20],by rw [e2,size_20]; decide⟩ (by omega)
   ·exact anew 127 (.inr (.inr rfl)) ⟨by rw [e2,size_76],by rw [e2,size_76]; decide⟩ (by omega)
  ·have few1:LN.length*5 < tn.mask*3:=by
    have z:=over
    unfold SetTable.tooFull at z
    rw [decide_eq_true_eq,m5,fill9] at z
    omega
   have last:Q true {s with heap:=hp}:=fin true hp LN esN (ep+1) tn sb ⟨⟨_,h1,⟨hex.1,hex.2.1,hex.2.2⟩,rfl⟩,hrow,TN,nd1,keys,led1,few1,by rw [len1]; exact room⟩ (fun z=>absurd z hm) fun _=>pm
   first
    | exact wp_if_neg (by simp [over]) (wpAny_pure last)
    | (refine wpAny_bind ?_; exact wp_if_neg (by simp [over]) (wpAny_pure (wpAny_pure last)))
 have off:TabOk {tp with plain:=false} (hsh w LN):=⟨q3.ris,q3.dm,q3.sz,q3.mok,q3.bd,q3.reach⟩
 by_cases hpl:tp.plain=true
 ·first
   | (refine wpAny_bind ?_; refine wp_if_pos hpl ?_; refine aIh 8 k _ (by have:=hx.2; omega) hx.1 fun b=>?_)
   | refine wp_if_pos hpl (wpAny_bind (aIh 8 k _ (by have:=hx.2; omega) hx.1 fun b=>?_))
  cases b with
  | true=>exact rest tp rfl rfl rfl rfl rfl rfl q3
  | false=>exact rest {tp with plain:=false} rfl rfl rfl rfl rfl rfl off
 ·first
   | (refine wpAny_bind ?_; refine wp_if_neg hpl ?_; refine wpAny_pure ?_)
   | refine wp_if_neg hpl ?_
  exact rest tp rfl rfl rfl rfl rfl rfl q3
end
end EvSk
namespace EvSk
open PySem PySem.Spec PyProof PyProof.Rows L2
mutual
noncomputable def aA5:NestedKey→Bool
 | .text _=>true
 | .tup ks=>pureKs ks
 | _=>false
noncomputable def pureKs:List NestedKey→Bool
 | []=>true
 | k::ks=>aA5 k&&pureKs ks
end
mutual
theorem aR2 {h:Heap}:∀(k:NestedKey) (v:Value),aA5 k=true→NestedIs h k v→Reads h v k.data []
 | .text y,v,_,x=>by cases x; exact .str _ _
 | .tup ks,v,p,x=>by
  cases x with
  | tup h1 h2 h3 h4=>exact .tuple h1 h2 h3 (reads_keys ks _ (by simpa [aA5] using p) h4)
 | .none,_,p,_=>by simp [aA5] at p
 | .num _,_,p,_=>by simp [aA5] at p
theorem reads_keys {h:Heap}:∀(ks:List NestedKey) (vs:List Value),pureKs ks=true→NestedAll h ks vs→ReadsAll h vs (NestedKey.datas ks) []
 | [],_,_,x=>by cases x; exact .nil
 | k::ks,_,p,x=>by
  cases x with
  | cons x1 x2=>
   simp only [pureKs,Bool.and_eq_true] at p
   exact ReadsAll.cons (as:=[]) (bs:=[]) (aR2 k _ p.1 x1) (reads_keys ks _ p.2 x2)
end
mutual
theorem aOf:∀ k:NestedKey,k.data.depth≤k.depth
 | .none=>by simp [NestedKey.data,PyData.depth]
 | .num _=>by simp [NestedKey.data,PyData.depth]
 | .text _=>by simp [NestedKey.data,PyData.depth]
 | .tup ks=>by
  have:=depth_datas ks
  simp only [NestedKey.data,PyData.depth,NestedKey.depth]
  omega
theorem depth_datas:∀ ks:List NestedKey,PyData.depthAll (NestedKey.datas ks)≤NestedKey.depthAll ks
 | []=>by simp [NestedKey.datas,PyData.depthAll]
 | k::ks=>by
  have h1:=aOf k
  have h2:=depth_datas ks
  simp only [NestedKey.datas,PyData.depthAll,NestedKey.depthAll]
  omega
end
mutual
theorem aZe:∀ x y:NestedKey,aA5 x=true→aA5 y=true→PyData.eqv x.data y.data=true→x=y
 | .text a,.text b,_,_,h=>by
  simp [NestedKey.data,PyData.eqv] at h
  rw [h]
 | .tup a,.tup b,p,q,h=>by
  have h:PyData.eqvAll (NestedKey.datas a) (NestedKey.datas b)=true:=by simpa [NestedKey.data,PyData.eqv] using h
  rw [eqv_keys a b (by simpa [aA5] using p) (by simpa [aA5] using q) h]
 | .text a,.tup b,_,_,h=>by simp [NestedKey.data,PyData.eqv] at h
 | .tup a,.text b,_,_,h=>by simp [NestedKey.data,PyData.eqv] at h
 | .none,_,p,_,_=>by simp [aA5] at p
 | .num _,_,p,_,_=>by simp [aA5] at p
 | .text _,.none,_,p,_=>by simp [aA5] at p
 | .text _,.num _,_,p,_=>by simp [aA5] at p
 | .tup _,.none,_,p,_=>by simp [aA5] at p
 | .tup _,.num _,_,p,_=>by simp [aA5] at p
theorem eqv_keys:∀ xs ys:List NestedKey,pureKs xs=true→pureKs ys=true→PyData.eqvAll (NestedKey.datas xs) (NestedKey.datas ys)=true→xs=ys
 | [],[],_,_,_=>rfl
 | x::xs,y::ys,p,q,h=>by
  simp only [pureKs,Bool.and_eq_true] at p q
  simp only [NestedKey.datas,PyData.eqvAll,Bool.and_eq_true] at h
  rw [aZe x y p.1 q.1 h.1,eqv_keys xs ys p.2 q.2 h.2]
 | [],_::_,_,_,h=>by simp [NestedKey.datas,PyData.eqvAll] at h
 | _::_,[],_,_,h=>by simp [NestedKey.datas,PyData.eqvAll] at h
end
noncomputable abbrev leK {α:Type} (f:α→NestedKey):α→α→Bool:=PySem.W.dataLe false fun a=>(f a).data
theorem aRe {α:Type} (f:α→NestedKey):PySem.W.TotalLe (leK f):=PySem.W.sortLe_total (PyProof.Rows.listOrd PyProof.Rows.itemOrd) false fun a=>PySem.W.keyToks (f a).data
theorem bBb {α:Type} {f:α→NestedKey} {a b:α} (pa:aA5 (f a)=true) (pb:aA5 (f b)=true) (al:PySem.W.alike (f a).data (f b).data=true) (h1:leK f a b=true) (h2:leK f b a=true):f a=f b:=by
 unfold leK PySem.W.dataLe PySem.W.sortLe at h1 h2
 simp only [cond_false,Bool.not_eq_true'] at h1 h2
 have e:=(PyProof.Rows.listOrd PyProof.Rows.itemOrd).total _ _ h2 h1
 cases q:PyData.eqv (f a).data (f b).data with
 | true=>exact aZe _ _ pa pb q
 | false=>
  exfalso
  have t:=(PySem.W.toks_eqv _ _ al).2 q
  have t1:=t [] (PySem.W.keyToks (.int 0))
  rw [e,List.append_nil] at t1
  have ne:PySem.W.keyToks (.int 0)≠[]:=by unfold PySem.W.keyToks; simp
  have no:PyProof.Rows.lexLt PyProof.Rows.itemOrd (PySem.W.keyToks (f b).data) (PySem.W.keyToks (f b).data)=false:=(PyProof.Rows.listOrd PyProof.Rows.itemOrd).irrefl _
  rw [no] at t1
  have yes:∀ l m:List PyProof.Rows.itemOrd.α,m≠[]→PyProof.Rows.lexLt PyProof.Rows.itemOrd l (l++m)=true:=by
   intro l m hm
   induction l with
   | nil=>cases m with
    | nil=>exact absurd rfl hm
    | cons x m=>rfl
   | cons x l ih=>
    rw [List.cons_append]
    unfold PyProof.Rows.lexLt
    rw [PyProof.Rows.itemOrd.irrefl,ih]
    rfl
  rw [yes _ _ ne] at t1
  cases t1
structure NSet0 (w:World) (h:Heap) (a:Addr) (L:NL):Prop where
 ex:∃(es:Array (Int×Value)) (ep:Nat) (t:SetTable),(∃ o,h.get? a=some o∧o.ExactSet∧o.data= .set es ep t)∧es.toList=L.map (ent w)∧TabOk t (hsh w L)∧(L.map (·.2)).Nodup∧(w.params.followText "set-order"=true∨t.led=true)∧L.length*5 < t.mask*3∧L.length < 64
theorem NSet.bare {w:World} {h:Heap} {a:Addr} {L:NL} {es:Array (Int×Value)} {ep:Nat} {t:SetTable} (R:NSet w h a L es ep t):NSet0 w h a L:=⟨es,ep,t,R.ob,R.row,R.tab,R.nd,R.led,R.room,R.few⟩
theorem NSet0.full {w:World} {h:Heap} {a:Addr} {L:NL} (R:NSet0 w h a L) (key:∀ p∈L,KAt h p.2 p.1):∃ es ep t,NSet w h a L es ep t:=
 let ⟨es,ep,t,a1,a2,a3,a4,a5,a6,a7⟩:=R.ex
 ⟨es,ep,t,a1,a2,a3,a4,key,a5,a6,a7⟩
theorem NSet0.keep {w:World} {h h':Heap} {a:Addr} {L:NL} (R:NSet0 w h a L) (k:∀ o,h.get? a=some o→h'.get? a=some o):NSet0 w h' a L:=
 let ⟨es,ep,t,⟨o,h0,r⟩,rest⟩:=R.ex
 ⟨es,ep,t,⟨o,k o h0,r⟩,rest⟩
theorem bGo {w:World} {h:Heap} {a:Addr} (e:h.get? a=some (EvSM.setW w)):NSet0 w h a []:=by
 refine⟨#[],0,_,⟨_,e,⟨rfl,rfl,rfl⟩,rfl⟩,rfl,⟨List.Pairwise.nil,rfl,rfl,.inl rfl,fun x hx=>(by cases hx),fun i h j hi=>(by simp [hsh] at hi)⟩,List.nodup_nil,?_,?_,?_⟩
 ·cases hw:w.params.followText "set-order" with
  | true=>exact .inl rfl
  | false=>exact .inr rfl
 ·show 0*5 < 7*3
  decide
 ·show 0 < 64
  decide
noncomputable def More (x:Addr) (k:NestedKey) (L L1:NL):Prop:=(k∈L.map (·.2)→L1=L)∧(k∉L.map (·.2)→L1.Perm ((x,k)::L))
theorem More.len {x:Addr} {k:NestedKey} {L L1:NL} (m:More x k L L1):L1.length≤L.length+1:=by
 by_cases h:k∈L.map (·.2)
 ·rw [m.1 h]; omega
 ·rw [(m.2 h).length_eq]; simp
theorem More.mem {x:Addr} {k:NestedKey} {L L1:NL} (m:More x k L L1) {p:Addr×NestedKey} (hp:p∈L1):p=(x,k)∨p∈L:=by
 by_cases h:k∈L.map (·.2)
 ·rw [m.1 h] at hp; exact .inr hp
 ·exact List.mem_cons.mp ((m.2 h).mem_iff.mp hp)
section
variable {P:Program} {w:World} {A:Around} {E:Value→Shared→Prop} {s:Shared}
theorem bHl {a:Addr} {L:NL} (R:NSet0 w s.heap a L) (key:∀ p∈L,KAt s.heap p.2 p.1) {x:Addr} {k:NestedKey} (hx:KAt s.heap k x) (hu:A.units+8 < cLine) (room:L.length+1 < 64) {Q:Bool→Shared→Prop}
  (fin:∀ b h1 L1,Heap.SameBut a s.heap h1→NSet0 w h1 a L1→More x k L L1→Q b {s with heap:=h1}):wpAny (model P w) A (setAddHashed a (.ref x) (k.hash w)) Q E s:=by
 obtain⟨es,ep,t,R⟩:=R.full key
 exact addN R hx hu room fun b h1 L1 es1 ep1 t1 sb R1 c1 c2=>fin b h1 L1 sb R1.bare ⟨c1,c2⟩
end
end EvSk
namespace EvSk
open PySem PySem.Spec PyProof PyProof.Rows L2
section
variable {P:Program} {w:World} {A:Around} {R:Result→Shared→Prop} {I:Addr} {fp wr:List Addr} {G:Array GenState→Array GenState→Prop} {n:Nat} {Pv:Nat→Value→Prop} {St:Nat→Shared→Prop}
inductive Came (ks:NL):Nat→NL→Prop
 | nil:Came ks 0 []
 | next {i:Nat} {L L1:NL} {p:Addr×NestedKey}:Came ks i L→ks[i]? =some p→More p.1 p.2 L L1→Came ks (i+1) L1
theorem Came.sub {ks:NL} {i:Nat} {L:NL} (c:Came ks i L):(∀ p∈L,p∈ks)∧L.length≤i:=by
 induction c with
 | nil=>exact⟨fun p hp=>(by cases hp),Nat.le_refl _⟩
 | next c0 e m ih=>
  refine⟨fun p hp=>?_,Nat.le_trans m.len (by have:=ih.2; omega)⟩
  rcases m.mem hp with rfl | h
  ·exact List.mem_of_getElem? e
  ·exact ih.1 p h
theorem bHi (V:WalksS P w A.in1 I fp wr G n Pv St) (S:Addr) (hS:S∉fp) (ks:NL) (hx:ks.length=n) (hb:n < 60) (hv:∀ i v,Pv i v→∃ p,ks[i]? =some p∧v= .ref p.1) (h0:Heap) (hk:∀ p∈ks,KAt h0 p.2 p.1) (hS0:h0.get? S=none) (hw0:∀ b∈wr,h0.get? b=none) (hu:A.in1.units+64 < cLine):
  ∀(k i:Nat) (s:Shared),n - i=k→i≤n→St i s→(∀ b o,h0.get? b=some o→s.heap.get? b=some o)→(∃ L,Came ks i L∧NSet0 w s.heap S L)→
   (∀ s' L,Moved (S::wr) G s s'→Came ks n L→NSet0 w s'.heap S L→R (.ok (.ret .none)) s')→codeAny (model P w) A (.builtin "set.update.loop" ⟨[.ref S,.ref I],[]⟩) R s:=by
 have hw:S∉wr:=fun h=>hS (V.sub _ h)
 have up:∀ b∈wr,b∈S::wr:=fun b hb=>List.mem_cons_of_mem _ hb
 have keep:∀ {s s':Shared} {L:NL},Moved wr G s s'→NSet0 w s.heap S L→NSet0 w s'.heap S L:=fun hm r=>r.keep fun o e=>hm.heap S o hw e
 have old:∀ {s s':Shared},Moved wr G s s'→(∀ b o,h0.get? b=some o→s.heap.get? b=some o)→∀ b o,h0.get? b=some o→s'.heap.get? b=some o:=fun hm q b o e=>
  hm.heap b o (fun hb=>by rw [hw0 b hb] at e; cases e) (q b o e)
 intro k
 induction k with
 | zero=>
  intro i s hk' hi st ol ⟨L,cm,r⟩ hR
  obtain rfl:i=n:=by omega
  refine codeAny_builtin F.entry_set_update_loop ?_
  rw [Around.under_plainId F.plain_set_update_loop _]
  show wpAny _ A.in1 (pyNext (.ref I) >>=_) _ _ s
  exact wpAny_bind (V.done s _ _ st fun s' hm=>(show wpAny _ A.in1 (ret Value.none) _ _ s' from wpAny_pure (hR s' L (hm.mono up) cm (keep hm r))))
 | succ k ih=>
  intro i s hk' hi st ol ⟨L,cm,r⟩ hR
  have hlt:i < n:=by omega
  refine codeAny_builtin F.entry_set_update_loop ?_
  rw [Around.under_plainId F.plain_set_update_loop _]
  show wpAny _ A.in1 (pyNext (.ref I) >>=_) _ _ s
  refine wpAny_bind (V.item i s _ _ hlt st fun v s' hP st' hm=>?_)
  obtain⟨p,hp,rfl⟩:=hv i v hP
  have ol':=old hm ol
  have r':=keep hm r
  obtain⟨sub,few⟩:=cm.sub
  have kx:KAt s'.heap p.2 p.1:=(hk p (List.mem_of_getElem? hp)).keep ol'
  show wpAny _ _ (holding [.ref p.1] (setAdd S (.ref p.1)) >>=_) _ _ s'
  refine wpAny_bind (wpAny_holding ?_)
  unfold setAdd
  refine wpAny_holding (wpAny_bind (pyHash_key p.2 _ _ s' _ kx.1 (by have:=kx.2; omega) ?_))
  refine bHl (s:={s' with toks:=s'.toks+p.2.draws}) r' (fun q hq=>(hk q (sub q hq)).keep ol') kx (by omega) (by omega) fun b h1 L1 sb r1 m=>?_
  have ol1:∀ b o,h0.get? b=some o→h1.get? b=some o:=fun b o e=>(sb.2 b (fun z=>by rw [z,hS0] at e; cases e)).trans (ol' b o e)
  refine wpAny_pure ⟨plainId_quiet F.plain_set_update_loop _,ih (i+1) _ (by omega) hlt (V.frame _ s' _ _ st' (Nat.le_add_right _ _) fun b hb o e=>?_) ol1 ⟨L1,.next cm hp m,r1⟩ fun s2 L2 hm2 c2 r2=>?_⟩
  ·rw [sb.2 b (fun z:b=S=>hS (by rw [←z]; exact hb))]
   exact e
  ·refine hR s2 L2 (Moved.trans V.gtrans ((hm.mono up).then_heap (Nat.le_add_right _ _) fun b o hb e=>?_) hm2) c2 r2
   rw [sb.2 b (fun z:b=S=>hb (by rw [z]; exact List.mem_cons_self))]
   exact e
end
section
variable {P:Program} {w:World} {A:Around} {E:Value→Shared→Prop} {s:Shared}
set_option maxHeartbeats 6400000 in
theorem aM5 {l:Addr} {items:Array Value} {ks:NL} {Q:Value→Shared→Prop} (hh:A.handled=none) (hl:s.heap.IsTuple l items) (hi:items.toList=ks.map fun p=>Value.ref p.1) (hk:∀ p∈ks,KAt s.heap p.2 p.1) (hb:ks.length < 60) (hu:A.units+80 < cLine)
  (h:∀(h':Heap) (tk:Nat) L,Came ks ks.length L→NSet0 w h' s.heap.objs.size L→(∀ b o,b < s.heap.objs.size→s.heap.get? b=some o→h'.get? b=some o)→Q (.ref s.heap.objs.size) {s with heap:=h',toks:=tk}):
  wpAny (model P w) A (call (.type "set") [.ref l]) Q E s:=by
 refine EvSM.aL6 (D:=fun s₂=>∃ h' tk L,s₂={s with heap:=h',toks:=tk}∧Came ks ks.length L∧NSet0 w h' s.heap.objs.size L∧(∀ b o,b < s.heap.objs.size→s.heap.get? b=some o→h'.get? b=some o)) ?_ fun s₂ ⟨h',tk,L,e,cm,hs',hk'⟩=>by subst e; exact h _ _ L cm hs' hk'
 have hS:(s.heap.push (EvSM.setW w)).get? s.heap.objs.size=some (EvSM.setW w):=Heap.get?_push_size _ rfl
 obtain⟨⟨oc,od,dt,sl⟩,hol,hc1,nl,hd1⟩:=hl
 replace hc1:oc= .type "tuple":=hc1
 replace hd1:dt= .seq items nl:=hd1
 subst hc1
 subst hd1
 have hol':(s.heap.push (EvSM.setW w)).get? l=some {cls:= .type "tuple",dict:=od,data:= .seq items nl,slots:=sl}:=Heap.get?_push_of_some _ hol
 have q1:=PySem.F.sub_tuple_set
 have q2:=PySem.F.sub_tuple_frozenset
 have q3:(Value.type "tuple"==Value.type "dict")=false:=by decide
 have hl1:(s.heap.push (EvSM.setW w)).IsTuple l items:=⟨_,hol',rfl,nl,rfl⟩
 unfold Builtin.«set.__init__» noKeywords Builtin.Frozenset.updateFrom
 generalize hPI:pyIter=PI
 wp_walk
 subst hPI
 refine wpAny_pyIter_tuple hl1 (wpAny_bind (wpAny_runValue ?_))
 have hlS:l < s.heap.objs.size:=Heap.lt_size hol
 have hz:(s.heap.push (EvSM.setW w)).objs.size=s.heap.objs.size+1:=Heap.size_push ..
 have a1:A.in1.in1.in1.handled=none:=by simp [hh]
 have a2:l≠(s.heap.push (EvSM.setW w)).objs.size:=by rw [hz]; exact Nat.ne_of_lt (Nat.lt_succ_of_lt hlS)
 have a3:s.heap.objs.size∉[(s.heap.push (EvSM.setW w)).objs.size,l]:=by
  rw [hz]
  simp only [List.mem_cons,List.not_mem_nil,or_false,not_or]
  exact⟨Nat.ne_of_lt (Nat.lt_succ_self _),Nat.ne_of_gt hlS⟩
 have a4:ks.length=items.size:=by
  have:=congrArg List.length hi
  rw [Array.length_toList,List.length_map] at this
  exact this.symm
 have a5:∀(i:Nat) (v:Value),items[i]? =some v→∃ p,ks[i]? =some p∧v= .ref p.1:=fun i v hv=>by
  have h1:items.toList[i]? =some v:=by rw [Array.getElem?_toList]; exact hv
  rw [hi,List.getElem?_map] at h1
  obtain⟨p,h2,rfl⟩:=Option.map_eq_some_iff.mp h1
  exact⟨p,h2,rfl⟩
 have none_of:∀ c,s.heap.objs.size≤c→s.heap.get? c=none:=fun c hc=>Option.eq_none_iff_forall_ne_some.mpr fun o q=>by
  have q':c < s.heap.objs.size:=Heap.lt_size q
  exact absurd hc (Nat.not_le_of_lt q')
 refine bHi ((Walks.tuple a1 _ l a2 items).toS) s.heap.objs.size a3 ks a4 (by omega) a5 s.heap hk (none_of _ (Nat.le_refl _)) (fun b hb=>none_of b ?_) (by show A.units+1+1+1+64 < cLine; omega) (items.size - 0) 0 _ (by omega) (Nat.zero_le _) ⟨⟨_,Heap.get?_push_size _ rfl,rfl,rfl⟩,(hl1.push _)⟩ (fun b o e=>Heap.get?_push_of_some _ (Heap.get?_push_of_some _ e)) ?_ fun s' L hm cm h9=>?_
 ·have hb':b∈[(s.heap.push (EvSM.setW w)).objs.size]:=hb
  rw [List.mem_singleton.mp hb',hz]
  exact Nat.le_succ _
 ·have hg:((s.heap.push (EvSM.setW w)).push {cls:= .type "tuple_iterator",data:= .fields #[.ref l,.int 0 0]}).get? s.heap.objs.size=some (EvSM.setW w):=Heap.get?_push_of_some _ hS
  exact⟨[],.nil,bGo hg⟩
 ·obtain⟨h',g',d',tk',os'⟩:=s'
  obtain rfl:g'=s.gens:=hm.gens
  obtain rfl:d'=s.drawn:=hm.drawn
  obtain rfl:os'=s.os:=hm.os
  rw [←a4] at cm
  refine wpAny_pure (show wpAny _ _ (ret Value.none) _ _ _ from wpAny_pure ⟨rfl,h',tk',L,rfl,cm,h9,fun b o hb e=>hm.heap b o ?_ (Heap.get?_push_of_some _ (Heap.get?_push_of_some _ e))⟩)
  simp only [List.mem_cons,List.not_mem_nil,or_false,not_or]
  exact⟨Nat.ne_of_lt hb,by rw [hz]; exact Nat.ne_of_lt (Nat.lt_succ_of_lt hb)⟩
theorem perm_back {α β:Type} {f:α→β}:∀ {l m:List β},l.Perm m→∀ js:List α,m=js.map f→∃ is:List α,is.Perm js∧l=is.map f:=by
 intro l m p
 induction p with
 | nil=>intro js h; exact⟨js,.refl _,h⟩
 | cons x p ih=>
  intro js h
  match js,h with
  | [],h=>cases h
  | j::js,h=>
   rw [List.map_cons] at h
   injection h with h1 h2
   obtain⟨is,i1,i2⟩:=ih js h2
   exact⟨j::is,i1.cons j,by rw [List.map_cons,i2,h1]⟩
 | swap x y l=>
  intro js h
  match js,h with
  | [],h=>cases h
  | [_],h=>rw [List.map_cons,List.map_nil] at h; cases h
  | i::j::js,h=>
   rw [List.map_cons,List.map_cons] at h
   injection h with h1 h2
   injection h2 with h2 h3
   exact⟨j::i::js,.swap _ _ _,by rw [List.map_cons,List.map_cons,h1,h2,h3]⟩
 | trans p q ip iq=>
  intro js h
  obtain⟨is,i1,i2⟩:=iq js h
  obtain⟨hs,h1,h2⟩:=ip is i2
  exact⟨hs,h1.trans i1,h2⟩
theorem aS1 {α β:Type} {R:β→α→Prop} {f:α→β} (h:∀ a,R (f a) a):∀ l:List α,PySem.W.EachIs R (l.map f) l
 | []=> .nil
 | a::l=> .cons (h a) (aS1 h l)
theorem aY7 {L:NL} {out:List Value} (h:PySem.W.EachIs (fun(v:Value) (p:Addr×NestedKey)=>v= .ref p.1) out L):out=L.map fun p=>Value.ref p.1:=by
 induction h with
 | nil=>rfl
 | cons h _ ih=>rw [List.map_cons,h,ih]
theorem bD3 {a:Addr} {L:NL} (R0:NSet0 w s.heap a L) (key:∀ p∈L,KAt s.heap p.2 p.1) (pure_:∀ p∈L,aA5 p.2=true) (al:PySem.W.AllAlike (L.map fun p=>p.2.data)) (so:PySem.W.Sortable (L.map fun p=>p.2.data)) (hh:A.handled=none) (hu:A.units+80 < cLine) {Q:Value→Shared→Prop}
  (fin:∀(z:Shared) (p:Addr) (c:Nat) (L1:NL),L1.Perm L→(∀ b o,s.heap.get? b=some o→z.heap.get? b=some o)→z.gens=s.gens→z.os=s.os→s.heap.objs.size≤p→z.heap.get? p=some (seqObj "list" ((L1.mergeSort (leK Prod.snd)).map fun q=>Value.ref q.1).toArray c)→Q (.ref p) z):
  wpAny (model P w) A (call (.builtin "sorted") [.ref a]) Q E s:=by
 obtain⟨es,ep,t,R⟩:=R0.full key
 obtain⟨ob,h0,hx,hd⟩:=R.ob
 have few:=R.few
 refine Calls.call_function_entry kind_sorted plain_sorted entry_sorted (args_sorted1 _) ?_
 unfold Builtin.«sorted»
 refine wpAny_bind (m:=checkCount "sorted" 1 1 _) (wpAny_pure (wpAny_bind (collect_set (A:=A.in1) hh ⟨ob,h0,hx.1,hd⟩ R.fit (by rw [R.len]; exact Nat.lt_trans few (by decide)) R.tab.ris R.led fun z vs k1 hz g o pv=>?_)))
 have em:es.toList.map (·.2)=L.map fun p=>Value.ref p.1:=by rw [R.row,List.map_map]; rfl
 rw [em] at pv
 obtain⟨L1,pL,rfl⟩:=perm_back pv L rfl
 have hL:(L1.map fun p=>Value.ref p.1).length≤sizeLine:=by
  rw [List.length_map,pL.length_eq]
  have:=sizeLine_eq
  omega
 refine wpAny_bind (wpAny_newList ?_ hL)
 have z2:(z.heap.push (seqObj "list" (L1.map fun p=>Value.ref p.1).toArray 0)).get? z.heap.objs.size=some (seqObj "list" (L1.map fun p=>Value.ref p.1).toArray 0):=Heap.get?_push_size _ rfl
 have al1:PySem.W.AllAlike (L1.map fun p=>p.2.data):=fun d hd e he=>al d ((pL.map _).mem_iff.mp hd) e ((pL.map _).mem_iff.mp he)
 have so1:PySem.W.Sortable (L1.map fun p=>p.2.data):=so.imp (fun h d hd=>h d ((pL.map _).mem_iff.mp hd)) (fun h d hd=>h d ((pL.map _).mem_iff.mp hd))
 have er:PySem.W.EachIs (fun(v:Value) (p:Addr×NestedKey)=>∃ as,Reads (z.heap.push (seqObj "list" (L1.map fun p=>Value.ref p.1).toArray 0)) v p.2.data as∧z.heap.objs.size∉as) (L1.map fun p=>Value.ref p.1) L1:=by
  have:∀ l:NL,(∀ p∈l,p∈L1)→PySem.W.EachIs (fun(v:Value) (p:Addr×NestedKey)=>∃ as,Reads (z.heap.push (seqObj "list" (L1.map fun p=>Value.ref p.1).toArray 0)) v p.2.data as∧z.heap.objs.size∉as) (l.map fun p=>Value.ref p.1) l:=by
   intro l
   induction l with
   | nil=>intro _; exact .nil
   | cons p l ih=>
    intro hl
    have hm:p∈L:=pL.mem_iff.mp (hl p List.mem_cons_self)
    exact .cons ⟨[],aR2 p.2 _ (pure_ p hm) ((key p hm).keep fun b o e=>Heap.get?_push_of_some _ (k1 b o e)).1,by simp⟩ (ih fun q hq=>hl q (List.mem_cons_of_mem _ hq))
  exact this L1 fun p hp=>hp
 have dp:∀ k:NestedKey,k.data.depth≤k.depth:=by
  have key2:(∀ k:NestedKey,k.data.depth≤k.depth):=fun k=>aOf k
  exact key2
 refine wpAny_bind (wpAny_holding (PySem.W.list_sort_data (s:={z with heap:=z.heap.push (seqObj "list" (L1.map fun p=>Value.ref p.1).toArray 0)}) (R:=fun(v:Value) (p:Addr×NestedKey)=>v= .ref p.1) (enc:=fun p:Addr×NestedKey=>p.2.data) z2 (aS1 (f:=fun p:Addr×NestedKey=>Value.ref p.1) (fun _=>rfl) L1) er al1 so1 (by rw [List.length_map] at hL; exact hL) (fun b hb=>?_) fun out ho eo=>?_))
 ·have:=(key b (pL.mem_iff.mp hb)).2
  have:=dp b.2
  show A.units+_+_+_ < cLine
  omega
 ·have eout:=aY7 eo
  obtain⟨c,hc⟩:=sortedHeap_at (vs:=L1.map fun p=>Value.ref p.1) (out:=List.toArray out) z2
  refine wpAny_pure ⟨_,rfl,fin _ z.heap.objs.size c L1 pL (fun b u e=>?_) g o hz (by rw [←eout]; exact hc)⟩
  have q:=k1 b u e
  have lt:=Heap.lt_size q
  show (sortedHeap (z.heap.push (seqObj "list" (L1.map fun p=>Value.ref p.1).toArray 0)) z.heap.objs.size (L1.map fun p=>Value.ref p.1) _).get? b=some u
  rw [sortedHeap_old (Nat.ne_of_lt lt) (by rw [size_push']; exact Nat.lt_succ_of_lt lt)]
  exact Heap.get?_push_of_some _ q
end
end EvSk
namespace EvSk
open PySem PySem.Spec PyProof PyProof.Rows L2
section
variable {X:Cx} [Ev.Wrl] {pins:List (Addr×Obj)} {σ:L2.St} {H:Hp} {s:Shared}
noncomputable def aWg (a:Addr) (L:NL):HO:= .ext fun h=>NSet0 Ev.Wrl.w h a L
theorem bD7 {H:Hp} {h:Heap} {a:Addr} {L:NL} (hr:Ev.Here X) (S:NSet0 X.w h a L):ObjOk X.prog X.w H h a (aWg a L):=by
 have S':NSet0 Ev.Wrl.w h a L:=by rw [hr.w]; exact S
 refine⟨S',?_,fun h1 h2 q k=>q.keep k⟩
 obtain⟨_,_,_,⟨o,e,_⟩,_⟩:=S.ex
 exact⟨o,e⟩
theorem bD8 {h:Heap} {a:Addr} {L:NL} (hr:Ev.Here X) (ok:HOk X.prog X.w H h) (e:H a=some (aWg a L)):NSet0 X.w h a L:=by
 have q:ObjOk X.prog X.w H h a (.ext fun h=>NSet0 Ev.Wrl.w h a L):=ok a _ e
 have q1:=q.1
 rw [hr.w] at q1
 exact q1
noncomputable def Keyed (K:PySem.W.Frag) (H:Hp) (L:NL):Prop:=∀ p∈L,Ev.NIs K H p.2 (.ref p.1)∧p.2.depth≤6
theorem kat (I:Inv X pins σ H s) {k:NestedKey} {x:Addr} (h:Ev.NIs X.K H k (.ref x)) (d:k.depth≤6):KAt s.heap k x:=⟨Ev.aH1 I k _ (.ref x) h rfl,d⟩
theorem vals_refs {ks:NL} {us:List Value} (h:Vals (ks.map fun p=>V.ref p.1) us):us=ks.map fun p=>Value.ref p.1:=by
 induction ks generalizing us with
 | nil=>rw [List.map_nil] at h; cases h; rfl
 | cons p ks ih=>
  rw [List.map_cons] at h
  cases h with
  | cons r t=>
   cases (show _=Value.ref p.1 from r)
   rw [List.map_cons,ih t]
theorem aR1:∀ L:NL,Vals (L.map fun p=>V.ref p.1) (L.map fun p=>Value.ref p.1)
 | []=> .nil
 | p::L=> .cons rfl (aR1 L)
noncomputable def bFl (K:PySem.W.Frag):List V→Hp→VK→Prop:=fun xs H Q=>∃(l:Addr) (ks:NL),xs=[.ref l]∧SqT K H l (ks.map fun p=>V.ref p.1)∧Keyed K H ks∧ks.length < 60∧∀ d L,H d=none→Came ks ks.length L→Q (.ref d) (upd H d (aWg d L))
theorem aZl (hr:Ev.Here X) (hc:X.calm=true) (hu:X.A.units+80 < cLine):CallR X (.type "set") (bFl X.K):=by
 intro pins s σ H xs us Q I r h
 obtain⟨l,ks,rfl,hq,hk,hl,q⟩:=h
 rw [Vals.ref1 r]
 obtain⟨its,r',pl,hz⟩:=I.tuple hq
 refine aM5 (I.ok.hd hc) pl (by simpa using vals_refs r') (fun p hp=>kat I (hk p hp).1 (hk p hp).2) hl hu fun h' tk L cm hS kp=>?_
 exact⟨.ref s.heap.objs.size,_,I.laid (t':=tk) (fun b o e=>kp b o (Heap.lt_size e) e) (Nat.le_refl _) (bD7 hr hS),rfl,q _ L (I.hok.fresh (Nat.le_refl _)) cm⟩
noncomputable def aY8 (K:PySem.W.Frag):List V→Hp→VK→Prop:=fun vs H Q=>∃(D:Addr) (L:NL),vs=[.ref D]∧H D=some (aWg D L)∧Keyed K H L∧(∀ p∈L,aA5 p.2=true)∧PySem.W.AllAlike (L.map fun p=>p.2.data)∧PySem.W.Sortable (L.map fun p=>p.2.data)∧
 ∀(d:Addr) (L1:NL),L1.Perm L→H d=none→Q (.ref d) (upd H d (.lst ((L1.mergeSort (leK Prod.snd)).map fun q=>V.ref q.1)))
theorem bBp (hr:Ev.Here X) (hc:X.calm=true) (hu:X.A.units+80 < cLine):CallR X (.builtin "sorted") (aY8 X.K):=by
 intro pins s σ H vs us Q I r h
 obtain⟨D,L,rfl,hD,hk,hp,al,so,q⟩:=h
 rw [Vals.ref1 r]
 have R:=bD8 hr I.hok hD
 refine bD3 R (fun p hp=>kat I (hk p hp).1 (hk p hp).2) hp al so (I.ok.hd hc) hu fun z p c L1 pL k1 g o hz hz2=>?_
 have few:L.length < 64:=let ⟨_,_,_,_,_,_,_,_,_,f⟩:=R.ex; f
 have hl:((L1.mergeSort (leK Prod.snd)).map fun q=>V.ref q.1).length≤sizeLine:=by
  rw [List.length_map,List.length_mergeSort,pL.length_eq]
  have:=sizeLine_eq
  omega
 exact Ev.aL3 I k1 g o hz hz2 (by simpa using aR1 (L1.mergeSort (leK Prod.snd))) hl fun d hd=>q d L1 pL hd
end
end EvSk
namespace Ev
open PySem PySem.Spec PyProof PyProof.Rows L2 EvSk
structure Z3 where
 t:T
 k:NestedKey
 a:Addr
noncomputable abbrev Z3.tk (z:Z3):T×NestedKey:=(z.t,z.k)
noncomputable abbrev Z3.ak (z:Z3):Addr×NestedKey:=(z.a,z.k)
mutual
noncomputable def txK:T→Option NestedKey
 | .str x=>some (.text x)
 | .tup ts=>match txKs ts with
  | some ks=>some (.tup ks)
  | none=>none
 | _=>none
noncomputable def txKs:List T→Option (List NestedKey)
 | []=>some []
 | t::ts=>match txK t,txKs ts with
  | some k,some ks=>some (k::ks)
  | _,_=>none
end
mutual
theorem bC0:∀ {t:T} {k:NestedKey},txK t=some k→toNK t=some k∧aA5 k=true
 | .str x,k,h=>by
  unfold txK at h
  cases h
  unfold toNK
  exact⟨rfl,rfl⟩
 | .tup ts,k,h=>by
  unfold txK at h
  cases e:txKs ts with
  | none=>rw [e] at h; cases h
  | some ks=>
   rw [e] at h
   cases h
   obtain⟨h1,h2⟩:=txKs_nk e
   unfold toNK aA5
   rw [h1]
   exact⟨rfl,h2⟩
 | .non,_,h | .int _,_,h | .bl _,_,h | .ty _,_,h | .lst _,_,h | .rls _,_,h | .dct _ _,_,h | .ins _ _ _,_,h | .dcn _ _,_,h | .exc _ _ _,_,h | .set _,_,h | .loc _,_,h | .odd _ _,_,h | .fn _ _ _ _ _ _,_,h=>by simp [txK] at h
theorem txKs_nk:∀ {ts:List T} {ks:List NestedKey},txKs ts=some ks→toNKs ts=some ks∧pureKs ks=true
 | [],ks,h=>by
  unfold txKs at h
  cases h
  unfold toNKs pureKs
  exact⟨rfl,rfl⟩
 | t::ts,ks,h=>by
  unfold txKs at h
  cases e1:txK t with
  | none=>rw [e1] at h; cases h
  | some k=>
   cases e2:txKs ts with
   | none=>rw [e1,e2] at h; cases h
   | some js=>
    rw [e1,e2] at h
    cases h
    obtain⟨a1,a2⟩:=bC0 e1
    obtain⟨b1,b2⟩:=txKs_nk e2
    unfold toNKs pureKs
    rw [a1,b1,a2,b2]
    exact⟨rfl,rfl⟩
end
noncomputable def addZ {α:Type} (f:α→NestedKey) (acc:List α) (z:α):List α:=if acc.any (fun y=>NestedKey.beq (f y) (f z)) then acc else acc++[z]
noncomputable def dz {α:Type} (f:α→NestedKey) (zs:List α):List α:=zs.foldl (addZ f) []
theorem bEw {α:Type} (f:α→NestedKey) (zs:List α) (z:α):dz f (zs++[z])=addZ f (dz f zs) z:=by unfold dz; rw [List.foldl_append]; rfl
theorem aZu {α:Type} {f:α→NestedKey} {l:List α} {z:α}:(l.any fun y=>NestedKey.beq (f y) (f z))=true↔f z∈l.map f:=by
 rw [List.any_eq_true,List.mem_map]
 constructor
 ·rintro⟨y,h1,h2⟩
  exact⟨y,h1,NestedKey.eq_of_beq _ _ h2⟩
 ·rintro⟨y,h1,h2⟩
  exact⟨y,h1,by rw [h2]; exact NestedKey.beq_self _⟩
theorem aPy {α:Type} {f:α→NestedKey} {l:List α} {z:α} (h:f z∈l.map f):addZ f l z=l:=by unfold addZ; rw [if_pos (aZu.mpr h)]
theorem aKr {α:Type} {f:α→NestedKey} {l:List α} {z:α} (h:f z∉l.map f):addZ f l z=l++[z]:=by unfold addZ; rw [if_neg fun q=>h (aZu.mp q)]
theorem aPn {α:Type} (f:α→NestedKey):∀ zs:List α,((dz f zs).map f).Nodup∧∀ z∈dz f zs,z∈zs:=by
 intro zs
 have key:∀(zs acc:List α),(acc.map f).Nodup→((zs.foldl (addZ f) acc).map f).Nodup∧∀ z∈zs.foldl (addZ f) acc,z∈acc∨z∈zs:=by
  intro zs
  induction zs with
  | nil=>intro acc h; exact⟨h,fun z hz=> .inl hz⟩
  | cons z zs ih=>
   intro acc h
   rw [List.foldl_cons]
   by_cases q:f z∈acc.map f
   ·rw [aPy q]
    obtain⟨a,b⟩:=ih acc h
    exact⟨a,fun y hy=>(b y hy).imp id fun w=>List.mem_cons_of_mem _ w⟩
   ·rw [aKr q]
    obtain⟨a,b⟩:=ih (acc++[z]) (by
     rw [List.map_append]
     refine List.nodup_append.mpr ⟨h,by simp,fun x hx y hy e=>?_⟩
     rw [List.map_cons,List.map_nil,List.mem_singleton] at hy
     exact q (by rw [←hy,←e]; exact hx))
    refine⟨a,fun y hy=>?_⟩
    rcases b y hy with w | w
    ·rcases List.mem_append.mp w with w | w
     ·exact .inl w
     ·rw [List.mem_singleton.mp w]; exact .inr List.mem_cons_self
    ·exact .inr (List.mem_cons_of_mem _ w)
 obtain⟨a,b⟩:=key zs [] List.nodup_nil
 exact⟨a,fun z hz=>(b z hz).resolve_left (by simp)⟩
theorem bGx {α β:Type} {f:α→NestedKey} {g:β→NestedKey} (h:α→β) (e:∀ a,g (h a)=f a) (zs:List α):dz g (zs.map h)=(dz f zs).map h:=by
 have key:∀(zs acc:List α),(zs.map h).foldl (addZ g) (acc.map h)=(zs.foldl (addZ f) acc).map h:=by
  intro zs
  induction zs with
  | nil=>intro acc; rfl
  | cons z zs ih=>
   intro acc
   have e2:(acc.map h).map g=acc.map f:=by rw [List.map_map]; exact List.map_congr_left fun a _=>e a
   rw [List.map_cons,List.foldl_cons,List.foldl_cons,←ih]
   congr 1
   by_cases q:f z∈acc.map f
   ·rw [aPy q,aPy (by rw [e2,e]; exact q)]
   ·rw [aKr q,aKr (by rw [e2,e]; exact q),List.map_append]; rfl
 exact key zs []
noncomputable def bAd (zs:List (T×NestedKey)):List T:=(msF (leK Prod.snd) zs.length zs).map (·.1)
noncomputable def okZ (zs:List (T×NestedKey)):Bool:=aIv (zs.map fun z=>z.2.data)&&zs.all (fun z=>(match z.2 with | .tup _=>true | _=>false)&&decide (z.2.depth≤6))&&decide (zs.length < 60)
theorem bEy {zs:List Z3} {i:Nat} {L:NL} (c:Came (zs.map Z3.ak) i L):L.Perm ((dz Z3.k (zs.take i)).map Z3.ak):=by
 induction c with
 | nil=>rw [List.take_zero]; exact .refl _
 | next c0 e m ih=>
  rename_i i L L1 p
  rw [List.getElem?_map] at e
  obtain⟨z,hz,rfl⟩:=Option.map_eq_some_iff.mp e
  obtain⟨hi,hzz⟩:=List.getElem?_eq_some_iff.mp hz
  have e2:zs.take (i+1)=zs.take i++[z]:=by rw [←List.take_append_getElem hi,hzz]
  rw [e2,bEw]
  have hk:z.k∈L.map (·.2)↔z.k∈(dz Z3.k (zs.take i)).map Z3.k:=by
   rw [(ih.map (·.2)).mem_iff,List.map_map]
   exact Iff.rfl
  by_cases q:z.k∈L.map (·.2)
  ·rw [m.1 q,aPy (hk.mp q)]
   exact ih
  ·rw [aKr fun w=>q (hk.mpr w),List.map_append]
   refine(m.2 q).trans ((ih.cons _).trans ?_)
   exact(List.perm_append_singleton _ _).symm
theorem aXl {S:List Z3} {L1:NL} (hp:L1.Perm (S.map Z3.ak)) (nd:(S.map Z3.k).Nodup) (pu:∀ z∈S,aA5 z.k=true) (al:∀ z∈S,∀ y∈S,PySem.W.alike z.k.data y.k.data=true):L1.mergeSort (leK Prod.snd)=(S.mergeSort (leK Z3.k)).map Z3.ak:=by
 have e1:(S.mergeSort (leK Z3.k)).map Z3.ak=(S.map Z3.ak).mergeSort (leK Prod.snd):=PySem.W.sort_maps Z3.ak fun _ _ _ _=>rfl
 rw [e1]
 have mem:∀ p,p∈L1.mergeSort (leK Prod.snd)→∃ z∈S,z.ak=p:=fun p h=>List.mem_map.mp (hp.mem_iff.mp (List.mem_mergeSort.mp h))
 have mem2:∀ p,p∈(S.map Z3.ak).mergeSort (leK Prod.snd)→∃ z∈S,z.ak=p:=fun p h=>List.mem_map.mp (List.mem_mergeSort.mp h)
 have one:∀ {l:List Z3},(l.map Z3.k).Nodup→∀ y∈l,∀ z∈l,y.k=z.k→y=z:=by
  intro l
  induction l with
  | nil=>intro _ y hy; cases hy
  | cons x l ih=>
   intro h y hy z hz e
   rw [List.map_cons] at h
   obtain⟨h1,h2⟩:=List.nodup_cons.mp h
   rcases List.mem_cons.mp hy with rfl | hy
   ·rcases List.mem_cons.mp hz with hz | hz
    ·exact hz.symm
    ·exact absurd (List.mem_map.mpr ⟨z,hz,e.symm⟩) h1
   ·rcases List.mem_cons.mp hz with hz | hz
    ·rw [hz] at e
     exact absurd (List.mem_map.mpr ⟨y,hy,e⟩) h1
    ·exact ih h2 y hy z hz e
 refine List.Perm.eq_of_pairwise (fun p q hp1 hq1 h1 h2=>?_) (PySem.W.sort_pairwise (aRe _) _) (PySem.W.sort_pairwise (aRe _) _) (((List.mergeSort_perm ..).trans hp).trans (List.mergeSort_perm ..).symm)
 obtain⟨y,hy,rfl⟩:=mem p hp1
 obtain⟨z,hz,rfl⟩:=mem2 q hq1
 have:=bBb (f:=Prod.snd) (pu y hy) (pu z hz) (al y hy z hz) h1 h2
 rw [one nd y hy z hz this]
variable [Wrl]
section
variable {K:PySem.W.Frag} {Z:Hp} {ρ:List Addr}
theorem three {ts:List T} {ks:List NestedKey} {us:List V} (h:txKs ts=some ks) (rs:Reps K Z ρ ts us) (ht:∀ k∈ks,∃ js,k= .tup js):∃ zs:List Z3,ts=zs.map Z3.t∧ks=zs.map Z3.k∧us=zs.map (fun z=>V.ref z.a)∧∀ z∈zs,Rep K Z ρ z.t (.ref z.a)∧NIs K Z z.k (.ref z.a)∧aA5 z.k=true:=by
 induction ts generalizing ks us with
 | nil=>
  unfold txKs at h
  cases h
  unfold Reps at rs
  exact⟨[],rfl,rfl,rs,fun z hz=>by cases hz⟩
 | cons t ts ih=>
  unfold txKs at h
  cases e1:txK t with
  | none=>rw [e1] at h; cases h
  | some k=>
   cases e2:txKs ts with
   | none=>rw [e1,e2] at h; cases h
   | some js=>
    rw [e1,e2] at h
    cases h
    unfold Reps at rs
    obtain⟨v,ws,rfl,r1,r2⟩:=rs
    obtain⟨zs,z1,z2,z3,z4⟩:=ih e2 r2 fun q hq=>ht q (List.mem_cons_of_mem _ hq)
    obtain⟨n1,n2⟩:=bC0 e1
    have nis:=aG3 n1 r1
    obtain⟨ls,rfl⟩:=ht k List.mem_cons_self
    have:∃ a,v= .ref a:=by
     unfold NIs at nis
     obtain⟨a,_,e,_⟩:=nis
     exact⟨a,e⟩
    obtain⟨a,rfl⟩:=this
    refine⟨⟨t,.tup ls,a⟩::zs,by rw [List.map_cons,z1],by rw [List.map_cons,z2],by rw [List.map_cons,z3],fun z hz=>?_⟩
    rcases List.mem_cons.mp hz with rfl | hz
    ·exact⟨r1,nis,n2⟩
    ·exact z4 z hz
noncomputable def bAw (K:PySem.W.Frag):List V→Hp→VK→Prop:=fun xs H Q=>bFl K xs H fun v H1=>aY8 K [v] H1 Q
noncomputable def gSetSort (mu:Bool):List T→Mem→Out T:=fun xs m=>match xs with
 | [y]=>match asT y with
  | some ts=>match txKs ts with
   | some ks=>if okZ (ts.zip ks) then mk mu (bAd (dz Prod.snd (ts.zip ks))) m else .no
   | none=> .no
  | none=> .no
 | _=> .no
theorem bBy:∀ zs:List Z3,(zs.map Z3.t).zip (zs.map Z3.k)=zs.map Z3.tk
 | []=>rfl
 | z::zs=>by rw [List.map_cons,List.map_cons,List.zip_cons_cons,bBy zs,List.map_cons]
theorem bAe {W:WX} {Φ:Hp} {σ:L2.St} {H:Hp} {m:Mem} {Q:VK} {mu:Bool} {D:Addr} {L:NL} {S:List Z3} (r:Rel K Φ Z ρ H m) (hD:H D=some (aWg D L)) (hL:L.Perm (S.map Z3.ak)) (nd:(S.map Z3.k).Nodup) (hz:∀ z∈S,Rep K Z ρ z.t (.ref z.a)∧NIs K Z z.k (.ref z.a)∧aA5 z.k=true)
  (dp:∀ z∈S,z.k.depth≤6) (sh:aIv (S.map fun z=>z.k.data)=true) (p:Post K W Φ Z ρ σ Q (mk mu (bAd (S.map Z3.tk)) m)):aY8 K [.ref D] H Q:=by
 obtain⟨h1,h2,_⟩:=aQh sh
 have mem:∀ p∈L,∃ z∈S,z.ak=p:=fun p hp=>List.mem_map.mp (hL.mem_iff.mp hp)
 have al:∀ z∈S,∀ y∈S,PySem.W.alike z.k.data y.k.data=true:=fun z hz y hy=>h1 _ (List.mem_map.mpr ⟨z,hz,rfl⟩) _ (List.mem_map.mpr ⟨y,hy,rfl⟩)
 have toS:∀ d∈L.map (fun p=>p.2.data),d∈S.map fun z=>z.k.data:=fun d hd=>by
  obtain⟨p,hp,rfl⟩:=List.mem_map.mp hd
  obtain⟨z,hz',rfl⟩:=mem p hp
  exact List.mem_map.mpr ⟨z,hz',rfl⟩
 refine⟨D,L,rfl,hD,fun p hp=>?_,fun p hp=>?_,fun d hd e he=>h1 d (toS d hd) e (toS e he),h2.imp (fun h d hd=>h d (toS d hd)) (fun h d hd=>h d (toS d hd)),fun d L1 pL hn=>?_⟩
 ·obtain⟨z,hz',rfl⟩:=mem p hp
  exact⟨(hz z hz').2.1.mono r.same,dp z hz'⟩
 ·obtain⟨z,hz',rfl⟩:=mem p hp
  exact(hz z hz').2.2
 ·have e:=aXl (pL.trans hL) nd (fun z h=>(hz z h).2.2) al
  rw [e,List.map_map]
  have es:bAd (S.map Z3.tk)=(S.mergeSort (leK Z3.k)).map Z3.t:=by
   unfold bAd
   rw [aP9 _ _ _ (Nat.le_refl _)]
   have:=PySem.W.sort_maps (r:=leK Z3.k) (s:=leK Prod.snd) Z3.tk (l:=S) fun _ _ _ _=>rfl
   rw [←this,List.map_map]
   rfl
  rw [es] at p
  have rp:=aTn (K:=K) (Z:=Z) (ρ:=ρ) (L:=(S.mergeSort (leK Z3.k)).map fun z=>(z.t,V.ref z.a)) fun x hx=>by
   obtain⟨z,hz',rfl⟩:=List.mem_map.mp hx
   exact(hz z (List.mem_mergeSort.mp hz')).1
  rw [List.map_map,List.map_map] at rp
  exact kB r rp p hn
theorem bGa {zs:List Z3} (h:okZ (zs.map Z3.tk)=true):aIv ((dz Z3.k zs).map fun z=>z.k.data)=true∧(∀ z∈zs,(∃ js,z.k= .tup js)∧z.k.depth≤6)∧zs.length < 60:=by
 unfold okZ at h
 rw [Bool.and_eq_true,Bool.and_eq_true,List.all_eq_true] at h
 obtain⟨⟨h1,h2⟩,h3⟩:=h
 refine⟨?_,fun z hz=>?_,by have:=of_decide_eq_true h3; rwa [List.length_map] at this⟩
 ·rw [List.map_map] at h1
  have sub:∀ d∈(dz Z3.k zs).map (fun z=>z.k.data),d∈zs.map ((fun z:T×NestedKey=>z.2.data)∘Z3.tk):=fun d hd=>by
   obtain⟨z,hz,rfl⟩:=List.mem_map.mp hd
   exact List.mem_map.mpr ⟨z,(aPn Z3.k zs).2 z hz,rfl⟩
  unfold aIv at h1 ⊢
  rw [Bool.and_eq_true,Bool.and_eq_true,Bool.or_eq_true] at h1 ⊢
  obtain⟨⟨a,b⟩,c⟩:=h1
  refine⟨⟨List.all_eq_true.mpr fun d hd=>List.all_eq_true.mpr fun e he=>List.all_eq_true.mp (List.all_eq_true.mp a d (sub d hd)) e (sub e he),b.imp (fun b=>List.all_eq_true.mpr fun d hd=>List.all_eq_true.mp b d (sub d hd)) (fun b=>List.all_eq_true.mpr fun d hd=>List.all_eq_true.mp b d (sub d hd))⟩,List.all_eq_true.mpr fun d hd=>List.all_eq_true.mp c d (sub d hd)⟩
 ·have:=h2 z.tk (List.mem_map.mpr ⟨z,hz,rfl⟩)
  rw [Bool.and_eq_true] at this
  refine⟨?_,of_decide_eq_true this.2⟩
  have q:=this.1
  cases e:z.k with
  | tup js=>exact⟨js,rfl⟩
  | none=>simp only [Z3.tk,e] at q; cases q
  | num i=>simp only [Z3.tk,e] at q; cases q
  | text x=>simp only [Z3.tk,e] at q; cases q
theorem aTa {mu:Bool}:SemL K (gSetSort mu) (bAw K):=by
 intro W Φ Z ρ σ H m Q xs vs r rs p
 unfold gSetSort at p
 split at p
 ·rename_i y
  obtain⟨v,rfl,rv⟩:=jE rs
  split at p
  ·rename_i ts ht
   split at p
   ·rename_i ks hk
    split at p
    ·rename_i hc
     obtain⟨l,us,rfl,hq,ru⟩:=aBo r rv ht
     have tups:∀ k∈ks,∃ js,k= .tup js:=fun k hm=>by
      have hl:ts.length=ks.length:=by
       have:∀ {ts:List T} {ks:List NestedKey},txKs ts=some ks→ts.length=ks.length:=by
        intro ts
        induction ts with
        | nil=>intro ks h; unfold txKs at h; cases h; rfl
        | cons t ts ih=>
         intro ks h
         unfold txKs at h
         split at h
         ·rename_i k js _ e
          cases h
          rw [List.length_cons,List.length_cons,ih e]
         ·cases h
       exact this hk
      unfold okZ at hc
      rw [Bool.and_eq_true,Bool.and_eq_true,List.all_eq_true] at hc
      have h2:k∈(ts.zip ks).map (·.2):=by rw [List.map_snd_zip (by omega)]; exact hm
      obtain⟨z,hz,rfl⟩:=List.mem_map.mp h2
      have:=hc.1.2 z hz
      rw [Bool.and_eq_true] at this
      have q:=this.1
      cases e:z.2 with
      | tup js=>exact⟨js,rfl⟩
      | none=>rw [e] at q; cases q
      | num i=>rw [e] at q; cases q
      | text x=>rw [e] at q; cases q
     obtain⟨zs,e1,e2,e3,hz⟩:=three hk ru tups
     subst e1; subst e2; subst e3
     rw [bBy] at hc p
     obtain⟨sh,hd,hl⟩:=bGa hc
     have e4:(zs.map fun z=>V.ref z.a)=(zs.map Z3.ak).map fun q=>V.ref q.1:=by rw [List.map_map]; rfl
     refine⟨l,zs.map Z3.ak,rfl,by rw [←e4]; exact hq,fun q hq'=>?_,by rw [List.length_map]; exact hl,fun d L hn cm=>?_⟩
     ·obtain⟨z,hz',rfl⟩:=List.mem_map.mp hq'
      exact⟨(hz z hz').2.1.mono r.same,(hd z hz').2⟩
     ·rw [List.length_map] at cm
      have pm:=bEy cm
      rw [List.take_length] at pm
      obtain⟨r',e⟩:=r.allocZ hn (aWg d L)
      have sub:=(aPn Z3.k zs).2
      have p':=Post.ext p e
      rw [bGx (f:=Z3.k) (g:=Prod.snd) Z3.tk (fun _=>rfl)] at p'
      exact bAe r' upd_same pm (aPn Z3.k zs).1 (fun z hz'=>⟨(hz z (sub z hz')).1.ext e,(hz z (sub z hz')).2.1.mono e.z,(hz z (sub z hz')).2.2⟩) (fun z hz'=>(hd z (sub z hz')).2) sh p'
    ·exact p.elim
   ·exact p.elim
  ·exact p.elim
 ·exact p.elim
end
end Ev
namespace Ev
open PySem PySem.Spec PyProof PyProof.Rows L2 EvSk
variable [Wrl]
theorem Cok.hu80 {X:Cx} {W:WX} {k:Nat} (c:Cok X W k):X.A.units+80 < cLine:=by have:=c.room.un; omega
theorem aWl {X:Cx} {W:WX} {k:Nat} {mu:Bool} {e:Expr} {fs:LF} {p p2 pos pos2:Pos} (c:Cok X W k) (ha:SA X W [e] fs) (hms:X.mg "sorted"=none) (hmt:X.mg "set"=none) (hG:Gl X "sorted":=by rfl) (hG2:Gl X "set":=by rfl)
  (he:starEach [e] X.env=(false,eval e X.env)::starEach [] X.env:=by rfl) (hpl:(backTo pos2 (starEach [] X.env)).any (·.1)=false:=by rfl)
  (he2:starEach [(.Call (.Name "set" p2) [e] [] pos2:Expr)] X.env=(false,eval (.Call (.Name "set" p2) [e] [] pos2) X.env)::starEach [] X.env:=by rfl) (hpl2:(backTo pos (starEach [] X.env)).any (·.1)=false:=by rfl):
  SE X W (.Call (.Name "sorted" p) [.Call (.Name "set" p2) [e] [] pos2] [] pos) (eOfL (gSetSort mu) fs):=
 ⟨xY (pe_callB (id:="sorted") (bBp c.here c.calm c.hu80) hG hms (by decide+kernel) (pa_cons (pe_callTy (T:="set") (aZl c.here c.calm c.hu80) hG2 hmt (by decide+kernel) ha.pa (by decide) (by decide) he hpl) pa_nil he2) (by decide) (by decide) he2 hpl2) fun σ H Q h=>aQe aTa h⟩
end Ev
namespace L2
open PySem PySem.Spec PyProof.Rows
noncomputable def Ends.gone (D:Ends) (i:Nat):Ends where
 nx:=fun σ H=>D.nx (σ.set i none) H
 rt:=D.rt
 bk:=fun σ H=>D.bk (σ.set i none) H
 ct:=fun σ H=>D.ct (σ.set i none) H
section
variable {X:Cx} {pins:List (Addr×Obj)} {σ:St} {H:Hp} {a:Addr} {cls:Value} {d:Option Addr} {g:Shared}
end
end L2
namespace EvG
open PySem PySem.Spec PyProof PyProof.Rows L2
variable {X:Cx}
end EvG
namespace Ev
open PySem L2 PyProof.Rows
variable [Wrl]
section
variable {X:Cx} {W:WX}
end
end Ev
namespace Ev
open PySem PySem.W PySem.Spec PyProof PyProof.Rows L2
section
variable {X:Cx} {pins:List (Addr×Obj)} {σ:L2.St} {H:Hp} {s:Shared}
end
section
variable [Wrl]
variable {K:PySem.W.Frag} {W:WX} {Φ Z:Hp} {ρ:List Addr} {σ:L2.St} {H:Hp} {m:Mem} {X:Cx}
open Classical in
end
end Ev
namespace Ev
open PySem PySem.Spec L2 PyProof.Rows
section
variable {prog:Program} {w:World} {A:Around} {E:Value→Shared→Prop} {s:Shared}
end
section
variable {X:Cx}
end
section
variable [Wrl]
variable {K:PySem.W.Frag}
end
end Ev
namespace EvH
open PySem PySem.Spec PyProof.Rows L2
theorem aOd {K:PySem.W.Frag} {p:Addr} (h:gfB K p=true):∃ rest,PySem.W.recIn K p "property"=some (.ref (gf K p)::rest):=by
 unfold gfB at h
 unfold gf
 split at h
 ·rename_i f r e
  rw [e]
  exact⟨r,rfl⟩
 ·cases h
theorem aIg {K:PySem.W.Frag} {x:Str} {i:Int} (h:intB K x i=true):∃ t,PySem.W.nsIn K mainGlobals x=some (some (.int i t)):=by
 unfold intB at h
 split at h
 ·rename_i j t e
  have:=of_decide_eq_true h
  subst this
  exact⟨t,e⟩
 ·cases h
theorem aPl {K:PySem.W.Frag} {C:Addr} (h:errB K C=true):∃ nm qn N bs bm sn sub ab col dd k0 k1 k2 k3 k5,
  K.lookup C=some (excClassObj nm qn C N bs bm true sn sub ab col dd k0 k1 k2 k3 k5 "ValueError.__new__")∧PySem.HandSPX.refsVE bm=true:=by
 unfold errB at h
 split at h
 ·rename_i dd cd sl ho
  split at h
  ·rename_i D bm k0 k1 k2 k3 n k5 hm hs
   obtain⟨h1,h⟩:=He.ba h
   obtain⟨h2,h⟩:=He.ba h
   obtain⟨h3,h⟩:=He.ba h
   obtain⟨h4,h5⟩:=He.ba h
   have e1:=of_decide_eq_true h1
   have e2:=of_decide_eq_true h2
   have e3:cd.hasDel=false:=by simpa using h3
   obtain⟨nm,bs,mro,ns,qn,hd,sn,sub,ab,col,del⟩:=cd
   dsimp only at hm e3 h4
   subst hm e3 h4 e1 e2
   have hsl:sl=#[k0,k1,k2,k3,some (.builtin "ValueError.__new__"),k5]:=by
    obtain⟨l⟩:=sl
    simp only at hs
    rw [hs]
   subst hsl
   exact⟨nm,qn,ns,bs,bm,sn,sub,ab,col,dd,k0,k1,k2,k3,k5,ho,h5⟩
  ·cases h
 ·cases h
theorem bBa {v:Value} (h:bEm v=true):v= .none:=by
 cases v<;>first | rfl | cases h
theorem Dd.fn {K:PySem.W.Frag} {d:Dd} (e:rowAt K (d.adr K)=d.row) (c:d.good K=true) (n:d.dn=false):∃ fd,L2.Fun K d.nm d.qn d.st (d.adr K) fd:=by
 obtain⟨kp,c2⟩:=He.ba c
 unfold rowAt at e
 cases q:K.lookup (d.adr K) with
 | none=>rw [q] at c2; cases c2
 | some o=>
  obtain⟨oc,od,dt,osl⟩:=o
  rw [q] at c2 e
  cases dt with
  | func fd=>
   obtain⟨n1,n2,n3,n4,n5,n6,n7,n8,n9,n10,n11,n12,n13,n14,n15⟩:=fd
   have e2:(some (n1,n2,n3,n4,n5,n6,n7,n15):Row)=some (d.nm,d.qn,defArgs d.st,.stmts (defBody d.st),defScope d.st,mainGlobals,[],builtinsNs):=e
   simp only [Option.some.injEq,Prod.mk.injEq] at e2
   obtain⟨h1,h2,h3,h4,h5,h6,h7,h8⟩:=e2
   subst h1 h2 h3 h4 h5 h6 h7 h8
   rw [n] at c2
   obtain⟨k1,k2⟩:=He.ba (show (PySem.W.codeIn K n13 d.qn&&bEm n8)=true from c2)
   have:=bBa k2
   subst this
   exact⟨_,⟨oc,od,n9,n10,n11,n12,n13,n14,osl,rfl,q,k1⟩,kp⟩
  | _=>cases c2
theorem bEx {K:PySem.W.Frag} {h:Heap} {mg:Str→Option Value} {x y qn:Str} {st:Stmt} {c P fa:Addr} {fd:FuncData} (X:K.In h) (G:h.Ns mainGlobals mg) (ht:PySem.W.tabIn K x=some (c,P)) (hm:mg x=some (.ref fa)) (F:L2.Fun K y qn st fa fd):fd.code= .ref c:=by
 obtain⟨oc,od,kV,doc,pm,an,cdv,ct,osl,rfl,lk,_⟩:=F.ex
 exact PySem.W.law_code X G ht hm (X _ _ lk) rfl
section
variable {β:Type}
end
theorem bDg {n:Nat} {ds:List Dd} {ys:List Str} {ex:PySem.W.Frag→Bool} {g:Addr→Option Obj} {s:Shared} (h:∀ a,g a=s.heap.get? a):aWj n ds ys ex g=(hook n ds ys ex).obs s:=by
 have e:g=s.heap.get?:=funext h
 rw [e]<;>rfl
theorem bH3 {l:PySem.W.OpenLaw} {n k:Nat} {q:Program} {loose:List Str} {XP:(Str→Option Value)→Heap→Prop} {ds:List Dd} {ys:List Str} {ex:PySem.W.Frag→Bool} {m:Nat} {d:DefRec} {C:World→CXT} {sp:PySem.W.Frag→Sp} {x:Str}
  (hn:l.most=some n) (hs:n≤sizeLine) (hdf:d.params.defaults=[]) (hr:Room k callerA)
  (F:∀(w:World) (mg:Str→Option Value) (fa:Addr) (h:Heap) (K:PySem.W.Frag),K.In h→Says ds ys ex h K→h.Ns mainGlobals mg→mg d.name=some (.ref fa)→∃ fd:FuncData,(∀(s:Shared) (u:Value),BindsTo s fd ⟨[u],[]⟩ [(x,u)])∧
   ∀ base:Heap,K.In base→base.Ns mainGlobals mg→(∀ y∈ys,LamX.TabB base mg (EvT1.xJ K y).1 (EvT1.xJ K y).2)→FnOk l.prog w K mg base (C w) k fa fd [x] (sp K))
  (prom:∀(K:PySem.W.Frag) (H:Hp) (a:Addr) (ns:List Int),ns.length≤n→(∀ y∈ys,H (EvT1.xJ K y).2=some (.tbl #[]))→SqL K H a (ns.map V.int)→sp K [.ref a] H (fun v _=>v= .bl true) fun _ _ _=>False)
  (noexc:∀(w:World) (H:Hp) (s:Shared) (e:Value) (s':Shared),C w [] H s (fun _ _ _=>False) e s'→False):
  PySem.W.WalkO q loose XP (hook m ds ys ex).says l.row.toRowW d [] (fun f vs=>PySem.call f vs):=by
 refine Att.attach_callB hn hdf ?_
 intro w s₀ z mg mb fa o pm cd doc a vs ns G Y ho hd hcd hmg hobj hints hlen _ hg
 obtain⟨K,inh,S⟩:=Y
 obtain⟨fd,bnd,hF⟩:=F w mg fa _ K inh S G.T.g hmg
 have back:∀ p∈ys.map (EvT1.xJ K),∃ y∈ys,EvT1.xJ K y=p:=fun p hp=>List.mem_map.mp hp
 refine LamX.law_callTs (cs:=ys.map (EvT1.xJ K)) inh G.T.g G.T.b G.T.builtins G.T.nolimit hg (fun p hp=>?_) (fun p hp=>?_) (fun p hp=>?_) G.T.bmain hobj hints (Nat.le_trans hlen hs) hr (fun base h1 h2 h3=>hF base h1 h2 fun y hy=>h3 _ (List.mem_map_of_mem hy)) bnd
  (fun H h1 h2=>prom K H a ns hlen (fun y hy=>h1 _ (List.mem_map_of_mem hy)) h2) (fun H e s'=>noexc w H z e s')
 ·obtain⟨y,hy,rfl⟩:=back p hp
  exact S.tab y hy
 ·obtain⟨y,hy,rfl⟩:=back p hp
  exact S.out y hy
 ·obtain⟨y,hy,rfl⟩:=back p hp
  exact PySem.W.codeHd_of_K inh (S.hd y hy)
end EvH
namespace EvG
open PySem PySem.Spec PyProof PyProof.Rows L2
end EvG
namespace Ev
open PySem L2 PyProof.Rows
variable [Wrl]
end Ev
namespace EvH
open PySem PySem.Spec PyProof.Rows L2
end EvH
namespace G
open PySem L2 Ev
noncomputable def ksl:List Str:=["Book","Choices","Kind","Rule","Search","Sums","Waiting","Ways"]
noncomputable def uF (Fr:FS):SF:=(sSeq (sIf (bV (e2 gEq (eVar 0) (eOfL yW lNil))) (sOf (eC (.int 0)) fun t _ m=> .rt t m) sNil)
  (sSeq (sIf (bV (eOfL gIsi (zX (e2 gIx (eVar 0) (eC (.int 1))) (zX (eC (.ty "str")) lNil)))) (sOf (eC (.int 1)) fun t _ m=> .rt t m) sNil)
  (sOf (e2 (gAdd false) (eC (.int 1)) (eOfL gSum (zX (uQ false [1] (iVal (e2 gIx (eVar 0) (eC (.int 1)))) (gN 1) bYes (yU 1 Fr (zX (eVar 1) lNil))) lNil))) fun t _ m=> .rt t m)))
noncomputable def yH:Nat→FS
 | 0=>fnOf 2 (uF fun _ _=> .no)
 | n+1=>fnOf 2 (uF (yH n))
noncomputable def aGn:SF:=(sSeq (aCs (e2 (gAdd false) (e2 gIx (eVar 0) (eC (.int 2))) (eC (.int 1))) (eVar 0) (eC (.int 2)))
  (sSeq (sIf (bV (e2 gGt (e2 gIx (eVar 0) (eC (.int 0))) (eC (.int 1)))) (sSeq (sOf (e2 gMod (eOfL gIntA (zX (e2 gIx (eVar 0) (eC (.int 0))) lNil)) (eVar 1)) fun t env m=> .nx (env.set 2 (some t)) m)
  (sSeq (aCs (e2 gDiv (e2 gIx (eVar 0) (eC (.int 0))) (eVar 1)) (eVar 0) (eC (.int 0)))
  (sOf (eVar 2) fun t _ m=> .rt t m))) sNil)
  (sSeq (sOf (e2 gMod (e2 gPow (e2 (gAdd false) (e2 gIx (eVar 0) (eC (.int 1))) (e2 (gMul false) (eC (.int 7919)) (e2 gIx (eVar 0) (eC (.int 2))))) (eC (.int 5))) (eC (.int 2147483629))) fun t env m=> .nx (env.set 3 (some t)) m)
  (sOf (e2 gMod (e2 gMod (e2 gPow (e2 (gAdd false) (e2 (gAdd false) (e2 (gMul false) (eVar 3) (eC (.int 48271))) (e2 (gMul false) (e2 (gMul false) (eC (.int 16807)) (e2 gIx (eVar 0) (eC (.int 2)))) (e2 gIx (eVar 0) (eC (.int 2))))) (eC (.int 11))) (eC (.int 3))) (eC (.int 1000000007))) (eVar 1)) fun t _ m=> .rt t m))))
noncomputable def tW:FS:=fnOf 4 aGn
noncomputable def aCr:SF:=(sSeq (sAsg (eOfL yW (zX (eC (.int 0)) (zX (eC (.int 17)) lNil))) (gT 2 (zR (gN 1) (zR (gN 2) xX))))
  (sSeq (sFor (iVal (eVar 0)) (gN 3) (sSeq (sIf (bAnd (bV (e2 gEq (eVar 1) (eC (.int 0)))) (bV (e2 gGe (eVar 3) (e2 gPow (eC (.int 10)) (eC (.int 18)))))) (sOf (eVar 3) fun t env m=> .nx (env.set 1 (some t)) m) sNil)
  (sOf (e2 gMod (eOfL gIntA (zX (e2 (gAdd false) (e2 (gAdd false) (e2 (gMul false) (eVar 2) (eC (.int 31))) (eVar 3)) (eC (.int 7))) lNil)) (eC (.int 2147483647))) fun t env m=> .nx (env.set 2 (some t)) m)))
  (sOf (eOfL (xN true) (zX (eVar 1) (zX (eVar 2) (zX (eC (.int 0)) lNil)))) fun t _ m=> .rt t m)))
noncomputable def vJ:FS:=fnOf 4 aCr
noncomputable def aJg:SF:=(sSeq (bC6 1 2 3 false (eVar 0))
  (sOf (eNot (eOfL (gAllAny true) (zX (uQ false [4] (iVal (eVar 2)) (gN 4) bYes (e2 (gIn false) (eVar 4) (eOfL yW (zX (eVar 1) (zX (eVar 3) lNil))))) lNil))) fun t _ m=> .rt t m))
noncomputable def aBd:FS:=fnOf 5 aJg
noncomputable def aSt:SF:=(sSeq (sIf (bOr (bNot (bV (eOfL gIsi (zX (eVar 0) (zX (eC (.ty "str")) lNil))))) (bNot (bV (aEb gLe gLe (eC (.int 1)) (eOfL gLen (zX (eVar 0) lNil)) (eC (.int 8)))))) (sOf (eC (.bl false)) fun t _ m=> .rt t m) sNil)
  (sOf (eOfL (gAllAny true) (zX (uQ false [1] (iVal (eVar 0)) (gN 1) bYes (aEb gLe gLe (eC (.str "a")) (eVar 1) (eC (.str "z")))) lNil)) fun t _ m=> .rt t m))
noncomputable def uL:FS:=fnOf 2 aSt
noncomputable def aC6:SF:=(sSeq (sIf (bOr (bNot (bV (yU 1 uL (zX (eVar 1) lNil)))) (bV (e2 (gIn true) (eVar 1) (eFld "Book" "kinds_by_name" (eVar 0))))) (aDu "UnknownKind" "kind" (eVar 1)) sNil)
  (sOf (e2 gIx (eFld "Book" "kinds_by_name" (eVar 0)) (eVar 1)) fun t _ m=> .rt t m))
noncomputable def xB:FS:=fnOf 2 aC6
noncomputable def aHz:SF:=(sOf (eFld "Book" "state_row" (eVar 0)) fun t _ m=> .rt t m)
noncomputable def vG:FS:=fnOf 1 aHz
noncomputable def aHu:SF:=(sSeq (sOf (aD3 true) fun t env m=> .nx (env.set 2 (some t)) m)
  (sSeq (sFor (iVal (eVar 0)) (gN 3) (sSeq (sOf (eOfL gTupleA (zX (uQ false [5] (iVal (eVar 1)) (gN 5) bYes (e2 gIxB (e2 gIx (eVar 3) (eC (.int 2))) (eVar 5))) lNil)) fun t env m=> .nx (env.set 4 (some t)) m)
  (sIf (bOr (bV (e2 (gInN true) (eVar 4) (eVar 2))) (bV (e2 gLt (e2 gIx (eVar 3) (eC (.int 0))) (e2 gIx (e2 gIxN (eVar 2) (eVar 4)) (eC (.int 0)))))) (aIb (eVar 3) (eVar 2) (eVar 4)) sNil)))
  (aTm 2 (sOf (aS3 false (eVar 2)) fun t _ m=> .rt t m))))
noncomputable def tP:FS:=fnOf 6 aHu
noncomputable def aBk:SF:=(sSeq (jL "Choices" "all_ways" (yU 2 tP (zX (eVar 1) (zX (eVar 2) lNil))) (eVar 0))
  (jL "Choices" "ways_by_keys" (aD3 true) (eVar 0)))
noncomputable def wK:FS:=fnOf 3 aBk
noncomputable def aHv:SF:=(sSeq (sOf (bBm true) fun t env m=> .nx (env.set 2 (some t)) m)
  (sSeq (sFor (iVal (eFld "Rule" "state_row" (eVar 0))) (gN 3) (sSeq (sOf (uQ false [5] (iVal (eFld "Rule" "part_kinds" (eVar 0))) (gN 5) (bV (e2 (gIn false) (eVar 3) (e2 gIx (eVar 1) (eVar 5)))) (e2 gIx (e2 gIx (eVar 1) (eVar 5)) (eVar 3))) fun t env m=> .nx (env.set 4 (some t)) m)
  (sIf (bV (e2 gGt (eOfL gLen (zX (eVar 4) lNil)) (eC (.int 0)))) (bAu (eOfL aWt (zX (eVar 4) lNil)) (eVar 2) (eVar 3)) sNil)))
  (bDs 2 (sOf (eVar 2) fun t _ m=> .rt t m))))
noncomputable def aA7:FS:=fnOf 6 aHv
noncomputable def qL:SF:=(sOf (yU 2 aA7 (zX (e2 gIx (eFld "Ways" "rules" (eVar 0)) (eVar 1)) (zX (eFld "Ways" "leasts" (eVar 0)) lNil))) fun t _ m=> .rt t m)
noncomputable def xP:FS:=fnOf 2 qL
noncomputable def aA1:SF:=(sSeq (sOf (e2 gSub (eOfL gLen (zX (eFld "Waiting" "heap" (eVar 0)) lNil)) (eC (.int 1))) fun t env m=> .nx (env.set 1 (some t)) m)
  (sSeq (sOf (e2 gIx (eFld "Waiting" "heap" (eVar 0)) (eVar 1)) fun t env m=> .nx (env.set 2 (some t)) m)
  (sSeq (aLh 400 (bAnd (bV (e2 gGt (eVar 1) (eC (.int 0)))) (bV (e2 gGt (e2 gIx (eFld "Waiting" "heap" (eVar 0)) (e2 gDiv (e2 gSub (eVar 1) (eC (.int 1))) (eC (.int 2)))) (eVar 2)))) (sSeq (aCs (e2 gIx (eFld "Waiting" "heap" (eVar 0)) (e2 gDiv (e2 gSub (eVar 1) (eC (.int 1))) (eC (.int 2)))) (eFld "Waiting" "heap" (eVar 0)) (eVar 1))
  (sOf (e2 gDiv (e2 gSub (eVar 1) (eC (.int 1))) (eC (.int 2))) fun t env m=> .nx (env.set 1 (some t)) m)))
  (aCs (eVar 2) (eFld "Waiting" "heap" (eVar 0)) (eVar 1)))))
noncomputable def vD:FS:=fnOf 3 aA1
noncomputable def aFr:SF:=(sSeq (sIf (bV (e2 (gIn true) (eVar 1) (eFld "Waiting" "things_of_size" (eVar 0)))) (sSeq (bAu (eOfL (xN true) lNil) (eFld "Waiting" "things_of_size" (eVar 0)) (eVar 1))
  (sSeq (sOf (aBn "list" gAppend (eFld "Waiting" "heap" (eVar 0)) (zX (eVar 1) lNil)) fun _ env m=> .nx env m)
  (sOf (wQ "Waiting" "raise_last" 1 vD (eVar 0) lNil) fun _ env m=> .nx env m))) sNil)
  (sOf (aBn "list" gAppend (e2 gIx (eFld "Waiting" "things_of_size" (eVar 0)) (eVar 1)) (zX (eVar 2) lNil)) fun _ env m=> .nx env m))
noncomputable def vE:FS:=fnOf 3 aFr
noncomputable def aFs:SF:=(sSeq (sOf (eOfL yW (zX (eVar 2) (zX (eVar 3) lNil))) fun t env m=> .nx (env.set 6 (some t)) m)
  (sIf (bOr (bV (e2 (gInN true) (eVar 6) (e2 gIx (eFld "Search" "sizes" (eVar 0)) (eVar 1)))) (bV (e2 gLt (eVar 4) (e2 gIxN (e2 gIx (eFld "Search" "sizes" (eVar 0)) (eVar 1)) (eVar 6))))) (sSeq (aIb (eVar 4) (e2 gIx (eFld "Search" "sizes" (eVar 0)) (eVar 1)) (eVar 6))
  (sOf (wQ "Waiting" "wait" 3 vE (eFld "Search" "waiting" (eVar 0)) (zX (eVar 4) (zX (eOfL yW (zX (eVar 1) (zX (eVar 2) (zX (eVar 3) (zX (eVar 5) lNil))))) lNil))) fun _ env m=> .nx env m)) sNil))
noncomputable def uJ:FS:=fnOf 7 aFs
noncomputable def aEu:SF:=(sSeq (jL "Sums" "rule" (eVar 1) (eVar 0))
  (sSeq (jL "Sums" "greatest" (eVar 2) (eVar 0))
  (sSeq (jL "Sums" "chains" (aZf (eOfL yW (zX (e2 gMulU (eOfL yW (zX (eC (.int 0)) lNil)) (eOfL gLen (zX (eFld "Rule" "state_row" (eVar 1)) lNil))) (zX (eC (.int 0)) (zX (eC (.bl false)) lNil)))) (eOfL yW (zX (eC (.int 0)) (zX (eC .non) lNil)))) (eVar 0))
  (jL "Sums" "taken" (aD3 true) (eVar 0)))))
noncomputable def kR:FS:=fnOf 3 aEu
noncomputable def aBj:SF:=(sSeq (jL "Waiting" "things_of_size" (bBm true) (eVar 0))
  (jL "Waiting" "heap" (eOfL (xN true) lNil) (eVar 0)))
noncomputable def wL:FS:=fnOf 1 aBj
noncomputable def aC5:SF:=(sSeq (jL "Search" "rules" (eVar 1) (eVar 0))
  (sSeq (jL "Search" "sums" (aEa false [4,5] (jW (eVar 1)) (gT 2 (zR (gN 4) (zR (gN 5) xX))) bYes (eVar 4) (aIm false "Sums" 2 kR (zX (eVar 5) (zX (eVar 3) lNil)))) (eVar 0))
  (sSeq (jL "Search" "found" (aEa false [4] (iVal (eVar 1)) (gN 4) bYes (eVar 4) (aD3 true)) (eVar 0))
  (sSeq (jL "Search" "sizes" (aEa false [4] (iVal (eVar 1)) (gN 4) bYes (eVar 4) (aD3 true)) (eVar 0))
  (sSeq (jL "Search" "waiting" (aVx false "Waiting" wL) (eVar 0))
  (sFor (jW (eVar 1)) (gT 2 (zR (gN 4) (zR (gN 5) xX))) (sFor (iVal (eFld "Rule" "hand_states" (eVar 5))) (gN 6) (sOf (wQ "Search" "offer" 6 uJ (eVar 0) (zX (eVar 4) (zX (eVar 6) (zX (eOfL gMinB (zX (eIf (bV (e2 (gIn false) (eVar 6) (eVar 2))) (eC (.int 1)) (eC (.int 0))) (zX (eVar 3) lNil))) (zX (eC (.int 1)) (zX (eC .non) lNil)))))) fun _ env m=> .nx env m))))))))
noncomputable def tL:FS:=fnOf 7 aC5
noncomputable def aA3:SF:=(sSeq (sOf (e2 gIx (eFld "Rule" "places" (eVar 0)) (eVar 2)) fun t env m=> .nx (env.set 3 (some t)) m)
  (sSeq (sIf (bV (e2 gEq (e2 gIx (eVar 1) (eVar 3)) (e2 gIx (eFld "Rule" "caps" (eVar 0)) (eVar 3)))) (sOf (eVar 1) fun t _ m=> .rt t m) sNil)
  (sOf (e2 (gAdd false) (e2 (gAdd false) (aC1 false (eVar 1) aLk (aG4 (eVar 3))) (eOfL yW (zX (e2 (gAdd false) (e2 gIx (eVar 1) (eVar 3)) (eC (.int 1))) lNil))) (aC1 false (eVar 1) (aG4 (e2 (gAdd false) (eVar 3) (eC (.int 1)))) aLk)) fun t _ m=> .rt t m)))
noncomputable def yG:FS:=fnOf 4 aA3
noncomputable def aA2:SF:=(sSeq (sOf (eOfL (xN true) lNil) fun t env m=> .nx (env.set 6 (some t)) m)
  (sSeq (sFor (iVal (eVar 1)) (gT 3 (zR (gN 7) (zR (gN 8) (zR (gN 9) xX)))) (sSeq (sAsg (e2 gIxN (eFld "Sums" "chains" (eVar 0)) (eOfL yW (zX (eVar 7) (zX (eVar 8) (zX (eVar 9) lNil))))) (gTL 2 (zR (gN 10) (zR (gN 11) xX))))
  (sSeq (sOf (eOfL yW (zX (wQ "Rule" "with_one_more" 3 yG (eFld "Sums" "rule" (eVar 0)) (zX (eVar 7) (zX (eVar 2) lNil))) (zX (eOfL gMinB (zX (e2 (gAdd false) (eVar 8) (eVar 3)) (zX (eFld "Sums" "greatest" (eVar 0)) lNil))) (zX (eC (.bl true)) lNil)))) fun t env m=> .nx (env.set 12 (some t)) m)
  (sIf (bOr (bV (e2 (gInN true) (eVar 12) (eFld "Sums" "chains" (eVar 0)))) (bV (e2 gLt (e2 (gAdd false) (eVar 10) (eVar 4)) (e2 gIx (e2 gIxN (eFld "Sums" "chains" (eVar 0)) (eVar 12)) (eC (.int 0)))))) (sSeq (aIb (eOfL yW (zX (e2 (gAdd false) (eVar 10) (eVar 4)) (zX (eOfL yW (zX (eVar 5) (zX (eVar 11) lNil))) lNil))) (eFld "Sums" "chains" (eVar 0)) (eVar 12))
  (sOf (aBn "list" gAppend (eVar 6) (zX (eVar 12) lNil)) fun _ env m=> .nx env m)) sNil))))
  (sFrz 6 (sOf (eVar 6) fun t _ m=> .rt t m))))
noncomputable def vC:FS:=fnOf 13 aA2
noncomputable def aMw:SF:=(sSeq (sOf (eOfL (xN true) lNil) fun t env m=> .nx (env.set 5 (some t)) m)
  (sSeq (sIf (bV (e2 (gInN true) (eOfL yW (zX (eVar 1) (zX (eVar 2) lNil))) (eFld "Sums" "taken" (eVar 0)))) (sSeq (aIb (eC (.bl true)) (eFld "Sums" "taken" (eVar 0)) (eOfL yW (zX (eVar 1) (zX (eVar 2) lNil))))
  (sSeq (sOf (eOfL (gListN false) (zX (eFld "Sums" "chains" (eVar 0)) lNil)) fun t env m=> .nx (env.set 6 (some t)) m)
  (aLh 400 (bV (e2 gGt (eOfL gLen (zX (eVar 6) lNil)) (eC (.int 0)))) (sSeq (sOf (wQ "Sums" "with_one_more" 6 vC (eVar 0) (zX (eVar 6) (zX (eVar 1) (zX (eVar 2) (zX (eVar 3) (zX (eVar 4) lNil)))))) fun t env m=> .nx (env.set 6 (some t)) m)
  (sOf (aBn "list" gExtendA (eVar 5) (zX (eVar 6) lNil)) fun _ env m=> .nx env m))))) sNil)
  (sFrz 5 (sOf (eVar 5) fun t _ m=> .rt t m))))
noncomputable def aCo:FS:=fnOf 7 aMw
noncomputable def aHy:SF:=(sFor (jW (eFld "Search" "rules" (eVar 0))) (gT 2 (zR (gN 6) (zR (gN 7) xX))) (sIf (bAnd (bV (e2 (gIn false) (eVar 1) (eFld "Rule" "part_kinds" (eVar 7)))) (bV (e2 (gIn false) (eVar 2) (eFld "Rule" "places" (eVar 7))))) (sSeq (sOf (e2 gIx (eFld "Search" "sums" (eVar 0)) (eVar 6)) fun t env m=> .nx (env.set 8 (some t)) m)
  (sFor (iVal (wQ "Sums" "take" 5 aCo (eVar 8) (zX (eVar 2) (zX (eVar 3) (zX (eVar 4) (zX (eVar 5) lNil)))))) (gT 3 (zR (gN 9) (zR (gN 10) (zR (gN 11) xX)))) (sSeq (sAsg (e2 gIxN (eFld "Sums" "chains" (eVar 8)) (eOfL yW (zX (eVar 9) (zX (eVar 10) (zX (eVar 11) lNil))))) (gTL 2 (zR (gN 12) (zR (gN 13) xX))))
  (sOf (wQ "Search" "offer" 6 uJ (eVar 0) (zX (eVar 6) (zX (e2 gIxN (eFld "Rule" "telling" (eVar 7)) (eVar 9)) (zX (eVar 10) (zX (e2 (gAdd false) (eVar 12) (eC (.int 1))) (zX (eVar 13) lNil)))))) fun _ env m=> .nx env m)))) sNil))
noncomputable def aA9:FS:=fnOf 14 aHy
noncomputable def aBi:SF:=(sOf (e2 gEq (eOfL gLen (zX (eFld "Waiting" "heap" (eVar 0)) lNil)) (eC (.int 0))) fun t _ m=> .rt t m)
noncomputable def wM:FS:=fnOf 1 aBi
noncomputable def kK:SF:=(sSeq (sPar 2 3 (zX (e2 (gAdd false) (e2 (gMul false) (eC (.int 2)) (eVar 1)) (eC (.int 1))) (zX (e2 (gAdd false) (e2 (gMul false) (eC (.int 2)) (eVar 1)) (eC (.int 2))) lNil)))
  (sSeq (sIf (bV (e2 gGe (eVar 2) (eOfL gLen (zX (eFld "Waiting" "heap" (eVar 0)) lNil)))) (sOf (eC .non) fun t _ m=> .rt t m) sNil)
  (sSeq (sIf (bAnd (bV (e2 gLt (eVar 3) (eOfL gLen (zX (eFld "Waiting" "heap" (eVar 0)) lNil)))) (bV (e2 gLt (e2 gIx (eFld "Waiting" "heap" (eVar 0)) (eVar 3)) (e2 gIx (eFld "Waiting" "heap" (eVar 0)) (eVar 2))))) (sOf (eVar 3) fun t _ m=> .rt t m) sNil)
  (sOf (eVar 2) fun t _ m=> .rt t m))))
noncomputable def xE:FS:=fnOf 4 kK
noncomputable def qK:SF:=(sSeq (sOf (eC (.int 0)) fun t env m=> .nx (env.set 1 (some t)) m)
  (sSeq (sOf (e2 gIx (eFld "Waiting" "heap" (eVar 0)) (eVar 1)) fun t env m=> .nx (env.set 2 (some t)) m)
  (sSeq (sOf (wQ "Waiting" "lesser_below" 2 xE (eVar 0) (zX (eVar 1) lNil)) fun t env m=> .nx (env.set 3 (some t)) m)
  (sSeq (aLh 400 (bAnd (bV (e2 (gIsN true) (eVar 3) (eC .non))) (bV (e2 gLt (e2 gIx (eFld "Waiting" "heap" (eVar 0)) (eVar 3)) (eVar 2)))) (sSeq (aCs (e2 gIx (eFld "Waiting" "heap" (eVar 0)) (eVar 3)) (eFld "Waiting" "heap" (eVar 0)) (eVar 1))
  (sSeq (sOf (eVar 3) fun t env m=> .nx (env.set 1 (some t)) m)
  (sOf (wQ "Waiting" "lesser_below" 2 xE (eVar 0) (zX (eVar 1) lNil)) fun t env m=> .nx (env.set 3 (some t)) m))))
  (aCs (eVar 2) (eFld "Waiting" "heap" (eVar 0)) (eVar 1))))))
noncomputable def vH:FS:=fnOf 4 qK
noncomputable def aEt:SF:=(sSeq (sOf (e2 gIx (eFld "Waiting" "heap" (eVar 0)) (eC (.int 0))) fun t env m=> .nx (env.set 1 (some t)) m)
  (sSeq (sOf (aBn "list" gPop (eFld "Waiting" "heap" (eVar 0)) lNil) fun t env m=> .nx (env.set 2 (some t)) m)
  (sSeq (sIf (bV (e2 gGt (eOfL gLen (zX (eFld "Waiting" "heap" (eVar 0)) lNil)) (eC (.int 0)))) (sSeq (aCs (eVar 2) (eFld "Waiting" "heap" (eVar 0)) (eC (.int 0)))
  (sOf (wQ "Waiting" "lower_first" 1 vH (eVar 0) lNil) fun _ env m=> .nx env m)) sNil)
  (sOf (eOfL yW (zX (eVar 1) (zX (bGu (eFld "Waiting" "things_of_size" (eVar 0)) (eVar 1)) lNil))) fun t _ m=> .rt t m))))
noncomputable def uR:FS:=fnOf 3 aEt
noncomputable def aMo:SF:=(sSeq (sOf (eOfL (xN true) lNil) fun t env m=> .nx (env.set 1 (some t)) m)
  (sSeq (aLh 400 (bV (e2 (gIsN true) (eVar 0) (eC .non))) (sSeq (sAsg (eVar 0) (gTL 2 (zR (gN 2) (zR (gN 0) xX))))
  (sOf (aBn "list" gAppend (eVar 1) (zX (eVar 2) lNil)) fun _ env m=> .nx env m)))
  (sOf (eOfL gTupleA (zX (eVar 1) lNil)) fun t _ m=> .rt t m)))
noncomputable def aCk:FS:=fnOf 3 aMo
noncomputable def aC4:SF:=(aLh 400 (bNot (bV (wQ "Waiting" "is_empty" 1 wM (eFld "Search" "waiting" (eVar 0)) lNil))) (sSeq (sAsg (wQ "Waiting" "leave" 1 uR (eFld "Search" "waiting" (eVar 0)) lNil) (gTL 2 (zR (gN 1) (zR (gN 2) xX))))
  (bDu (eVar 2) (gT 4 (zR (gN 3) (zR (gN 4) (zR (gN 5) (zR (gN 6) xX))))) (sIf (bV (e2 (gInN true) (eOfL yW (zX (eVar 4) (zX (eVar 5) lNil))) (e2 gIx (eFld "Search" "found" (eVar 0)) (eVar 3)))) (sSeq (sOf (eOfL yW (zX (eVar 3) (zX (eIf (bV (e2 (gIsN false) (eVar 6) (eC .non))) (eVar 4) (yU 1 aCk (zX (eVar 6) lNil))) lNil))) fun t env m=> .nx (env.set 7 (some t)) m)
  (sSeq (aIb (eOfL yW (zX (eVar 1) (zX (eVar 7) lNil))) (e2 gIx (eFld "Search" "found" (eVar 0)) (eVar 3)) (eOfL yW (zX (eVar 4) (zX (eVar 5) lNil))))
  (sOf (wQ "Search" "take" 6 aA9 (eVar 0) (zX (eVar 3) (zX (eVar 4) (zX (eVar 5) (zX (eVar 1) (zX (eVar 7) lNil)))))) fun _ env m=> .nx env m))) sNil))))
noncomputable def tM:FS:=fnOf 8 aC4
noncomputable def aEp:SF:=(sSeq (sOf (aIm false "Search" 3 tL (zX (eVar 0) (zX (eVar 1) (zX (eVar 2) lNil)))) fun t env m=> .nx (env.set 3 (some t)) m)
  (sSeq (sOf (wQ "Search" "find_all" 1 tM (eVar 3) lNil) fun _ env m=> .nx env m)
  (sOf (bGw (eFld "Search" "found" (eVar 3))) fun t _ m=> .rt t m)))
noncomputable def kW:FS:=fnOf 4 aEp
noncomputable def aD6:SF:=(sSeq (sOf (yU 3 kW (zX (eVar 0) (zX (eOfL (xN false) lNil) (zX (eC (.int 0)) lNil)))) fun t env m=> .nx (env.set 1 (some t)) m)
  (sOf (aEa false [2,3] (jW (eVar 1)) (gT 2 (zR (gN 2) (zR (gN 3) xX))) bYes (eVar 2) (aEa false [5,6,4] (jW (eVar 3)) (gT 2 (zR (gT 2 (zR (gN 5) (zR (gN 6) xX))) (zR (gN 4) xX))) bYes (eVar 5) (eVar 4))) fun t _ m=> .rt t m))
noncomputable def jY:FS:=fnOf 7 aD6
noncomputable def aJl:SF:=(sOf (eFld "Book" "name_row" (eVar 0)) fun t _ m=> .rt t m)
noncomputable def aBg:FS:=fnOf 1 aJl
noncomputable def aMz:SF:=(sOf (eFld "Kind" "hand_states" (eVar 0)) fun t _ m=> .rt t m)
noncomputable def qY:FS:=fnOf 1 aMz
noncomputable def aJk:SF:=(sOf (eFld "Kind" "part_kinds" (eVar 0)) fun t _ m=> .rt t m)
noncomputable def jM:FS:=fnOf 1 aJk
noncomputable def bA2:SF:=(sSeq (sAsg (eVar 0) (gTL 3 (zR (gN 2) (zR (gN 3) (zR (gN 4) xX)))))
  (sSeq (sOf (eOfL gLen (zX (uQ false [6] (iVal (eVar 1)) (gN 6) (bV (e2 (gIn false) (eVar 6) (eVar 4))) (eVar 6)) lNil)) fun t env m=> .nx (env.set 5 (some t)) m)
  (sOf (eAnd (e2 gLe (eVar 2) (eVar 5)) (eOr (e2 (gIsN false) (eVar 3) (eC .non)) (e2 gLe (eVar 5) (eVar 3)))) fun t _ m=> .rt t m)))
noncomputable def aQ6:FS:=fnOf 7 bA2
noncomputable def aEw:SF:=(sSeq (sFor (aFg (zX (eFld "Kind" "clause_row" (eVar 0)) lNil)) (gT 2 (zR (gN 2) (zR (gT 2 (zR (gN 3) (zR (gN 4) xX))) xX))) (sIf (bV (eOfL (gAllAny true) (zX (uQ false [5] (iVal (eVar 4)) (gN 5) bYes (yU 2 aQ6 (zX (eVar 5) (zX (eVar 1) lNil)))) lNil))) (sOf (eVar 2) fun t _ m=> .rt t m) sNil))
  (sOf (eOfL gLen (zX (eFld "Kind" "clause_row" (eVar 0)) lNil)) fun t _ m=> .rt t m))
noncomputable def kP:FS:=fnOf 6 aEw
noncomputable def aMx:SF:=(sSeq (sOf (wQ "Kind" "counting" 2 kP (eVar 0) (zX (eVar 1) lNil)) fun t env m=> .nx (env.set 2 (some t)) m)
  (sSeq (sIf (bV (e2 gEq (eVar 2) (eOfL gLen (zX (eFld "Kind" "clause_row" (eVar 0)) lNil)))) (sOf (eFld "Kind" "last_state" (eVar 0)) fun t _ m=> .rt t m) sNil)
  (sOf (e2 gIx (e2 gIx (eFld "Kind" "clause_row" (eVar 0)) (eVar 2)) (eC (.int 0))) fun t _ m=> .rt t m)))
noncomputable def aCp:FS:=fnOf 3 aMx
noncomputable def aW8:SF:=(sOf (eIf (bV (e2 gEq (aU3 (eVar 0)) (eC (.int 1)))) (e2 gIx (eVar 0) (eC (.int 0))) (eC .non)) fun t _ m=> .rt t m)
noncomputable def aKu:FS:=fnOf 1 aW8
noncomputable def aJi:SF:=(sSeq (sOf (eOfL (xN false) (zX (eOfL yW lNil) lNil)) fun t env m=> .nx (env.set 1 (some t)) m)
  (sSeq (sFor (iVal (eVar 0)) (gN 2) (sOf (aHd false [3,4] [4] (iVal (eVar 1)) (gN 3) bYes (aH2 (zX (e2 (gAdd false) (eVar 2) (eC (.int 1))) lNil)) (gN 4) bYes (eOfL yW (aTv (eVar 3) (zX (eVar 4) lNil)))) fun t env m=> .nx (env.set 1 (some t)) m))
  (sOf (eVar 1) fun t _ m=> .rt t m)))
noncomputable def aBe:FS:=fnOf 5 aJi
noncomputable def aFt:SF:=(sOf (eFld "Kind" "clause_row" (eVar 0)) fun t _ m=> .rt t m)
noncomputable def uH:FS:=fnOf 1 aFt
noncomputable def aW7:SF:=(sSeq (sOf (eOfL (xN true) (zX (eC (.int 0)) lNil)) fun t env m=> .nx (env.set 2 (some t)) m)
  (sSeq (sFor (iVal (aK7 "Kind" uH (eVar 0))) (gT 2 (zR (gN 3) (zR (gN 4) xX))) (sFor (iVal (eVar 4)) (gT 3 (zR (gN 5) (zR (gN 6) (zR (gN 7) xX)))) (sIf (bV (e2 (gIn false) (eVar 1) (eVar 7))) (sOf (aBn "list" gExtendA (eVar 2) (zX (eOfL (xN false) (zX (eVar 5) (zX (eIf (bV (e2 (gIsN false) (eVar 6) (eC .non))) (eC (.int 0)) (e2 (gAdd false) (eVar 6) (eC (.int 1)))) lNil))) lNil)) fun _ env m=> .nx env m) sNil)))
  (sOf (eOfL gMaxB (zX (eVar 2) lNil)) fun t _ m=> .rt t m)))
noncomputable def aKt:FS:=fnOf 8 aW7
noncomputable def aMt:SF:=(sOf (uQ false [1] (iVal (e2 gIx (eVar 0) (eC (.int 0)))) (gN 1) (bV (eOfL (gAllAny true) (zX (uQ false [2] (iVal (eVar 0)) (gN 2) bYes (e2 (gIn false) (eVar 1) (eVar 2))) lNil))) (eVar 1)) fun t _ m=> .rt t m)
noncomputable def aB2:FS:=fnOf 3 aMt
noncomputable def aW5:SF:=(sOf (aHd false [2,3,4] [4] (iZipA (zX (eVar 0) (zX (eVar 1) lNil))) (gT 2 (zR (gN 2) (zR (gN 3) xX))) bYes (aH2 (zX (eVar 3) lNil)) (gN 4) bYes (eVar 2)) fun t _ m=> .rt t m)
noncomputable def aKs:FS:=fnOf 5 aW5
noncomputable def aEv:SF:=(sSeq (jL "Rule" "state_row" (eVar 1) (eVar 0))
  (sSeq (jL "Rule" "hand_states" (yU 1 aB2 (zX (uQ false [7] (iVal (eVar 2)) (gN 7) bYes (aK7 "Kind" qY (eVar 7))) lNil)) (eVar 0))
  (sSeq (jL "Rule" "part_kinds" (yU 1 aB2 (zX (uQ false [7] (iVal (eVar 2)) (gN 7) bYes (aK7 "Kind" jM (eVar 7))) lNil)) (eVar 0))
  (sSeq (jL "Rule" "caps" (uQ false [5] (iVal (eVar 1)) (gN 5) bYes (eOfL gMaxB (zX (uQ false [7] (iVal (eVar 2)) (gN 7) bYes (yU 2 aKt (zX (eVar 7) (zX (eVar 5) lNil)))) lNil))) (eVar 0))
  (sSeq (jL "Rule" "places" (aEa false [6,5] (aFg (zX (eVar 1) lNil)) (gT 2 (zR (gN 6) (zR (gN 5) xX))) bYes (eVar 5) (eVar 6)) (eVar 0))
  (sSeq (jL "Rule" "telling" (aD3 true) (eVar 0))
  (sFor (iVal (yU 1 aBe (zX (eFld "Rule" "caps" (eVar 0)) lNil))) (gN 3) (sSeq (sOf (yU 2 aKs (zX (eVar 1) (zX (eVar 3) lNil))) fun t env m=> .nx (env.set 4 (some t)) m)
  (aIb (yU 1 aKu (zX (uQ false [7] (iVal (eVar 2)) (gN 7) bYes (wQ "Kind" "told" 2 aCp (eVar 7) (zX (eVar 4) lNil))) lNil)) (eFld "Rule" "telling" (eVar 0)) (eVar 3))))))))))
noncomputable def kQ:FS:=fnOf 8 aEv
noncomputable def aOk:SF:=(sOf (aEa false [1] (iVal (aK7 "Book" aBg (eVar 0))) (gN 1) bYes (eVar 1) (aIm true "Rule" 2 kQ (zX (aK7 "Book" vG (eVar 0)) (zX (eOfL (xN false) (zX (wQ "Book" "kind_named" 2 xB (eVar 0) (zX (eVar 1) lNil)) lNil)) lNil)))) fun t _ m=> .rt t m)
noncomputable def aF7:FS:=fnOf 2 aOk
noncomputable def aD8:SF:=(sOf (e2 gIxN (eFld "Rule" "telling" (eVar 0)) (wQ "Rule" "with_one_more" 3 yG (eVar 0) (zX (eVar 1) (zX (eVar 2) lNil)))) fun t _ m=> .rt t m)
noncomputable def vS:FS:=fnOf 3 aD8
noncomputable def aEr:SF:=(sSeq (sOf (uQ false [4,5] (iZipA (zX (eFld "Rule" "state_row" (eVar 0)) (zX (eVar 2) lNil))) (gT 2 (zR (gN 4) (zR (gN 5) xX))) (bV (e2 gGt (eVar 5) (eC (.int 0)))) (e2 gMulU (eOfL yW (zX (e2 gIx (e2 gIx (eVar 1) (eVar 4)) (eC (.int 1))) lNil)) (eVar 5))) fun t env m=> .nx (env.set 3 (some t)) m)
  (sOf (eOfL gTupleA (zX (aHd false [6,7] [7] (iVal (eVar 3)) (gN 6) bYes (iVal (eVar 6)) (gN 7) bYes (eVar 7)) lNil)) fun t _ m=> .rt t m))
noncomputable def uS:FS:=fnOf 8 aEr
noncomputable def aBh:SF:=(sSeq (sOf (eOfL (xN false) (zX (eOfL yW (zX (eOfL yW lNil) (zX (eC (.int 0)) lNil))) lNil)) fun t env m=> .nx (env.set 2 (some t)) m)
  (sSeq (sFor (iZipA (zX (eFld "Rule" "state_row" (eVar 0)) (zX (eFld "Rule" "caps" (eVar 0)) lNil))) (gT 2 (zR (gN 3) (zR (gN 4) xX))) (sIf (bV (e2 (gIn false) (eVar 3) (eVar 1))) (sSeq (sOf (e2 gIx (e2 gIx (eVar 1) (eVar 3)) (eC (.int 0))) fun t env m=> .nx (env.set 5 (some t)) m)
  (sOf (aHd false [6,7,8] [8] (iVal (eVar 2)) (gT 2 (zR (gN 6) (zR (gN 7) xX))) bYes (aH2 (zX (e2 (gAdd false) (eVar 4) (eC (.int 1))) lNil)) (gN 8) bYes (eOfL yW (zX (eOfL yW (aTv (eVar 6) (zX (eVar 8) lNil))) (zX (e2 (gAdd false) (eVar 7) (e2 (gMul false) (eVar 8) (eVar 5))) lNil)))) fun t env m=> .nx (env.set 2 (some t)) m)) (sOf (uQ false [6,7] (iVal (eVar 2)) (gT 2 (zR (gN 6) (zR (gN 7) xX))) bYes (eOfL yW (zX (eOfL yW (aTv (eVar 6) (zX (eC (.int 0)) lNil))) (zX (eVar 7) lNil)))) fun t env m=> .nx (env.set 2 (some t)) m)))
  (sOf (eVar 2) fun t _ m=> .rt t m)))
noncomputable def wN:FS:=fnOf 9 aBh
noncomputable def aSr:SF:=(sSeq (sOf (eOfL (xN true) lNil) fun t env m=> .nx (env.set 2 (some t)) m)
  (sSeq (sFor (iVal (yU 2 wN (zX (eVar 0) (zX (eVar 1) lNil)))) (gT 2 (zR (gN 3) (zR (gN 4) xX))) (sSeq (sOf (aEa false [6] (iVal (eFld "Rule" "state_row" (eVar 0))) (gN 6) bYes (eVar 6) (wQ "Rule" "told_with" 3 vS (eVar 0) (zX (eVar 3) (zX (eVar 6) lNil)))) fun t env m=> .nx (env.set 5 (some t)) m)
  (sOf (aBn "list" gAppend (eVar 2) (zX (eOfL yW (zX (eVar 4) (zX (yU 3 uS (zX (eVar 0) (zX (eVar 1) (zX (eVar 3) lNil)))) (zX (eVar 5) lNil)))) lNil)) fun _ env m=> .nx env m)))
  (sFrz 2 (sOf (eVar 2) fun t _ m=> .rt t m))))
noncomputable def aHs:FS:=fnOf 7 aSr
noncomputable def aEs:SF:=(sSeq (jL "Ways" "rules" (yU 1 aF7 (zX (eVar 1) lNil)) (eVar 0))
  (sSeq (jL "Ways" "leasts" (yU 1 jY (zX (eFld "Ways" "rules" (eVar 0)) lNil)) (eVar 0))
  (sSeq (jL "Ways" "choices" (bBm true) (eVar 0))
  (sFor (jW (eFld "Ways" "rules" (eVar 0))) (gT 2 (zR (gN 2) (zR (gN 3) xX))) (bAu (aIm false "Choices" 2 wK (zX (yU 2 aHs (zX (eVar 3) (zX (wQ "Ways" "least_parts_of" 2 xP (eVar 0) (zX (eVar 2) lNil)) lNil))) (zX (aK7 "Book" vG (eVar 1)) lNil))) (eFld "Ways" "choices" (eVar 0)) (eVar 2))))))
noncomputable def kS:FS:=fnOf 4 aEs
noncomputable def kL:SF:=(sOf (eOfL gTupleA (zX (eOfL (wA false) (zX (e2 gIx (eFld "Ways" "leasts" (eVar 0)) (eVar 1)) lNil)) lNil)) fun t _ m=> .rt t m)
noncomputable def vW:FS:=fnOf 2 kL
noncomputable def aMr:SF:=(sOf (eAnd (eOfL gIsi (zX (eVar 0) (zX (eC (.ty "str")) lNil))) (e2 (gIn false) (eVar 0) (eVar 1))) fun t _ m=> .rt t m)
noncomputable def qZ:FS:=fnOf 2 aMr
noncomputable def aFq:SF:=(sFor (iVal (eVar 1)) (gN 2) (sIf (bNot (bV (yU 2 qZ (zX (eVar 2) (zX (eVar 0) lNil))))) (aDu "BadState" "state" (eVar 2)) sNil))
noncomputable def qV:FS:=fnOf 3 aFq
noncomputable def aFp:SF:=(sSeq (sOf (aIm true "Ways" 1 kS (zX (eVar 0) lNil)) fun t env m=> .nx (env.set 4 (some t)) m)
  (sSeq (bDt 5 6 (iVal (eOfL (xN false) (zX (eVar 1) (zX (eVar 2) lNil)))) (sSeq (sOf (wQ "Book" "kind_named" 2 xB (eVar 0) (zX (eVar 5) lNil)) fun _ env m=> .nx env m)
  (sOf (yU 2 qV (zX (wQ "Ways" "possible_states" 2 vW (eVar 4) (zX (eVar 5) lNil)) (zX (eVar 6) lNil))) fun _ env m=> .nx env m)))
  (sSeq (sOf (wQ "Book" "kind_named" 2 xB (eVar 0) (zX (eVar 3) lNil)) fun _ env m=> .nx env m)
  (sOf (eVar 4) fun t _ m=> .rt t m))))
noncomputable def uK:FS:=fnOf 7 aFp
noncomputable def aD9:SF:=(sSeq (sIf (bV (e2 (gInN true) (eVar 1) (eFld "Choices" "ways_by_keys" (eVar 0)))) (aIb (yU 2 tP (zX (eFld "Choices" "all_ways" (eVar 0)) (zX (eVar 1) lNil))) (eFld "Choices" "ways_by_keys" (eVar 0)) (eVar 1)) sNil)
  (sOf (e2 gIxN (eFld "Choices" "ways_by_keys" (eVar 0)) (eVar 1)) fun t _ m=> .rt t m))
noncomputable def vR:FS:=fnOf 2 aD9
noncomputable def aJj:SF:=(sSeq (sOf (eOfL gTupleA (zX (eOfL (wA false) (zX (eOfL gSetA (zX (eVar 2) lNil)) lNil)) lNil)) fun t env m=> .nx (env.set 3 (some t)) m)
  (sSeq (sOf (eOfL (xN true) lNil) fun t env m=> .nx (env.set 4 (some t)) m)
  (sSeq (sFor (jW (eFld "Ways" "rules" (eVar 0))) (gT 2 (zR (gN 5) (zR (gN 6) xX))) (sIf (bV (e2 (gIn false) (eVar 1) (eFld "Rule" "part_kinds" (eVar 6)))) (sFor (iVal (wQ "Choices" "unlike" 2 vR (e2 gIx (eFld "Ways" "choices" (eVar 0)) (eVar 5)) (zX (eVar 3) lNil))) (gT 3 (zR (gN 7) (zR (gN 8) (zR (gN 9) xX)))) (sOf (aBn "list" gAppend (eVar 4) (zX (eOfL yW (zX (eVar 5) (zX (eOfL gTupleA (zX (uQ false [10] (iVal (eVar 2)) (gN 10) bYes (e2 gIx (eVar 9) (eVar 10))) lNil)) (zX (eVar 7) (zX (eVar 8) lNil))))) lNil)) fun _ env m=> .nx env m)) sNil))
  (sFrz 4 (sOf (eVar 4) fun t _ m=> .rt t m)))))
noncomputable def aBf:FS:=fnOf 11 aJj
noncomputable def aJh:SF:=(sSeq (sOf (aD3 true) fun t env m=> .nx (env.set 2 (some t)) m)
  (sSeq (sOf (aD3 true) fun t env m=> .nx (env.set 3 (some t)) m)
  (sSeq (sOf (aVx false "Waiting" wL) fun t env m=> .nx (env.set 4 (some t)) m)
  (sSeq (sFor (iVal (eVar 1)) (gT 3 (zR (gN 5) (zR (gN 6) (zR (gN 7) xX)))) (sOf (wQ "Waiting" "wait" 3 vE (eVar 4) (zX (eVar 5) (zX (eOfL yW (zX (eVar 6) (zX (eVar 7) lNil))) lNil))) fun _ env m=> .nx env m))
  (sSeq (aLh 400 (bNot (bV (wQ "Waiting" "is_empty" 1 wM (eVar 4) lNil))) (sSeq (sAsg (wQ "Waiting" "leave" 1 uR (eVar 4) lNil) (gTL 2 (zR (gN 5) (zR (gN 8) xX))))
  (sSeq (sFrz 8 (sOf (aZg false [6,7] (iVal (eVar 8)) (gT 2 (zR (gN 6) (zR (gN 7) xX))) (bV (e2 (gInN true) (eVar 6) (eVar 2))) (eVar 6) (eVar 7)) fun t env m=> .nx (env.set 9 (some t)) m))
  (sFor (jW (eVar 9)) (gT 2 (zR (gN 6) (zR (gN 7) xX))) (sSeq (aIb (eOfL yW (zX (eVar 5) (zX (eVar 7) lNil))) (eVar 2) (eVar 6))
  (sFor (iVal (aS2 "Ways" "steps" 3 aBf (eVar 0) (eVar 6))) (gT 4 (zR (gN 10) (zR (gN 11) (zR (gN 12) (zR (gN 13) xX))))) (sSeq (sOf (e2 (gAdd false) (e2 (gAdd false) (eVar 5) (eC (.int 1))) (eVar 12)) fun t env m=> .nx (env.set 14 (some t)) m)
  (sIf (bOr (bV (e2 (gInN true) (eOfL yW (zX (eVar 10) (zX (eVar 11) lNil))) (eVar 3))) (bV (e2 gLt (eVar 14) (e2 gIxN (eVar 3) (eOfL yW (zX (eVar 10) (zX (eVar 11) lNil))))))) (sSeq (aIb (eVar 14) (eVar 3) (eOfL yW (zX (eVar 10) (zX (eVar 11) lNil))))
  (sOf (wQ "Waiting" "wait" 3 vE (eVar 4) (zX (eVar 14) (zX (eOfL yW (zX (eOfL yW (zX (eVar 10) (zX (eVar 11) lNil))) (zX (eOfL yW (zX (eVar 10) (zX (eOfL yW (zX (eVar 7) (aTv (eVar 13) lNil))) lNil))) lNil))) lNil))) fun _ env m=> .nx env m)) sNil))))))))
  (aTm 2 (sOf (eVar 2) fun t _ m=> .rt t m)))))))
noncomputable def qM:FS:=fnOf 15 aJh
noncomputable def aD7:SF:=(sSeq (sOf (e2 gIx (eFld "Ways" "rules" (eVar 0)) (eVar 1)) fun t env m=> .nx (env.set 4 (some t)) m)
  (sSeq (sOf (wQ "Ways" "least_parts_of" 2 xP (eVar 0) (zX (eVar 1) lNil)) fun t env m=> .nx (env.set 5 (some t)) m)
  (sSeq (sOf (eOfL (xN true) lNil) fun t env m=> .nx (env.set 6 (some t)) m)
  (sSeq (sFor (iVal (yU 2 wN (zX (eVar 4) (zX (eVar 5) lNil)))) (gT 2 (zR (gN 7) (zR (gN 8) xX))) (sSeq (sOf (aD3 true) fun t env m=> .nx (env.set 9 (some t)) m)
  (sSeq (sFor (iVal (eVar 2)) (gN 10) (sSeq (sOf (wQ "Rule" "with_one_more" 3 yG (eVar 4) (zX (eVar 7) (zX (eVar 10) lNil))) fun t env m=> .nx (env.set 11 (some t)) m)
  (sFor (iVal (eVar 3)) (gN 12) (aIb (wQ "Rule" "told_with" 3 vS (eVar 4) (zX (eVar 11) (zX (eVar 12) lNil))) (eVar 9) (eOfL yW (zX (eVar 10) (zX (eVar 12) lNil)))))))
  (aTm 9 (sOf (aBn "list" gAppend (eVar 6) (zX (eOfL yW (zX (eVar 8) (zX (yU 3 uS (zX (eVar 4) (zX (eVar 5) (zX (eVar 7) lNil)))) (zX (eVar 9) lNil)))) lNil)) fun _ env m=> .nx env m)))))
  (sFrz 6 (sOf (aIm false "Choices" 2 wK (zX (eVar 6) (zX (aHd false [10,12] [12] (iVal (eVar 2)) (gN 10) bYes (iVal (eVar 3)) (gN 12) bYes (eOfL yW (zX (eVar 10) (zX (eVar 12) lNil)))) lNil))) fun t _ m=> .rt t m))))))
noncomputable def jX:FS:=fnOf 13 aD7
noncomputable def aHw:SF:=(sSeq (sOf (aD3 true) fun t env m=> .nx (env.set 2 (some t)) m)
  (sSeq (sFor (jW (eVar 0)) (gT 2 (zR (gT 2 (zR (gN 3) (zR (gN 4) xX))) (zR (gN 5) xX))) (sIf (bAnd (bV (e2 (gIn false) (eVar 3) (eVar 1))) (bV (e2 (gInN true) (eVar 4) (eVar 2)))) (aIb (eVar 5) (eVar 2) (eVar 4)) sNil))
  (aTm 2 (sOf (eVar 2) fun t _ m=> .rt t m))))
noncomputable def kX:FS:=fnOf 6 aHw
noncomputable def aMp:SF:=(sOf (eOfL (wA false) (zX (bEv [1,2] [2] (bCf (eVar 0)) (gN 1) bYes (iVal (eVar 1)) (gN 2) bYes (eVar 2)) lNil)) fun t _ m=> .rt t m)
noncomputable def aB1:FS:=fnOf 3 aMp
noncomputable def aOl:SF:=(sSeq (sOf (eFld "Rule" "part_kinds" (e2 gIx (eFld "Ways" "rules" (eVar 0)) (eVar 1))) fun t env m=> .nx (env.set 4 (some t)) m)
  (sSeq (sPar 5 6 (zX (yU 2 kX (zX (eVar 2) (zX (eVar 4) lNil))) (zX (yU 2 kX (zX (eVar 3) (zX (eVar 4) lNil))) lNil)))
  (sSeq (sOf (yU 4 jX (zX (eVar 0) (zX (eVar 1) (zX (yU 1 aB1 (zX (eVar 5) lNil)) (zX (yU 1 aB1 (zX (eVar 6) lNil)) lNil))))) fun t env m=> .nx (env.set 7 (some t)) m)
  (sSeq (sOf (aD3 true) fun t env m=> .nx (env.set 8 (some t)) m)
  (sSeq (sFor (jW (eVar 5)) (gT 2 (zR (gN 9) (zR (gT 2 (zR (gN 10) (zR (gN 11) xX))) xX))) (sFor (jW (eVar 6)) (gT 2 (zR (gN 12) (zR (gT 2 (zR (gN 13) (zR (gN 14) xX))) xX))) (sSeq (sOf (eOfL gTupleA (zX (aHd false [22,23] [23] (iVal (eVar 12)) (gN 22) bYes (iVal (eVar 9)) (gN 23) bYes (eOfL yW (zX (eVar 23) (zX (eVar 22) lNil)))) lNil)) fun t env m=> .nx (env.set 15 (some t)) m)
  (sFor (iVal (wQ "Choices" "unlike" 2 vR (eVar 7) (zX (eOfL gTupleA (zX (eOfL (gSetSort false) (zX (eVar 15) lNil)) lNil)) lNil))) (gT 3 (zR (gN 16) (zR (gN 17) (zR (gN 18) xX)))) (sSeq (sOf (eOfL gTupleA (zX (uQ false [24] (iVal (eVar 15)) (gN 24) bYes (e2 gIxN (eVar 18) (eVar 24))) lNil)) fun t env m=> .nx (env.set 19 (some t)) m)
  (sSeq (sOf (e2 (gAdd false) (e2 (gAdd false) (e2 (gAdd false) (eC (.int 1)) (eVar 10)) (eVar 13)) (eVar 16)) fun t env m=> .nx (env.set 20 (some t)) m)
  (sIf (bOr (bV (e2 (gInN true) (eVar 19) (eVar 8))) (bV (e2 gLt (eVar 20) (e2 gIx (e2 gIxN (eVar 8) (eVar 19)) (eC (.int 0)))))) (aIb (eOfL yW (zX (eVar 20) (zX (eOfL yW (zX (eVar 1) (zX (eOfL yW (zX (eVar 11) (zX (eVar 14) (aTv (eVar 17) lNil)))) lNil))) lNil))) (eVar 8) (eVar 19)) sNil)))))))
  (aTm 8 (sOf (uQ false [19,20,21] (jW (eVar 8)) (gT 2 (zR (gN 19) (zR (gT 2 (zR (gN 20) (zR (gN 21) xX))) xX))) bYes (eOfL yW (zX (eVar 20) (zX (eOfL yW (zX (eVar 1) (zX (eVar 19) lNil))) (zX (eVar 21) lNil))))) fun t _ m=> .rt t m)))))))
noncomputable def aF8:FS:=fnOf 25 aOl
noncomputable def aOn:SF:=(sSeq (sAsg (uQ false [7,8,9] (iVal (eOfL (xN false) (zX (eVar 1) (zX (eVar 2) lNil)))) (gT 3 (zR (gN 7) (zR (gN 8) (zR (gN 9) xX)))) bYes (yU 2 qM (zX (eVar 0) (zX (eOfL (xN false) (zX (eOfL yW (zX (eC (.int 0)) (zX (eOfL yW (zX (eVar 7) (zX (eOfL yW (zX (eVar 8) (zX (eVar 9) lNil))) lNil))) (zX (eOfL yW lNil) lNil)))) lNil)) lNil)))) (gTL 2 (zR (gN 3) (zR (gN 4) xX))))
  (sSeq (sOf (eOfL (xN true) lNil) fun t env m=> .nx (env.set 5 (some t)) m)
  (sSeq (sFor (iVal (eFld "Ways" "rules" (eVar 0))) (gN 6) (sOf (aBn "list" gExtendA (eVar 5) (zX (yU 4 aF8 (zX (eVar 0) (zX (eVar 6) (zX (eVar 3) (zX (eVar 4) lNil))))) lNil)) fun _ env m=> .nx env m))
  (sFrz 5 (sOf (yU 2 qM (zX (eVar 0) (zX (eVar 5) lNil))) fun t _ m=> .rt t m)))))
noncomputable def aAd:FS:=fnOf 10 aOn
noncomputable def aSs:SF:=(sOf (eOfL (wA false) (zX (uQ false [2,3] (iVal (eOfL (gListN false) (zX (eVar 0) lNil))) (gT 2 (zR (gN 2) (zR (gN 3) xX))) (bV (e2 gEq (eVar 2) (eVar 1))) (eVar 3)) lNil)) fun t _ m=> .rt t m)
noncomputable def aHt:FS:=fnOf 4 aSs
noncomputable def bCn:SF:=(sSeq (sOf (yU 4 uK (zX (eVar 0) (zX (eVar 1) (zX (eVar 2) (zX (eVar 3) lNil))))) fun t env m=> .nx (env.set 4 (some t)) m)
  (sOf (yU 2 aHt (zX (yU 3 aAd (zX (eVar 4) (zX (eVar 1) (zX (eVar 2) lNil)))) (zX (eVar 3) lNil))) fun t _ m=> .rt t m))
noncomputable def aEn:FS:=fnOf 5 bCn
noncomputable def aOo:SF:=(sOf (uQ false [4] (iVal (yU 4 aEn (zX (eVar 0) (zX (eVar 1) (zX (eVar 2) (zX (eVar 3) lNil)))))) (gN 4) (bV (yU 1 aBd (zX (eVar 4) lNil))) (eVar 4)) fun t _ m=> .rt t m)
noncomputable def tN:FS:=fnOf 5 aOo
noncomputable def aSu:SF:=(sOf (aWy ["list","tuple"] (eVar 0)) fun t _ m=> .rt t m)
noncomputable def uT:FS:=fnOf 1 aSu
noncomputable def bCo:SF:=(sSeq (sOf (yU 4 uK (zX (eVar 0) (zX (eVar 1) (zX (eVar 2) (zX (eVar 3) lNil))))) fun t env m=> .nx (env.set 5 (some t)) m)
  (sSeq (sIf (bOr (bNot (bV (yU 1 uT (zX (eVar 4) lNil)))) (bNot (bV (eOfL (gAllAny true) (zX (uQ false [8] (iVal (eVar 4)) (gN 8) bYes (yU 2 qZ (zX (eVar 8) (zX (aK7 "Book" vG (eVar 0)) lNil)))) lNil))))) (sOf (eC .non) fun t _ m=> .rt t m) sNil)
  (sSeq (sOf (yU 3 aAd (zX (eVar 5) (zX (eVar 1) (zX (eVar 2) lNil)))) fun t env m=> .nx (env.set 6 (some t)) m)
  (sSeq (sOf (eOfL yW (zX (eVar 3) (zX (eOfL gTupleA (zX (eVar 4) lNil)) lNil))) fun t env m=> .nx (env.set 7 (some t)) m)
  (sOf (eIf (bV (e2 (gInN false) (eVar 7) (eVar 6))) (e2 gIx (e2 gIxN (eVar 6) (eVar 7)) (eC (.int 1))) (eC .non)) fun t _ m=> .rt t m)))))
noncomputable def aEo:FS:=fnOf 9 bCo
noncomputable def aMv:SF:=(sSeq (sIf (bOr (bNot (bV (eOfL gIsi (zX (eVar 0) (zX (eC (.ty "dict")) lNil))))) (bNot (bV (aEb gLe gLe (eC (.int 1)) (eOfL gLen (zX (eVar 0) lNil)) (eC (.int 4)))))) (sOf (eC (.bl false)) fun t _ m=> .rt t m) sNil)
  (sOf (eOfL (gAllAny true) (zX (uQ false [1,2] (jW (eVar 0)) (gT 2 (zR (gN 1) (zR (gN 2) xX))) bYes (eAnd (yU 1 uL (zX (eVar 1) lNil)) (bGv "Kind" ksl (eVar 2)))) lNil)) fun t _ m=> .rt t m))
noncomputable def aCn:FS:=fnOf 3 aMv
noncomputable def aMy:SF:=(sOf (eFld "Kind" "last_state" (eVar 0)) fun t _ m=> .rt t m)
noncomputable def aCq:FS:=fnOf 1 aMy
noncomputable def aMq:SF:=(sSeq (sOf (eOfL (xN true) (aTv (aK7 "Kind" qY (eVar 0)) (zX (aK7 "Kind" aCq (eVar 0)) lNil))) fun t env m=> .nx (env.set 1 (some t)) m)
  (sSeq (sFor (iVal (aK7 "Kind" uH (eVar 0))) (gT 2 (zR (gN 2) (zR (gN 3) xX))) (sSeq (sOf (aBn "list" gAppend (eVar 1) (zX (eVar 2) lNil)) fun _ env m=> .nx env m)
  (sFor (iVal (eVar 3)) (gT 3 (zR (gN 4) (zR (gN 5) (zR (gN 6) xX)))) (sOf (aBn "list" gExtendA (eVar 1) (zX (eVar 6) lNil)) fun _ env m=> .nx env m))))
  (sFrz 1 (sOf (eVar 1) fun t _ m=> .rt t m))))
noncomputable def aCl:FS:=fnOf 7 aMq
noncomputable def aEy:SF:=(sSeq (sIf (bNot (bV (yU 1 aCn (zX (eVar 1) lNil)))) (aDu "BadBook" "place" (eC (.str "kinds"))) sNil)
  (sSeq (sIf (bNot (bV (eOfL (gAllAny true) (zX (aHd false [4,6] [6] (aZ0 (eVar 1)) (gN 4) bYes (iVal (aK7 "Kind" jM (eVar 4))) (gN 6) bYes (e2 (gIn false) (eVar 6) (eVar 1))) lNil)))) (aDu "BadBook" "place" (eC (.str "parts"))) sNil)
  (sSeq (sOf (eOfL (wA false) (zX (bEv [4,5] [5] (aZ0 (eVar 1)) (gN 4) bYes (iVal (yU 1 aCl (zX (eVar 4) lNil))) (gN 5) bYes (eVar 5)) lNil)) fun t env m=> .nx (env.set 2 (some t)) m)
  (sSeq (sIf (bV (e2 gGt (eOfL gLen (zX (eVar 2) lNil)) (eC (.int 8)))) (aDu "BadBook" "place" (eC (.str "states"))) sNil)
  (sSeq (jL "Book" "kinds_by_name" (aEa false [3] (iVal (eOfL (wA false) (zX (eVar 1) lNil))) (gN 3) bYes (eVar 3) (e2 gIx (eVar 1) (eVar 3))) (eVar 0))
  (sSeq (jL "Book" "name_row" (eOfL gTupleA (zX (eOfL (wA false) (zX (eVar 1) lNil)) lNil)) (eVar 0))
  (jL "Book" "state_row" (eOfL gTupleA (zX (eVar 2) lNil)) (eVar 0))))))))
noncomputable def wR:FS:=fnOf 7 aEy
noncomputable def aMu:SF:=(sSeq (sIf (bOr (bNot (bV (yU 1 uT (zX (eVar 0) lNil)))) (bNot (bV (eOfL (gAllAny true) (zX (uQ false [1] (iVal (eVar 0)) (gN 1) bYes (yU 1 uL (zX (eVar 1) lNil))) lNil))))) (sOf (eC (.bl false)) fun t _ m=> .rt t m) sNil)
  (sOf (e2 gEq (aU3 (eVar 0)) (eOfL gLen (zX (eVar 0) lNil))) fun t _ m=> .rt t m))
noncomputable def jU:FS:=fnOf 2 aMu
noncomputable def aOm:SF:=(sOf (eAnd (eOfL gIsi (zX (eVar 0) (zX (eC (.ty "int")) lNil))) (eAnd (eNot (eOfL gIsi (zX (eVar 0) (zX (eC (.ty "bool")) lNil)))) (aEb gLe gLe (eC (.int 0)) (eVar 0) (eC (.int 9))))) fun t _ m=> .rt t m)
noncomputable def aC3:FS:=fnOf 1 aOm
noncomputable def aFo:SF:=(sSeq (sIf (bOr (bNot (bV (yU 1 uT (zX (eVar 0) lNil)))) (bV (e2 gNe (eOfL gLen (zX (eVar 0) lNil)) (eC (.int 3))))) (sOf (eC (.bl false)) fun t _ m=> .rt t m) sNil)
  (sSeq (sAsg (eVar 0) (gTL 3 (zR (gN 1) (zR (gN 2) (zR (gN 3) xX)))))
  (sSeq (sIf (bOr (bNot (bV (yU 1 aC3 (zX (eVar 1) lNil)))) (bNot (bOr (bV (e2 (gIsN false) (eVar 2) (eC .non))) (bV (yU 1 aC3 (zX (eVar 2) lNil)))))) (sOf (eC (.bl false)) fun t _ m=> .rt t m) sNil)
  (sOf (eAnd (yU 1 jU (zX (eVar 3) lNil)) (e2 gGt (eOfL gLen (zX (eVar 3) lNil)) (eC (.int 0)))) fun t _ m=> .rt t m))))
noncomputable def qW:FS:=fnOf 4 aFo
noncomputable def aMs:SF:=(sSeq (sIf (bOr (bNot (bV (yU 1 uT (zX (eVar 0) lNil)))) (bV (e2 gNe (eOfL gLen (zX (eVar 0) lNil)) (eC (.int 2))))) (sOf (eC (.bl false)) fun t _ m=> .rt t m) sNil)
  (sSeq (sAsg (eVar 0) (gTL 2 (zR (gN 1) (zR (gN 2) xX))))
  (sSeq (sIf (bOr (bNot (bV (yU 1 uL (zX (eVar 1) lNil)))) (bOr (bNot (bV (yU 1 uT (zX (eVar 2) lNil)))) (bV (e2 gGt (eOfL gLen (zX (eVar 2) lNil)) (eC (.int 4)))))) (sOf (eC (.bl false)) fun t _ m=> .rt t m) sNil)
  (sOf (eOfL (gAllAny true) (zX (uQ false [3] (iVal (eVar 2)) (gN 3) bYes (yU 1 qW (zX (eVar 3) lNil))) lNil)) fun t _ m=> .rt t m))))
noncomputable def aCm:FS:=fnOf 4 aMs
noncomputable def aHx:SF:=(sSeq (sIf (bOr (bNot (bV (yU 1 uT (zX (eVar 0) lNil)))) (bV (e2 gGt (eOfL gLen (zX (eVar 0) lNil)) (eC (.int 6))))) (sOf (eC (.bl false)) fun t _ m=> .rt t m) sNil)
  (sOf (eOfL (gAllAny true) (zX (uQ false [1] (iVal (eVar 0)) (gN 1) bYes (yU 1 aCm (zX (eVar 1) lNil))) lNil)) fun t _ m=> .rt t m))
noncomputable def aA8:FS:=fnOf 2 aHx
noncomputable def aEq:SF:=(sSeq (sAsg (eVar 0) (gTL 2 (zR (gN 1) (zR (gN 2) xX))))
  (sOf (eOfL yW (zX (eVar 1) (zX (eOfL gTupleA (zX (uQ false [3,4,5] (iVal (eVar 2)) (gT 3 (zR (gN 3) (zR (gN 4) (zR (gN 5) xX)))) bYes (eOfL yW (zX (eVar 3) (zX (eVar 4) (zX (eOfL gTupleA (zX (eOfL (wA false) (zX (eVar 5) lNil)) lNil)) lNil))))) lNil)) lNil))) fun t _ m=> .rt t m))
noncomputable def kU:FS:=fnOf 6 aEq
noncomputable def aEx:SF:=(sSeq (sIf (bNot (bV (yU 1 jU (zX (eVar 1) lNil)))) (aDu "BadKind" "place" (eC (.str "hand"))) sNil)
  (sSeq (sIf (bOr (bNot (bV (yU 1 jU (zX (eVar 2) lNil)))) (bV (e2 gEq (e2 (gAdd false) (eOfL gLen (zX (eVar 1) lNil)) (eOfL gLen (zX (eVar 2) lNil))) (eC (.int 0))))) (aDu "BadKind" "place" (eC (.str "parts"))) sNil)
  (sSeq (sIf (bNot (bV (yU 1 aA8 (zX (eVar 3) lNil)))) (aDu "BadKind" "place" (eC (.str "clauses"))) sNil)
  (sSeq (sIf (bNot (bV (yU 1 uL (zX (eVar 4) lNil)))) (aDu "BadKind" "place" (eC (.str "last"))) sNil)
  (sSeq (jL "Kind" "hand_states" (eOfL gTupleA (zX (eOfL (wA false) (zX (eVar 1) lNil)) lNil)) (eVar 0))
  (sSeq (jL "Kind" "part_kinds" (eOfL gTupleA (zX (eOfL (wA false) (zX (eVar 2) lNil)) lNil)) (eVar 0))
  (sSeq (jL "Kind" "clause_row" (eOfL gTupleA (zX (uQ false [5] (iVal (eVar 3)) (gN 5) bYes (yU 1 kU (zX (eVar 5) lNil))) lNil)) (eVar 0))
  (jL "Kind" "last_state" (eVar 4) (eVar 0)))))))))
noncomputable def wU:FS:=fnOf 6 aEx
noncomputable def aW6:SF:=(sSeq (sOf (eOfL (xN false) (zX (eOfL yW (zX (eC (.str "red")) (zX (eOfL (xN false) (zX (eOfL yW (zX (eC (.int 1)) (zX (eC .non) (zX (eOfL (xN false) (zX (eC (.str "red")) lNil)) lNil)))) lNil)) lNil))) (zX (eOfL yW (zX (eC (.str "amber")) (zX (eOfL (xN false) (zX (eOfL yW (zX (eC (.int 1)) (zX (eC .non) (zX (eOfL (xN false) (zX (eC (.str "amber")) lNil)) lNil)))) lNil)) lNil))) lNil))) fun t env m=> .nx (env.set 0 (some t)) m)
  (sOf (aIm true "Book" 1 wR (zX (aWz false (zX (eC (.str "unit")) (zX (aIm true "Kind" 4 wU (zX (eOfL (xN false) (zX (eC (.str "green")) (zX (eC (.str "amber")) (zX (eC (.str "red")) lNil)))) (zX (eOfL (xN false) (zX (eC (.str "unit")) lNil)) (zX (eVar 0) (zX (eC (.str "green")) lNil))))) lNil))) lNil)) fun t _ m=> .rt t m))
noncomputable def aA6:FS:=fnOf 1 aW6
noncomputable def bA1:SF:=(sSeq (sOf (eOfL (xN false) (zX (eOfL yW (zX (eC (.str "on")) (zX (eOfL (xN false) (zX (eOfL yW (zX (eC (.int 0)) (zX (eC (.int 0)) (zX (eOfL (xN false) (zX (eC (.str "off")) (zX (eC (.str "part")) lNil))) lNil)))) lNil)) lNil))) (zX (eOfL yW (zX (eC (.str "off")) (zX (eOfL (xN false) (zX (eOfL yW (zX (eC (.int 0)) (zX (eC (.int 0)) (zX (eOfL (xN false) (zX (eC (.str "on")) (zX (eC (.str "part")) lNil))) lNil)))) lNil)) lNil))) lNil))) fun t env m=> .nx (env.set 0 (some t)) m)
  (sOf (aIm true "Book" 1 wR (zX (aWz false (zX (eC (.str "box")) (zX (aIm true "Kind" 4 wU (zX (eOfL (xN false) (zX (eC (.str "off")) (zX (eC (.str "on")) lNil))) (zX (eOfL (xN false) (zX (eC (.str "box")) lNil)) (zX (eVar 0) (zX (eC (.str "part")) lNil))))) lNil))) lNil)) fun t _ m=> .rt t m))
noncomputable def aGm:FS:=fnOf 1 bA1
noncomputable def bA0:SF:=(sSeq (sOf (eOfL (xN false) (zX (eOfL yW (zX (eC (.str "yes")) (zX (eOfL (xN false) (zX (eOfL yW (zX (eVar 0) (zX (eC .non) (zX (eOfL (xN false) (zX (eC (.str "yes")) lNil)) lNil)))) lNil)) lNil))) lNil)) fun t env m=> .nx (env.set 1 (some t)) m)
  (sOf (aIm true "Book" 1 wR (zX (aWz false (zX (eC (.str "vote")) (zX (aIm true "Kind" 4 wU (zX (eOfL (xN false) (zX (eC (.str "no")) (zX (eC (.str "yes")) lNil))) (zX (eOfL (xN false) (zX (eC (.str "vote")) lNil)) (zX (eVar 1) (zX (eC (.str "no")) lNil))))) lNil))) lNil)) fun t _ m=> .rt t m))
noncomputable def kA:FS:=fnOf 2 bA0
noncomputable def bF5:SF:=(sSeq (sOf (yU 1 vJ (zX (eVar 0) lNil)) fun t env m=> .nx (env.set 1 (some t)) m)
  (sSeq (sAsg (eOfL yW (zX (eOfL yW (zX (eC (.str "vote")) (zX (eC (.str "no")) (zX (eC (.str "yes")) lNil)))) (zX (eOfL yW (zX (eC (.str "vote")) (zX (eC (.str "yes")) (zX (eC (.str "no")) lNil)))) lNil))) (gT 2 (zR (gN 2) (zR (gN 3) xX))))
  (sSeq (sOf (e2 (gAdd false) (eC (.int 1)) (yU 2 tW (zX (eVar 1) (zX (eC (.int 9)) lNil)))) fun t env m=> .nx (env.set 4 (some t)) m)
  (sSeq (sOf (eOfL (xN false) lNil) fun t env m=> .nx (env.set 5 (some t)) m)
  (sSeq (sIf (bV (e2 gGt (eVar 4) (eC (.int 1)))) (sOf (eOfL (xN false) (zX (e2 gMulU (eOfL yW (zX (eC (.str "no")) lNil)) (eC (.int 4))) (zX (eOfL yW (zX (eC (.str "no")) (zX (eC (.str "yes")) (zX (eC (.str "no")) (zX (eC (.str "no")) lNil))))) (zX (eOfL yW (zX (eC (.str "no")) (zX (eC (.str "yes")) (zX (eC (.str "no")) (zX (eC (.str "yes")) lNil))))) (zX (eOfL yW (zX (eC (.str "yes")) (zX (eC (.str "yes")) (zX (eC (.str "no")) (zX (eC (.str "no")) lNil))))) lNil))))) fun t env m=> .nx (env.set 5 (some t)) m) sNil)
  (sSeq (sOf (yU 4 (vF aEn) (zX (yU 1 (vF kA) (zX (eVar 4) lNil)) (zX (eVar 2) (zX (eVar 3) (zX (eC (.str "vote")) lNil))))) fun t env m=> .nx (env.set 6 (some t)) m)
  (sSeq (sIf (bV (e2 gNe (eVar 6) (eOfL (wA false) (zX (e2 (gAdd false) (eVar 5) (eOfL (xN false) (zX (eOfL yW (zX (eC (.str "yes")) (zX (eC (.str "yes")) (zX (eC (.str "no")) (zX (eC (.str "yes")) lNil))))) (zX (e2 gMulU (eOfL yW (zX (eC (.str "yes")) lNil)) (eC (.int 4))) lNil)))) lNil)))) (sOf (eC (.bl false)) fun t _ m=> .rt t m) sNil)
  (sSeq (sOf (yU 4 (vF tN) (zX (yU 1 (vF kA) (zX (eVar 4) lNil)) (zX (eVar 2) (zX (eVar 3) (zX (eC (.str "vote")) lNil))))) fun t env m=> .nx (env.set 7 (some t)) m)
  (sSeq (sIf (bV (e2 gNe (eVar 7) (uQ false [13] (iVal (eVar 6)) (gN 13) (bAnd (bV (e2 gEq (e2 gIx (eVar 13) (eC (.int 0))) (e2 gIx (eVar 13) (eC (.int 3))))) (bV (e2 gNe (aC1 false (eVar 13) (aG4 (eC (.int 1))) (aG4 (eC (.int 3)))) (e2 gMulU (aC1 false (eVar 13) aLk (aG4 (eC (.int 1)))) (eC (.int 2)))))) (eVar 13)))) (sOf (eC (.bl false)) fun t _ m=> .rt t m) sNil)
  (sSeq (sIf (bV (e2 gNe (yU 1 (yH 24) (zX (yU 5 (vF aEo) (zX (yU 1 (vF kA) (zX (eVar 4) lNil)) (zX (eVar 2) (zX (eVar 3) (zX (eC (.str "vote")) (zX (eOfL yW (zX (eC (.str "yes")) (zX (eC (.str "yes")) (zX (eC (.str "no")) (zX (eC (.str "yes")) lNil))))) lNil)))))) lNil)) (eVar 4))) (sOf (eC (.bl false)) fun t _ m=> .rt t m) sNil)
  (sSeq (sIf (bV (e2 gNe (yU 1 (yH 24) (zX (yU 5 (vF aEo) (zX (yU 1 (vF kA) (zX (eVar 4) lNil)) (zX (eVar 2) (zX (eVar 3) (zX (eC (.str "vote")) (zX (e2 gMulU (eOfL yW (zX (eC (.str "yes")) lNil)) (eC (.int 4))) lNil)))))) lNil)) (e2 (gAdd false) (eVar 4) (eC (.int 1))))) (sOf (eC (.bl false)) fun t _ m=> .rt t m) sNil)
  (sSeq (sIf (bV (e2 gGt (eVar 4) (eC (.int 1)))) (sSeq (sOf (yU 5 (vF aEo) (zX (yU 1 (vF kA) (zX (eVar 4) lNil)) (zX (eVar 2) (zX (eVar 3) (zX (eC (.str "vote")) (zX (eOfL yW (zX (eC (.str "no")) (zX (eC (.str "yes")) (zX (eC (.str "no")) (zX (eC (.str "no")) lNil))))) lNil)))))) fun t env m=> .nx (env.set 8 (some t)) m)
  (sIf (bV (e2 gNe (yU 1 (yH 24) (zX (eVar 8) lNil)) (e2 gSub (eVar 4) (eC (.int 1))))) (sOf (eC (.bl false)) fun t _ m=> .rt t m) sNil)) sNil)
  (sSeq (sAsg (eOfL yW (zX (eOfL yW (zX (eC (.str "unit")) (zX (eC (.str "green")) (zX (eC (.str "red")) lNil)))) (zX (eOfL yW (zX (eC (.str "unit")) (zX (eC (.str "red")) (zX (eC (.str "green")) lNil)))) lNil))) (gT 2 (zR (gN 9) (zR (gN 10) xX))))
  (sSeq (sOf (eOfL (xN false) (zX (eOfL yW (zX (eC (.str "red")) (zX (eC (.str "red")) (zX (eC (.str "green")) (zX (eC (.str "red")) lNil))))) (zX (eOfL yW (zX (eC (.str "red")) (zX (eC (.str "red")) (zX (eC (.str "amber")) (zX (eC (.str "red")) lNil))))) (zX (e2 gMulU (eOfL yW (zX (eC (.str "red")) lNil)) (eC (.int 4))) lNil)))) fun t env m=> .nx (env.set 5 (some t)) m)
  (sSeq (sIf (bV (e2 gNe (yU 4 (vF aEn) (zX (yU 0 (vF aA6) lNil) (zX (eVar 9) (zX (eVar 10) (zX (eC (.str "unit")) lNil))))) (eOfL (wA false) (zX (eVar 5) lNil)))) (sOf (eC (.bl false)) fun t _ m=> .rt t m) sNil)
  (sSeq (sIf (bV (e2 gNe (yU 4 (vF tN) (zX (yU 0 (vF aA6) lNil) (zX (eVar 9) (zX (eVar 10) (zX (eC (.str "unit")) lNil))))) (eOfL (wA false) (zX (aC1 false (eVar 5) aLk (aG4 (eC (.int 2)))) lNil)))) (sOf (eC (.bl false)) fun t _ m=> .rt t m) sNil)
  (sSeq (sIf (bV (e2 (gIsN true) (yU 5 (vF aEo) (zX (yU 0 (vF aA6) lNil) (zX (eVar 9) (zX (eVar 10) (zX (eC (.str "unit")) (zX (eOfL yW (zX (eC (.str "green")) (zX (eC (.str "red")) (zX (eC (.str "green")) (zX (eC (.str "red")) lNil))))) lNil)))))) (eC .non))) (sOf (eC (.bl false)) fun t _ m=> .rt t m) sNil)
  (sSeq (sAsg (eOfL yW (zX (eOfL yW (zX (eC (.str "box")) (zX (eC (.str "off")) (zX (eC (.str "on")) lNil)))) (zX (eOfL yW (zX (eC (.str "box")) (zX (eC (.str "on")) (zX (eC (.str "off")) lNil)))) lNil))) (gT 2 (zR (gN 11) (zR (gN 12) xX))))
  (sSeq (sOf (yU 4 (vF tN) (zX (yU 0 (vF aGm) lNil) (zX (eVar 11) (zX (eVar 12) (zX (eC (.str "box")) lNil))))) fun t env m=> .nx (env.set 6 (some t)) m)
  (sSeq (sIf (bV (e2 gNe (eVar 6) (eOfL (xN false) (zX (eOfL yW (zX (eC (.str "part")) (zX (eC (.str "on")) (zX (eC (.str "off")) (zX (eC (.str "part")) lNil))))) (zX (eOfL yW (zX (eC (.str "part")) (zX (eC (.str "on")) (zX (eC (.str "part")) (zX (eC (.str "part")) lNil))))) (zX (eOfL yW (zX (eC (.str "part")) (zX (eC (.str "part")) (zX (eC (.str "off")) (zX (eC (.str "part")) lNil))))) lNil)))))) (sOf (eC (.bl false)) fun t _ m=> .rt t m) sNil)
  (sOf (e2 gEq (yU 4 (vF aEn) (zX (yU 0 (vF aGm) lNil) (zX (eVar 11) (zX (eVar 12) (zX (eC (.str "box")) lNil))))) (e2 (gAdd false) (eVar 6) (eOfL (xN false) (zX (e2 gMulU (eOfL yW (zX (eC (.str "part")) lNil)) (eC (.int 4))) lNil)))) fun t _ m=> .rt t m)))))))))))))))))))))
noncomputable def F_law:FS:=fnOf 14 bF5
structure Txt (K:PySem.W.Frag) (mg:Str→Option Value):Prop where
 n_all:mg "all"=none
 n_bool:mg "bool"=none
 n_dict:mg "dict"=none
 n_enumerate:mg "enumerate"=none
 n_int:mg "int"=none
 n_isinstance:mg "isinstance"=none
 n_len:mg "len"=none
 n_list:mg "list"=none
 n_max:mg "max"=none
 n_min:mg "min"=none
 n_range:mg "range"=none
 n_set:mg "set"=none
 n_sorted:mg "sorted"=none
 n_str:mg "str"=none
 n_sum:mg "sum"=none
 n_tuple:mg "tuple"=none
 n_zip:mg "zip"=none
 c_MOST_CLAUSES:GI mg "MOST_CLAUSES" 6
 c_MOST_CONDITIONS:GI mg "MOST_CONDITIONS" 4
 c_MOST_DIGIT:GI mg "MOST_DIGIT" 9
 c_MOST_KINDS:GI mg "MOST_KINDS" 4
 c_MOST_LETTERS:GI mg "MOST_LETTERS" 8
 c_MOST_STATES:GI mg "MOST_STATES" 8
 k_Book:ClsT K "Book"
 k_Choices:ClsT K "Choices"
 k_Kind:ClsT K "Kind"
 k_Rule:ClsT K "Rule"
 k_Search:ClsT K "Search"
 k_Sums:ClsT K "Sums"
 k_Waiting:ClsT K "Waiting"
 k_Ways:ClsT K "Ways"
 i_Book:IsC K mg "Book" ksl
 i_Kind:IsC K mg "Kind" ksl
 a_Book_kinds_by_name:NoA K "Book" "kinds_by_name"
 a_Book_name_row:NoA K "Book" "name_row"
 a_Book_state_row:NoA K "Book" "state_row"
 a_Choices_all_ways:NoA K "Choices" "all_ways"
 a_Choices_ways_by_keys:NoA K "Choices" "ways_by_keys"
 a_Kind_clause_row:NoA K "Kind" "clause_row"
 a_Kind_hand_states:NoA K "Kind" "hand_states"
 a_Kind_last_state:NoA K "Kind" "last_state"
 a_Kind_part_kinds:NoA K "Kind" "part_kinds"
 a_Rule_caps:NoA K "Rule" "caps"
 a_Rule_hand_states:NoA K "Rule" "hand_states"
 a_Rule_part_kinds:NoA K "Rule" "part_kinds"
 a_Rule_places:NoA K "Rule" "places"
 a_Rule_state_row:NoA K "Rule" "state_row"
 a_Rule_telling:NoA K "Rule" "telling"
 a_Search_found:NoA K "Search" "found"
 a_Search_rules:NoA K "Search" "rules"
 a_Search_sizes:NoA K "Search" "sizes"
 a_Search_sums:NoA K "Search" "sums"
 a_Search_waiting:NoA K "Search" "waiting"
 a_Sums_chains:NoA K "Sums" "chains"
 a_Sums_greatest:NoA K "Sums" "greatest"
 a_Sums_rule:NoA K "Sums" "rule"
 a_Sums_taken:NoA K "Sums" "taken"
 a_Waiting_heap:NoA K "Waiting" "heap"
 a_Waiting_things_of_size:NoA K "Waiting" "things_of_size"
 a_Ways_choices:NoA K "Ways" "choices"
 a_Ways_leasts:NoA K "Ways" "leasts"
 a_Ways_rules:NoA K "Ways" "rules"
section
variable [Wrl]
variable {P:Program} {w:World} {K:PySem.W.Frag} {mg:Str→Option Value} {base:Heap}
noncomputable abbrev aBc:List Str:=["_law_thing","_law_part"]
theorem aFw:FnScope aBc ["_law_thing"] (defScope xK):=⟨rfl,rfl,rfl,by decide+kernel,rfl,by decide+kernel,by decide+kernel⟩
theorem aAz {f:Addr} {fd:FuncData} (hw:HereP P w) (Fn:Fun K "_law_around_size" "_law_around_size" xK f fd) (T:Txt K mg) {k j:Nat} (hk:0≤k) (hjk:j≤k) {Fr:FS} (Dr:DefOk P w K mg base 1 j "_law_around_size" Fr):FnOk P w K mg base (L2.CX P w) (k+1) f fd ["_law_thing"] (spF K 1 (fnOf 2 (uF Fr))):=
 yV hw Fn aFw (fun cdv A outer s H E c=>(show SSs _ _ _ (uF Fr) from (zV (xA (yQ (aE0 c.room.units) aDo (zY 0) (yZ zW)) (zT (yX zN)) yR)
  (zV (xA (vA (zH call_isi aI4 T.n_isinstance (zZ (yD (yK c.hu) yL (zY 0) zN) (zZ (aWk T.n_str (by decide+kernel)) zW)))) (zT (yX zN)) yR)
  (zT (yX (xV xS xT zN (zH (cr_sum c.calm) bD9 T.n_sum (zZ (xC (own:=[("_law_part",1)]) false c (yN (yD (yK c.hu) yL (zY 0) zN)) (blkOk_by (N:=aBc) (sc:=defScope xK) (by decide+kernel)) ⟨fun _ _ _ _ _=>(zU 1 (c.blk _ _ _ _).nd),(zL 1),fun _ _ _ _ _=>yM,fun _ _ _ _ _=>(zM (c.blk _ _ _ _) Dr (zZ (zY 1) zW) (by omega))⟩) zW)))))))))
theorem jV {f:Addr} {fd:FuncData} (Fn:Fun K "_law_around_size" "_law_around_size" xK f fd):Binds K fd ["_law_thing"] []:=Fn.binds fun _ _ _ _ _ _ us hl=>match us,hl with | [_],_=>rfl
theorem aAx {f:Addr} {fd:FuncData} (hw:HereP P w) (Fn:Fun K "_law_around_size" "_law_around_size" xK f fd) (hm:mg "_law_around_size"=some (.ref f)) (T:Txt K mg):∀ n:Nat,FnOk P w K mg base (L2.CX P w) (1+n) f fd ["_law_thing"] (spF K 1 (yH n))
 | 0=>aAz hw Fn T (k:=0) (j:=0) (Nat.le_refl _) (Nat.zero_le _) (bHd Fn hm (jV Fn) (n:=1))
 | n+1=>aAz hw Fn T (k:=1+n) (j:=1+n) (by omega) (Nat.le_refl _) ⟨f,fd,_,rfl,aAx hw Fn hm T n,hm,Fn.kp,jV Fn⟩
noncomputable abbrev aUh:List Str:=["_law_source_here","_law_many","_law_digit","_law_mixed"]
theorem aQs:FnScope aUh ["_law_source_here","_law_many"] (defScope aAl):=⟨rfl,rfl,rfl,by decide+kernel,rfl,by decide+kernel,by decide+kernel⟩
theorem aRv {f:Addr} {fd:FuncData} (hw:HereP P w) (Fn:Fun K "_law_draw" "_law_draw" aAl f fd) (T:Txt K mg):FnOk P w K mg base (L2.CX P w) 1 f fd ["_law_source_here","_law_many"] (spF K 2 tW):=
 yV hw Fn aQs (fun cdv A outer s H E c=>(show SSs _ _ _ aGn from (zV (aC8 (xV xS xT (yD (yK c.hu) yL (zY 0) zN) zN) (zY 0) zN)
  (zV (xA (yQ aBv xZ (yD (yK c.hu) yL (zY 0) zN) zN) (zV (yS 2 c (xV op_mod aL8 (yB call_int1 aV1 T.n_int (zZ (yD (yK c.hu) yL (zY 0) zN) zW)) (zY 1)))
  (zV (aC8 (xV op_fdiv aOw (yD (yK c.hu) yL (zY 0) zN) (zY 1)) (zY 0) zN)
  (zT (yX (zY 2))))) yR)
  (zV (yS 3 c (xV op_mod aL8 (xV op_pow aTb (xV xS xT (yD (yK c.hu) yL (zY 0) zN) (xV aDz aDn zN (yD (yK c.hu) yL (zY 0) zN))) zN) zN))
  (zT (yX (xV op_mod aL8 (xV op_mod aL8 (xV op_pow aTb (xV xS xT (xV xS xT (xV aDz aDn (zY 3) zN) (xV aDz aDn (xV aDz aDn zN (yD (yK c.hu) yL (zY 0) zN)) (yD (yK c.hu) yL (zY 0) zN))) zN) zN) zN) (zY 1)))))))))
theorem aSf {f:Addr} {fd:FuncData} (Fn:Fun K "_law_draw" "_law_draw" aAl f fd):Binds K fd ["_law_source_here","_law_many"] []:=Fn.binds fun _ _ _ _ _ _ us hl=>match us,hl with | [_,_],_=>rfl
noncomputable abbrev aQ2:List Str:=["_law_script","_law_great","_law_seed","_law_cell"]
theorem aN5:FnScope aQ2 ["_law_script"] (defScope jH):=⟨rfl,rfl,rfl,by decide+kernel,rfl,by decide+kernel,by decide+kernel⟩
theorem aNf {f:Addr} {fd:FuncData} (hw:HereP P w) (Fn:Fun K "_law_source" "_law_source" jH f fd) (T:Txt K mg):FnOk P w K mg base (L2.CX P w) 1 f fd ["_law_script"] (spF K 1 vJ):=
 yV hw Fn aN5 (fun cdv A outer s H E c=>(show SSs _ _ _ aCr from (zV (aB3 (yZ (zZ zN (zZ zN zW))) (yF c.calm (zS (zU 1 c.nd) (zS (zU 2 c.nd) yT))))
  (zV (wJ c (yN (zY 0)) (zU 3 c.nd) (zV (xA (SW.sb (aKx (yQ (aE0 c.room.units) aDo (zY 1) zN) (aFu (yQ bCb xZ (zY 3) (xV op_pow aTb zN zN))))) (zT (yS 1 c (zY 3))) yR)
  (zT (yS 2 c (xV op_mod aL8 (yB call_int1 aV1 T.n_int (zZ (xV xS xT (xV xS xT (xV aDz aDn (zY 2) zN) (zY 3)) zN) zW)) zN)))))
  (zT (yX (yC true (zZ (zY 1) (zZ (zY 2) (zZ zN zW))))))))))
theorem aNp {f:Addr} {fd:FuncData} (Fn:Fun K "_law_source" "_law_source" jH f fd):Binds K fd ["_law_script"] []:=Fn.binds fun _ _ _ _ _ _ us hl=>match us,hl with | [_],_=>rfl
noncomputable abbrev aJc:List Str:=["row","before","middle","behind","state"]
theorem aOx:FnScope aJc ["row"] (defScope jR):=⟨rfl,rfl,rfl,by decide+kernel,rfl,by decide+kernel,by decide+kernel⟩
theorem aPf {f:Addr} {fd:FuncData} (hw:HereP P w) (Fn:Fun K "is_flicker" "is_flicker" jR f fd) (T:Txt K mg):FnOk P w K mg base (L2.CX P w) 1 f fd ["row"] (spF K 1 aBd):=
 yV hw Fn aOx (fun cdv A outer s H E c=>(show SSs _ _ _ aJg from (zV (bAa 1 2 3 false c (zY 0))
  (zT (yX (bC5 (zH (cr_all c.calm) aBm T.n_all (zZ (xC (own:=[("state",4)]) false c (yN (zY 2)) (blkOk_by (N:=aJc) (sc:=defScope jR) (by decide+kernel)) ⟨fun _ _ _ _ _=>(zU 4 (c.blk _ _ _ _).nd),(zL 4),fun _ _ _ _ _=>yM,fun _ _ _ _ _=>(aDp (aBu (c.blk _ _ _ _).hu) aAf (zY 4) (yZ (zZ (zY 1) (zZ (zY 3) zW))))⟩) zW))))))))
theorem aPp {f:Addr} {fd:FuncData} (Fn:Fun K "is_flicker" "is_flicker" jR f fd):Binds K fd ["row"] []:=Fn.binds fun _ _ _ _ _ _ us hl=>match us,hl with | [_],_=>rfl
noncomputable abbrev aDk:List Str:=["self","kind"]
theorem aCc:FnScope aDk ["self","kind"] (defScope xF):=⟨rfl,rfl,rfl,by decide+kernel,rfl,by decide+kernel,by decide+kernel⟩
theorem aCg {f:Addr} {fd:FuncData} (Fn:Fun K "__init__" "UnknownKind.__init__" xF f fd):FnOk P w K mg base (L2.CX P w) 1 f fd ["self","kind"] (spX K "kind"):=
 aVt Fn aCc rfl rfl (fun cdv A outer s H E=>pss_one (ps_ost (pe_var rfl (.inl rfl)) (pe_var rfl (.inl rfl))))
theorem aCj {f:Addr} {fd:FuncData} (Fn:Fun K "__init__" "UnknownKind.__init__" xF f fd):Binds K fd ["self","kind"] []:=Fn.binds fun _ _ _ _ _ _ us hl=>match us,hl with | [_,_],_=>rfl
noncomputable abbrev aSn:List Str:=["thing","letter"]
theorem aWp:FnScope aSn ["thing"] (defScope aBs):=⟨rfl,rfl,rfl,by decide+kernel,rfl,by decide+kernel,by decide+kernel⟩
theorem aWw {f:Addr} {fd:FuncData} (hw:HereP P w) (Fn:Fun K "is_name" "is_name" aBs f fd) (T:Txt K mg):FnOk P w K mg base (L2.CX P w) 1 f fd ["thing"] (spF K 1 uL):=
 yV hw Fn aWp (fun cdv A outer s H E c=>(show SSs _ _ _ aSt from (zV (xA (SW.sb (aDa (uP (vA (zH call_isi aI4 T.n_isinstance (zZ (zY 0) (zZ (aWk T.n_str (by decide+kernel)) zW))))) (qT (uP (aV4 aFf xZ aFf xZ zN (zH yA vV T.n_len (zZ (zY 0) zW)) (aWm T.c_MOST_LETTERS)))))) (zT (yX aBp)) yR)
  (zT (yX (zH (cr_all c.calm) aBm T.n_all (zZ (xC (own:=[("letter",1)]) false c (yN (zY 0)) (blkOk_by (N:=aSn) (sc:=defScope aBs) (by decide+kernel)) ⟨fun _ _ _ _ _=>(zU 1 (c.blk _ _ _ _).nd),(zL 1),fun _ _ _ _ _=>yM,fun _ _ _ _ _=>(aV3 aFf xZ aFf xZ zQ (zY 1) zQ)⟩) zW)))))))
theorem aX7 {f:Addr} {fd:FuncData} (Fn:Fun K "is_name" "is_name" aBs f fd):Binds K fd ["thing"] []:=Fn.binds fun _ _ _ _ _ _ us hl=>match us,hl with | [_],_=>rfl
noncomputable abbrev aIt:List Str:=["self","name"]
theorem aGu:FnScope aIt ["self","name"] (defScope uV):=⟨rfl,rfl,rfl,by decide+kernel,rfl,by decide+kernel,by decide+kernel⟩
theorem aHb {f:Addr} {fd:FuncData} (hw:HereP P w) (Fn:Fun K "kind_named" "Book.kind_named" uV f fd) (T:Txt K mg) (D_UnknownKind___init__:XcOk P w K mg base 1 "UnknownKind" "kind") (D_is_name:DefOk P w K mg base 1 1 "is_name" uL):FnOk P w K mg base (L2.CX P w) 3 f fd ["self","name"] (spF K 2 xB):=
 yV hw Fn aGu (fun cdv A outer s H E c=>(show SSs _ _ _ aC6 from (zV (xA (SW.sb (aDa (uP (vA (zM c D_is_name (zZ (zY 1) zW)))) (qT (yQ (aR8 c.hu) aAf (zY 1) (yY T.k_Book T.a_Book_kinds_by_name (zY 0)))))) (zT (aA4 c D_UnknownKind___init__ (zY 1))) yR)
  (zT (yX (yD (yK c.hu) yL (yY T.k_Book T.a_Book_kinds_by_name (zY 0)) (zY 1)))))))
theorem aHj {f:Addr} {fd:FuncData} (Fn:Fun K "kind_named" "Book.kind_named" uV f fd):Binds K fd ["self","name"] []:=Fn.binds fun _ _ _ _ _ _ us hl=>match us,hl with | [_,_],_=>rfl
noncomputable abbrev aQ4:List Str:=["self"]
theorem aN7:FnScope aQ4 ["self"] (defScope jF):=⟨rfl,rfl,rfl,by decide+kernel,rfl,by decide+kernel,by decide+kernel⟩
theorem aNh {f:Addr} {fd:FuncData} (hw:HereP P w) (Fn:Fun K "states" "Book.states" jF f fd) (T:Txt K mg):FnOk P w K mg base (L2.CX P w) 1 f fd ["self"] (spF K 1 vG):=
 yV hw Fn aN7 (fun cdv A outer s H E c=>(show SSs _ _ _ aHz from (zT (yX (yY T.k_Book T.a_Book_state_row (zY 0))))))
theorem aNr {f:Addr} {fd:FuncData} (Fn:Fun K "states" "Book.states" jF f fd):Binds K fd ["self"] []:=Fn.binds fun _ _ _ _ _ _ us hl=>match us,hl with | [_],_=>rfl
noncomputable abbrev aHk:List Str:=["ways","keys","best","way","row","key"]
theorem aN1:FnScope aHk ["ways","keys"] (defScope tU):=⟨rfl,rfl,rfl,by decide+kernel,rfl,by decide+kernel,by decide+kernel⟩
theorem aNb {f:Addr} {fd:FuncData} (hw:HereP P w) (Fn:Fun K "unlike_ways" "unlike_ways" tU f fd) (T:Txt K mg):FnOk P w K mg base (L2.CX P w) 1 f fd ["ways","keys"] (spF K 2 tP):=
 yV hw Fn aN1 (fun cdv A outer s H E c=>(show SSs _ _ _ aHu from (zV (yS 2 c (jK c.here true))
  (zV (wJ c (yN (zY 0)) (zU 3 c.nd) (zV (yS 4 c (yB (wV c.calm) xR T.n_tuple (zZ (xC (own:=[("key",5)]) false c (yN (zY 1)) (blkOk_by (N:=aHk) (sc:=defScope tU) (by decide+kernel)) ⟨fun _ _ _ _ _=>(zU 5 (c.blk _ _ _ _).nd),(zL 5),fun _ _ _ _ _=>yM,fun _ _ _ _ _=>(yD (ix_B (c.blk _ _ _ _).here (c.blk _ _ _ _).huN (c.blk _ _ _ _).hu) bDd (yD (yK (c.blk _ _ _ _).hu) yL (zY 3) zN) (zY 5))⟩) zW)))
  (zT (xA (SW.sb (aDa (yQ (jZ c.here c.huN) aAe (zY 4) (zY 2)) (qT (yQ aIy xZ (yD (yK c.hu) yL (zY 3) zN) (yD (yK c.hu) yL (yD (aBw c.here c.huN) kJ (zY 2) (zY 4)) zN))))) (zT (qJ c (zY 3) (zY 2) (zY 4))) yR))))
  (zT (aKz 2 (yX (aTe false c (zY 2) T.n_list))))))))
theorem aNl {f:Addr} {fd:FuncData} (Fn:Fun K "unlike_ways" "unlike_ways" tU f fd):Binds K fd ["ways","keys"] []:=Fn.binds fun _ _ _ _ _ _ us hl=>match us,hl with | [_,_],_=>rfl
noncomputable abbrev aHp:List Str:=["self","ways","keys"]
theorem aFz:FnScope aHp ["self","ways","keys"] (defScope vM):=⟨rfl,rfl,rfl,by decide+kernel,rfl,by decide+kernel,by decide+kernel⟩
theorem aGb {f:Addr} {fd:FuncData} (hw:HereP P w) (Fn:Fun K "__init__" "Choices.__init__" vM f fd) (T:Txt K mg) (D_unlike_ways:DefOk P w K mg base 2 1 "unlike_ways" tP):FnOk P w K mg base (L2.CX P w) 2 f fd ["self","ways","keys"] (spF K 3 wK):=
 yV hw Fn aFz (fun cdv A outer s H E c=>(show SSs _ _ _ aBk from (zV (vQ T.k_Choices T.a_Choices_all_ways (zM c D_unlike_ways (zZ (zY 1) (zZ (zY 2) zW))) (zY 0))
  (zT (vQ T.k_Choices T.a_Choices_ways_by_keys (jK c.here true) (zY 0))))))
theorem aGi {f:Addr} {fd:FuncData} (Fn:Fun K "__init__" "Choices.__init__" vM f fd):Binds K fd ["self","ways","keys"] []:=Fn.binds fun _ _ _ _ _ _ us hl=>match us,hl with | [_,_,_],_=>rfl
noncomputable abbrev aHl:List Str:=["rule","found","parts","state","rows","name"]
theorem aN2:FnScope aHl ["rule","found"] (defScope tT):=⟨rfl,rfl,rfl,by decide+kernel,rfl,by decide+kernel,by decide+kernel⟩
theorem aNc {f:Addr} {fd:FuncData} {c0 T0:Addr} (hw:HereP P w) (Fn:Fun K "least_parts" "least_parts" tT f fd) (hcd:fd.code= .ref c0) (tb:LamX.TabB base mg c0 T0) (hp:(T0,(("least_parts":Str)++".<locals>.")++"<lambda>")∈Wrl.tabs) (hu:∀ p∈Wrl.tabs,p.1=T0→p.2=(("least_parts":Str)++".<locals>.")++"<lambda>") (T:Txt K mg):FnOk P w K mg base (L2.CX P w) 1 f fd ["rule","found"] (spF K 2 aA7):=
 bGp hw Fn hcd tb aN2 (fun A outer s H E c L=>(show SSs _ _ _ aHv from (zV (yS 2 c (aTg true))
  (zV (wJ c (yN (yY T.k_Rule T.a_Rule_state_row (zY 0))) (zU 3 c.nd) (zV (aI0 (own:=[("name",5)]) false 4 c (yN (yY T.k_Rule T.a_Rule_part_kinds (zY 0))) (blkOk_by (N:=aHl) (sc:=defScope tT) (by decide+kernel)) ⟨fun _ _ _ _ _=>(zU 5 (c.blk _ _ _ _).nd),(zL 5),fun _ _ _ _ _=>(aDl (yQ (aBu (c.blk _ _ _ _).hu) aAf (zY 3) (yD (yK (c.blk _ _ _ _).hu) yL (zY 1) (zY 5)))),fun _ _ _ _ _=>(yD (yK (c.blk _ _ _ _).hu) yL (yD (yK (c.blk _ _ _ _).hu) yL (zY 1) (zY 5)) (zY 3))⟩)
  (zT (xA (yQ aBv xZ (zH yA vV T.n_len (zZ (zY 4) zW)) zN) (zT (aT3 c (bDk c (zY 4) T.n_min L hp hu) (zY 2) (zY 3))) yR))))
  (zT (bCz 2 (yX (zY 2))))))))
theorem aNm {f:Addr} {fd:FuncData} (Fn:Fun K "least_parts" "least_parts" tT f fd):Binds K fd ["rule","found"] []:=Fn.binds fun _ _ _ _ _ _ us hl=>match us,hl with | [_,_],_=>rfl
noncomputable abbrev aEi:List Str:=["self","name"]
theorem aDb:FnScope aEi ["self","name"] (defScope wZ):=⟨rfl,rfl,rfl,by decide+kernel,rfl,by decide+kernel,by decide+kernel⟩
theorem aDd {f:Addr} {fd:FuncData} (hw:HereP P w) (Fn:Fun K "least_parts_of" "Ways.least_parts_of" wZ f fd) (T:Txt K mg) (D_least_parts:DefOk P w K mg base 2 1 "least_parts" aA7):FnOk P w K mg base (L2.CX P w) 2 f fd ["self","name"] (spF K 2 xP):=
 yV hw Fn aDb (fun cdv A outer s H E c=>(show SSs _ _ _ qL from (zT (yX (zM c D_least_parts (zZ (yD (yK c.hu) yL (yY T.k_Ways T.a_Ways_rules (zY 0)) (zY 1)) (zZ (yY T.k_Ways T.a_Ways_leasts (zY 0)) zW)))))))
theorem aDf {f:Addr} {fd:FuncData} (Fn:Fun K "least_parts_of" "Ways.least_parts_of" wZ f fd):Binds K fd ["self","name"] []:=Fn.binds fun _ _ _ _ _ _ us hl=>match us,hl with | [_,_],_=>rfl
noncomputable abbrev aFc:List Str:=["self","place","size"]
theorem aDq:FnScope aFc ["self"] (defScope wH):=⟨rfl,rfl,rfl,by decide+kernel,rfl,by decide+kernel,by decide+kernel⟩
theorem aE7 {f:Addr} {fd:FuncData} (hw:HereP P w) (Fn:Fun K "raise_last" "Waiting.raise_last" wH f fd) (T:Txt K mg):FnOk P w K mg base (L2.CX P w) 1 f fd ["self"] (spF K 1 vD):=
 yV hw Fn aDq (fun cdv A outer s H E c=>(show SSs _ _ _ aA1 from (zV (yS 1 c (xV op_sub aL7 (zH yA vV T.n_len (zZ (yY T.k_Waiting T.a_Waiting_heap (zY 0)) zW)) zN))
  (zV (yS 2 c (yD (yK c.hu) yL (yY T.k_Waiting T.a_Waiting_heap (zY 0)) (zY 1)))
  (zV (aEz 400 c (SW.sb (aKx (yQ aBv xZ (zY 1) zN) (aFu (yQ aBv xZ (yD (yK c.hu) yL (yY T.k_Waiting T.a_Waiting_heap (zY 0)) (xV op_fdiv aOw (xV op_sub aL7 (zY 1) zN) zN)) (zY 2))))) (zV (aC8 (yD (yK c.hu) yL (yY T.k_Waiting T.a_Waiting_heap (zY 0)) (xV op_fdiv aOw (xV op_sub aL7 (zY 1) zN) zN)) (yY T.k_Waiting T.a_Waiting_heap (zY 0)) (zY 1))
  (zT (yS 1 c (xV op_fdiv aOw (xV op_sub aL7 (zY 1) zN) zN)))))
  (zT (aC8 (zY 2) (yY T.k_Waiting T.a_Waiting_heap (zY 0)) (zY 1))))))))
theorem aEd {f:Addr} {fd:FuncData} (Fn:Fun K "raise_last" "Waiting.raise_last" wH f fd):Binds K fd ["self"] []:=Fn.binds fun _ _ _ _ _ _ us hl=>match us,hl with | [_],_=>rfl
noncomputable abbrev aNv:List Str:=["self","size","thing"]
theorem aLc:FnScope aNv ["self","size","thing"] (defScope tE):=⟨rfl,rfl,rfl,by decide+kernel,rfl,by decide+kernel,by decide+kernel⟩
theorem aLy {f:Addr} {fd:FuncData} (hw:HereP P w) (Fn:Fun K "wait" "Waiting.wait" tE f fd) (T:Txt K mg) (D_Waiting_raise_last:MethOk P w K mg base 1 1 "Waiting" "raise_last" vD):FnOk P w K mg base (L2.CX P w) 2 f fd ["self","size","thing"] (spF K 3 vE):=
 yV hw Fn aLc (fun cdv A outer s H E c=>(show SSs _ _ _ aFr from (zV (xA (yQ (aR8 c.hu) aAf (zY 1) (yY T.k_Waiting T.a_Waiting_things_of_size (zY 0))) (zV (aT3 c (yC true zW) (yY T.k_Waiting T.a_Waiting_things_of_size (zY 0)) (zY 1))
  (zV (wB (qH PySem.F.plainAttrs_list PySem.F.slot_list_append PySem.F.type_list_append mt_append jT (yY T.k_Waiting T.a_Waiting_heap (zY 0)) (zZ (zY 1) zW)))
  (zT (wB (aAh c D_Waiting_raise_last (zY 0)))))) yR)
  (zT (wB (qH PySem.F.plainAttrs_list PySem.F.slot_list_append PySem.F.type_list_append mt_append jT (yD (yK c.hu) yL (yY T.k_Waiting T.a_Waiting_things_of_size (zY 0)) (zY 1)) (zZ (zY 2) zW)))))))
theorem aMb {f:Addr} {fd:FuncData} (Fn:Fun K "wait" "Waiting.wait" tE f fd):Binds K fd ["self","size","thing"] []:=Fn.binds fun _ _ _ _ _ _ us hl=>match us,hl with | [_,_,_],_=>rfl
noncomputable abbrev aNw:List Str:=["self","name","state","many","size","chain","key"]
theorem aLd:FnScope aNw ["self","name","state","many","size","chain"] (defScope tD):=⟨rfl,rfl,rfl,by decide+kernel,rfl,by decide+kernel,by decide+kernel⟩
theorem aLz {f:Addr} {fd:FuncData} (hw:HereP P w) (Fn:Fun K "offer" "Search.offer" tD f fd) (T:Txt K mg) (D_Waiting_wait:MethOk P w K mg base 3 2 "Waiting" "wait" vE):FnOk P w K mg base (L2.CX P w) 3 f fd ["self","name","state","many","size","chain"] (spF K 6 uJ):=
 yV hw Fn aLd (fun cdv A outer s H E c=>(show SSs _ _ _ aFs from (zV (yS 6 c (yZ (zZ (zY 2) (zZ (zY 3) zW))))
  (zT (xA (SW.sb (aDa (yQ (jZ c.here c.huN) aAe (zY 6) (yD (yK c.hu) yL (yY T.k_Search T.a_Search_sizes (zY 0)) (zY 1))) (qT (yQ aIy xZ (zY 4) (yD (aBw c.here c.huN) kJ (yD (yK c.hu) yL (yY T.k_Search T.a_Search_sizes (zY 0)) (zY 1)) (zY 6)))))) (zV (qJ c (zY 4) (yD (yK c.hu) yL (yY T.k_Search T.a_Search_sizes (zY 0)) (zY 1)) (zY 6))
  (zT (wB (xU c D_Waiting_wait (yY T.k_Search T.a_Search_waiting (zY 0)) (zZ (zY 4) (zZ (yZ (zZ (zY 1) (zZ (zY 2) (zZ (zY 3) (zZ (zY 5) zW))))) zW)))))) yR)))))
theorem aMc {f:Addr} {fd:FuncData} (Fn:Fun K "offer" "Search.offer" tD f fd):Binds K fd ["self","name","state","many","size","chain"] []:=Fn.binds fun _ _ _ _ _ _ us hl=>match us,hl with | [_,_,_,_,_,_],_=>rfl
noncomputable abbrev aMn:List Str:=["self","rule","greatest"]
theorem aJr:FnScope aMn ["self","rule","greatest"] (defScope uA):=⟨rfl,rfl,rfl,by decide+kernel,rfl,by decide+kernel,by decide+kernel⟩
theorem aK2 {f:Addr} {fd:FuncData} (hw:HereP P w) (Fn:Fun K "__init__" "Sums.__init__" uA f fd) (T:Txt K mg):FnOk P w K mg base (L2.CX P w) 1 f fd ["self","rule","greatest"] (spF K 3 kR):=
 yV hw Fn aJr (fun cdv A outer s H E c=>(show SSs _ _ _ aEu from (zV (vQ T.k_Sums T.a_Sums_rule (zY 1) (zY 0))
  (zV (vQ T.k_Sums T.a_Sums_greatest (zY 2) (zY 0))
  (zV (vQ T.k_Sums T.a_Sums_chains (bAp c (yZ (zZ (xV aDx aB4 (yZ (zZ zN zW)) (zH yA vV T.n_len (zZ (yY T.k_Rule T.a_Rule_state_row (zY 1)) zW))) (zZ zN (zZ aBp zW)))) (yZ (zZ zN (zZ qB zW)))) (zY 0))
  (zT (vQ T.k_Sums T.a_Sums_taken (jK c.here true) (zY 0))))))))
theorem aKe {f:Addr} {fd:FuncData} (Fn:Fun K "__init__" "Sums.__init__" uA f fd):Binds K fd ["self","rule","greatest"] []:=Fn.binds fun _ _ _ _ _ _ us hl=>match us,hl with | [_,_,_],_=>rfl
noncomputable abbrev aHo:List Str:=["self"]
theorem aFy:FnScope aHo ["self"] (defScope vN):=⟨rfl,rfl,rfl,by decide+kernel,rfl,by decide+kernel,by decide+kernel⟩
theorem aGa {f:Addr} {fd:FuncData} (hw:HereP P w) (Fn:Fun K "__init__" "Waiting.__init__" vN f fd) (T:Txt K mg):FnOk P w K mg base (L2.CX P w) 1 f fd ["self"] (spF K 1 wL):=
 yV hw Fn aFy (fun cdv A outer s H E c=>(show SSs _ _ _ aBj from (zV (vQ T.k_Waiting T.a_Waiting_things_of_size (aTg true) (zY 0))
  (zT (vQ T.k_Waiting T.a_Waiting_heap (yC true zW) (zY 0))))))
theorem aGh {f:Addr} {fd:FuncData} (Fn:Fun K "__init__" "Waiting.__init__" vN f fd):Binds K fd ["self"] []:=Fn.binds fun _ _ _ _ _ _ us hl=>match us,hl with | [_],_=>rfl
noncomputable abbrev tQ:List Str:=["self","rules","among","greatest","name","rule","state"]
theorem aGt:FnScope tQ ["self","rules","among","greatest"] (defScope xQ):=⟨rfl,rfl,rfl,by decide+kernel,rfl,by decide+kernel,by decide+kernel⟩
theorem aHa {f:Addr} {fd:FuncData} (hw:HereP P w) (Fn:Fun K "__init__" "Search.__init__" xQ f fd) (T:Txt K mg) (D_Search_offer:MethOk P w K mg base 6 3 "Search" "offer" uJ) (D_Sums___init__:InitOk P w K mg base 2 1 "Sums" kR) (D_Waiting___init__:InitOk P w K mg base 0 1 "Waiting" wL):FnOk P w K mg base (L2.CX P w) 4 f fd ["self","rules","among","greatest"] (spF K 4 tL):=
 yV hw Fn aGt (fun cdv A outer s H E c=>(show SSs _ _ _ aC5 from (zV (vQ T.k_Search T.a_Search_rules (zY 1) (zY 0))
  (zV (vQ T.k_Search T.a_Search_sums (aB5 (own:=[("name",4),("rule",5)]) false c (vB c.here (zY 1)) (blkOk_by (N:=tQ) (sc:=defScope xQ) (by decide+kernel)) ⟨fun _ _ _ _ _=>(yF (c.blk _ _ _ _).calm (zS (zU 4 (c.blk _ _ _ _).nd) (zS (zU 5 (c.blk _ _ _ _).nd) yT))),(qA (yJ (zL 4) (yJ (zL 5) tK))),fun _ _ _ _ _=>yM,fun _ _ _ _ _=>(zY 4)⟩ (fun _ _ _ _ _=>(qE false (c.blk _ _ _ _) D_Sums___init__ (zZ (zY 5) (zZ (zY 3) zW))))) (zY 0))
  (zV (vQ T.k_Search T.a_Search_found (aB5 (own:=[("name",4)]) false c (yN (zY 1)) (blkOk_by (N:=tQ) (sc:=defScope xQ) (by decide+kernel)) ⟨fun _ _ _ _ _=>(zU 4 (c.blk _ _ _ _).nd),(zL 4),fun _ _ _ _ _=>yM,fun _ _ _ _ _=>(zY 4)⟩ (fun _ _ _ _ _=>(jK (c.blk _ _ _ _).here true))) (zY 0))
  (zV (vQ T.k_Search T.a_Search_sizes (aB5 (own:=[("name",4)]) false c (yN (zY 1)) (blkOk_by (N:=tQ) (sc:=defScope xQ) (by decide+kernel)) ⟨fun _ _ _ _ _=>(zU 4 (c.blk _ _ _ _).nd),(zL 4),fun _ _ _ _ _=>yM,fun _ _ _ _ _=>(zY 4)⟩ (fun _ _ _ _ _=>(jK (c.blk _ _ _ _).here true))) (zY 0))
  (zV (vQ T.k_Search T.a_Search_waiting (aV2 false c D_Waiting___init__) (zY 0))
  (zT (wJ c (vB c.here (zY 1)) (yF c.calm (zS (zU 4 c.nd) (zS (zU 5 c.nd) yT))) (zT (wJ c (yN (yY T.k_Rule T.a_Rule_hand_states (zY 5))) (zU 6 c.nd) (zT (wB (xU c D_Search_offer (zY 0) (zZ (zY 4) (zZ (zY 6) (zZ (zH ((call_min2 c.calm).or (cr_min c.calm)) aUz T.n_min (zZ (aXy (yQ (aBu c.hu) aAf (zY 6) (zY 2)) zN zN) (zZ (zY 3) zW))) (zZ zN (zZ qB zW)))))))))))))))))))
theorem aHi {f:Addr} {fd:FuncData} (Fn:Fun K "__init__" "Search.__init__" xQ f fd):Binds K fd ["self","rules","among","greatest"] []:=Fn.binds fun _ _ _ _ _ _ us hl=>match us,hl with | [_,_,_,_],_=>rfl
noncomputable abbrev aFe:List Str:=["self","counts","state","place"]
theorem aDs:FnScope aFe ["self","counts","state"] (defScope wD):=⟨rfl,rfl,rfl,by decide+kernel,rfl,by decide+kernel,by decide+kernel⟩
theorem aE9 {f:Addr} {fd:FuncData} (hw:HereP P w) (Fn:Fun K "with_one_more" "Rule.with_one_more" wD f fd) (T:Txt K mg):FnOk P w K mg base (L2.CX P w) 1 f fd ["self","counts","state"] (spF K 3 yG):=
 yV hw Fn aDs (fun cdv A outer s H E c=>(show SSs _ _ _ aA3 from (zV (yS 3 c (yD (yK c.hu) yL (yY T.k_Rule T.a_Rule_places (zY 0)) (zY 2)))
  (zV (xA (yQ (aE0 c.room.units) aDo (yD (yK c.hu) yL (zY 1) (zY 3)) (yD (yK c.hu) yL (yY T.k_Rule T.a_Rule_caps (zY 0)) (zY 3))) (zT (yX (zY 1))) yR)
  (zT (yX (xV xS xT (xV xS xT (aGp false (zY 1) aOs (aI3 (zY 3))) (yZ (zZ (xV xS xT (yD (yK c.hu) yL (zY 1) (zY 3)) zN) zW))) (aGp false (zY 1) (aI3 (xV xS xT (zY 3) zN)) aOs))))))))
theorem aEf {f:Addr} {fd:FuncData} (Fn:Fun K "with_one_more" "Rule.with_one_more" wD f fd):Binds K fd ["self","counts","state"] []:=Fn.binds fun _ _ _ _ _ _ us hl=>match us,hl with | [_,_,_],_=>rfl
noncomputable abbrev aFd:List Str:=["self","places","state","many","size","branch","better","counts","number","has_part","size_ahead","chain","place"]
theorem aDr:FnScope aFd ["self","places","state","many","size","branch"] (defScope wG):=⟨rfl,rfl,rfl,by decide+kernel,rfl,by decide+kernel,by decide+kernel⟩
theorem aE8 {f:Addr} {fd:FuncData} (hw:HereP P w) (Fn:Fun K "with_one_more" "Sums.with_one_more" wG f fd) (T:Txt K mg) (D_Rule_with_one_more:MethOk P w K mg base 3 1 "Rule" "with_one_more" yG):FnOk P w K mg base (L2.CX P w) 2 f fd ["self","places","state","many","size","branch"] (spF K 6 vC):=
 yV hw Fn aDr (fun cdv A outer s H E c=>(show SSs _ _ _ aA2 from (zV (yS 6 c (yC true zW))
  (zV (wJ c (yN (zY 1)) (yF c.calm (zS (zU 7 c.nd) (zS (zU 8 c.nd) (zS (zU 9 c.nd) yT)))) (zV (aB3 (yD (aBw c.here c.huN) kJ (yY T.k_Sums T.a_Sums_chains (zY 0)) (yZ (zZ (zY 7) (zZ (zY 8) (zZ (zY 9) zW))))) (aBl c.calm (zS (zU 10 c.nd) (zS (zU 11 c.nd) yT))))
  (zV (yS 12 c (yZ (zZ (xU c D_Rule_with_one_more (yY T.k_Sums T.a_Sums_rule (zY 0)) (zZ (zY 7) (zZ (zY 2) zW))) (zZ (zH ((call_min2 c.calm).or (cr_min c.calm)) aUz T.n_min (zZ (xV xS xT (zY 8) (zY 3)) (zZ (yY T.k_Sums T.a_Sums_greatest (zY 0)) zW))) (zZ aBp zW)))))
  (zT (xA (SW.sb (aDa (yQ (jZ c.here c.huN) aAe (zY 12) (yY T.k_Sums T.a_Sums_chains (zY 0))) (qT (yQ aIy xZ (xV xS xT (zY 10) (zY 4)) (yD (yK c.hu) yL (yD (aBw c.here c.huN) kJ (yY T.k_Sums T.a_Sums_chains (zY 0)) (zY 12)) zN))))) (zV (qJ c (yZ (zZ (xV xS xT (zY 10) (zY 4)) (zZ (yZ (zZ (zY 5) (zZ (zY 11) zW))) zW))) (yY T.k_Sums T.a_Sums_chains (zY 0)) (zY 12))
  (zT (wB (qH PySem.F.plainAttrs_list PySem.F.slot_list_append PySem.F.type_list_append mt_append jT (zY 6) (zZ (zY 12) zW))))) yR)))))
  (zT (aIu 6 (yX (zY 6))))))))
theorem aEe {f:Addr} {fd:FuncData} (Fn:Fun K "with_one_more" "Sums.with_one_more" wG f fd):Binds K fd ["self","places","state","many","size","branch"] []:=Fn.binds fun _ _ _ _ _ _ us hl=>match us,hl with | [_,_,_,_,_,_],_=>rfl
noncomputable abbrev aUi:List Str:=["self","state","many","size","branch","reached","fresh"]
theorem aQt:FnScope aUi ["self","state","many","size","branch"] (defScope aAm):=⟨rfl,rfl,rfl,by decide+kernel,rfl,by decide+kernel,by decide+kernel⟩
theorem aRw {f:Addr} {fd:FuncData} (hw:HereP P w) (Fn:Fun K "take" "Sums.take" aAm f fd) (T:Txt K mg) (D_Sums_with_one_more:MethOk P w K mg base 6 2 "Sums" "with_one_more" vC):FnOk P w K mg base (L2.CX P w) 3 f fd ["self","state","many","size","branch"] (spF K 5 aCo):=
 yV hw Fn aQt (fun cdv A outer s H E c=>(show SSs _ _ _ aMw from (zV (yS 5 c (yC true zW))
  (zV (xA (yQ (jZ c.here c.huN) aAe (yZ (zZ (zY 1) (zZ (zY 2) zW))) (yY T.k_Sums T.a_Sums_taken (zY 0))) (zV (qJ c aBp (yY T.k_Sums T.a_Sums_taken (zY 0)) (yZ (zZ (zY 1) (zZ (zY 2) zW))))
  (zV (yS 6 c (yB (aOg c.here c.calm) aQi T.n_list (zZ (yY T.k_Sums T.a_Sums_chains (zY 0)) zW)))
  (zT (aEz 400 c (yQ aBv xZ (zH yA vV T.n_len (zZ (zY 6) zW)) zN) (zV (yS 6 c (xU c D_Sums_with_one_more (zY 0) (zZ (zY 6) (zZ (zY 1) (zZ (zY 2) (zZ (zY 3) (zZ (zY 4) zW)))))))
  (zT (wB (qH PySem.F.plainAttrs_list PySem.F.slot_list_extend PySem.F.type_list_extend aF4 aC9 (zY 5) (zZ (zY 6) zW))))))))) yR)
  (zT (aIu 5 (yX (zY 5))))))))
theorem aSg {f:Addr} {fd:FuncData} (Fn:Fun K "take" "Sums.take" aAm f fd):Binds K fd ["self","state","many","size","branch"] []:=Fn.binds fun _ _ _ _ _ _ us hl=>match us,hl with | [_,_,_,_,_],_=>rfl
noncomputable abbrev aQ3:List Str:=["self","name","state","many","size","branch","above","rule","sums","counts","number","has_part","size_of_parts","chain"]
theorem aN6:FnScope aQ3 ["self","name","state","many","size","branch"] (defScope jG):=⟨rfl,rfl,rfl,by decide+kernel,rfl,by decide+kernel,by decide+kernel⟩
theorem aNg {f:Addr} {fd:FuncData} (hw:HereP P w) (Fn:Fun K "take" "Search.take" jG f fd) (T:Txt K mg) (D_Search_offer:MethOk P w K mg base 6 3 "Search" "offer" uJ) (D_Sums_take:MethOk P w K mg base 5 3 "Sums" "take" aCo):FnOk P w K mg base (L2.CX P w) 4 f fd ["self","name","state","many","size","branch"] (spF K 6 aA9):=
 yV hw Fn aN6 (fun cdv A outer s H E c=>(show SSs _ _ _ aHy from (zT (wJ c (vB c.here (yY T.k_Search T.a_Search_rules (zY 0))) (yF c.calm (zS (zU 6 c.nd) (zS (zU 7 c.nd) yT))) (zT (xA (SW.sb (aKx (yQ (aBu c.hu) aAf (zY 1) (yY T.k_Rule T.a_Rule_part_kinds (zY 7))) (aFu (yQ (aBu c.hu) aAf (zY 2) (yY T.k_Rule T.a_Rule_places (zY 7)))))) (zV (yS 8 c (yD (yK c.hu) yL (yY T.k_Search T.a_Search_sums (zY 0)) (zY 6)))
  (zT (wJ c (yN (xU c D_Sums_take (zY 8) (zZ (zY 2) (zZ (zY 3) (zZ (zY 4) (zZ (zY 5) zW)))))) (yF c.calm (zS (zU 9 c.nd) (zS (zU 10 c.nd) (zS (zU 11 c.nd) yT)))) (zV (aB3 (yD (aBw c.here c.huN) kJ (yY T.k_Sums T.a_Sums_chains (zY 8)) (yZ (zZ (zY 9) (zZ (zY 10) (zZ (zY 11) zW))))) (aBl c.calm (zS (zU 12 c.nd) (zS (zU 13 c.nd) yT))))
  (zT (wB (xU c D_Search_offer (zY 0) (zZ (zY 6) (zZ (yD (aBw c.here c.huN) kJ (yY T.k_Rule T.a_Rule_telling (zY 7)) (zY 9)) (zZ (zY 10) (zZ (xV xS xT (zY 12) zN) (zZ (zY 13) zW)))))))))))) yR))))))
theorem aNq {f:Addr} {fd:FuncData} (Fn:Fun K "take" "Search.take" jG f fd):Binds K fd ["self","name","state","many","size","branch"] []:=Fn.binds fun _ _ _ _ _ _ us hl=>match us,hl with | [_,_,_,_,_,_],_=>rfl
noncomputable abbrev aHn:List Str:=["self"]
theorem aFx:FnScope aHn ["self"] (defScope vP):=⟨rfl,rfl,rfl,by decide+kernel,rfl,by decide+kernel,by decide+kernel⟩
theorem aG9 {f:Addr} {fd:FuncData} (hw:HereP P w) (Fn:Fun K "is_empty" "Waiting.is_empty" vP f fd) (T:Txt K mg):FnOk P w K mg base (L2.CX P w) 1 f fd ["self"] (spF K 1 wM):=
 yV hw Fn aFx (fun cdv A outer s H E c=>(show SSs _ _ _ aBi from (zT (yX (aDp (aE0 c.room.units) aDo (zH yA vV T.n_len (zZ (yY T.k_Waiting T.a_Waiting_heap (zY 0)) zW)) zN)))))
theorem aGg {f:Addr} {fd:FuncData} (Fn:Fun K "is_empty" "Waiting.is_empty" vP f fd):Binds K fd ["self"] []:=Fn.binds fun _ _ _ _ _ _ us hl=>match us,hl with | [_],_=>rfl
noncomputable abbrev aDj:List Str:=["self","place","left","right"]
theorem aCb:FnScope aDj ["self","place"] (defScope xG):=⟨rfl,rfl,rfl,by decide+kernel,rfl,by decide+kernel,by decide+kernel⟩
theorem aCf {f:Addr} {fd:FuncData} (hw:HereP P w) (Fn:Fun K "lesser_below" "Waiting.lesser_below" xG f fd) (T:Txt K mg):FnOk P w K mg base (L2.CX P w) 1 f fd ["self","place"] (spF K 2 xE):=
 yV hw Fn aCb (fun cdv A outer s H E c=>(show SSs _ _ _ kK from (zV (bC3 2 3 c (zZ (xV xS xT (xV aDz aDn zN (zY 1)) zN) (zZ (xV xS xT (xV aDz aDn zN (zY 1)) zN) zW)))
  (zV (xA (yQ bCb xZ (zY 2) (zH yA vV T.n_len (zZ (yY T.k_Waiting T.a_Waiting_heap (zY 0)) zW))) (zT (yX qB)) yR)
  (zV (xA (SW.sb (aKx (yQ aIy xZ (zY 3) (zH yA vV T.n_len (zZ (yY T.k_Waiting T.a_Waiting_heap (zY 0)) zW))) (aFu (yQ aIy xZ (yD (yK c.hu) yL (yY T.k_Waiting T.a_Waiting_heap (zY 0)) (zY 3)) (yD (yK c.hu) yL (yY T.k_Waiting T.a_Waiting_heap (zY 0)) (zY 2)))))) (zT (yX (zY 3))) yR)
  (zT (yX (zY 2))))))))
theorem aCi {f:Addr} {fd:FuncData} (Fn:Fun K "lesser_below" "Waiting.lesser_below" xG f fd):Binds K fd ["self","place"] []:=Fn.binds fun _ _ _ _ _ _ us hl=>match us,hl with | [_,_],_=>rfl
noncomputable abbrev aEj:List Str:=["self","place","size","below"]
theorem aDc:FnScope aEj ["self"] (defScope wY):=⟨rfl,rfl,rfl,by decide+kernel,rfl,by decide+kernel,by decide+kernel⟩
theorem aDe {f:Addr} {fd:FuncData} (hw:HereP P w) (Fn:Fun K "lower_first" "Waiting.lower_first" wY f fd) (T:Txt K mg) (D_Waiting_lesser_below:MethOk P w K mg base 2 1 "Waiting" "lesser_below" xE):FnOk P w K mg base (L2.CX P w) 2 f fd ["self"] (spF K 1 vH):=
 yV hw Fn aDc (fun cdv A outer s H E c=>(show SSs _ _ _ qK from (zV (yS 1 c zN)
  (zV (yS 2 c (yD (yK c.hu) yL (yY T.k_Waiting T.a_Waiting_heap (zY 0)) (zY 1)))
  (zV (yS 3 c (xU c D_Waiting_lesser_below (zY 0) (zZ (zY 1) zW)))
  (zV (aEz 400 c (SW.sb (aKx (yQ op_notN aOu (zY 3) qB) (aFu (yQ aIy xZ (yD (yK c.hu) yL (yY T.k_Waiting T.a_Waiting_heap (zY 0)) (zY 3)) (zY 2))))) (zV (aC8 (yD (yK c.hu) yL (yY T.k_Waiting T.a_Waiting_heap (zY 0)) (zY 3)) (yY T.k_Waiting T.a_Waiting_heap (zY 0)) (zY 1))
  (zV (yS 1 c (zY 3))
  (zT (yS 3 c (xU c D_Waiting_lesser_below (zY 0) (zZ (zY 1) zW)))))))
  (zT (aC8 (zY 2) (yY T.k_Waiting T.a_Waiting_heap (zY 0)) (zY 1)))))))))
theorem aDg {f:Addr} {fd:FuncData} (Fn:Fun K "lower_first" "Waiting.lower_first" wY f fd):Binds K fd ["self"] []:=Fn.binds fun _ _ _ _ _ _ us hl=>match us,hl with | [_],_=>rfl
noncomputable abbrev aMm:List Str:=["self","size","last"]
theorem aJq:FnScope aMm ["self"] (defScope uB):=⟨rfl,rfl,rfl,by decide+kernel,rfl,by decide+kernel,by decide+kernel⟩
theorem aK1 {f:Addr} {fd:FuncData} (hw:HereP P w) (Fn:Fun K "leave" "Waiting.leave" uB f fd) (T:Txt K mg) (D_Waiting_lower_first:MethOk P w K mg base 1 2 "Waiting" "lower_first" vH):FnOk P w K mg base (L2.CX P w) 3 f fd ["self"] (spF K 1 uR):=
 yV hw Fn aJq (fun cdv A outer s H E c=>(show SSs _ _ _ aEt from (zV (yS 1 c (yD (yK c.hu) yL (yY T.k_Waiting T.a_Waiting_heap (zY 0)) zN))
  (zV (yS 2 c (bAo PySem.F.plainAttrs_list PySem.F.slot_list_pop PySem.F.type_list_pop mt_pop bDa (yY T.k_Waiting T.a_Waiting_heap (zY 0))))
  (zV (xA (yQ aBv xZ (zH yA vV T.n_len (zZ (yY T.k_Waiting T.a_Waiting_heap (zY 0)) zW)) zN) (zV (aC8 (zY 2) (yY T.k_Waiting T.a_Waiting_heap (zY 0)) zN)
  (zT (wB (aAh c D_Waiting_lower_first (zY 0))))) yR)
  (zT (yX (yZ (zZ (zY 1) (zZ (bDj (yY T.k_Waiting T.a_Waiting_things_of_size (zY 0)) (zY 1)) zW))))))))))
theorem aKd {f:Addr} {fd:FuncData} (Fn:Fun K "leave" "Waiting.leave" uB f fd):Binds K fd ["self"] []:=Fn.binds fun _ _ _ _ _ _ us hl=>match us,hl with | [_],_=>rfl
noncomputable abbrev aUe:List Str:=["chain","parts","part"]
theorem aQk:FnScope aUe ["chain"] (defScope aAi):=⟨rfl,rfl,rfl,by decide+kernel,rfl,by decide+kernel,by decide+kernel⟩
theorem aRn {f:Addr} {fd:FuncData} (hw:HereP P w) (Fn:Fun K "unchained" "unchained" aAi f fd) (T:Txt K mg):FnOk P w K mg base (L2.CX P w) 1 f fd ["chain"] (spF K 1 aCk):=
 yV hw Fn aQk (fun cdv A outer s H E c=>(show SSs _ _ _ aMo from (zV (yS 1 c (yC true zW))
  (zV (aEz 400 c (yQ op_notN aOu (zY 0) qB) (zV (aB3 (zY 0) (aBl c.calm (zS (zU 2 c.nd) (zS (zU 0 c.nd) yT))))
  (zT (wB (qH PySem.F.plainAttrs_list PySem.F.slot_list_append PySem.F.type_list_append mt_append jT (zY 1) (zZ (zY 2) zW))))))
  (zT (yX (yB (wV c.calm) xR T.n_tuple (zZ (zY 1) zW))))))))
theorem aS7 {f:Addr} {fd:FuncData} (Fn:Fun K "unchained" "unchained" aAi f fd):Binds K fd ["chain"] []:=Fn.binds fun _ _ _ _ _ _ us hl=>match us,hl with | [_],_=>rfl
noncomputable abbrev aIs:List Str:=["self","size","rows","name","state","many","chain","branch"]
theorem aGs:FnScope aIs ["self"] (defScope uY):=⟨rfl,rfl,rfl,by decide+kernel,rfl,by decide+kernel,by decide+kernel⟩
theorem aH9 {f:Addr} {fd:FuncData} (hw:HereP P w) (Fn:Fun K "find_all" "Search.find_all" uY f fd) (T:Txt K mg) (D_Search_take:MethOk P w K mg base 6 4 "Search" "take" aA9) (D_Waiting_is_empty:MethOk P w K mg base 1 1 "Waiting" "is_empty" wM) (D_Waiting_leave:MethOk P w K mg base 1 3 "Waiting" "leave" uR) (D_unchained:DefOk P w K mg base 1 1 "unchained" aCk):FnOk P w K mg base (L2.CX P w) 5 f fd ["self"] (spF K 1 tM):=
 yV hw Fn aGs (fun cdv A outer s H E c=>(show SSs _ _ _ aC4 from (zT (aEz 400 c (uP (vA (aAh c D_Waiting_is_empty (yY T.k_Search T.a_Search_waiting (zY 0))))) (zV (aB3 (aAh c D_Waiting_leave (yY T.k_Search T.a_Search_waiting (zY 0))) (aBl c.calm (zS (zU 1 c.nd) (zS (zU 2 c.nd) yT))))
  (zT (bD1 c (zY 2) (yF c.calm (zS (zU 3 c.nd) (zS (zU 4 c.nd) (zS (zU 5 c.nd) (zS (zU 6 c.nd) yT))))) (zT (xA (yQ (jZ c.here c.huN) aAe (yZ (zZ (zY 4) (zZ (zY 5) zW))) (yD (yK c.hu) yL (yY T.k_Search T.a_Search_found (zY 0)) (zY 3))) (zV (yS 7 c (yZ (zZ (zY 3) (zZ (aXy (yQ op_isN aOv (zY 6) qB) (zY 4) (zM c D_unchained (zZ (zY 6) zW))) zW))))
  (zV (qJ c (yZ (zZ (zY 1) (zZ (zY 7) zW))) (yD (yK c.hu) yL (yY T.k_Search T.a_Search_found (zY 0)) (zY 3)) (yZ (zZ (zY 4) (zZ (zY 5) zW))))
  (zT (wB (xU c D_Search_take (zY 0) (zZ (zY 3) (zZ (zY 4) (zZ (zY 5) (zZ (zY 1) (zZ (zY 7) zW)))))))))) yR)))))))))
theorem aHh {f:Addr} {fd:FuncData} (Fn:Fun K "find_all" "Search.find_all" uY f fd):Binds K fd ["self"] []:=Fn.binds fun _ _ _ _ _ _ us hl=>match us,hl with | [_],_=>rfl
noncomputable abbrev aMg:List Str:=["rules","among","greatest","search"]
theorem aJm:FnScope aMg ["rules","among","greatest"] (defScope uD):=⟨rfl,rfl,rfl,by decide+kernel,rfl,by decide+kernel,by decide+kernel⟩
theorem aJx {f:Addr} {fd:FuncData} (hw:HereP P w) (Fn:Fun K "least_counted" "least_counted" uD f fd) (T:Txt K mg) (D_Search___init__:InitOk P w K mg base 3 4 "Search" tL) (D_Search_find_all:MethOk P w K mg base 1 5 "Search" "find_all" tM):FnOk P w K mg base (L2.CX P w) 6 f fd ["rules","among","greatest"] (spF K 3 kW):=
 yV hw Fn aJm (fun cdv A outer s H E c=>(show SSs _ _ _ aEp from (zV (yS 3 c (qE false c D_Search___init__ (zZ (zY 0) (zZ (zY 1) (zZ (zY 2) zW)))))
  (zV (wB (aAh c D_Search_find_all (zY 3)))
  (zT (yX (bDo (yY T.k_Search T.a_Search_found (zY 3)))))))))
theorem aK9 {f:Addr} {fd:FuncData} (Fn:Fun K "least_counted" "least_counted" uD f fd):Binds K fd ["rules","among","greatest"] []:=Fn.binds fun _ _ _ _ _ _ us hl=>match us,hl with | [_,_,_],_=>rfl
noncomputable abbrev aD4:List Str:=["rules","found","name","rows","row","state","many"]
theorem aI5:FnScope aD4 ["rules"] (defScope vU):=⟨rfl,rfl,rfl,by decide+kernel,rfl,by decide+kernel,by decide+kernel⟩
theorem aIi {f:Addr} {fd:FuncData} (hw:HereP P w) (Fn:Fun K "least_branches" "least_branches" vU f fd) (T:Txt K mg) (D_least_counted:DefOk P w K mg base 3 6 "least_counted" kW):FnOk P w K mg base (L2.CX P w) 7 f fd ["rules"] (spF K 1 jY):=
 yV hw Fn aI5 (fun cdv A outer s H E c=>(show SSs _ _ _ aD6 from (zV (yS 1 c (zM c D_least_counted (zZ (zY 0) (zZ (yC false zW) (zZ zN zW)))))
  (zT (yX (aB5 (own:=[("name",2),("rows",3)]) false c (vB c.here (zY 1)) (blkOk_by (N:=aD4) (sc:=defScope vU) (by decide+kernel)) ⟨fun _ _ _ _ _=>(yF (c.blk _ _ _ _).calm (zS (zU 2 (c.blk _ _ _ _).nd) (zS (zU 3 (c.blk _ _ _ _).nd) yT))),(qA (yJ (zL 2) (yJ (zL 3) tK))),fun _ _ _ _ _=>yM,fun _ _ _ _ _=>(zY 2)⟩ (fun _ _ _ _ _=>(aB5 (own:=[("state",5),("many",6),("row",4)]) false (c.blk _ _ _ _) (vB (c.blk _ _ _ _).here (zY 3)) (blkOk_by (by exact rfl)) ⟨fun _ _ _ _ _=>(yF ((c.blk _ _ _ _).blk _ _ _ _).calm (zS (yF ((c.blk _ _ _ _).blk _ _ _ _).calm (zS (zU 5 ((c.blk _ _ _ _).blk _ _ _ _).nd) (zS (zU 6 ((c.blk _ _ _ _).blk _ _ _ _).nd) yT))) (zS (zU 4 ((c.blk _ _ _ _).blk _ _ _ _).nd) yT))),(qA (yJ (qA (yJ (zL 5) (yJ (zL 6) tK))) (yJ (zL 4) tK))),fun _ _ _ _ _=>yM,fun _ _ _ _ _=>(zY 5)⟩ (fun _ _ _ _ _=>(zY 4))))))))))
theorem aIn {f:Addr} {fd:FuncData} (Fn:Fun K "least_branches" "least_branches" vU f fd):Binds K fd ["rules"] []:=Fn.binds fun _ _ _ _ _ _ us hl=>match us,hl with | [_],_=>rfl
noncomputable abbrev aSp:List Str:=["self"]
theorem aP2:FnScope aSp ["self"] (defScope qR):=⟨rfl,rfl,rfl,by decide+kernel,rfl,by decide+kernel,by decide+kernel⟩
theorem aPk {f:Addr} {fd:FuncData} (hw:HereP P w) (Fn:Fun K "names" "Book.names" qR f fd) (T:Txt K mg):FnOk P w K mg base (L2.CX P w) 1 f fd ["self"] (spF K 1 aBg):=
 yV hw Fn aP2 (fun cdv A outer s H E c=>(show SSs _ _ _ aJl from (zT (yX (yY T.k_Book T.a_Book_name_row (zY 0))))))
theorem aPu {f:Addr} {fd:FuncData} (Fn:Fun K "names" "Book.names" qR f fd):Binds K fd ["self"] []:=Fn.binds fun _ _ _ _ _ _ us hl=>match us,hl with | [_],_=>rfl
noncomputable abbrev aUl:List Str:=["self"]
theorem aQw:FnScope aUl ["self"] (defScope aAp):=⟨rfl,rfl,rfl,by decide+kernel,rfl,by decide+kernel,by decide+kernel⟩
theorem aRz {f:Addr} {fd:FuncData} (hw:HereP P w) (Fn:Fun K "hand" "Kind.hand" aAp f fd) (T:Txt K mg):FnOk P w K mg base (L2.CX P w) 1 f fd ["self"] (spF K 1 qY):=
 yV hw Fn aQw (fun cdv A outer s H E c=>(show SSs _ _ _ aMz from (zT (yX (yY T.k_Kind T.a_Kind_hand_states (zY 0))))))
theorem aSj {f:Addr} {fd:FuncData} (Fn:Fun K "hand" "Kind.hand" aAp f fd):Binds K fd ["self"] []:=Fn.binds fun _ _ _ _ _ _ us hl=>match us,hl with | [_],_=>rfl
noncomputable abbrev aSo:List Str:=["self"]
theorem aP1:FnScope aSo ["self"] (defScope qS):=⟨rfl,rfl,rfl,by decide+kernel,rfl,by decide+kernel,by decide+kernel⟩
theorem aPj {f:Addr} {fd:FuncData} (hw:HereP P w) (Fn:Fun K "parts" "Kind.parts" qS f fd) (T:Txt K mg):FnOk P w K mg base (L2.CX P w) 1 f fd ["self"] (spF K 1 jM):=
 yV hw Fn aP1 (fun cdv A outer s H E c=>(show SSs _ _ _ aJk from (zT (yX (yY T.k_Kind T.a_Kind_part_kinds (zY 0))))))
theorem aPt {f:Addr} {fd:FuncData} (Fn:Fun K "parts" "Kind.parts" qS f fd):Binds K fd ["self"] []:=Fn.binds fun _ _ _ _ _ _ us hl=>match us,hl with | [_],_=>rfl
noncomputable abbrev aZx:List Str:=["condition","states","least","most","wanted","many","state"]
theorem bAs:FnScope aZx ["condition","states"] (defScope aIa):=⟨rfl,rfl,rfl,by decide+kernel,rfl,by decide+kernel,by decide+kernel⟩
theorem bBj {f:Addr} {fd:FuncData} (hw:HereP P w) (Fn:Fun K "holds" "holds" aIa f fd) (T:Txt K mg):FnOk P w K mg base (L2.CX P w) 1 f fd ["condition","states"] (spF K 2 aQ6):=
 yV hw Fn bAs (fun cdv A outer s H E c=>(show SSs _ _ _ bA2 from (zV (aB3 (zY 0) (aBl c.calm (zS (zU 2 c.nd) (zS (zU 3 c.nd) (zS (zU 4 c.nd) yT)))))
  (zV (yS 5 c (zH yA vV T.n_len (zZ (xC (own:=[("state",6)]) false c (yN (zY 1)) (blkOk_by (N:=aZx) (sc:=defScope aIa) (by decide+kernel)) ⟨fun _ _ _ _ _=>(zU 6 (c.blk _ _ _ _).nd),(zL 6),fun _ _ _ _ _=>(aDl (yQ (aBu (c.blk _ _ _ _).hu) aAf (zY 6) (zY 4))),fun _ _ _ _ _=>(zY 6)⟩) zW)))
  (zT (yX (aO3 (aDp aFf xZ (zY 2) (zY 5)) (aO2 (bH6 (aDp op_isN aOv (zY 3) qB) (aO2 (aDp aFf xZ (zY 5) (zY 3))))))))))))
theorem bBt {f:Addr} {fd:FuncData} (Fn:Fun K "holds" "holds" aIa f fd):Binds K fd ["condition","states"] []:=Fn.binds fun _ _ _ _ _ _ us hl=>match us,hl with | [_,_],_=>rfl
noncomputable abbrev aEk:List Str:=["self","states","index","state","conditions","condition"]
theorem aJt:FnScope aEk ["self","states"] (defScope uX):=⟨rfl,rfl,rfl,by decide+kernel,rfl,by decide+kernel,by decide+kernel⟩
theorem aK4 {f:Addr} {fd:FuncData} (hw:HereP P w) (Fn:Fun K "counting" "Kind.counting" uX f fd) (T:Txt K mg) (D_holds:DefOk P w K mg base 2 1 "holds" aQ6):FnOk P w K mg base (L2.CX P w) 2 f fd ["self","states"] (spF K 2 kP):=
 yV hw Fn aJt (fun cdv A outer s H E c=>(show SSs _ _ _ aEw from (zV (wJ c (aXp (zZ (yY T.k_Kind T.a_Kind_clause_row (zY 0)) zW) T.n_enumerate) (yF c.calm (zS (zU 2 c.nd) (zS (yF c.calm (zS (zU 3 c.nd) (zS (zU 4 c.nd) yT))) yT))) (zT (xA (vA (zH (cr_all c.calm) aBm T.n_all (zZ (xC (own:=[("condition",5)]) false c (yN (zY 4)) (blkOk_by (N:=aEk) (sc:=defScope uX) (by decide+kernel)) ⟨fun _ _ _ _ _=>(zU 5 (c.blk _ _ _ _).nd),(zL 5),fun _ _ _ _ _=>yM,fun _ _ _ _ _=>(zM (c.blk _ _ _ _) D_holds (zZ (zY 5) (zZ (zY 1) zW)))⟩) zW))) (zT (yX (zY 2))) yR)))
  (zT (yX (zH yA vV T.n_len (zZ (yY T.k_Kind T.a_Kind_clause_row (zY 0)) zW)))))))
theorem aKg {f:Addr} {fd:FuncData} (Fn:Fun K "counting" "Kind.counting" uX f fd):Binds K fd ["self","states"] []:=Fn.binds fun _ _ _ _ _ _ us hl=>match us,hl with | [_,_],_=>rfl
noncomputable abbrev aUj:List Str:=["self","states","index"]
theorem aQu:FnScope aUj ["self","states"] (defScope aAn):=⟨rfl,rfl,rfl,by decide+kernel,rfl,by decide+kernel,by decide+kernel⟩
theorem aRx {f:Addr} {fd:FuncData} (hw:HereP P w) (Fn:Fun K "told" "Kind.told" aAn f fd) (T:Txt K mg) (D_Kind_counting:MethOk P w K mg base 2 2 "Kind" "counting" kP):FnOk P w K mg base (L2.CX P w) 3 f fd ["self","states"] (spF K 2 aCp):=
 yV hw Fn aQu (fun cdv A outer s H E c=>(show SSs _ _ _ aMx from (zV (yS 2 c (xU c D_Kind_counting (zY 0) (zZ (zY 1) zW)))
  (zV (xA (yQ (aE0 c.room.units) aDo (zY 2) (zH yA vV T.n_len (zZ (yY T.k_Kind T.a_Kind_clause_row (zY 0)) zW))) (zT (yX (yY T.k_Kind T.a_Kind_last_state (zY 0)))) yR)
  (zT (yX (yD (yK c.hu) yL (yD (yK c.hu) yL (yY T.k_Kind T.a_Kind_clause_row (zY 0)) (zY 2)) zN)))))))
theorem aSh {f:Addr} {fd:FuncData} (Fn:Fun K "told" "Kind.told" aAn f fd):Binds K fd ["self","states"] []:=Fn.binds fun _ _ _ _ _ _ us hl=>match us,hl with | [_,_],_=>rfl
noncomputable abbrev bBx:List Str:=["states"]
theorem aY2:FnScope bBx ["states"] (defScope aGx):=⟨rfl,rfl,rfl,by decide+kernel,rfl,by decide+kernel,by decide+kernel⟩
theorem aZc {f:Addr} {fd:FuncData} (hw:HereP P w) (Fn:Fun K "agreed" "agreed" aGx f fd) (T:Txt K mg):FnOk P w K mg base (L2.CX P w) 1 f fd ["states"] (spF K 1 aKu):=
 yV hw Fn aY2 (fun cdv A outer s H E c=>(show SSs _ _ _ aW8 from (zT (yX (aXy (yQ (aE0 c.room.units) aDo (aQj c (zY 0) T.n_len T.n_set) zN) (yD (yK c.hu) yL (zY 0) zN) qB)))))
theorem aZt {f:Addr} {fd:FuncData} (Fn:Fun K "agreed" "agreed" aGx f fd):Binds K fd ["states"] []:=Fn.binds fun _ _ _ _ _ _ us hl=>match us,hl with | [_],_=>rfl
noncomputable abbrev aJe:List Str:=["caps","rows","cap","counts","many"]
theorem aOz:FnScope aJe ["caps"] (defScope jP):=⟨rfl,rfl,rfl,by decide+kernel,rfl,by decide+kernel,by decide+kernel⟩
theorem aPh {f:Addr} {fd:FuncData} (hw:HereP P w) (Fn:Fun K "all_counts" "all_counts" jP f fd) (T:Txt K mg):FnOk P w K mg base (L2.CX P w) 1 f fd ["caps"] (spF K 1 aBe):=
 yV hw Fn aOz (fun cdv A outer s H E c=>(show SSs _ _ _ aJi from (zV (yS 1 c (yC false (zZ (yZ zW) zW)))
  (zV (wJ c (yN (zY 0)) (zU 2 c.nd) (zT (aKy (own:=[("counts",3),("many",4)]) (own1:=[("many",4)]) false 1 c (yN (zY 1)) (blkOk_by (N:=aJe) (sc:=defScope jP) (by decide+kernel)) ⟨fun _ _ _ _ _=>aOt (by decide) (zU 3 (c.blk _ _ _ _).nd),aN9 (by decide) (zL 3),fun _ _ _ _ _=>yM,fun _ _ _ _ _=>(yZ (aI9 (zY 3) (zZ (zY 4) zW)))⟩ ⟨fun _ _ _ _ _=>(aL5 (zZ (xV xS xT (zY 2) zN) zW) T.n_range),fun _ _ _ _ _=>(zU 4 (c.blk _ _ _ _).nd),(zL 4),fun _ _ _ _ _=>yM⟩)))
  (zT (yX (zY 1)))))))
theorem aPr {f:Addr} {fd:FuncData} (Fn:Fun K "all_counts" "all_counts" jP f fd):Binds K fd ["caps"] []:=Fn.binds fun _ _ _ _ _ _ us hl=>match us,hl with | [_],_=>rfl
noncomputable abbrev aNx:List Str:=["self"]
theorem aLe:FnScope aNx ["self"] (defScope tA):=⟨rfl,rfl,rfl,by decide+kernel,rfl,by decide+kernel,by decide+kernel⟩
theorem aM0 {f:Addr} {fd:FuncData} (hw:HereP P w) (Fn:Fun K "clauses" "Kind.clauses" tA f fd) (T:Txt K mg):FnOk P w K mg base (L2.CX P w) 1 f fd ["self"] (spF K 1 uH):=
 yV hw Fn aLe (fun cdv A outer s H E c=>(show SSs _ _ _ aFt from (zT (yX (yY T.k_Kind T.a_Kind_clause_row (zY 0))))))
theorem aMd {f:Addr} {fd:FuncData} (Fn:Fun K "clauses" "Kind.clauses" tA f fd):Binds K fd ["self"] []:=Fn.binds fun _ _ _ _ _ _ us hl=>match us,hl with | [_],_=>rfl
noncomputable abbrev bBw:List Str:=["kind","state","numbers","told","conditions","least","most","names"]
theorem aY1:FnScope bBw ["kind","state"] (defScope aGw):=⟨rfl,rfl,rfl,by decide+kernel,rfl,by decide+kernel,by decide+kernel⟩
theorem aZb {f:Addr} {fd:FuncData} (hw:HereP P w) (Fn:Fun K "cap_of" "cap_of" aGw f fd) (T:Txt K mg) (D_Kind_clauses:PropOk P w K mg base 1 "Kind" "clauses" uH):FnOk P w K mg base (L2.CX P w) 3 f fd ["kind","state"] (spF K 2 aKt):=
 yV hw Fn aY1 (fun cdv A outer s H E c=>(show SSs _ _ _ aW7 from (zV (yS 2 c (yC true (zZ zN zW)))
  (zV (wJ c (yN (aAg c D_Kind_clauses (zY 0))) (yF c.calm (zS (zU 3 c.nd) (zS (zU 4 c.nd) yT))) (zT (wJ c (yN (zY 4)) (yF c.calm (zS (zU 5 c.nd) (zS (zU 6 c.nd) (zS (zU 7 c.nd) yT)))) (zT (xA (yQ (aBu c.hu) aAf (zY 1) (zY 7)) (zT (wB (qH PySem.F.plainAttrs_list PySem.F.slot_list_extend PySem.F.type_list_extend aF4 aC9 (zY 2) (zZ (yC false (zZ (zY 5) (zZ (aXy (yQ op_isN aOv (zY 6) qB) zN (xV xS xT (zY 6) zN)) zW))) zW)))) yR)))))
  (zT (yX (zH ((call_max2 c.calm).or (cr_max c.calm)) aV0 T.n_max (zZ (zY 2) zW))))))))
theorem aZs {f:Addr} {fd:FuncData} (Fn:Fun K "cap_of" "cap_of" aGw f fd):Binds K fd ["kind","state"] []:=Fn.binds fun _ _ _ _ _ _ us hl=>match us,hl with | [_,_],_=>rfl
noncomputable abbrev aMi:List Str:=["rows","name","row"]
theorem aQp:FnScope aMi ["rows"] (defScope kF):=⟨rfl,rfl,rfl,by decide+kernel,rfl,by decide+kernel,by decide+kernel⟩
theorem aRs {f:Addr} {fd:FuncData} (hw:HereP P w) (Fn:Fun K "in_common" "in_common" kF f fd) (T:Txt K mg):FnOk P w K mg base (L2.CX P w) 1 f fd ["rows"] (spF K 1 aB2):=
 yV hw Fn aQp (fun cdv A outer s H E c=>(show SSs _ _ _ aMt from (zT (yX (xC (own:=[("name",1)]) false c (yN (yD (yK c.hu) yL (zY 0) zN)) (blkOk_by (N:=aMi) (sc:=defScope kF) (by decide+kernel)) ⟨fun _ _ _ _ _=>(zU 1 (c.blk _ _ _ _).nd),(zL 1),fun _ _ _ _ _=>(aDl (vA (zH (cr_all (c.blk _ _ _ _).calm) aBm T.n_all (zZ (xC (own:=[("row",2)]) false (c.blk _ _ _ _) (yN (zY 0)) (blkOk_by (by exact rfl)) ⟨fun _ _ _ _ _=>(zU 2 ((c.blk _ _ _ _).blk _ _ _ _).nd),(zL 2),fun _ _ _ _ _=>yM,fun _ _ _ _ _=>(aDp (aBu ((c.blk _ _ _ _).blk _ _ _ _).hu) aAf (zY 1) (zY 2))⟩) zW)))),fun _ _ _ _ _=>(zY 1)⟩)))))
theorem aSc {f:Addr} {fd:FuncData} (Fn:Fun K "in_common" "in_common" kF f fd):Binds K fd ["rows"] []:=Fn.binds fun _ _ _ _ _ _ us hl=>match us,hl with | [_],_=>rfl
noncomputable abbrev aW4:List Str:=["states","counts","state","many","step"]
theorem aXz:FnScope aW4 ["states","counts"] (defScope aF1):=⟨rfl,rfl,rfl,by decide+kernel,rfl,by decide+kernel,by decide+kernel⟩
theorem aZ9 {f:Addr} {fd:FuncData} (hw:HereP P w) (Fn:Fun K "listed" "listed" aF1 f fd) (T:Txt K mg):FnOk P w K mg base (L2.CX P w) 1 f fd ["states","counts"] (spF K 2 aKs):=
 yV hw Fn aXz (fun cdv A outer s H E c=>(show SSs _ _ _ aW5 from (zT (yX (aGq (own:=[("state",2),("many",3),("step",4)]) (own1:=[("step",4)]) false c (aXn c (zZ (zY 0) (zZ (zY 1) zW)) T.n_zip) (blkOk_by (N:=aW4) (sc:=defScope aF1) (by decide+kernel)) ⟨fun _ _ _ _ _=>aOt (by decide) (yF (c.blk _ _ _ _).calm (zS (zU 2 (c.blk _ _ _ _).nd) (zS (zU 3 (c.blk _ _ _ _).nd) yT))),aN9 (by decide) (qA (yJ (zL 2) (yJ (zL 3) tK))),fun _ _ _ _ _=>yM,fun _ _ _ _ _=>(zY 2)⟩ ⟨fun _ _ _ _ _=>(aL5 (zZ (zY 3) zW) T.n_range),fun _ _ _ _ _=>(zU 4 (c.blk _ _ _ _).nd),(zL 4),fun _ _ _ _ _=>yM⟩)))))
theorem aZq {f:Addr} {fd:FuncData} (Fn:Fun K "listed" "listed" aF1 f fd):Binds K fd ["states","counts"] []:=Fn.binds fun _ _ _ _ _ _ us hl=>match us,hl with | [_,_],_=>rfl
noncomputable abbrev uU:List Str:=["self","states","kinds","counts","row","state","place","kind"]
theorem aJs:FnScope uU ["self","states","kinds"] (defScope xW):=⟨rfl,rfl,rfl,by decide+kernel,rfl,by decide+kernel,by decide+kernel⟩
theorem aK3 {f:Addr} {fd:FuncData} (hw:HereP P w) (Fn:Fun K "__init__" "Rule.__init__" xW f fd) (T:Txt K mg) (D_Kind_hand:PropOk P w K mg base 1 "Kind" "hand" qY) (D_Kind_parts:PropOk P w K mg base 1 "Kind" "parts" jM) (D_Kind_told:MethOk P w K mg base 2 3 "Kind" "told" aCp) (D_agreed:DefOk P w K mg base 1 1 "agreed" aKu) (D_all_counts:DefOk P w K mg base 1 1 "all_counts" aBe) (D_cap_of:DefOk P w K mg base 2 3 "cap_of" aKt) (D_in_common:DefOk P w K mg base 1 1 "in_common" aB2) (D_listed:DefOk P w K mg base 2 1 "listed" aKs):FnOk P w K mg base (L2.CX P w) 4 f fd ["self","states","kinds"] (spF K 3 kQ):=
 yV hw Fn aJs (fun cdv A outer s H E c=>(show SSs _ _ _ aEv from (zV (vQ T.k_Rule T.a_Rule_state_row (zY 1) (zY 0))
  (zV (vQ T.k_Rule T.a_Rule_hand_states (zM c D_in_common (zZ (xC (own:=[("kind",7)]) false c (yN (zY 2)) (blkOk_by (N:=uU) (sc:=defScope xW) (by decide+kernel)) ⟨fun _ _ _ _ _=>(zU 7 (c.blk _ _ _ _).nd),(zL 7),fun _ _ _ _ _=>yM,fun _ _ _ _ _=>(aAg (c.blk _ _ _ _) D_Kind_hand (zY 7))⟩) zW)) (zY 0))
  (zV (vQ T.k_Rule T.a_Rule_part_kinds (zM c D_in_common (zZ (xC (own:=[("kind",7)]) false c (yN (zY 2)) (blkOk_by (N:=uU) (sc:=defScope xW) (by decide+kernel)) ⟨fun _ _ _ _ _=>(zU 7 (c.blk _ _ _ _).nd),(zL 7),fun _ _ _ _ _=>yM,fun _ _ _ _ _=>(aAg (c.blk _ _ _ _) D_Kind_parts (zY 7))⟩) zW)) (zY 0))
  (zV (vQ T.k_Rule T.a_Rule_caps (xC (own:=[("state",5)]) false c (yN (zY 1)) (blkOk_by (N:=uU) (sc:=defScope xW) (by decide+kernel)) ⟨fun _ _ _ _ _=>(zU 5 (c.blk _ _ _ _).nd),(zL 5),fun _ _ _ _ _=>yM,fun _ _ _ _ _=>(zH ((call_max2 (c.blk _ _ _ _).calm).or (cr_max (c.blk _ _ _ _).calm)) aV0 T.n_max (zZ (xC (own:=[("kind",7)]) false (c.blk _ _ _ _) (yN (zY 2)) (blkOk_by (by exact rfl)) ⟨fun _ _ _ _ _=>(zU 7 ((c.blk _ _ _ _).blk _ _ _ _).nd),(zL 7),fun _ _ _ _ _=>yM,fun _ _ _ _ _=>(zM ((c.blk _ _ _ _).blk _ _ _ _) D_cap_of (zZ (zY 7) (zZ (zY 5) zW)))⟩) zW))⟩) (zY 0))
  (zV (vQ T.k_Rule T.a_Rule_places (aB5 (own:=[("place",6),("state",5)]) false c (aXp (zZ (zY 1) zW) T.n_enumerate) (blkOk_by (N:=uU) (sc:=defScope xW) (by decide+kernel)) ⟨fun _ _ _ _ _=>(yF (c.blk _ _ _ _).calm (zS (zU 6 (c.blk _ _ _ _).nd) (zS (zU 5 (c.blk _ _ _ _).nd) yT))),(qA (yJ (zL 6) (yJ (zL 5) tK))),fun _ _ _ _ _=>yM,fun _ _ _ _ _=>(zY 5)⟩ (fun _ _ _ _ _=>(zY 6))) (zY 0))
  (zV (vQ T.k_Rule T.a_Rule_telling (jK c.here true) (zY 0))
  (zT (wJ c (yN (zM c D_all_counts (zZ (yY T.k_Rule T.a_Rule_caps (zY 0)) zW))) (zU 3 c.nd) (zV (yS 4 c (zM c D_listed (zZ (zY 1) (zZ (zY 3) zW))))
  (zT (qJ c (zM c D_agreed (zZ (xC (own:=[("kind",7)]) false c (yN (zY 2)) (blkOk_by (N:=uU) (sc:=defScope xW) (by decide+kernel)) ⟨fun _ _ _ _ _=>(zU 7 (c.blk _ _ _ _).nd),(zL 7),fun _ _ _ _ _=>yM,fun _ _ _ _ _=>(xU (c.blk _ _ _ _) D_Kind_told (zY 7) (zZ (zY 4) zW))⟩) zW)) (yY T.k_Rule T.a_Rule_telling (zY 0)) (zY 3))))))))))))))
theorem aKf {f:Addr} {fd:FuncData} (Fn:Fun K "__init__" "Rule.__init__" xW f fd):Binds K fd ["self","states","kinds"] []:=Fn.binds fun _ _ _ _ _ _ us hl=>match us,hl with | [_,_,_],_=>rfl
noncomputable abbrev aOh:List Str:=["book","name"]
theorem aTh:FnScope aOh ["book"] (defScope aAa):=⟨rfl,rfl,rfl,by decide+kernel,rfl,by decide+kernel,by decide+kernel⟩
theorem aTy {f:Addr} {fd:FuncData} (hw:HereP P w) (Fn:Fun K "rules_of" "rules_of" aAa f fd) (T:Txt K mg) (D_Book_kind_named:MethOk P w K mg base 2 3 "Book" "kind_named" xB) (D_Book_names:PropOk P w K mg base 1 "Book" "names" aBg) (D_Book_states:PropOk P w K mg base 1 "Book" "states" vG) (D_Rule___init__:InitOk P w K mg base 2 4 "Rule" kQ):FnOk P w K mg base (L2.CX P w) 6 f fd ["book"] (spF K 1 aF7):=
 yV hw Fn aTh (fun cdv A outer s H E c=>(show SSs _ _ _ aOk from (zT (yX (aB5 (own:=[("name",1)]) false c (yN (aAg c D_Book_names (zY 0))) (blkOk_by (N:=aOh) (sc:=defScope aAa) (by decide+kernel)) ⟨fun _ _ _ _ _=>(zU 1 (c.blk _ _ _ _).nd),(zL 1),fun _ _ _ _ _=>yM,fun _ _ _ _ _=>(zY 1)⟩ (fun _ _ _ _ _=>(qE true (c.blk _ _ _ _) D_Rule___init__ (zZ (aAg (c.blk _ _ _ _) D_Book_states (zY 0)) (zZ (yC false (zZ (xU (c.blk _ _ _ _) D_Book_kind_named (zY 0) (zZ (zY 1) zW)) zW)) zW)))))))))
theorem aU6 {f:Addr} {fd:FuncData} (Fn:Fun K "rules_of" "rules_of" aAa f fd):Binds K fd ["book"] []:=Fn.binds fun _ _ _ _ _ _ us hl=>match us,hl with | [_],_=>rfl
noncomputable abbrev aKj:List Str:=["self","counts","state"]
theorem aI7:FnScope aKj ["self","counts","state"] (defScope uN):=⟨rfl,rfl,rfl,by decide+kernel,rfl,by decide+kernel,by decide+kernel⟩
theorem aIk {f:Addr} {fd:FuncData} (hw:HereP P w) (Fn:Fun K "told_with" "Rule.told_with" uN f fd) (T:Txt K mg) (D_Rule_with_one_more:MethOk P w K mg base 3 1 "Rule" "with_one_more" yG):FnOk P w K mg base (L2.CX P w) 2 f fd ["self","counts","state"] (spF K 3 vS):=
 yV hw Fn aI7 (fun cdv A outer s H E c=>(show SSs _ _ _ aD8 from (zT (yX (yD (aBw c.here c.huN) kJ (yY T.k_Rule T.a_Rule_telling (zY 0)) (xU c D_Rule_with_one_more (zY 0) (zZ (zY 1) (zZ (zY 2) zW))))))))
theorem aIp {f:Addr} {fd:FuncData} (Fn:Fun K "told_with" "Rule.told_with" uN f fd):Binds K fd ["self","counts","state"] []:=Fn.binds fun _ _ _ _ _ _ us hl=>match us,hl with | [_,_,_],_=>rfl
noncomputable abbrev aB0:List Str:=["rule","parts","counts","rows","state","many","row","branch"]
theorem aJo:FnScope aB0 ["rule","parts","counts"] (defScope vY):=⟨rfl,rfl,rfl,by decide+kernel,rfl,by decide+kernel,by decide+kernel⟩
theorem aJz {f:Addr} {fd:FuncData} (hw:HereP P w) (Fn:Fun K "chosen_others" "chosen_others" vY f fd) (T:Txt K mg):FnOk P w K mg base (L2.CX P w) 1 f fd ["rule","parts","counts"] (spF K 3 uS):=
 yV hw Fn aJo (fun cdv A outer s H E c=>(show SSs _ _ _ aEr from (zV (aI0 (own:=[("state",4),("many",5)]) false 3 c (aXn c (zZ (yY T.k_Rule T.a_Rule_state_row (zY 0)) (zZ (zY 2) zW)) T.n_zip) (blkOk_by (N:=aB0) (sc:=defScope vY) (by decide+kernel)) ⟨fun _ _ _ _ _=>(yF (c.blk _ _ _ _).calm (zS (zU 4 (c.blk _ _ _ _).nd) (zS (zU 5 (c.blk _ _ _ _).nd) yT))),(qA (yJ (zL 4) (yJ (zL 5) tK))),fun _ _ _ _ _=>(aDl (yQ aBv xZ (zY 5) zN)),fun _ _ _ _ _=>(xV aDx aB4 (yZ (zZ (yD (yK (c.blk _ _ _ _).hu) yL (yD (yK (c.blk _ _ _ _).hu) yL (zY 1) (zY 4)) zN) zW)) (zY 5))⟩)
  (zT (yX (yB (wV c.calm) xR T.n_tuple (zZ (aGq (own:=[("row",6),("branch",7)]) (own1:=[("branch",7)]) false c (yN (zY 3)) (blkOk_by (N:=aB0) (sc:=defScope vY) (by decide+kernel)) ⟨fun _ _ _ _ _=>aOt (by decide) (zU 6 (c.blk _ _ _ _).nd),aN9 (by decide) (zL 6),fun _ _ _ _ _=>yM,fun _ _ _ _ _=>(zY 7)⟩ ⟨fun _ _ _ _ _=>(yN (zY 6)),fun _ _ _ _ _=>(zU 7 (c.blk _ _ _ _).nd),(zL 7),fun _ _ _ _ _=>yM⟩) zW)))))))
theorem aKb {f:Addr} {fd:FuncData} (Fn:Fun K "chosen_others" "chosen_others" vY f fd):Binds K fd ["rule","parts","counts"] []:=Fn.binds fun _ _ _ _ _ _ us hl=>match us,hl with | [_,_,_],_=>rfl
noncomputable abbrev kZ:List Str:=["rule","parts","rows","state","cap","each","counts","size","many"]
theorem aFv:FnScope kZ ["rule","parts"] (defScope xM):=⟨rfl,rfl,rfl,by decide+kernel,rfl,by decide+kernel,by decide+kernel⟩
theorem aG8 {f:Addr} {fd:FuncData} (hw:HereP P w) (Fn:Fun K "counts_of_others" "counts_of_others" xM f fd) (T:Txt K mg):FnOk P w K mg base (L2.CX P w) 1 f fd ["rule","parts"] (spF K 2 wN):=
 yV hw Fn aFv (fun cdv A outer s H E c=>(show SSs _ _ _ aBh from (zV (yS 2 c (yC false (zZ (yZ (zZ (yZ zW) (zZ zN zW))) zW)))
  (zV (wJ c (aXn c (zZ (yY T.k_Rule T.a_Rule_state_row (zY 0)) (zZ (yY T.k_Rule T.a_Rule_caps (zY 0)) zW)) T.n_zip) (yF c.calm (zS (zU 3 c.nd) (zS (zU 4 c.nd) yT))) (zT (xA (yQ (aBu c.hu) aAf (zY 3) (zY 1)) (zV (yS 5 c (yD (yK c.hu) yL (yD (yK c.hu) yL (zY 1) (zY 3)) zN))
  (zT (aKy (own:=[("counts",6),("size",7),("many",8)]) (own1:=[("many",8)]) false 2 c (yN (zY 2)) (blkOk_by (N:=kZ) (sc:=defScope xM) (by decide+kernel)) ⟨fun _ _ _ _ _=>aOt (by decide) (yF (c.blk _ _ _ _).calm (zS (zU 6 (c.blk _ _ _ _).nd) (zS (zU 7 (c.blk _ _ _ _).nd) yT))),aN9 (by decide) (qA (yJ (zL 6) (yJ (zL 7) tK))),fun _ _ _ _ _=>yM,fun _ _ _ _ _=>(yZ (zZ (yZ (aI9 (zY 6) (zZ (zY 8) zW))) (zZ (xV xS xT (zY 7) (xV aDz aDn (zY 8) (zY 5))) zW)))⟩ ⟨fun _ _ _ _ _=>(aL5 (zZ (xV xS xT (zY 4) zN) zW) T.n_range),fun _ _ _ _ _=>(zU 8 (c.blk _ _ _ _).nd),(zL 8),fun _ _ _ _ _=>yM⟩))) (zT (aI0 (own:=[("counts",6),("size",7)]) false 2 c (yN (zY 2)) (blkOk_by (N:=kZ) (sc:=defScope xM) (by decide+kernel)) ⟨fun _ _ _ _ _=>(yF (c.blk _ _ _ _).calm (zS (zU 6 (c.blk _ _ _ _).nd) (zS (zU 7 (c.blk _ _ _ _).nd) yT))),(qA (yJ (zL 6) (yJ (zL 7) tK))),fun _ _ _ _ _=>yM,fun _ _ _ _ _=>(yZ (zZ (yZ (aI9 (zY 6) (zZ zN zW))) (zZ (zY 7) zW)))⟩)))))
  (zT (yX (zY 2)))))))
theorem aGf {f:Addr} {fd:FuncData} (Fn:Fun K "counts_of_others" "counts_of_others" xM f fd):Binds K fd ["rule","parts"] []:=Fn.binds fun _ _ _ _ _ _ us hl=>match us,hl with | [_,_],_=>rfl
noncomputable abbrev aSl:List Str:=["rule","parts","ways","counts","size","told","state"]
theorem aWn:FnScope aSl ["rule","parts"] (defScope aBq):=⟨rfl,rfl,rfl,by decide+kernel,rfl,by decide+kernel,by decide+kernel⟩
theorem aWu {f:Addr} {fd:FuncData} (hw:HereP P w) (Fn:Fun K "ways_of" "ways_of" aBq f fd) (T:Txt K mg) (D_Rule_told_with:MethOk P w K mg base 3 2 "Rule" "told_with" vS) (D_chosen_others:DefOk P w K mg base 3 1 "chosen_others" uS) (D_counts_of_others:DefOk P w K mg base 2 1 "counts_of_others" wN):FnOk P w K mg base (L2.CX P w) 3 f fd ["rule","parts"] (spF K 2 aHs):=
 yV hw Fn aWn (fun cdv A outer s H E c=>(show SSs _ _ _ aSr from (zV (yS 2 c (yC true zW))
  (zV (wJ c (yN (zM c D_counts_of_others (zZ (zY 0) (zZ (zY 1) zW)))) (yF c.calm (zS (zU 3 c.nd) (zS (zU 4 c.nd) yT))) (zV (aT2 (own:=[("state",6)]) false 5 c (yN (yY T.k_Rule T.a_Rule_state_row (zY 0))) (blkOk_by (N:=aSl) (sc:=defScope aBq) (by decide+kernel)) ⟨fun _ _ _ _ _=>(zU 6 (c.blk _ _ _ _).nd),(zL 6),fun _ _ _ _ _=>yM,fun _ _ _ _ _=>(zY 6)⟩ (fun _ _ _ _ _=>(xU (c.blk _ _ _ _) D_Rule_told_with (zY 0) (zZ (zY 3) (zZ (zY 6) zW)))))
  (zT (wB (qH PySem.F.plainAttrs_list PySem.F.slot_list_append PySem.F.type_list_append mt_append jT (zY 2) (zZ (yZ (zZ (zY 4) (zZ (zM c D_chosen_others (zZ (zY 0) (zZ (zY 1) (zZ (zY 3) zW)))) (zZ (zY 5) zW)))) zW))))))
  (zT (aIu 2 (yX (zY 2))))))))
theorem aX5 {f:Addr} {fd:FuncData} (Fn:Fun K "ways_of" "ways_of" aBq f fd):Binds K fd ["rule","parts"] []:=Fn.binds fun _ _ _ _ _ _ us hl=>match us,hl with | [_,_],_=>rfl
noncomputable abbrev aMl:List Str:=["self","book","name","rule"]
theorem aJp:FnScope aMl ["self","book"] (defScope uC):=⟨rfl,rfl,rfl,by decide+kernel,rfl,by decide+kernel,by decide+kernel⟩
theorem aK0 {f:Addr} {fd:FuncData} (hw:HereP P w) (Fn:Fun K "__init__" "Ways.__init__" uC f fd) (T:Txt K mg) (D_Book_states:PropOk P w K mg base 1 "Book" "states" vG) (D_Choices___init__:InitOk P w K mg base 2 2 "Choices" wK) (D_Ways_least_parts_of:MethOk P w K mg base 2 2 "Ways" "least_parts_of" xP) (D_least_branches:DefOk P w K mg base 1 7 "least_branches" jY) (D_rules_of:DefOk P w K mg base 1 6 "rules_of" aF7) (D_ways_of:DefOk P w K mg base 2 3 "ways_of" aHs):FnOk P w K mg base (L2.CX P w) 8 f fd ["self","book"] (spF K 2 kS):=
 yV hw Fn aJp (fun cdv A outer s H E c=>(show SSs _ _ _ aEs from (zV (vQ T.k_Ways T.a_Ways_rules (zM c D_rules_of (zZ (zY 1) zW)) (zY 0))
  (zV (vQ T.k_Ways T.a_Ways_leasts (zM c D_least_branches (zZ (yY T.k_Ways T.a_Ways_rules (zY 0)) zW)) (zY 0))
  (zV (vQ T.k_Ways T.a_Ways_choices (aTg true) (zY 0))
  (zT (wJ c (vB c.here (yY T.k_Ways T.a_Ways_rules (zY 0))) (yF c.calm (zS (zU 2 c.nd) (zS (zU 3 c.nd) yT))) (zT (aT3 c (qE false c D_Choices___init__ (zZ (zM c D_ways_of (zZ (zY 3) (zZ (xU c D_Ways_least_parts_of (zY 0) (zZ (zY 2) zW)) zW))) (zZ (aAg c D_Book_states (zY 1)) zW))) (yY T.k_Ways T.a_Ways_choices (zY 0)) (zY 2))))))))))
theorem aKc {f:Addr} {fd:FuncData} (Fn:Fun K "__init__" "Ways.__init__" uC f fd):Binds K fd ["self","book"] []:=Fn.binds fun _ _ _ _ _ _ us hl=>match us,hl with | [_,_],_=>rfl
noncomputable abbrev aDi:List Str:=["self","name"]
theorem aCa:FnScope aDi ["self","name"] (defScope xH):=⟨rfl,rfl,rfl,by decide+kernel,rfl,by decide+kernel,by decide+kernel⟩
theorem aCe {f:Addr} {fd:FuncData} (hw:HereP P w) (Fn:Fun K "possible_states" "Ways.possible_states" xH f fd) (T:Txt K mg):FnOk P w K mg base (L2.CX P w) 1 f fd ["self","name"] (spF K 2 vW):=
 yV hw Fn aCa (fun cdv A outer s H E c=>(show SSs _ _ _ kL from (zT (yX (yB (wV c.calm) xR T.n_tuple (zZ (zH ((tR c.here c.calm).or (vZ c.hu66)) xD T.n_sorted (zZ (yD (yK c.hu) yL (yY T.k_Ways T.a_Ways_leasts (zY 0)) (zY 1)) zW)) zW))))))
theorem aCh {f:Addr} {fd:FuncData} (Fn:Fun K "possible_states" "Ways.possible_states" xH f fd):Binds K fd ["self","name"] []:=Fn.binds fun _ _ _ _ _ _ us hl=>match us,hl with | [_,_],_=>rfl
noncomputable abbrev aGl:List Str:=["self","state"]
theorem aF9:FnScope aGl ["self","state"] (defScope vX):=⟨rfl,rfl,rfl,by decide+kernel,rfl,by decide+kernel,by decide+kernel⟩
theorem aFa {f:Addr} {fd:FuncData} (Fn:Fun K "__init__" "BadState.__init__" vX f fd):FnOk P w K mg base (L2.CX P w) 1 f fd ["self","state"] (spX K "state"):=
 aVt Fn aF9 rfl rfl (fun cdv A outer s H E=>pss_one (ps_ost (pe_var rfl (.inl rfl)) (pe_var rfl (.inl rfl))))
theorem aFb {f:Addr} {fd:FuncData} (Fn:Fun K "__init__" "BadState.__init__" vX f fd):Binds K fd ["self","state"] []:=Fn.binds fun _ _ _ _ _ _ us hl=>match us,hl with | [_,_],_=>rfl
noncomputable abbrev aUg:List Str:=["thing","states"]
theorem aQn:FnScope aUg ["thing","states"] (defScope aAk):=⟨rfl,rfl,rfl,by decide+kernel,rfl,by decide+kernel,by decide+kernel⟩
theorem aRq {f:Addr} {fd:FuncData} (hw:HereP P w) (Fn:Fun K "is_one_of" "is_one_of" aAk f fd) (T:Txt K mg):FnOk P w K mg base (L2.CX P w) 1 f fd ["thing","states"] (spF K 2 qZ):=
 yV hw Fn aQn (fun cdv A outer s H E c=>(show SSs _ _ _ aMr from (zT (yX (aO3 (zH call_isi aI4 T.n_isinstance (zZ (zY 0) (zZ (aWk T.n_str (by decide+kernel)) zW))) (aO2 (aDp (aBu c.hu) aAf (zY 0) (zY 1))))))))
theorem aSa {f:Addr} {fd:FuncData} (Fn:Fun K "is_one_of" "is_one_of" aAk f fd):Binds K fd ["thing","states"] []:=Fn.binds fun _ _ _ _ _ _ us hl=>match us,hl with | [_,_],_=>rfl
noncomputable abbrev aNu:List Str:=["states","things","thing"]
theorem aLb:FnScope aNu ["states","things"] (defScope tG):=⟨rfl,rfl,rfl,by decide+kernel,rfl,by decide+kernel,by decide+kernel⟩
theorem aLx {f:Addr} {fd:FuncData} (hw:HereP P w) (Fn:Fun K "check_states" "check_states" tG f fd) (T:Txt K mg) (D_BadState___init__:XcOk P w K mg base 1 "BadState" "state") (D_is_one_of:DefOk P w K mg base 2 1 "is_one_of" qZ):FnOk P w K mg base (L2.CX P w) 3 f fd ["states","things"] (spF K 2 qV):=
 yV hw Fn aLb (fun cdv A outer s H E c=>(show SSs _ _ _ aFq from (zT (wJ c (yN (zY 1)) (zU 2 c.nd) (zT (xA (uP (vA (zM c D_is_one_of (zZ (zY 2) (zZ (zY 0) zW))))) (zT (aA4 c D_BadState___init__ (zY 2))) yR))))))
theorem aMa {f:Addr} {fd:FuncData} (Fn:Fun K "check_states" "check_states" tG f fd):Binds K fd ["states","things"] []:=Fn.binds fun _ _ _ _ _ _ us hl=>match us,hl with | [_,_],_=>rfl
noncomputable abbrev aNt:List Str:=["book","one","two","top","ways","kind","states"]
theorem aLa:FnScope aNt ["book","one","two","top"] (defScope tH):=⟨rfl,rfl,rfl,by decide+kernel,rfl,by decide+kernel,by decide+kernel⟩
theorem aLw {f:Addr} {fd:FuncData} (hw:HereP P w) (Fn:Fun K "checked_ways" "checked_ways" tH f fd) (T:Txt K mg) (D_Book_kind_named:MethOk P w K mg base 2 3 "Book" "kind_named" xB) (D_Ways___init__:InitOk P w K mg base 1 8 "Ways" kS) (D_Ways_possible_states:MethOk P w K mg base 2 1 "Ways" "possible_states" vW) (D_check_states:DefOk P w K mg base 2 3 "check_states" qV):FnOk P w K mg base (L2.CX P w) 10 f fd ["book","one","two","top"] (spF K 4 uK):=
 yV hw Fn aLa (fun cdv A outer s H E c=>(show SSs _ _ _ aFp from (zV (yS 4 c (qE true c D_Ways___init__ (zZ (zY 0) zW)))
  (zV (bD0 5 6 c (yN (yC false (zZ (zY 1) (zZ (zY 2) zW)))) (zV (wB (xU c D_Book_kind_named (zY 0) (zZ (zY 5) zW)))
  (zT (wB (zM c D_check_states (zZ (xU c D_Ways_possible_states (zY 4) (zZ (zY 5) zW)) (zZ (zY 6) zW)))))))
  (zV (wB (xU c D_Book_kind_named (zY 0) (zZ (zY 3) zW)))
  (zT (yX (zY 4))))))))
theorem aM9 {f:Addr} {fd:FuncData} (Fn:Fun K "checked_ways" "checked_ways" tH f fd):Binds K fd ["book","one","two","top"] []:=Fn.binds fun _ _ _ _ _ _ us hl=>match us,hl with | [_,_,_,_],_=>rfl
noncomputable abbrev aKk:List Str:=["self","keys"]
theorem aI8:FnScope aKk ["self","keys"] (defScope uM):=⟨rfl,rfl,rfl,by decide+kernel,rfl,by decide+kernel,by decide+kernel⟩
theorem aIl {f:Addr} {fd:FuncData} (hw:HereP P w) (Fn:Fun K "unlike" "Choices.unlike" uM f fd) (T:Txt K mg) (D_unlike_ways:DefOk P w K mg base 2 1 "unlike_ways" tP):FnOk P w K mg base (L2.CX P w) 2 f fd ["self","keys"] (spF K 2 vR):=
 yV hw Fn aI8 (fun cdv A outer s H E c=>(show SSs _ _ _ aD9 from (zV (xA (yQ (jZ c.here c.huN) aAe (zY 1) (yY T.k_Choices T.a_Choices_ways_by_keys (zY 0))) (zT (qJ c (zM c D_unlike_ways (zZ (yY T.k_Choices T.a_Choices_all_ways (zY 0)) (zZ (zY 1) zW))) (yY T.k_Choices T.a_Choices_ways_by_keys (zY 0)) (zY 1))) yR)
  (zT (yX (yD (aBw c.here c.huN) kJ (yY T.k_Choices T.a_Choices_ways_by_keys (zY 0)) (zY 1)))))))
theorem aIq {f:Addr} {fd:FuncData} (Fn:Fun K "unlike" "Choices.unlike" uM f fd):Binds K fd ["self","keys"] []:=Fn.binds fun _ _ _ _ _ _ us hl=>match us,hl with | [_,_],_=>rfl
noncomputable abbrev aJf:List Str:=["self","name","row","states","steps","above","rule","size","others","told","state"]
theorem aP0:FnScope aJf ["self","name","row"] (defScope jN):=⟨rfl,rfl,rfl,by decide+kernel,rfl,by decide+kernel,by decide+kernel⟩
theorem aPi {f:Addr} {fd:FuncData} (hw:HereP P w) (Fn:Fun K "steps" "Ways.steps" jN f fd) (T:Txt K mg) (D_Choices_unlike:MethOk P w K mg base 2 2 "Choices" "unlike" vR):FnOk P w K mg base (L2.CX P w) 3 f fd ["self","name","row"] (spF K 3 aBf):=
 yV hw Fn aP0 (fun cdv A outer s H E c=>(show SSs _ _ _ aJj from (zV (yS 3 c (yB (wV c.calm) xR T.n_tuple (zZ (zH ((tR c.here c.calm).or (vZ c.hu66)) xD T.n_sorted (zZ (yB (aZm c.here c.calm) bAk T.n_set (zZ (zY 2) zW)) zW)) zW)))
  (zV (yS 4 c (yC true zW))
  (zV (wJ c (vB c.here (yY T.k_Ways T.a_Ways_rules (zY 0))) (yF c.calm (zS (zU 5 c.nd) (zS (zU 6 c.nd) yT))) (zT (xA (yQ (aBu c.hu) aAf (zY 1) (yY T.k_Rule T.a_Rule_part_kinds (zY 6))) (zT (wJ c (yN (xU c D_Choices_unlike (yD (yK c.hu) yL (yY T.k_Ways T.a_Ways_choices (zY 0)) (zY 5)) (zZ (zY 3) zW))) (yF c.calm (zS (zU 7 c.nd) (zS (zU 8 c.nd) (zS (zU 9 c.nd) yT)))) (zT (wB (qH PySem.F.plainAttrs_list PySem.F.slot_list_append PySem.F.type_list_append mt_append jT (zY 4) (zZ (yZ (zZ (zY 5) (zZ (yB (wV c.calm) xR T.n_tuple (zZ (xC (own:=[("state",10)]) false c (yN (zY 2)) (blkOk_by (N:=aJf) (sc:=defScope jN) (by decide+kernel)) ⟨fun _ _ _ _ _=>(zU 10 (c.blk _ _ _ _).nd),(zL 10),fun _ _ _ _ _=>yM,fun _ _ _ _ _=>(yD (yK (c.blk _ _ _ _).hu) yL (zY 9) (zY 10))⟩) zW)) (zZ (zY 7) (zZ (zY 8) zW))))) zW)))))) yR)))
  (zT (aIu 4 (yX (zY 4)))))))))
theorem aPs {f:Addr} {fd:FuncData} (Fn:Fun K "steps" "Ways.steps" jN f fd):Binds K fd ["self","name","row"] []:=Fn.binds fun _ _ _ _ _ _ us hl=>match us,hl with | [_,_,_],_=>rfl
noncomputable abbrev aJd:List Str:=["ways","starts","found","sizes","waiting","size","place","thing","rows","reached","above","row","size_of_others","others","new_size"]
theorem aOy:FnScope aJd ["ways","starts"] (defScope jQ):=⟨rfl,rfl,rfl,by decide+kernel,rfl,by decide+kernel,by decide+kernel⟩
theorem aPg {f:Addr} {fd:FuncData} (hw:HereP P w) (Fn:Fun K "climbed_on" "climbed_on" jQ f fd) (T:Txt K mg) (D_Waiting___init__:InitOk P w K mg base 0 1 "Waiting" wL) (D_Waiting_is_empty:MethOk P w K mg base 1 1 "Waiting" "is_empty" wM) (D_Waiting_leave:MethOk P w K mg base 1 3 "Waiting" "leave" uR) (D_Waiting_wait:MethOk P w K mg base 3 2 "Waiting" "wait" vE) (D_Ways_steps:MethOkB P w K mg base 3 3 "Ways" "steps" aBf):FnOk P w K mg base (L2.CX P w) 4 f fd ["ways","starts"] (spF K 2 qM):=
 yV hw Fn aOy (fun cdv A outer s H E c=>(show SSs _ _ _ aJh from (zV (yS 2 c (jK c.here true))
  (zV (yS 3 c (jK c.here true))
  (zV (yS 4 c (aV2 false c D_Waiting___init__))
  (zV (wJ c (yN (zY 1)) (yF c.calm (zS (zU 5 c.nd) (zS (zU 6 c.nd) (zS (zU 7 c.nd) yT)))) (zT (wB (xU c D_Waiting_wait (zY 4) (zZ (zY 5) (zZ (yZ (zZ (zY 6) (zZ (zY 7) zW))) zW))))))
  (zV (aEz 400 c (uP (vA (aAh c D_Waiting_is_empty (zY 4)))) (zV (aB3 (aAh c D_Waiting_leave (zY 4)) (aBl c.calm (zS (zU 5 c.nd) (zS (zU 8 c.nd) yT))))
  (zV (aIu 8 (aQf (own:=[("place",6),("thing",7)]) false 9 c (yN (zY 8)) (blkOk_by (N:=aJd) (sc:=defScope jQ) (by decide+kernel)) ⟨fun _ _ _ _ _=>(yF (c.blk _ _ _ _).calm (zS (zU 6 (c.blk _ _ _ _).nd) (zS (zU 7 (c.blk _ _ _ _).nd) yT))),(qA (yJ (zL 6) (yJ (zL 7) tK))),fun _ _ _ _ _=>(aDl (yQ (jZ (c.blk _ _ _ _).here (c.blk _ _ _ _).huN) aAe (zY 6) (zY 2))),fun _ _ _ _ _=>(zY 6)⟩ (fun _ _ _ _ _=>(zY 7))))
  (zT (wJ c (vB c.here (zY 9)) (yF c.calm (zS (zU 6 c.nd) (zS (zU 7 c.nd) yT))) (zV (qJ c (yZ (zZ (zY 5) (zZ (zY 7) zW))) (zY 2) (zY 6))
  (zT (wJ c (yN (aTd c D_Ways_steps (zY 0) (zY 6))) (yF c.calm (zS (zU 10 c.nd) (zS (zU 11 c.nd) (zS (zU 12 c.nd) (zS (zU 13 c.nd) yT))))) (zV (yS 14 c (xV xS xT (xV xS xT (zY 5) zN) (zY 12)))
  (zT (xA (SW.sb (aDa (yQ (jZ c.here c.huN) aAe (yZ (zZ (zY 10) (zZ (zY 11) zW))) (zY 3)) (qT (yQ aIy xZ (zY 14) (yD (aBw c.here c.huN) kJ (zY 3) (yZ (zZ (zY 10) (zZ (zY 11) zW)))))))) (zV (qJ c (zY 14) (zY 3) (yZ (zZ (zY 10) (zZ (zY 11) zW))))
  (zT (wB (xU c D_Waiting_wait (zY 4) (zZ (zY 14) (zZ (yZ (zZ (yZ (zZ (zY 10) (zZ (zY 11) zW))) (zZ (yZ (zZ (zY 10) (zZ (yZ (zZ (zY 7) (aI9 (zY 13) zW))) zW))) zW))) zW)))))) yR)))))))))))
  (zT (aKz 2 (yX (zY 2)))))))))))
theorem aPq {f:Addr} {fd:FuncData} (Fn:Fun K "climbed_on" "climbed_on" jQ f fd):Binds K fd ["ways","starts"] []:=Fn.binds fun _ _ _ _ _ _ us hl=>match us,hl with | [_,_],_=>rfl
noncomputable abbrev aD5:List Str:=["ways","name","first_states","second_states","rule","parts","ways_of_two","counts","size","told","first","counts_with_first","second"]
theorem aI6:FnScope aD5 ["ways","name","first_states","second_states"] (defScope vT):=⟨rfl,rfl,rfl,by decide+kernel,rfl,by decide+kernel,by decide+kernel⟩
theorem aIj {f:Addr} {fd:FuncData} (hw:HereP P w) (Fn:Fun K "choices_of_two" "choices_of_two" vT f fd) (T:Txt K mg) (D_Choices___init__:InitOk P w K mg base 2 2 "Choices" wK) (D_Rule_told_with:MethOk P w K mg base 3 2 "Rule" "told_with" vS) (D_Rule_with_one_more:MethOk P w K mg base 3 1 "Rule" "with_one_more" yG) (D_Ways_least_parts_of:MethOk P w K mg base 2 2 "Ways" "least_parts_of" xP) (D_chosen_others:DefOk P w K mg base 3 1 "chosen_others" uS) (D_counts_of_others:DefOk P w K mg base 2 1 "counts_of_others" wN):FnOk P w K mg base (L2.CX P w) 4 f fd ["ways","name","first_states","second_states"] (spF K 4 jX):=
 yV hw Fn aI6 (fun cdv A outer s H E c=>(show SSs _ _ _ aD7 from (zV (yS 4 c (yD (yK c.hu) yL (yY T.k_Ways T.a_Ways_rules (zY 0)) (zY 1)))
  (zV (yS 5 c (xU c D_Ways_least_parts_of (zY 0) (zZ (zY 1) zW)))
  (zV (yS 6 c (yC true zW))
  (zV (wJ c (yN (zM c D_counts_of_others (zZ (zY 4) (zZ (zY 5) zW)))) (yF c.calm (zS (zU 7 c.nd) (zS (zU 8 c.nd) yT))) (zV (yS 9 c (jK c.here true))
  (zV (wJ c (yN (zY 2)) (zU 10 c.nd) (zV (yS 11 c (xU c D_Rule_with_one_more (zY 4) (zZ (zY 7) (zZ (zY 10) zW))))
  (zT (wJ c (yN (zY 3)) (zU 12 c.nd) (zT (qJ c (xU c D_Rule_told_with (zY 4) (zZ (zY 11) (zZ (zY 12) zW))) (zY 9) (yZ (zZ (zY 10) (zZ (zY 12) zW)))))))))
  (zT (aKz 9 (wB (qH PySem.F.plainAttrs_list PySem.F.slot_list_append PySem.F.type_list_append mt_append jT (zY 6) (zZ (yZ (zZ (zY 8) (zZ (zM c D_chosen_others (zZ (zY 4) (zZ (zY 5) (zZ (zY 7) zW)))) (zZ (zY 9) zW)))) zW))))))))
  (zT (aIu 6 (yX (qE false c D_Choices___init__ (zZ (zY 6) (zZ (aGq (own:=[("first",10),("second",12)]) (own1:=[("second",12)]) false c (yN (zY 2)) (blkOk_by (N:=aD5) (sc:=defScope vT) (by decide+kernel)) ⟨fun _ _ _ _ _=>aOt (by decide) (zU 10 (c.blk _ _ _ _).nd),aN9 (by decide) (zL 10),fun _ _ _ _ _=>yM,fun _ _ _ _ _=>(yZ (zZ (zY 10) (zZ (zY 12) zW)))⟩ ⟨fun _ _ _ _ _=>(yN (zY 3)),fun _ _ _ _ _=>(zU 12 (c.blk _ _ _ _).nd),(zL 12),fun _ _ _ _ _=>yM⟩) zW))))))))))))
theorem aIo {f:Addr} {fd:FuncData} (Fn:Fun K "choices_of_two" "choices_of_two" vT f fd):Binds K fd ["ways","name","first_states","second_states"] []:=Fn.binds fun _ _ _ _ _ _ us hl=>match us,hl with | [_,_,_,_],_=>rfl
noncomputable abbrev aQ1:List Str:=["found","kinds","best","kind","pair","row"]
theorem aN3:FnScope aQ1 ["found","kinds"] (defScope jJ):=⟨rfl,rfl,rfl,by decide+kernel,rfl,by decide+kernel,by decide+kernel⟩
theorem aNd {f:Addr} {fd:FuncData} (hw:HereP P w) (Fn:Fun K "least_pairs" "least_pairs" jJ f fd) (T:Txt K mg):FnOk P w K mg base (L2.CX P w) 1 f fd ["found","kinds"] (spF K 2 kX):=
 yV hw Fn aN3 (fun cdv A outer s H E c=>(show SSs _ _ _ aHw from (zV (yS 2 c (jK c.here true))
  (zV (wJ c (vB c.here (zY 0)) (yF c.calm (zS (yF c.calm (zS (zU 3 c.nd) (zS (zU 4 c.nd) yT))) (zS (zU 5 c.nd) yT))) (zT (xA (SW.sb (aKx (yQ (aBu c.hu) aAf (zY 3) (zY 1)) (aFu (yQ (jZ c.here c.huN) aAe (zY 4) (zY 2))))) (zT (qJ c (zY 5) (zY 2) (zY 4))) yR)))
  (zT (aKz 2 (yX (zY 2))))))))
theorem aNn {f:Addr} {fd:FuncData} (Fn:Fun K "least_pairs" "least_pairs" jJ f fd):Binds K fd ["found","kinds"] []:=Fn.binds fun _ _ _ _ _ _ us hl=>match us,hl with | [_,_],_=>rfl
noncomputable abbrev aMf:List Str:=["pairs","pair","state"]
theorem aQl:FnScope aMf ["pairs"] (defScope kH):=⟨rfl,rfl,rfl,by decide+kernel,rfl,by decide+kernel,by decide+kernel⟩
theorem aRo {f:Addr} {fd:FuncData} (hw:HereP P w) (Fn:Fun K "states_of" "states_of" kH f fd) (T:Txt K mg):FnOk P w K mg base (L2.CX P w) 1 f fd ["pairs"] (spF K 1 aB1):=
 yV hw Fn aQl (fun cdv A outer s H E c=>(show SSs _ _ _ aMp from (zT (yX (zH ((tR c.here c.calm).or (vZ c.hu66)) xD T.n_sorted (zZ (aXx (own:=[("pair",1),("state",2)]) (own1:=[("state",2)]) c (bAi c.here (zY 0)) (blkOk_by (N:=aMf) (sc:=defScope kH) (by decide+kernel)) ⟨fun _ _ _ _ _=>aOt (by decide) (zU 1 (c.blk _ _ _ _).nd),aN9 (by decide) (zL 1),fun _ _ _ _ _=>yM,fun _ _ _ _ _=>(zY 2)⟩ ⟨fun _ _ _ _ _=>(yN (zY 1)),fun _ _ _ _ _=>(zU 2 (c.blk _ _ _ _).nd),(zL 2),fun _ _ _ _ _=>yM⟩) zW))))))
theorem aS8 {f:Addr} {fd:FuncData} (Fn:Fun K "states_of" "states_of" kH f fd):Binds K fd ["pairs"] []:=Fn.binds fun _ _ _ _ _ _ us hl=>match us,hl with | [_],_=>rfl
noncomputable abbrev aF6:List Str:=["ways","name","firsts","seconds","kinds","first_pairs","second_pairs","choices","best","one","size_one","first","two","size_two","second","keys","size_of_others","others","told","row","size","double","other","state","key"]
theorem aTi:FnScope aF6 ["ways","name","firsts","seconds"] (defScope jS):=⟨rfl,rfl,rfl,by decide+kernel,rfl,by decide+kernel,by decide+kernel⟩
theorem aTz {f:Addr} {fd:FuncData} (hw:HereP P w) (Fn:Fun K "joins_at" "joins_at" jS f fd) (T:Txt K mg) (D_Choices_unlike:MethOk P w K mg base 2 2 "Choices" "unlike" vR) (D_choices_of_two:DefOk P w K mg base 4 4 "choices_of_two" jX) (D_least_pairs:DefOk P w K mg base 2 1 "least_pairs" kX) (D_states_of:DefOk P w K mg base 1 1 "states_of" aB1):FnOk P w K mg base (L2.CX P w) 5 f fd ["ways","name","firsts","seconds"] (spF K 4 aF8):=
 yV hw Fn aTi (fun cdv A outer s H E c=>(show SSs _ _ _ aOl from (zV (yS 4 c (yY T.k_Rule T.a_Rule_part_kinds (yD (yK c.hu) yL (yY T.k_Ways T.a_Ways_rules (zY 0)) (zY 1))))
  (zV (bC3 5 6 c (zZ (zM c D_least_pairs (zZ (zY 2) (zZ (zY 4) zW))) (zZ (zM c D_least_pairs (zZ (zY 3) (zZ (zY 4) zW))) zW)))
  (zV (yS 7 c (zM c D_choices_of_two (zZ (zY 0) (zZ (zY 1) (zZ (zM c D_states_of (zZ (zY 5) zW)) (zZ (zM c D_states_of (zZ (zY 6) zW)) zW))))))
  (zV (yS 8 c (jK c.here true))
  (zV (wJ c (vB c.here (zY 5)) (yF c.calm (zS (zU 9 c.nd) (zS (yF c.calm (zS (zU 10 c.nd) (zS (zU 11 c.nd) yT))) yT))) (zT (wJ c (vB c.here (zY 6)) (yF c.calm (zS (zU 12 c.nd) (zS (yF c.calm (zS (zU 13 c.nd) (zS (zU 14 c.nd) yT))) yT))) (zV (yS 15 c (yB (wV c.calm) xR T.n_tuple (zZ (aGq (own:=[("other",22),("state",23)]) (own1:=[("state",23)]) false c (yN (zY 12)) (blkOk_by (N:=aF6) (sc:=defScope jS) (by decide+kernel)) ⟨fun _ _ _ _ _=>aOt (by decide) (zU 22 (c.blk _ _ _ _).nd),aN9 (by decide) (zL 22),fun _ _ _ _ _=>yM,fun _ _ _ _ _=>(yZ (zZ (zY 23) (zZ (zY 22) zW)))⟩ ⟨fun _ _ _ _ _=>(yN (zY 9)),fun _ _ _ _ _=>(zU 23 (c.blk _ _ _ _).nd),(zL 23),fun _ _ _ _ _=>yM⟩) zW)))
  (zT (wJ c (yN (xU c D_Choices_unlike (zY 7) (zZ (yB (wV c.calm) xR T.n_tuple (zZ (aWl c (zZ (zY 15) zW) T.n_sorted T.n_set) zW)) zW))) (yF c.calm (zS (zU 16 c.nd) (zS (zU 17 c.nd) (zS (zU 18 c.nd) yT)))) (zV (yS 19 c (yB (wV c.calm) xR T.n_tuple (zZ (xC (own:=[("key",24)]) false c (yN (zY 15)) (blkOk_by (N:=aF6) (sc:=defScope jS) (by decide+kernel)) ⟨fun _ _ _ _ _=>(zU 24 (c.blk _ _ _ _).nd),(zL 24),fun _ _ _ _ _=>yM,fun _ _ _ _ _=>(yD (aBw (c.blk _ _ _ _).here (c.blk _ _ _ _).huN) kJ (zY 18) (zY 24))⟩) zW)))
  (zV (yS 20 c (xV xS xT (xV xS xT (xV xS xT zN (zY 10)) (zY 13)) (zY 16)))
  (zT (xA (SW.sb (aDa (yQ (jZ c.here c.huN) aAe (zY 19) (zY 8)) (qT (yQ aIy xZ (zY 20) (yD (yK c.hu) yL (yD (aBw c.here c.huN) kJ (zY 8) (zY 19)) zN))))) (zT (qJ c (yZ (zZ (zY 20) (zZ (yZ (zZ (zY 1) (zZ (yZ (zZ (zY 11) (zZ (zY 14) (aI9 (zY 17) zW)))) zW))) zW))) (zY 8) (zY 19))) yR))))))))))
  (zT (aKz 8 (yX (xC (own:=[("row",19),("size",20),("double",21)]) false c (vB c.here (zY 8)) (blkOk_by (N:=aF6) (sc:=defScope jS) (by decide+kernel)) ⟨fun _ _ _ _ _=>(yF (c.blk _ _ _ _).calm (zS (zU 19 (c.blk _ _ _ _).nd) (zS (yF (c.blk _ _ _ _).calm (zS (zU 20 (c.blk _ _ _ _).nd) (zS (zU 21 (c.blk _ _ _ _).nd) yT))) yT))),(qA (yJ (zL 19) (yJ (qA (yJ (zL 20) (yJ (zL 21) tK))) tK))),fun _ _ _ _ _=>yM,fun _ _ _ _ _=>(yZ (zZ (zY 20) (zZ (yZ (zZ (zY 1) (zZ (zY 19) zW))) (zZ (zY 21) zW))))⟩)))))))))))
theorem aU7 {f:Addr} {fd:FuncData} (Fn:Fun K "joins_at" "joins_at" jS f fd):Binds K fd ["ways","name","firsts","seconds"] []:=Fn.binds fun _ _ _ _ _ _ us hl=>match us,hl with | [_,_,_,_],_=>rfl
noncomputable abbrev aOi:List Str:=["ways","one","two","firsts","seconds","joins","name","kind","old","new"]
theorem aTk:FnScope aOi ["ways","one","two"] (defScope aAb):=⟨rfl,rfl,rfl,by decide+kernel,rfl,by decide+kernel,by decide+kernel⟩
theorem aU1 {f:Addr} {fd:FuncData} (hw:HereP P w) (Fn:Fun K "forks_of" "forks_of" aAb f fd) (T:Txt K mg) (D_climbed_on:DefOk P w K mg base 2 4 "climbed_on" qM) (D_joins_at:DefOk P w K mg base 4 5 "joins_at" aF8):FnOk P w K mg base (L2.CX P w) 6 f fd ["ways","one","two"] (spF K 3 aAd):=
 yV hw Fn aTk (fun cdv A outer s H E c=>(show SSs _ _ _ aOn from (zV (aB3 (xC (own:=[("kind",7),("old",8),("new",9)]) false c (yN (yC false (zZ (zY 1) (zZ (zY 2) zW)))) (blkOk_by (N:=aOi) (sc:=defScope aAb) (by decide+kernel)) ⟨fun _ _ _ _ _=>(yF (c.blk _ _ _ _).calm (zS (zU 7 (c.blk _ _ _ _).nd) (zS (zU 8 (c.blk _ _ _ _).nd) (zS (zU 9 (c.blk _ _ _ _).nd) yT)))),(qA (yJ (zL 7) (yJ (zL 8) (yJ (zL 9) tK)))),fun _ _ _ _ _=>yM,fun _ _ _ _ _=>(zM (c.blk _ _ _ _) D_climbed_on (zZ (zY 0) (zZ (yC false (zZ (yZ (zZ zN (zZ (yZ (zZ (zY 7) (zZ (yZ (zZ (zY 8) (zZ (zY 9) zW))) zW))) (zZ (yZ zW) zW)))) zW)) zW)))⟩) (aBl c.calm (zS (zU 3 c.nd) (zS (zU 4 c.nd) yT))))
  (zV (yS 5 c (yC true zW))
  (zV (wJ c (yN (yY T.k_Ways T.a_Ways_rules (zY 0))) (zU 6 c.nd) (zT (wB (qH PySem.F.plainAttrs_list PySem.F.slot_list_extend PySem.F.type_list_extend aF4 aC9 (zY 5) (zZ (zM c D_joins_at (zZ (zY 0) (zZ (zY 6) (zZ (zY 3) (zZ (zY 4) zW))))) zW)))))
  (zT (aIu 5 (yX (zM c D_climbed_on (zZ (zY 0) (zZ (zY 5) zW)))))))))))
theorem aU9 {f:Addr} {fd:FuncData} (Fn:Fun K "forks_of" "forks_of" aAb f fd):Binds K fd ["ways","one","two"] []:=Fn.binds fun _ _ _ _ _ _ us hl=>match us,hl with | [_,_,_],_=>rfl
noncomputable abbrev aSm:List Str:=["found","top","name","row"]
theorem aWo:FnScope aSm ["found","top"] (defScope aBr):=⟨rfl,rfl,rfl,by decide+kernel,rfl,by decide+kernel,by decide+kernel⟩
theorem aWv {f:Addr} {fd:FuncData} (hw:HereP P w) (Fn:Fun K "rows_at" "rows_at" aBr f fd) (T:Txt K mg):FnOk P w K mg base (L2.CX P w) 1 f fd ["found","top"] (spF K 2 aHt):=
 yV hw Fn aWo (fun cdv A outer s H E c=>(show SSs _ _ _ aSs from (zT (yX (zH ((tR c.here c.calm).or (vZ c.hu66)) xD T.n_sorted (zZ (xC (own:=[("name",2),("row",3)]) false c (yN (yB (aOg c.here c.calm) aQi T.n_list (zZ (zY 0) zW))) (blkOk_by (N:=aSm) (sc:=defScope aBr) (by decide+kernel)) ⟨fun _ _ _ _ _=>(yF (c.blk _ _ _ _).calm (zS (zU 2 (c.blk _ _ _ _).nd) (zS (zU 3 (c.blk _ _ _ _).nd) yT))),(qA (yJ (zL 2) (yJ (zL 3) tK))),fun _ _ _ _ _=>(aDl (yQ (aE0 (c.blk _ _ _ _).room.units) aDo (zY 2) (zY 1))),fun _ _ _ _ _=>(zY 3)⟩) zW))))))
theorem aX6 {f:Addr} {fd:FuncData} (Fn:Fun K "rows_at" "rows_at" aBr f fd):Binds K fd ["found","top"] []:=Fn.binds fun _ _ _ _ _ _ us hl=>match us,hl with | [_,_],_=>rfl
noncomputable abbrev bH0:List Str:=["book","one","two","top","ways"]
theorem bDp:FnScope bH0 ["book","one","two","top"] (defScope aQx):=⟨rfl,rfl,rfl,by decide+kernel,rfl,by decide+kernel,by decide+kernel⟩
theorem bEs {f:Addr} {fd:FuncData} (hw:HereP P w) (Fn:Fun K "rows" "rows" aQx f fd) (T:Txt K mg) (D_checked_ways:DefOk P w K mg base 4 10 "checked_ways" uK) (D_forks_of:DefOk P w K mg base 3 6 "forks_of" aAd) (D_rows_at:DefOk P w K mg base 2 1 "rows_at" aHt):FnOk P w K mg base (L2.CX P w) 11 f fd ["book","one","two","top"] (spF K 4 aEn):=
 yV hw Fn bDp (fun cdv A outer s H E c=>(show SSs _ _ _ bCn from (zV (yS 4 c (zM c D_checked_ways (zZ (zY 0) (zZ (zY 1) (zZ (zY 2) (zZ (zY 3) zW))))))
  (zT (yX (zM c D_rows_at (zZ (zM c D_forks_of (zZ (zY 4) (zZ (zY 1) (zZ (zY 2) zW)))) (zZ (zY 3) zW))))))))
theorem bEz {f:Addr} {fd:FuncData} (Fn:Fun K "rows" "rows" aQx f fd):Binds K fd ["book","one","two","top"] []:=Fn.binds fun _ _ _ _ _ _ us hl=>match us,hl with | [_,_,_,_],_=>rfl
noncomputable abbrev aOj:List Str:=["book","one","two","top","row"]
theorem aTl:FnScope aOj ["book","one","two","top"] (defScope aAc):=⟨rfl,rfl,rfl,by decide+kernel,rfl,by decide+kernel,by decide+kernel⟩
theorem aU2 {f:Addr} {fd:FuncData} (hw:HereP P w) (Fn:Fun K "flickers" "flickers" aAc f fd) (T:Txt K mg) (D_is_flicker:DefOk P w K mg base 1 1 "is_flicker" aBd) (D_rows:DefOk P w K mg base 4 11 "rows" aEn):FnOk P w K mg base (L2.CX P w) 12 f fd ["book","one","two","top"] (spF K 4 tN):=
 yV hw Fn aTl (fun cdv A outer s H E c=>(show SSs _ _ _ aOo from (zT (yX (xC (own:=[("row",4)]) false c (yN (zM c D_rows (zZ (zY 0) (zZ (zY 1) (zZ (zY 2) (zZ (zY 3) zW)))))) (blkOk_by (N:=aOj) (sc:=defScope aAc) (by decide+kernel)) ⟨fun _ _ _ _ _=>(zU 4 (c.blk _ _ _ _).nd),(zL 4),fun _ _ _ _ _=>(aDl (vA (zM (c.blk _ _ _ _) D_is_flicker (zZ (zY 4) zW)))),fun _ _ _ _ _=>(zY 4)⟩)))))
theorem aUa {f:Addr} {fd:FuncData} (Fn:Fun K "flickers" "flickers" aAc f fd):Binds K fd ["book","one","two","top"] []:=Fn.binds fun _ _ _ _ _ _ us hl=>match us,hl with | [_,_,_,_],_=>rfl
noncomputable abbrev aZw:List Str:=["thing"]
theorem aWq:FnScope aZw ["thing"] (defScope aDt):=⟨rfl,rfl,rfl,by decide+kernel,rfl,by decide+kernel,by decide+kernel⟩
theorem aWx {f:Addr} {fd:FuncData} (hw:HereP P w) (Fn:Fun K "is_list" "is_list" aDt f fd) (T:Txt K mg):FnOk P w K mg base (L2.CX P w) 1 f fd ["thing"] (spF K 1 uT):=
 yV hw Fn aWq (fun cdv A outer s H E c=>(show SSs _ _ _ aSu from (zT (yX (bDl (zY 0) (aUo (aUo bCr T.n_tuple) T.n_list) (by decide) T.n_isinstance)))))
theorem aX8 {f:Addr} {fd:FuncData} (Fn:Fun K "is_list" "is_list" aDt f fd):Binds K fd ["thing"] []:=Fn.binds fun _ _ _ _ _ _ us hl=>match us,hl with | [_],_=>rfl
noncomputable abbrev bCm:List Str:=["book","one","two","top","row","ways","found","place","state"]
theorem bDq:FnScope bCm ["book","one","two","top","row"] (defScope aO4):=⟨rfl,rfl,rfl,by decide+kernel,rfl,by decide+kernel,by decide+kernel⟩
theorem bEt {f:Addr} {fd:FuncData} (hw:HereP P w) (Fn:Fun K "fork" "fork" aO4 f fd) (T:Txt K mg) (D_Book_states:PropOk P w K mg base 1 "Book" "states" vG) (D_checked_ways:DefOk P w K mg base 4 10 "checked_ways" uK) (D_forks_of:DefOk P w K mg base 3 6 "forks_of" aAd) (D_is_list:DefOk P w K mg base 1 1 "is_list" uT) (D_is_one_of:DefOk P w K mg base 2 1 "is_one_of" qZ):FnOk P w K mg base (L2.CX P w) 11 f fd ["book","one","two","top","row"] (spF K 5 aEo):=
 yV hw Fn bDq (fun cdv A outer s H E c=>(show SSs _ _ _ bCo from (zV (yS 5 c (zM c D_checked_ways (zZ (zY 0) (zZ (zY 1) (zZ (zY 2) (zZ (zY 3) zW))))))
  (zV (xA (SW.sb (aDa (uP (vA (zM c D_is_list (zZ (zY 4) zW)))) (qT (uP (vA (zH (cr_all c.calm) aBm T.n_all (zZ (xC (own:=[("state",8)]) false c (yN (zY 4)) (blkOk_by (N:=bCm) (sc:=defScope aO4) (by decide+kernel)) ⟨fun _ _ _ _ _=>(zU 8 (c.blk _ _ _ _).nd),(zL 8),fun _ _ _ _ _=>yM,fun _ _ _ _ _=>(zM (c.blk _ _ _ _) D_is_one_of (zZ (zY 8) (zZ (aAg (c.blk _ _ _ _) D_Book_states (zY 0)) zW)))⟩) zW))))))) (zT (yX qB)) yR)
  (zV (yS 6 c (zM c D_forks_of (zZ (zY 5) (zZ (zY 1) (zZ (zY 2) zW)))))
  (zV (yS 7 c (yZ (zZ (zY 3) (zZ (yB (wV c.calm) xR T.n_tuple (zZ (zY 4) zW)) zW))))
  (zT (yX (aXy (yQ (bFs c.here c.huN) aAe (zY 7) (zY 6)) (yD (yK c.hu) yL (yD (aBw c.here c.huN) kJ (zY 6) (zY 7)) zN) qB)))))))))
theorem bF0 {f:Addr} {fd:FuncData} (Fn:Fun K "fork" "fork" aO4 f fd):Binds K fd ["book","one","two","top","row"] []:=Fn.binds fun _ _ _ _ _ _ us hl=>match us,hl with | [_,_,_,_,_],_=>rfl
noncomputable abbrev aHr:List Str:=["self","place"]
theorem aG1:FnScope aHr ["self","place"] (defScope vK):=⟨rfl,rfl,rfl,by decide+kernel,rfl,by decide+kernel,by decide+kernel⟩
theorem aGd {f:Addr} {fd:FuncData} (Fn:Fun K "__init__" "BadBook.__init__" vK f fd):FnOk P w K mg base (L2.CX P w) 1 f fd ["self","place"] (spX K "place"):=
 aVt Fn aG1 rfl rfl (fun cdv A outer s H E=>pss_one (ps_ost (pe_var rfl (.inl rfl)) (pe_var rfl (.inl rfl))))
theorem aGk {f:Addr} {fd:FuncData} (Fn:Fun K "__init__" "BadBook.__init__" vK f fd):Binds K fd ["self","place"] []:=Fn.binds fun _ _ _ _ _ _ us hl=>match us,hl with | [_,_],_=>rfl
noncomputable abbrev aMk:List Str:=["thing","name","kind"]
theorem aQr:FnScope aMk ["thing"] (defScope kD):=⟨rfl,rfl,rfl,by decide+kernel,rfl,by decide+kernel,by decide+kernel⟩
theorem aRu {f:Addr} {fd:FuncData} (hw:HereP P w) (Fn:Fun K "are_kinds" "are_kinds" kD f fd) (T:Txt K mg) (D_is_name:DefOk P w K mg base 1 1 "is_name" uL):FnOk P w K mg base (L2.CX P w) 2 f fd ["thing"] (spF K 1 aCn):=
 yV hw Fn aQr (fun cdv A outer s H E c=>(show SSs _ _ _ aMv from (zV (xA (SW.sb (aDa (uP (vA (zH call_isi aI4 T.n_isinstance (zZ (zY 0) (zZ (aWk T.n_dict (by decide+kernel)) zW))))) (qT (uP (aV4 aFf xZ aFf xZ zN (zH yA vV T.n_len (zZ (zY 0) zW)) (aWm T.c_MOST_KINDS)))))) (zT (yX aBp)) yR)
  (zT (yX (zH (cr_all c.calm) aBm T.n_all (zZ (xC (own:=[("name",1),("kind",2)]) false c (vB c.here (zY 0)) (blkOk_by (N:=aMk) (sc:=defScope kD) (by decide+kernel)) ⟨fun _ _ _ _ _=>(yF (c.blk _ _ _ _).calm (zS (zU 1 (c.blk _ _ _ _).nd) (zS (zU 2 (c.blk _ _ _ _).nd) yT))),(qA (yJ (zL 1) (yJ (zL 2) tK))),fun _ _ _ _ _=>yM,fun _ _ _ _ _=>(aO3 (zM (c.blk _ _ _ _) D_is_name (zZ (zY 1) zW)) (aO2 (bDm (zY 2) T.i_Kind T.n_isinstance)))⟩) zW)))))))
theorem aSe {f:Addr} {fd:FuncData} (Fn:Fun K "are_kinds" "are_kinds" kD f fd):Binds K fd ["thing"] []:=Fn.binds fun _ _ _ _ _ _ us hl=>match us,hl with | [_],_=>rfl
noncomputable abbrev aUk:List Str:=["self"]
theorem aQv:FnScope aUk ["self"] (defScope aAo):=⟨rfl,rfl,rfl,by decide+kernel,rfl,by decide+kernel,by decide+kernel⟩
theorem aRy {f:Addr} {fd:FuncData} (hw:HereP P w) (Fn:Fun K "last" "Kind.last" aAo f fd) (T:Txt K mg):FnOk P w K mg base (L2.CX P w) 1 f fd ["self"] (spF K 1 aCq):=
 yV hw Fn aQv (fun cdv A outer s H E c=>(show SSs _ _ _ aMy from (zT (yX (yY T.k_Kind T.a_Kind_last_state (zY 0))))))
theorem aSi {f:Addr} {fd:FuncData} (Fn:Fun K "last" "Kind.last" aAo f fd):Binds K fd ["self"] []:=Fn.binds fun _ _ _ _ _ _ us hl=>match us,hl with | [_],_=>rfl
noncomputable abbrev aUf:List Str:=["kind","states","state","conditions","least","most","names"]
theorem aQm:FnScope aUf ["kind"] (defScope aAj):=⟨rfl,rfl,rfl,by decide+kernel,rfl,by decide+kernel,by decide+kernel⟩
theorem aRp {f:Addr} {fd:FuncData} (hw:HereP P w) (Fn:Fun K "states_in" "states_in" aAj f fd) (T:Txt K mg) (D_Kind_clauses:PropOk P w K mg base 1 "Kind" "clauses" uH) (D_Kind_hand:PropOk P w K mg base 1 "Kind" "hand" qY) (D_Kind_last:PropOk P w K mg base 1 "Kind" "last" aCq):FnOk P w K mg base (L2.CX P w) 3 f fd ["kind"] (spF K 1 aCl):=
 yV hw Fn aQm (fun cdv A outer s H E c=>(show SSs _ _ _ aMq from (zV (yS 1 c (yC true (aI9 (aAg c D_Kind_hand (zY 0)) (zZ (aAg c D_Kind_last (zY 0)) zW))))
  (zV (wJ c (yN (aAg c D_Kind_clauses (zY 0))) (yF c.calm (zS (zU 2 c.nd) (zS (zU 3 c.nd) yT))) (zV (wB (qH PySem.F.plainAttrs_list PySem.F.slot_list_append PySem.F.type_list_append mt_append jT (zY 1) (zZ (zY 2) zW)))
  (zT (wJ c (yN (zY 3)) (yF c.calm (zS (zU 4 c.nd) (zS (zU 5 c.nd) (zS (zU 6 c.nd) yT)))) (zT (wB (qH PySem.F.plainAttrs_list PySem.F.slot_list_extend PySem.F.type_list_extend aF4 aC9 (zY 1) (zZ (zY 6) zW))))))))
  (zT (aIu 1 (yX (zY 1))))))))
theorem aS9 {f:Addr} {fd:FuncData} (Fn:Fun K "states_in" "states_in" aAj f fd):Binds K fd ["kind"] []:=Fn.binds fun _ _ _ _ _ _ us hl=>match us,hl with | [_],_=>rfl
noncomputable abbrev kY:List Str:=["self","kinds","states","name","kind","state","part"]
theorem aJv:FnScope kY ["self","kinds"] (defScope wX):=⟨rfl,rfl,rfl,by decide+kernel,rfl,by decide+kernel,by decide+kernel⟩
theorem aK6 {f:Addr} {fd:FuncData} (hw:HereP P w) (Fn:Fun K "__init__" "Book.__init__" wX f fd) (T:Txt K mg) (D_BadBook___init__:XcOk P w K mg base 1 "BadBook" "place") (D_Kind_parts:PropOk P w K mg base 1 "Kind" "parts" jM) (D_are_kinds:DefOk P w K mg base 1 2 "are_kinds" aCn) (D_states_in:DefOk P w K mg base 1 3 "states_in" aCl):FnOk P w K mg base (L2.CX P w) 4 f fd ["self","kinds"] (spF K 2 wR):=
 yV hw Fn aJv (fun cdv A outer s H E c=>(show SSs _ _ _ aEy from (zV (xA (uP (vA (zM c D_are_kinds (zZ (zY 1) zW)))) (zT (aA4 c D_BadBook___init__ zQ)) yR)
  (zV (xA (uP (vA (zH (cr_all c.calm) aBm T.n_all (zZ (aGq (own:=[("kind",4),("part",6)]) (own1:=[("part",6)]) false c (aUx (zY 1)) (blkOk_by (N:=kY) (sc:=defScope wX) (by decide+kernel)) ⟨fun _ _ _ _ _=>aOt (by decide) (zU 4 (c.blk _ _ _ _).nd),aN9 (by decide) (zL 4),fun _ _ _ _ _=>yM,fun _ _ _ _ _=>(aDp (aBu (c.blk _ _ _ _).hu) aAf (zY 6) (zY 1))⟩ ⟨fun _ _ _ _ _=>(yN (aAg (c.blk _ _ _ _) D_Kind_parts (zY 4))),fun _ _ _ _ _=>(zU 6 (c.blk _ _ _ _).nd),(zL 6),fun _ _ _ _ _=>yM⟩) zW)))) (zT (aA4 c D_BadBook___init__ zQ)) yR)
  (zV (yS 2 c (zH ((tR c.here c.calm).or (vZ c.hu66)) xD T.n_sorted (zZ (aXx (own:=[("kind",4),("state",5)]) (own1:=[("state",5)]) c (aUx (zY 1)) (blkOk_by (N:=kY) (sc:=defScope wX) (by decide+kernel)) ⟨fun _ _ _ _ _=>aOt (by decide) (zU 4 (c.blk _ _ _ _).nd),aN9 (by decide) (zL 4),fun _ _ _ _ _=>yM,fun _ _ _ _ _=>(zY 5)⟩ ⟨fun _ _ _ _ _=>(yN (zM (c.blk _ _ _ _) D_states_in (zZ (zY 4) zW))),fun _ _ _ _ _=>(zU 5 (c.blk _ _ _ _).nd),(zL 5),fun _ _ _ _ _=>yM⟩) zW)))
  (zV (xA (yQ aBv xZ (zH yA vV T.n_len (zZ (zY 2) zW)) (aWm T.c_MOST_STATES)) (zT (aA4 c D_BadBook___init__ zQ)) yR)
  (zV (vQ T.k_Book T.a_Book_kinds_by_name (aB5 (own:=[("name",3)]) false c (yN (zH ((tR c.here c.calm).or (vZ c.hu66)) xD T.n_sorted (zZ (zY 1) zW))) (blkOk_by (N:=kY) (sc:=defScope wX) (by decide+kernel)) ⟨fun _ _ _ _ _=>(zU 3 (c.blk _ _ _ _).nd),(zL 3),fun _ _ _ _ _=>yM,fun _ _ _ _ _=>(zY 3)⟩ (fun _ _ _ _ _=>(yD (yK (c.blk _ _ _ _).hu) yL (zY 1) (zY 3)))) (zY 0))
  (zV (vQ T.k_Book T.a_Book_name_row (yB (wV c.calm) xR T.n_tuple (zZ (zH ((tR c.here c.calm).or (vZ c.hu66)) xD T.n_sorted (zZ (zY 1) zW)) zW)) (zY 0))
  (zT (vQ T.k_Book T.a_Book_state_row (yB (wV c.calm) xR T.n_tuple (zZ (zY 2) zW)) (zY 0)))))))))))
theorem aKi {f:Addr} {fd:FuncData} (Fn:Fun K "__init__" "Book.__init__" wX f fd):Binds K fd ["self","kinds"] []:=Fn.binds fun _ _ _ _ _ _ us hl=>match us,hl with | [_,_],_=>rfl
noncomputable abbrev aHq:List Str:=["self","place"]
theorem aG0:FnScope aHq ["self","place"] (defScope vL):=⟨rfl,rfl,rfl,by decide+kernel,rfl,by decide+kernel,by decide+kernel⟩
theorem aGc {f:Addr} {fd:FuncData} (Fn:Fun K "__init__" "BadKind.__init__" vL f fd):FnOk P w K mg base (L2.CX P w) 1 f fd ["self","place"] (spX K "place"):=
 aVt Fn aG0 rfl rfl (fun cdv A outer s H E=>pss_one (ps_ost (pe_var rfl (.inl rfl)) (pe_var rfl (.inl rfl))))
theorem aGj {f:Addr} {fd:FuncData} (Fn:Fun K "__init__" "BadKind.__init__" vL f fd):Binds K fd ["self","place"] []:=Fn.binds fun _ _ _ _ _ _ us hl=>match us,hl with | [_,_],_=>rfl
noncomputable abbrev aMj:List Str:=["thing","name"]
theorem aQq:FnScope aMj ["thing"] (defScope kE):=⟨rfl,rfl,rfl,by decide+kernel,rfl,by decide+kernel,by decide+kernel⟩
theorem aRt {f:Addr} {fd:FuncData} (hw:HereP P w) (Fn:Fun K "are_names" "are_names" kE f fd) (T:Txt K mg) (D_is_list:DefOk P w K mg base 1 1 "is_list" uT) (D_is_name:DefOk P w K mg base 1 1 "is_name" uL):FnOk P w K mg base (L2.CX P w) 2 f fd ["thing"] (spF K 1 jU):=
 yV hw Fn aQq (fun cdv A outer s H E c=>(show SSs _ _ _ aMu from (zV (xA (SW.sb (aDa (uP (vA (zM c D_is_list (zZ (zY 0) zW)))) (qT (uP (vA (zH (cr_all c.calm) aBm T.n_all (zZ (xC (own:=[("name",1)]) false c (yN (zY 0)) (blkOk_by (N:=aMj) (sc:=defScope kE) (by decide+kernel)) ⟨fun _ _ _ _ _=>(zU 1 (c.blk _ _ _ _).nd),(zL 1),fun _ _ _ _ _=>yM,fun _ _ _ _ _=>(zM (c.blk _ _ _ _) D_is_name (zZ (zY 1) zW))⟩) zW))))))) (zT (yX aBp)) yR)
  (zT (yX (aDp (aE0 c.room.units) aDo (aQj c (zY 0) T.n_len T.n_set) (zH yA vV T.n_len (zZ (zY 0) zW))))))))
theorem aSd {f:Addr} {fd:FuncData} (Fn:Fun K "are_names" "are_names" kE f fd):Binds K fd ["thing"] []:=Fn.binds fun _ _ _ _ _ _ us hl=>match us,hl with | [_],_=>rfl
noncomputable abbrev aX9:List Str:=["thing"]
theorem aTj:FnScope aX9 ["thing"] (defScope aBt):=⟨rfl,rfl,rfl,by decide+kernel,rfl,by decide+kernel,by decide+kernel⟩
theorem aU0 {f:Addr} {fd:FuncData} (hw:HereP P w) (Fn:Fun K "is_digit" "is_digit" aBt f fd) (T:Txt K mg):FnOk P w K mg base (L2.CX P w) 1 f fd ["thing"] (spF K 1 aC3):=
 yV hw Fn aTj (fun cdv A outer s H E c=>(show SSs _ _ _ aOm from (zT (yX (aO3 (zH call_isi aI4 T.n_isinstance (zZ (zY 0) (zZ (aWk T.n_int (by decide+kernel)) zW))) (aO3 (bC5 (zH call_isi aI4 T.n_isinstance (zZ (zY 0) (zZ (aWk T.n_bool (by decide+kernel)) zW)))) (aO2 (aV3 aFf xZ aFf xZ zN (zY 0) (aWm T.c_MOST_DIGIT)))))))))
theorem aU8 {f:Addr} {fd:FuncData} (Fn:Fun K "is_digit" "is_digit" aBt f fd):Binds K fd ["thing"] []:=Fn.binds fun _ _ _ _ _ _ us hl=>match us,hl with | [_],_=>rfl
noncomputable abbrev aNs:List Str:=["thing","least","most","states"]
theorem aL9:FnScope aNs ["thing"] (defScope tJ):=⟨rfl,rfl,rfl,by decide+kernel,rfl,by decide+kernel,by decide+kernel⟩
theorem aLv {f:Addr} {fd:FuncData} (hw:HereP P w) (Fn:Fun K "is_condition" "is_condition" tJ f fd) (T:Txt K mg) (D_are_names:DefOk P w K mg base 1 2 "are_names" jU) (D_is_digit:DefOk P w K mg base 1 1 "is_digit" aC3) (D_is_list:DefOk P w K mg base 1 1 "is_list" uT):FnOk P w K mg base (L2.CX P w) 3 f fd ["thing"] (spF K 1 qW):=
 yV hw Fn aL9 (fun cdv A outer s H E c=>(show SSs _ _ _ aFo from (zV (xA (SW.sb (aDa (uP (vA (zM c D_is_list (zZ (zY 0) zW)))) (qT (yQ (aDy c.room.units) aDm (zH yA vV T.n_len (zZ (zY 0) zW)) zN)))) (zT (yX aBp)) yR)
  (zV (aB3 (zY 0) (aBl c.calm (zS (zU 1 c.nd) (zS (zU 2 c.nd) (zS (zU 3 c.nd) yT)))))
  (zV (xA (SW.sb (aDa (uP (vA (zM c D_is_digit (zZ (zY 1) zW)))) (qT (uP (SW.sb (aDa (yQ op_isN aOv (zY 2) qB) (qT (vA (zM c D_is_digit (zZ (zY 2) zW)))))))))) (zT (yX aBp)) yR)
  (zT (yX (aO3 (zM c D_are_names (zZ (zY 3) zW)) (aO2 (aDp aBv xZ (zH yA vV T.n_len (zZ (zY 3) zW)) zN))))))))))
theorem aM8 {f:Addr} {fd:FuncData} (Fn:Fun K "is_condition" "is_condition" tJ f fd):Binds K fd ["thing"] []:=Fn.binds fun _ _ _ _ _ _ us hl=>match us,hl with | [_],_=>rfl
noncomputable abbrev aMh:List Str:=["thing","state","conditions","condition"]
theorem aQo:FnScope aMh ["thing"] (defScope kG):=⟨rfl,rfl,rfl,by decide+kernel,rfl,by decide+kernel,by decide+kernel⟩
theorem aRr {f:Addr} {fd:FuncData} (hw:HereP P w) (Fn:Fun K "is_clause" "is_clause" kG f fd) (T:Txt K mg) (D_is_condition:DefOk P w K mg base 1 3 "is_condition" qW) (D_is_list:DefOk P w K mg base 1 1 "is_list" uT) (D_is_name:DefOk P w K mg base 1 1 "is_name" uL):FnOk P w K mg base (L2.CX P w) 4 f fd ["thing"] (spF K 1 aCm):=
 yV hw Fn aQo (fun cdv A outer s H E c=>(show SSs _ _ _ aMs from (zV (xA (SW.sb (aDa (uP (vA (zM c D_is_list (zZ (zY 0) zW)))) (qT (yQ (aDy c.room.units) aDm (zH yA vV T.n_len (zZ (zY 0) zW)) zN)))) (zT (yX aBp)) yR)
  (zV (aB3 (zY 0) (aBl c.calm (zS (zU 1 c.nd) (zS (zU 2 c.nd) yT))))
  (zV (xA (SW.sb (aDa (uP (vA (zM c D_is_name (zZ (zY 1) zW)))) (aDa (uP (vA (zM c D_is_list (zZ (zY 2) zW)))) (qT (yQ aBv xZ (zH yA vV T.n_len (zZ (zY 2) zW)) (aWm T.c_MOST_CONDITIONS)))))) (zT (yX aBp)) yR)
  (zT (yX (zH (cr_all c.calm) aBm T.n_all (zZ (xC (own:=[("condition",3)]) false c (yN (zY 2)) (blkOk_by (N:=aMh) (sc:=defScope kG) (by decide+kernel)) ⟨fun _ _ _ _ _=>(zU 3 (c.blk _ _ _ _).nd),(zL 3),fun _ _ _ _ _=>yM,fun _ _ _ _ _=>(zM (c.blk _ _ _ _) D_is_condition (zZ (zY 3) zW))⟩) zW)))))))))
theorem aSb {f:Addr} {fd:FuncData} (Fn:Fun K "is_clause" "is_clause" kG f fd):Binds K fd ["thing"] []:=Fn.binds fun _ _ _ _ _ _ us hl=>match us,hl with | [_],_=>rfl
noncomputable abbrev aHm:List Str:=["thing","clause"]
theorem aN4:FnScope aHm ["thing"] (defScope tS):=⟨rfl,rfl,rfl,by decide+kernel,rfl,by decide+kernel,by decide+kernel⟩
theorem aNe {f:Addr} {fd:FuncData} (hw:HereP P w) (Fn:Fun K "are_clauses" "are_clauses" tS f fd) (T:Txt K mg) (D_is_clause:DefOk P w K mg base 1 4 "is_clause" aCm) (D_is_list:DefOk P w K mg base 1 1 "is_list" uT):FnOk P w K mg base (L2.CX P w) 5 f fd ["thing"] (spF K 1 aA8):=
 yV hw Fn aN4 (fun cdv A outer s H E c=>(show SSs _ _ _ aHx from (zV (xA (SW.sb (aDa (uP (vA (zM c D_is_list (zZ (zY 0) zW)))) (qT (yQ aBv xZ (zH yA vV T.n_len (zZ (zY 0) zW)) (aWm T.c_MOST_CLAUSES))))) (zT (yX aBp)) yR)
  (zT (yX (zH (cr_all c.calm) aBm T.n_all (zZ (xC (own:=[("clause",1)]) false c (yN (zY 0)) (blkOk_by (N:=aHm) (sc:=defScope tS) (by decide+kernel)) ⟨fun _ _ _ _ _=>(zU 1 (c.blk _ _ _ _).nd),(zL 1),fun _ _ _ _ _=>yM,fun _ _ _ _ _=>(zM (c.blk _ _ _ _) D_is_clause (zZ (zY 1) zW))⟩) zW)))))))
theorem aNo {f:Addr} {fd:FuncData} (Fn:Fun K "are_clauses" "are_clauses" tS f fd):Binds K fd ["thing"] []:=Fn.binds fun _ _ _ _ _ _ us hl=>match us,hl with | [_],_=>rfl
noncomputable abbrev aEh:List Str:=["clause","state","conditions","least","most","names"]
theorem aJn:FnScope aEh ["clause"] (defScope uZ):=⟨rfl,rfl,rfl,by decide+kernel,rfl,by decide+kernel,by decide+kernel⟩
theorem aJy {f:Addr} {fd:FuncData} (hw:HereP P w) (Fn:Fun K "copied_clause" "copied_clause" uZ f fd) (T:Txt K mg):FnOk P w K mg base (L2.CX P w) 1 f fd ["clause"] (spF K 1 kU):=
 yV hw Fn aJn (fun cdv A outer s H E c=>(show SSs _ _ _ aEq from (zV (aB3 (zY 0) (aBl c.calm (zS (zU 1 c.nd) (zS (zU 2 c.nd) yT))))
  (zT (yX (yZ (zZ (zY 1) (zZ (yB (wV c.calm) xR T.n_tuple (zZ (xC (own:=[("least",3),("most",4),("names",5)]) false c (yN (zY 2)) (blkOk_by (N:=aEh) (sc:=defScope uZ) (by decide+kernel)) ⟨fun _ _ _ _ _=>(yF (c.blk _ _ _ _).calm (zS (zU 3 (c.blk _ _ _ _).nd) (zS (zU 4 (c.blk _ _ _ _).nd) (zS (zU 5 (c.blk _ _ _ _).nd) yT)))),(qA (yJ (zL 3) (yJ (zL 4) (yJ (zL 5) tK)))),fun _ _ _ _ _=>yM,fun _ _ _ _ _=>(yZ (zZ (zY 3) (zZ (zY 4) (zZ (yB (wV (c.blk _ _ _ _).calm) xR T.n_tuple (zZ (zH ((tR (c.blk _ _ _ _).here (c.blk _ _ _ _).calm).or (vZ (c.blk _ _ _ _).hu66)) xD T.n_sorted (zZ (zY 5) zW)) zW)) zW))))⟩) zW)) zW))))))))
theorem aKa {f:Addr} {fd:FuncData} (Fn:Fun K "copied_clause" "copied_clause" uZ f fd):Binds K fd ["clause"] []:=Fn.binds fun _ _ _ _ _ _ us hl=>match us,hl with | [_],_=>rfl
noncomputable abbrev aEm:List Str:=["self","hand","parts","clauses","last","clause"]
theorem aJu:FnScope aEm ["self","hand","parts","clauses","last"] (defScope uW):=⟨rfl,rfl,rfl,by decide+kernel,rfl,by decide+kernel,by decide+kernel⟩
theorem aK5 {f:Addr} {fd:FuncData} (hw:HereP P w) (Fn:Fun K "__init__" "Kind.__init__" uW f fd) (T:Txt K mg) (D_BadKind___init__:XcOk P w K mg base 1 "BadKind" "place") (D_are_clauses:DefOk P w K mg base 1 5 "are_clauses" aA8) (D_are_names:DefOk P w K mg base 1 2 "are_names" jU) (D_copied_clause:DefOk P w K mg base 1 1 "copied_clause" kU) (D_is_name:DefOk P w K mg base 1 1 "is_name" uL):FnOk P w K mg base (L2.CX P w) 6 f fd ["self","hand","parts","clauses","last"] (spF K 5 wU):=
 yV hw Fn aJu (fun cdv A outer s H E c=>(show SSs _ _ _ aEx from (zV (xA (uP (vA (zM c D_are_names (zZ (zY 1) zW)))) (zT (aA4 c D_BadKind___init__ zQ)) yR)
  (zV (xA (SW.sb (aDa (uP (vA (zM c D_are_names (zZ (zY 2) zW)))) (qT (yQ (aE0 c.room.units) aDo (xV xS xT (zH yA vV T.n_len (zZ (zY 1) zW)) (zH yA vV T.n_len (zZ (zY 2) zW))) zN)))) (zT (aA4 c D_BadKind___init__ zQ)) yR)
  (zV (xA (uP (vA (zM c D_are_clauses (zZ (zY 3) zW)))) (zT (aA4 c D_BadKind___init__ zQ)) yR)
  (zV (xA (uP (vA (zM c D_is_name (zZ (zY 4) zW)))) (zT (aA4 c D_BadKind___init__ zQ)) yR)
  (zV (vQ T.k_Kind T.a_Kind_hand_states (yB (wV c.calm) xR T.n_tuple (zZ (zH ((tR c.here c.calm).or (vZ c.hu66)) xD T.n_sorted (zZ (zY 1) zW)) zW)) (zY 0))
  (zV (vQ T.k_Kind T.a_Kind_part_kinds (yB (wV c.calm) xR T.n_tuple (zZ (zH ((tR c.here c.calm).or (vZ c.hu66)) xD T.n_sorted (zZ (zY 2) zW)) zW)) (zY 0))
  (zV (vQ T.k_Kind T.a_Kind_clause_row (yB (wV c.calm) xR T.n_tuple (zZ (xC (own:=[("clause",5)]) false c (yN (zY 3)) (blkOk_by (N:=aEm) (sc:=defScope uW) (by decide+kernel)) ⟨fun _ _ _ _ _=>(zU 5 (c.blk _ _ _ _).nd),(zL 5),fun _ _ _ _ _=>yM,fun _ _ _ _ _=>(zM (c.blk _ _ _ _) D_copied_clause (zZ (zY 5) zW))⟩) zW)) (zY 0))
  (zT (vQ T.k_Kind T.a_Kind_last_state (zY 4) (zY 0))))))))))))
theorem aKh {f:Addr} {fd:FuncData} (Fn:Fun K "__init__" "Kind.__init__" uW f fd):Binds K fd ["self","hand","parts","clauses","last"] []:=Fn.binds fun _ _ _ _ _ _ us hl=>match us,hl with | [_,_,_,_,_],_=>rfl
noncomputable abbrev bBv:List Str:=["clauses"]
theorem aY0:FnScope bBv [] (defScope aGv):=⟨rfl,rfl,rfl,by decide+kernel,rfl,by decide+kernel,by decide+kernel⟩
theorem aZa {f:Addr} {fd:FuncData} (hw:HereP P w) (Fn:Fun K "lights" "lights" aGv f fd) (T:Txt K mg) (D_Book___init__:InitOk P w K mg base 1 4 "Book" wR) (D_Kind___init__:InitOk P w K mg base 4 6 "Kind" wU):FnOk P w K mg base (L2.CX P w) 8 f fd [] (spF K 0 aA6):=
 yV hw Fn aY0 (fun cdv A outer s H E c=>(show SSs _ _ _ aW6 from (zV (yS 0 c (yC false (zZ (yZ (zZ zQ (zZ (yC false (zZ (yZ (zZ zN (zZ qB (zZ (yC false (zZ zQ zW)) zW)))) zW)) zW))) (zZ (yZ (zZ zQ (zZ (yC false (zZ (yZ (zZ zN (zZ qB (zZ (yC false (zZ zQ zW)) zW)))) zW)) zW))) zW))))
  (zT (yX (qE true c D_Book___init__ (zZ (aTf false c (aOr zQ (qE true c D_Kind___init__ (zZ (yC false (zZ zQ (zZ zQ (zZ zQ zW)))) (zZ (yC false (zZ zQ zW)) (zZ (zY 0) (zZ zQ zW))))) aT4)) zW)))))))
theorem aZr {f:Addr} {fd:FuncData} (Fn:Fun K "lights" "lights" aGv f fd):Binds K fd [] []:=Fn.binds fun _ _ _ _ _ _ us hl=>match us,hl with | [],_=>rfl
noncomputable abbrev bF3:List Str:=["clauses"]
theorem bAr:FnScope bF3 [] (defScope aLg):=⟨rfl,rfl,rfl,by decide+kernel,rfl,by decide+kernel,by decide+kernel⟩
theorem bBi {f:Addr} {fd:FuncData} (hw:HereP P w) (Fn:Fun K "ticks" "ticks" aLg f fd) (T:Txt K mg) (D_Book___init__:InitOk P w K mg base 1 4 "Book" wR) (D_Kind___init__:InitOk P w K mg base 4 6 "Kind" wU):FnOk P w K mg base (L2.CX P w) 8 f fd [] (spF K 0 aGm):=
 yV hw Fn bAr (fun cdv A outer s H E c=>(show SSs _ _ _ bA1 from (zV (yS 0 c (yC false (zZ (yZ (zZ zQ (zZ (yC false (zZ (yZ (zZ zN (zZ zN (zZ (yC false (zZ zQ (zZ zQ zW))) zW)))) zW)) zW))) (zZ (yZ (zZ zQ (zZ (yC false (zZ (yZ (zZ zN (zZ zN (zZ (yC false (zZ zQ (zZ zQ zW))) zW)))) zW)) zW))) zW))))
  (zT (yX (qE true c D_Book___init__ (zZ (aTf false c (aOr zQ (qE true c D_Kind___init__ (zZ (yC false (zZ zQ (zZ zQ zW))) (zZ (yC false (zZ zQ zW)) (zZ (zY 0) (zZ zQ zW))))) aT4)) zW)))))))
theorem bBs {f:Addr} {fd:FuncData} (Fn:Fun K "ticks" "ticks" aLg f fd):Binds K fd [] []:=Fn.binds fun _ _ _ _ _ _ us hl=>match us,hl with | [],_=>rfl
noncomputable abbrev bF2:List Str:=["number","clauses"]
theorem bAq:FnScope bF2 ["number"] (defScope aLf):=⟨rfl,rfl,rfl,by decide+kernel,rfl,by decide+kernel,by decide+kernel⟩
theorem bBh {f:Addr} {fd:FuncData} (hw:HereP P w) (Fn:Fun K "votes" "votes" aLf f fd) (T:Txt K mg) (D_Book___init__:InitOk P w K mg base 1 4 "Book" wR) (D_Kind___init__:InitOk P w K mg base 4 6 "Kind" wU):FnOk P w K mg base (L2.CX P w) 8 f fd ["number"] (spF K 1 kA):=
 yV hw Fn bAq (fun cdv A outer s H E c=>(show SSs _ _ _ bA0 from (zV (yS 1 c (yC false (zZ (yZ (zZ zQ (zZ (yC false (zZ (yZ (zZ (zY 0) (zZ qB (zZ (yC false (zZ zQ zW)) zW)))) zW)) zW))) zW)))
  (zT (yX (qE true c D_Book___init__ (zZ (aTf false c (aOr zQ (qE true c D_Kind___init__ (zZ (yC false (zZ zQ (zZ zQ zW))) (zZ (yC false (zZ zQ zW)) (zZ (zY 1) (zZ zQ zW))))) aT4)) zW)))))))
theorem bBr {f:Addr} {fd:FuncData} (Fn:Fun K "votes" "votes" aLf f fd):Binds K fd ["number"] []:=Fn.binds fun _ _ _ _ _ _ us hl=>match us,hl with | [_],_=>rfl
noncomputable abbrev bH1:List Str:=["_law_script","_law_source_here","_law_up","_law_down","_law_number","_law_due","_law_found","_law_bad","_law_double","_law_red","_law_green","_law_tick","_law_gone","_law_row"]
theorem bFh:FnScope bH1 ["_law_script"] (defScope aQy):=⟨rfl,rfl,rfl,by decide+kernel,rfl,by decide+kernel,by decide+kernel⟩
theorem bGq {f:Addr} {fd:FuncData} (hw:HereP P w) (Fn:Fun K "law" "law" aQy f fd) (T:Txt K mg) (D__law_around_size:DefOk P w K mg base 1 25 "_law_around_size" (yH 24)) (D__law_draw:DefOk P w K mg base 2 1 "_law_draw" tW) (D__law_source:DefOk P w K mg base 1 1 "_law_source" vJ) (D_flickers:DefOk P w K mg base 4 12 "flickers" tN) (D_fork:DefOk P w K mg base 5 11 "fork" aEo) (D_lights:DefOk P w K mg base 0 8 "lights" aA6) (D_rows:DefOk P w K mg base 4 11 "rows" aEn) (D_ticks:DefOk P w K mg base 0 8 "ticks" aGm) (D_votes:DefOk P w K mg base 1 8 "votes" kA):FnOk P w K mg base (L2.CX P w) 26 f fd ["_law_script"] (spF K 1 F_law):=
 yV hw Fn bFh (fun cdv A outer s H E c=>(show SSs _ _ _ bF5 from (zV (yS 1 c (zM c D__law_source (zZ (zY 0) zW)))
  (zV (aB3 (yZ (zZ (yZ (zZ zQ (zZ zQ (zZ zQ zW)))) (zZ (yZ (zZ zQ (zZ zQ (zZ zQ zW)))) zW))) (yF c.calm (zS (zU 2 c.nd) (zS (zU 3 c.nd) yT))))
  (zV (yS 4 c (xV xS xT zN (zM c D__law_draw (zZ (zY 1) (zZ zN zW)))))
  (zV (yS 5 c (yC false zW))
  (zV (xA (yQ aBv xZ (zY 4) zN) (zT (yS 5 c (yC false (zZ (xV aDx aB4 (yZ (zZ zQ zW)) zN) (zZ (yZ (zZ zQ (zZ zQ (zZ zQ (zZ zQ zW))))) (zZ (yZ (zZ zQ (zZ zQ (zZ zQ (zZ zQ zW))))) (zZ (yZ (zZ zQ (zZ zQ (zZ zQ (zZ zQ zW))))) zW))))))) yR)
  (zV (yS 6 c (zM c D_rows.pure (zZ (zM c D_votes.pure (zZ (zY 4) zW)) (zZ (zY 2) (zZ (zY 3) (zZ zQ zW))))))
  (zV (xA (yQ (aDy c.room.units) aDm (zY 6) (zH ((tR c.here c.calm).or (vZ c.hu66)) xD T.n_sorted (zZ (xV xS xT (zY 5) (yC false (zZ (yZ (zZ zQ (zZ zQ (zZ zQ (zZ zQ zW))))) (zZ (xV aDx aB4 (yZ (zZ zQ zW)) zN) zW)))) zW))) (zT (yX aBp)) yR)
  (zV (yS 7 c (zM c D_flickers.pure (zZ (zM c D_votes.pure (zZ (zY 4) zW)) (zZ (zY 2) (zZ (zY 3) (zZ zQ zW))))))
  (zV (xA (yQ (aDy c.room.units) aDm (zY 7) (xC (own:=[("_law_row",13)]) false c (yN (zY 6)) (blkOk_by (N:=bH1) (sc:=defScope aQy) (by decide+kernel)) ⟨fun _ _ _ _ _=>(zU 13 (c.blk _ _ _ _).nd),(zL 13),fun _ _ _ _ _=>(aDl (SW.sb (aKx (yQ (aE0 (c.blk _ _ _ _).room.units) aDo (yD (yK (c.blk _ _ _ _).hu) yL (zY 13) zN) (yD (yK (c.blk _ _ _ _).hu) yL (zY 13) zN)) (aFu (yQ (aDy (c.blk _ _ _ _).room.units) aDm (aGp false (zY 13) (aI3 zN) (aI3 zN)) (xV aDx aB4 (aGp false (zY 13) aOs (aI3 zN)) zN)))))),fun _ _ _ _ _=>(zY 13)⟩)) (zT (yX aBp)) yR)
  (zV (xA (yQ (aDy c.room.units) aDm (zM c D__law_around_size (zZ (zM c D_fork.pure (zZ (zM c D_votes.pure (zZ (zY 4) zW)) (zZ (zY 2) (zZ (zY 3) (zZ zQ (zZ (yZ (zZ zQ (zZ zQ (zZ zQ (zZ zQ zW))))) zW)))))) zW)) (zY 4)) (zT (yX aBp)) yR)
  (zV (xA (yQ (aDy c.room.units) aDm (zM c D__law_around_size (zZ (zM c D_fork.pure (zZ (zM c D_votes.pure (zZ (zY 4) zW)) (zZ (zY 2) (zZ (zY 3) (zZ zQ (zZ (xV aDx aB4 (yZ (zZ zQ zW)) zN) zW)))))) zW)) (xV xS xT (zY 4) zN)) (zT (yX aBp)) yR)
  (zV (xA (yQ aBv xZ (zY 4) zN) (zV (yS 8 c (zM c D_fork.pure (zZ (zM c D_votes.pure (zZ (zY 4) zW)) (zZ (zY 2) (zZ (zY 3) (zZ zQ (zZ (yZ (zZ zQ (zZ zQ (zZ zQ (zZ zQ zW))))) zW)))))))
  (zT (xA (yQ (aDy c.room.units) aDm (zM c D__law_around_size (zZ (zY 8) zW)) (xV op_sub aL7 (zY 4) zN)) (zT (yX aBp)) yR))) yR)
  (zV (aB3 (yZ (zZ (yZ (zZ zQ (zZ zQ (zZ zQ zW)))) (zZ (yZ (zZ zQ (zZ zQ (zZ zQ zW)))) zW))) (yF c.calm (zS (zU 9 c.nd) (zS (zU 10 c.nd) yT))))
  (zV (yS 5 c (yC false (zZ (yZ (zZ zQ (zZ zQ (zZ zQ (zZ zQ zW))))) (zZ (yZ (zZ zQ (zZ zQ (zZ zQ (zZ zQ zW))))) (zZ (xV aDx aB4 (yZ (zZ zQ zW)) zN) zW)))))
  (zV (xA (yQ (aDy c.room.units) aDm (zM c D_rows.pure (zZ (aGr c D_lights.pure) (zZ (zY 9) (zZ (zY 10) (zZ zQ zW))))) (zH ((tR c.here c.calm).or (vZ c.hu66)) xD T.n_sorted (zZ (zY 5) zW))) (zT (yX aBp)) yR)
  (zV (xA (yQ (aDy c.room.units) aDm (zM c D_flickers.pure (zZ (aGr c D_lights.pure) (zZ (zY 9) (zZ (zY 10) (zZ zQ zW))))) (zH ((tR c.here c.calm).or (vZ c.hu66)) xD T.n_sorted (zZ (aGp false (zY 5) aOs (aI3 zN)) zW))) (zT (yX aBp)) yR)
  (zV (xA (yQ op_notN aOu (zM c D_fork.pure (zZ (aGr c D_lights.pure) (zZ (zY 9) (zZ (zY 10) (zZ zQ (zZ (yZ (zZ zQ (zZ zQ (zZ zQ (zZ zQ zW))))) zW)))))) qB) (zT (yX aBp)) yR)
  (zV (aB3 (yZ (zZ (yZ (zZ zQ (zZ zQ (zZ zQ zW)))) (zZ (yZ (zZ zQ (zZ zQ (zZ zQ zW)))) zW))) (yF c.calm (zS (zU 11 c.nd) (zS (zU 12 c.nd) yT))))
  (zV (yS 6 c (zM c D_flickers.pure (zZ (aGr c D_ticks.pure) (zZ (zY 11) (zZ (zY 12) (zZ zQ zW))))))
  (zV (xA (yQ (aDy c.room.units) aDm (zY 6) (yC false (zZ (yZ (zZ zQ (zZ zQ (zZ zQ (zZ zQ zW))))) (zZ (yZ (zZ zQ (zZ zQ (zZ zQ (zZ zQ zW))))) (zZ (yZ (zZ zQ (zZ zQ (zZ zQ (zZ zQ zW))))) zW))))) (zT (yX aBp)) yR)
  (zT (yX (aDp (aE0 c.room.units) aDo (zM c D_rows.pure (zZ (aGr c D_ticks.pure) (zZ (zY 11) (zZ (zY 12) (zZ zQ zW))))) (xV xS xT (zY 6) (yC false (zZ (xV aDx aB4 (yZ (zZ zQ zW)) zN) zW))))))))))))))))))))))))))))
end
end G
namespace G
open PySem L2 Ev
noncomputable def bAb (K:PySem.W.Frag):Sp:=fun vs H Q _=>∃(a:Addr) (ns:List Int),vs=[.ref a]∧SqL K H a (ns.map V.int)∧ns.length≤63∧(∀ y∈(["least_parts"]:List Str),H (EvT1.xJ K y).2=some (.tbl #[]))∧∀ H',Q (.bl true) H'
theorem aDv [Wrl] {K:PySem.W.Frag} {Z:Hp} {ρ:List Addr}:∀ ns:List Int,Reps K Z ρ (ns.map T.int) (ns.map V.int)
 | []=> .nil
 | n::ns=> .cons wW (aDv ns)
theorem bEo [Wrl] {K:PySem.W.Frag} (h0:Wrl.tabs=EvT1.aNz K ["least_parts"]) (law_true:∀ ns:List Int,ns.length≤63→∃ m,F_law [.rls (ns.map T.int)] []= .ok (.bl true) m):∀ vs H Q E,bAb K vs H Q E→spF K 1 F_law vs H Q E:=by
 rintro vs H Q E ⟨a,ns,rfl,hs,hl,ht,hQ⟩
 obtain⟨m,e⟩:=law_true ns hl
 obtain⟨Z0,r0,hs0⟩:=aY6 h0 ht hs
 refine⟨fun _=>none,Z0,[],[],[.rls (ns.map T.int)],r0,.cons ?_ .nil,rfl,?_⟩
 ·unfold Rep
  exact⟨a,_,rfl,hs0,aDv ns⟩
 ·rw [e]
  intro Z ρ H1 v _ _ r
  unfold Rep at r
  subst r
  exact hQ _
theorem all_mk {l:PySem.W.OpenLaw} {w:World} {K:PySem.W.Frag} {h:Heap} {mg:Str→Option Value} {fa:Addr} (law_true:∀ ns:List Int,ns.length≤63→∃ m,F_law [.rls (ns.map T.int)] []= .ok (.bl true) m) (X:K.In h) (G:h.Ns mainGlobals mg) (hfa:mg "law"=some (.ref fa))
  {C_Book C_Choices C_Kind C_Rule C_Search C_Sums C_Waiting C_Ways C_BadBook C_BadKind C_BadState C_UnknownKind f__law_around_size f__law_draw f__law_source f_is_flicker f_UnknownKind___init__ f_is_name f_Book_kind_named f_Book_states f_unlike_ways f_Choices___init__ f_least_parts f_Ways_least_parts_of f_Waiting_raise_last f_Waiting_wait f_Search_offer f_Sums___init__ f_Waiting___init__ f_Search___init__ f_Rule_with_one_more f_Sums_with_one_more f_Sums_take f_Search_take f_Waiting_is_empty f_Waiting_lesser_below f_Waiting_lower_first f_Waiting_leave f_unchained f_Search_find_all f_least_counted f_least_branches f_Book_names f_Kind_hand f_Kind_parts f_holds f_Kind_counting f_Kind_told f_agreed f_all_counts f_Kind_clauses f_cap_of f_in_common f_listed f_Rule___init__ f_rules_of f_Rule_told_with f_chosen_others f_counts_of_others f_ways_of f_Ways___init__ f_Ways_possible_states f_BadState___init__ f_is_one_of f_check_states f_checked_ways f_Choices_unlike f_Ways_steps f_climbed_on f_choices_of_two f_least_pairs f_states_of f_joins_at f_forks_of f_rows_at f_rows f_flickers f_is_list f_fork f_BadBook___init__ f_are_kinds f_Kind_last f_states_in f_Book___init__ f_BadKind___init__ f_are_names f_is_digit f_is_condition f_is_clause f_are_clauses f_copied_clause f_Kind___init__ f_lights f_ticks f_votes f_law:Addr}
  {nm_BadBook q_BadBook:Str} {N_BadBook:Addr} {bs_BadBook bm_BadBook:List Value} {sn_BadBook:List Str} {sub_BadBook:List Value} {ab_BadBook:Bool} {col_BadBook:Option Bool} {dd_BadBook:Option Addr} {k0_BadBook k1_BadBook k2_BadBook k3_BadBook k5_BadBook:Option Value}
  {nm_BadKind q_BadKind:Str} {N_BadKind:Addr} {bs_BadKind bm_BadKind:List Value} {sn_BadKind:List Str} {sub_BadKind:List Value} {ab_BadKind:Bool} {col_BadKind:Option Bool} {dd_BadKind:Option Addr} {k0_BadKind k1_BadKind k2_BadKind k3_BadKind k5_BadKind:Option Value}
  {nm_BadState q_BadState:Str} {N_BadState:Addr} {bs_BadState bm_BadState:List Value} {sn_BadState:List Str} {sub_BadState:List Value} {ab_BadState:Bool} {col_BadState:Option Bool} {dd_BadState:Option Addr} {k0_BadState k1_BadState k2_BadState k3_BadState k5_BadState:Option Value}
  {nm_UnknownKind q_UnknownKind:Str} {N_UnknownKind:Addr} {bs_UnknownKind bm_UnknownKind:List Value} {sn_UnknownKind:List Str} {sub_UnknownKind:List Value} {ab_UnknownKind:Bool} {col_UnknownKind:Option Bool} {dd_UnknownKind:Option Addr} {k0_UnknownKind k1_UnknownKind k2_UnknownKind k3_UnknownKind k5_UnknownKind:Option Value}
  {fd__law_around_size:FuncData}
  {fd__law_draw:FuncData}
  {fd__law_source:FuncData}
  {fd_is_flicker:FuncData}
  {fd_UnknownKind___init__:FuncData}
  {fd_is_name:FuncData}
  {fd_Book_kind_named:FuncData}
  {fd_Book_states:FuncData}
  {p_Book_states:Addr}
  {rest_Book_states:List Value}
  {fd_unlike_ways:FuncData}
  {fd_Choices___init__:FuncData}
  {fd_least_parts:FuncData}
  {fd_Ways_least_parts_of:FuncData}
  {fd_Waiting_raise_last:FuncData}
  {fd_Waiting_wait:FuncData}
  {fd_Search_offer:FuncData}
  {fd_Sums___init__:FuncData}
  {fd_Waiting___init__:FuncData}
  {fd_Search___init__:FuncData}
  {fd_Rule_with_one_more:FuncData}
  {fd_Sums_with_one_more:FuncData}
  {fd_Sums_take:FuncData}
  {fd_Search_take:FuncData}
  {fd_Waiting_is_empty:FuncData}
  {fd_Waiting_lesser_below:FuncData}
  {fd_Waiting_lower_first:FuncData}
  {fd_Waiting_leave:FuncData}
  {fd_unchained:FuncData}
  {fd_Search_find_all:FuncData}
  {fd_least_counted:FuncData}
  {fd_least_branches:FuncData}
  {fd_Book_names:FuncData}
  {p_Book_names:Addr}
  {rest_Book_names:List Value}
  {fd_Kind_hand:FuncData}
  {p_Kind_hand:Addr}
  {rest_Kind_hand:List Value}
  {fd_Kind_parts:FuncData}
  {p_Kind_parts:Addr}
  {rest_Kind_parts:List Value}
  {fd_holds:FuncData}
  {fd_Kind_counting:FuncData}
  {fd_Kind_told:FuncData}
  {fd_agreed:FuncData}
  {fd_all_counts:FuncData}
  {fd_Kind_clauses:FuncData}
  {p_Kind_clauses:Addr}
  {rest_Kind_clauses:List Value}
  {fd_cap_of:FuncData}
  {fd_in_common:FuncData}
  {fd_listed:FuncData}
  {fd_Rule___init__:FuncData}
  {fd_rules_of:FuncData}
  {fd_Rule_told_with:FuncData}
  {fd_chosen_others:FuncData}
  {fd_counts_of_others:FuncData}
  {fd_ways_of:FuncData}
  {fd_Ways___init__:FuncData}
  {fd_Ways_possible_states:FuncData}
  {fd_BadState___init__:FuncData}
  {fd_is_one_of:FuncData}
  {fd_check_states:FuncData}
  {fd_checked_ways:FuncData}
  {fd_Choices_unlike:FuncData}
  {fd_Ways_steps:FuncData}
  {fd_climbed_on:FuncData}
  {fd_choices_of_two:FuncData}
  {fd_least_pairs:FuncData}
  {fd_states_of:FuncData}
  {fd_joins_at:FuncData}
  {fd_forks_of:FuncData}
  {fd_rows_at:FuncData}
  {fd_rows:FuncData}
  {fd_flickers:FuncData}
  {fd_is_list:FuncData}
  {fd_fork:FuncData}
  {fd_BadBook___init__:FuncData}
  {fd_are_kinds:FuncData}
  {fd_Kind_last:FuncData}
  {p_Kind_last:Addr}
  {rest_Kind_last:List Value}
  {fd_states_in:FuncData}
  {fd_Book___init__:FuncData}
  {fd_BadKind___init__:FuncData}
  {fd_are_names:FuncData}
  {fd_is_digit:FuncData}
  {fd_is_condition:FuncData}
  {fd_is_clause:FuncData}
  {fd_are_clauses:FuncData}
  {fd_copied_clause:FuncData}
  {fd_Kind___init__:FuncData}
  {fd_lights:FuncData}
  {fd_ticks:FuncData}
  {fd_votes:FuncData}
  {fd_law:FuncData}
  {tk_MOST_CLAUSES:Tok}
  {tk_MOST_CONDITIONS:Tok}
  {tk_MOST_DIGIT:Tok}
  {tk_MOST_KINDS:Tok}
  {tk_MOST_LETTERS:Tok}
  {tk_MOST_STATES:Tok}
  (aC_Book:PySem.W.nsIn K mainGlobals "Book"=some (some (.ref C_Book)))
  (pg_Book:PySem.W.plainGet K C_Book Str.empty=true)
  (hd_Book:PySem.W.hasDictIn K C_Book=true)
  (po_Book:PySem.W.plainOver K C_Book=true)
  (sa_Book:PySem.W.findIn K (.ref C_Book) "__setattr__"=some (some (.builtin "object.__setattr__")))
  (mk_Book:PySem.W.makesIn K C_Book=true)
  (kc_Book:PySem.W.keepIn K (.ref C_Book)=true)
  (aC_Choices:PySem.W.nsIn K mainGlobals "Choices"=some (some (.ref C_Choices)))
  (pg_Choices:PySem.W.plainGet K C_Choices Str.empty=true)
  (hd_Choices:PySem.W.hasDictIn K C_Choices=true)
  (po_Choices:PySem.W.plainOver K C_Choices=true)
  (sa_Choices:PySem.W.findIn K (.ref C_Choices) "__setattr__"=some (some (.builtin "object.__setattr__")))
  (mk_Choices:PySem.W.makesIn K C_Choices=true)
  (kc_Choices:PySem.W.keepIn K (.ref C_Choices)=true)
  (aC_Kind:PySem.W.nsIn K mainGlobals "Kind"=some (some (.ref C_Kind)))
  (pg_Kind:PySem.W.plainGet K C_Kind Str.empty=true)
  (hd_Kind:PySem.W.hasDictIn K C_Kind=true)
  (po_Kind:PySem.W.plainOver K C_Kind=true)
  (sa_Kind:PySem.W.findIn K (.ref C_Kind) "__setattr__"=some (some (.builtin "object.__setattr__")))
  (mk_Kind:PySem.W.makesIn K C_Kind=true)
  (kc_Kind:PySem.W.keepIn K (.ref C_Kind)=true)
  (aC_Rule:PySem.W.nsIn K mainGlobals "Rule"=some (some (.ref C_Rule)))
  (pg_Rule:PySem.W.plainGet K C_Rule Str.empty=true)
  (hd_Rule:PySem.W.hasDictIn K C_Rule=true)
  (po_Rule:PySem.W.plainOver K C_Rule=true)
  (sa_Rule:PySem.W.findIn K (.ref C_Rule) "__setattr__"=some (some (.builtin "object.__setattr__")))
  (mk_Rule:PySem.W.makesIn K C_Rule=true)
  (kc_Rule:PySem.W.keepIn K (.ref C_Rule)=true)
  (aC_Search:PySem.W.nsIn K mainGlobals "Search"=some (some (.ref C_Search)))
  (pg_Search:PySem.W.plainGet K C_Search Str.empty=true)
  (hd_Search:PySem.W.hasDictIn K C_Search=true)
  (po_Search:PySem.W.plainOver K C_Search=true)
  (sa_Search:PySem.W.findIn K (.ref C_Search) "__setattr__"=some (some (.builtin "object.__setattr__")))
  (mk_Search:PySem.W.makesIn K C_Search=true)
  (kc_Search:PySem.W.keepIn K (.ref C_Search)=true)
  (aC_Sums:PySem.W.nsIn K mainGlobals "Sums"=some (some (.ref C_Sums)))
  (pg_Sums:PySem.W.plainGet K C_Sums Str.empty=true)
  (hd_Sums:PySem.W.hasDictIn K C_Sums=true)
  (po_Sums:PySem.W.plainOver K C_Sums=true)
  (sa_Sums:PySem.W.findIn K (.ref C_Sums) "__setattr__"=some (some (.builtin "object.__setattr__")))
  (mk_Sums:PySem.W.makesIn K C_Sums=true)
  (kc_Sums:PySem.W.keepIn K (.ref C_Sums)=true)
  (aC_Waiting:PySem.W.nsIn K mainGlobals "Waiting"=some (some (.ref C_Waiting)))
  (pg_Waiting:PySem.W.plainGet K C_Waiting Str.empty=true)
  (hd_Waiting:PySem.W.hasDictIn K C_Waiting=true)
  (po_Waiting:PySem.W.plainOver K C_Waiting=true)
  (sa_Waiting:PySem.W.findIn K (.ref C_Waiting) "__setattr__"=some (some (.builtin "object.__setattr__")))
  (mk_Waiting:PySem.W.makesIn K C_Waiting=true)
  (kc_Waiting:PySem.W.keepIn K (.ref C_Waiting)=true)
  (aC_Ways:PySem.W.nsIn K mainGlobals "Ways"=some (some (.ref C_Ways)))
  (pg_Ways:PySem.W.plainGet K C_Ways Str.empty=true)
  (hd_Ways:PySem.W.hasDictIn K C_Ways=true)
  (po_Ways:PySem.W.plainOver K C_Ways=true)
  (sa_Ways:PySem.W.findIn K (.ref C_Ways) "__setattr__"=some (some (.builtin "object.__setattr__")))
  (mk_Ways:PySem.W.makesIn K C_Ways=true)
  (kc_Ways:PySem.W.keepIn K (.ref C_Ways)=true)
  (ic1_Book:PySem.W.findIn K (.ref C_Book) "__class__"=some (some (.builtin "object.__class__")))
  (ic2_Book:PySem.W.mroIn K C_Book (.type "object")=some true)
  (ic1_Choices:PySem.W.findIn K (.ref C_Choices) "__class__"=some (some (.builtin "object.__class__")))
  (ic2_Choices:PySem.W.mroIn K C_Choices (.type "object")=some true)
  (ic1_Kind:PySem.W.findIn K (.ref C_Kind) "__class__"=some (some (.builtin "object.__class__")))
  (ic2_Kind:PySem.W.mroIn K C_Kind (.type "object")=some true)
  (ic1_Rule:PySem.W.findIn K (.ref C_Rule) "__class__"=some (some (.builtin "object.__class__")))
  (ic2_Rule:PySem.W.mroIn K C_Rule (.type "object")=some true)
  (ic1_Search:PySem.W.findIn K (.ref C_Search) "__class__"=some (some (.builtin "object.__class__")))
  (ic2_Search:PySem.W.mroIn K C_Search (.type "object")=some true)
  (ic1_Sums:PySem.W.findIn K (.ref C_Sums) "__class__"=some (some (.builtin "object.__class__")))
  (ic2_Sums:PySem.W.mroIn K C_Sums (.type "object")=some true)
  (ic1_Waiting:PySem.W.findIn K (.ref C_Waiting) "__class__"=some (some (.builtin "object.__class__")))
  (ic2_Waiting:PySem.W.mroIn K C_Waiting (.type "object")=some true)
  (ic1_Ways:PySem.W.findIn K (.ref C_Ways) "__class__"=some (some (.builtin "object.__class__")))
  (ic2_Ways:PySem.W.mroIn K C_Ways (.type "object")=some true)
  (ic3:PySem.W.specialIn K (.builtin "object.__class__") "__get__"=some (some (.builtin "getset_descriptor.__get__")))
  (ic4:PySem.W.takesIn K (.builtin "object.__class__")=some true)
  (ict_Book_NoneType:PySem.W.kitOne K (.type "NoneType") (.ref C_Book)=some false)
  (ict_Book_bool:PySem.W.kitOne K (.type "bool") (.ref C_Book)=some false)
  (ict_Book_int:PySem.W.kitOne K (.type "int") (.ref C_Book)=some false)
  (ict_Book_str:PySem.W.kitOne K (.type "str") (.ref C_Book)=some false)
  (ict_Book_tuple:PySem.W.kitOne K (.type "tuple") (.ref C_Book)=some false)
  (ict_Book_list:PySem.W.kitOne K (.type "list") (.ref C_Book)=some false)
  (ict_Book_dict:PySem.W.kitOne K (.type "dict") (.ref C_Book)=some false)
  (icc_Book_Book:PySem.W.kitOne K (.ref C_Book) (.ref C_Book)=some true)
  (icc_Book_Choices:PySem.W.kitOne K (.ref C_Choices) (.ref C_Book)=some false)
  (icc_Book_Kind:PySem.W.kitOne K (.ref C_Kind) (.ref C_Book)=some false)
  (icc_Book_Rule:PySem.W.kitOne K (.ref C_Rule) (.ref C_Book)=some false)
  (icc_Book_Search:PySem.W.kitOne K (.ref C_Search) (.ref C_Book)=some false)
  (icc_Book_Sums:PySem.W.kitOne K (.ref C_Sums) (.ref C_Book)=some false)
  (icc_Book_Waiting:PySem.W.kitOne K (.ref C_Waiting) (.ref C_Book)=some false)
  (icc_Book_Ways:PySem.W.kitOne K (.ref C_Ways) (.ref C_Book)=some false)
  (ict_Kind_NoneType:PySem.W.kitOne K (.type "NoneType") (.ref C_Kind)=some false)
  (ict_Kind_bool:PySem.W.kitOne K (.type "bool") (.ref C_Kind)=some false)
  (ict_Kind_int:PySem.W.kitOne K (.type "int") (.ref C_Kind)=some false)
  (ict_Kind_str:PySem.W.kitOne K (.type "str") (.ref C_Kind)=some false)
  (ict_Kind_tuple:PySem.W.kitOne K (.type "tuple") (.ref C_Kind)=some false)
  (ict_Kind_list:PySem.W.kitOne K (.type "list") (.ref C_Kind)=some false)
  (ict_Kind_dict:PySem.W.kitOne K (.type "dict") (.ref C_Kind)=some false)
  (icc_Kind_Book:PySem.W.kitOne K (.ref C_Book) (.ref C_Kind)=some false)
  (icc_Kind_Choices:PySem.W.kitOne K (.ref C_Choices) (.ref C_Kind)=some false)
  (icc_Kind_Kind:PySem.W.kitOne K (.ref C_Kind) (.ref C_Kind)=some true)
  (icc_Kind_Rule:PySem.W.kitOne K (.ref C_Rule) (.ref C_Kind)=some false)
  (icc_Kind_Search:PySem.W.kitOne K (.ref C_Search) (.ref C_Kind)=some false)
  (icc_Kind_Sums:PySem.W.kitOne K (.ref C_Sums) (.ref C_Kind)=some false)
  (icc_Kind_Waiting:PySem.W.kitOne K (.ref C_Waiting) (.ref C_Kind)=some false)
  (icc_Kind_Ways:PySem.W.kitOne K (.ref C_Ways) (.ref C_Kind)=some false)
  (aC_BadBook:PySem.W.nsIn K mainGlobals "BadBook"=some (some (.ref C_BadBook)))
  (lx_BadBook:K.lookup C_BadBook=some (excClassObj nm_BadBook q_BadBook C_BadBook N_BadBook bs_BadBook bm_BadBook true sn_BadBook sub_BadBook ab_BadBook col_BadBook dd_BadBook k0_BadBook k1_BadBook k2_BadBook k3_BadBook k5_BadBook "ValueError.__new__"))
  (rv_BadBook:PySem.HandSPX.refsVE bm_BadBook=true)
  (sa_BadBook:PySem.W.findIn K (.ref C_BadBook) "__setattr__"=some (some (.builtin "object.__setattr__")))
  (ex_BadBook:PySem.W.subIn K (.ref C_BadBook) (.type "BaseException")=some true)
  (ty_BadBook:PySem.W.typeIn K (.ref C_BadBook)=some (.type "type"))
  (kc_BadBook:PySem.W.keepIn K (.ref C_BadBook)=true)
  (no_BadBook:PySem.W.findIn K (.ref C_BadBook) "place"=some none)
  (ga_BadBook:PySem.W.findIn K (.ref C_BadBook) "__getattribute__"=some (some (.builtin "BaseException.__getattribute__")))
  (gg_BadBook:PySem.W.findIn K (.ref C_BadBook) "__getattr__"=some none)
  (hd_BadBook:PySem.W.hasDictIn K C_BadBook=true)
  (su_BadBook:PySem.W.subIn K (.ref C_BadBook) (.ref C_BadBook)=some true)
  (aC_BadKind:PySem.W.nsIn K mainGlobals "BadKind"=some (some (.ref C_BadKind)))
  (lx_BadKind:K.lookup C_BadKind=some (excClassObj nm_BadKind q_BadKind C_BadKind N_BadKind bs_BadKind bm_BadKind true sn_BadKind sub_BadKind ab_BadKind col_BadKind dd_BadKind k0_BadKind k1_BadKind k2_BadKind k3_BadKind k5_BadKind "ValueError.__new__"))
  (rv_BadKind:PySem.HandSPX.refsVE bm_BadKind=true)
  (sa_BadKind:PySem.W.findIn K (.ref C_BadKind) "__setattr__"=some (some (.builtin "object.__setattr__")))
  (ex_BadKind:PySem.W.subIn K (.ref C_BadKind) (.type "BaseException")=some true)
  (ty_BadKind:PySem.W.typeIn K (.ref C_BadKind)=some (.type "type"))
  (kc_BadKind:PySem.W.keepIn K (.ref C_BadKind)=true)
  (no_BadKind:PySem.W.findIn K (.ref C_BadKind) "place"=some none)
  (ga_BadKind:PySem.W.findIn K (.ref C_BadKind) "__getattribute__"=some (some (.builtin "BaseException.__getattribute__")))
  (gg_BadKind:PySem.W.findIn K (.ref C_BadKind) "__getattr__"=some none)
  (hd_BadKind:PySem.W.hasDictIn K C_BadKind=true)
  (su_BadKind:PySem.W.subIn K (.ref C_BadKind) (.ref C_BadKind)=some true)
  (aC_BadState:PySem.W.nsIn K mainGlobals "BadState"=some (some (.ref C_BadState)))
  (lx_BadState:K.lookup C_BadState=some (excClassObj nm_BadState q_BadState C_BadState N_BadState bs_BadState bm_BadState true sn_BadState sub_BadState ab_BadState col_BadState dd_BadState k0_BadState k1_BadState k2_BadState k3_BadState k5_BadState "ValueError.__new__"))
  (rv_BadState:PySem.HandSPX.refsVE bm_BadState=true)
  (sa_BadState:PySem.W.findIn K (.ref C_BadState) "__setattr__"=some (some (.builtin "object.__setattr__")))
  (ex_BadState:PySem.W.subIn K (.ref C_BadState) (.type "BaseException")=some true)
  (ty_BadState:PySem.W.typeIn K (.ref C_BadState)=some (.type "type"))
  (kc_BadState:PySem.W.keepIn K (.ref C_BadState)=true)
  (no_BadState:PySem.W.findIn K (.ref C_BadState) "state"=some none)
  (ga_BadState:PySem.W.findIn K (.ref C_BadState) "__getattribute__"=some (some (.builtin "BaseException.__getattribute__")))
  (gg_BadState:PySem.W.findIn K (.ref C_BadState) "__getattr__"=some none)
  (hd_BadState:PySem.W.hasDictIn K C_BadState=true)
  (su_BadState:PySem.W.subIn K (.ref C_BadState) (.ref C_BadState)=some true)
  (aC_UnknownKind:PySem.W.nsIn K mainGlobals "UnknownKind"=some (some (.ref C_UnknownKind)))
  (lx_UnknownKind:K.lookup C_UnknownKind=some (excClassObj nm_UnknownKind q_UnknownKind C_UnknownKind N_UnknownKind bs_UnknownKind bm_UnknownKind true sn_UnknownKind sub_UnknownKind ab_UnknownKind col_UnknownKind dd_UnknownKind k0_UnknownKind k1_UnknownKind k2_UnknownKind k3_UnknownKind k5_UnknownKind "ValueError.__new__"))
  (rv_UnknownKind:PySem.HandSPX.refsVE bm_UnknownKind=true)
  (sa_UnknownKind:PySem.W.findIn K (.ref C_UnknownKind) "__setattr__"=some (some (.builtin "object.__setattr__")))
  (ex_UnknownKind:PySem.W.subIn K (.ref C_UnknownKind) (.type "BaseException")=some true)
  (ty_UnknownKind:PySem.W.typeIn K (.ref C_UnknownKind)=some (.type "type"))
  (kc_UnknownKind:PySem.W.keepIn K (.ref C_UnknownKind)=true)
  (no_UnknownKind:PySem.W.findIn K (.ref C_UnknownKind) "kind"=some none)
  (ga_UnknownKind:PySem.W.findIn K (.ref C_UnknownKind) "__getattribute__"=some (some (.builtin "BaseException.__getattribute__")))
  (gg_UnknownKind:PySem.W.findIn K (.ref C_UnknownKind) "__getattr__"=some none)
  (hd_UnknownKind:PySem.W.hasDictIn K C_UnknownKind=true)
  (su_UnknownKind:PySem.W.subIn K (.ref C_UnknownKind) (.ref C_UnknownKind)=some true)
  (a__law_around_size:PySem.W.nsIn K mainGlobals "_law_around_size"=some (some (.ref f__law_around_size)))
  (a__law_draw:PySem.W.nsIn K mainGlobals "_law_draw"=some (some (.ref f__law_draw)))
  (a__law_source:PySem.W.nsIn K mainGlobals "_law_source"=some (some (.ref f__law_source)))
  (a_is_flicker:PySem.W.nsIn K mainGlobals "is_flicker"=some (some (.ref f_is_flicker)))
  (a_UnknownKind___init__:PySem.W.findIn K (.ref C_UnknownKind) "__init__"=some (some (.ref f_UnknownKind___init__)))
  (tf_UnknownKind:PySem.W.typeIn K (.ref f_UnknownKind___init__)=some (.type "function"))
  (a_is_name:PySem.W.nsIn K mainGlobals "is_name"=some (some (.ref f_is_name)))
  (a_Book_kind_named:PySem.W.findIn K (.ref C_Book) "kind_named"=some (some (.ref f_Book_kind_named)))
  (i_Book_kind_named:PySem.W.isFn K (.ref f_Book_kind_named)=true)
  (a_Book_states:PySem.W.findIn K (.ref C_Book) "states"=some (some (.ref p_Book_states)))
  (g_Book_states:PySem.W.specialIn K (.ref p_Book_states) "__get__"=some (some (.builtin "property.__get__")))
  (t_Book_states:PySem.W.takesIn K (.ref p_Book_states)=some true)
  (r_Book_states:PySem.W.recIn K p_Book_states "property"=some (.ref f_Book_states::rest_Book_states))
  (a_unlike_ways:PySem.W.nsIn K mainGlobals "unlike_ways"=some (some (.ref f_unlike_ways)))
  (a_Choices___init__:PySem.W.findIn K (.ref C_Choices) "__init__"=some (some (.ref f_Choices___init__)))
  (i_Choices___init__:PySem.W.isFn K (.ref f_Choices___init__)=true)
  (a_least_parts:PySem.W.nsIn K mainGlobals "least_parts"=some (some (.ref f_least_parts)))
  (a_Ways_least_parts_of:PySem.W.findIn K (.ref C_Ways) "least_parts_of"=some (some (.ref f_Ways_least_parts_of)))
  (i_Ways_least_parts_of:PySem.W.isFn K (.ref f_Ways_least_parts_of)=true)
  (a_Waiting_raise_last:PySem.W.findIn K (.ref C_Waiting) "raise_last"=some (some (.ref f_Waiting_raise_last)))
  (i_Waiting_raise_last:PySem.W.isFn K (.ref f_Waiting_raise_last)=true)
  (a_Waiting_wait:PySem.W.findIn K (.ref C_Waiting) "wait"=some (some (.ref f_Waiting_wait)))
  (i_Waiting_wait:PySem.W.isFn K (.ref f_Waiting_wait)=true)
  (a_Search_offer:PySem.W.findIn K (.ref C_Search) "offer"=some (some (.ref f_Search_offer)))
  (i_Search_offer:PySem.W.isFn K (.ref f_Search_offer)=true)
  (a_Sums___init__:PySem.W.findIn K (.ref C_Sums) "__init__"=some (some (.ref f_Sums___init__)))
  (i_Sums___init__:PySem.W.isFn K (.ref f_Sums___init__)=true)
  (a_Waiting___init__:PySem.W.findIn K (.ref C_Waiting) "__init__"=some (some (.ref f_Waiting___init__)))
  (i_Waiting___init__:PySem.W.isFn K (.ref f_Waiting___init__)=true)
  (a_Search___init__:PySem.W.findIn K (.ref C_Search) "__init__"=some (some (.ref f_Search___init__)))
  (i_Search___init__:PySem.W.isFn K (.ref f_Search___init__)=true)
  (a_Rule_with_one_more:PySem.W.findIn K (.ref C_Rule) "with_one_more"=some (some (.ref f_Rule_with_one_more)))
  (i_Rule_with_one_more:PySem.W.isFn K (.ref f_Rule_with_one_more)=true)
  (a_Sums_with_one_more:PySem.W.findIn K (.ref C_Sums) "with_one_more"=some (some (.ref f_Sums_with_one_more)))
  (i_Sums_with_one_more:PySem.W.isFn K (.ref f_Sums_with_one_more)=true)
  (a_Sums_take:PySem.W.findIn K (.ref C_Sums) "take"=some (some (.ref f_Sums_take)))
  (i_Sums_take:PySem.W.isFn K (.ref f_Sums_take)=true)
  (a_Search_take:PySem.W.findIn K (.ref C_Search) "take"=some (some (.ref f_Search_take)))
  (i_Search_take:PySem.W.isFn K (.ref f_Search_take)=true)
  (a_Waiting_is_empty:PySem.W.findIn K (.ref C_Waiting) "is_empty"=some (some (.ref f_Waiting_is_empty)))
  (i_Waiting_is_empty:PySem.W.isFn K (.ref f_Waiting_is_empty)=true)
  (a_Waiting_lesser_below:PySem.W.findIn K (.ref C_Waiting) "lesser_below"=some (some (.ref f_Waiting_lesser_below)))
  (i_Waiting_lesser_below:PySem.W.isFn K (.ref f_Waiting_lesser_below)=true)
  (a_Waiting_lower_first:PySem.W.findIn K (.ref C_Waiting) "lower_first"=some (some (.ref f_Waiting_lower_first)))
  (i_Waiting_lower_first:PySem.W.isFn K (.ref f_Waiting_lower_first)=true)
  (a_Waiting_leave:PySem.W.findIn K (.ref C_Waiting) "leave"=some (some (.ref f_Waiting_leave)))
  (i_Waiting_leave:PySem.W.isFn K (.ref f_Waiting_leave)=true)
  (a_unchained:PySem.W.nsIn K mainGlobals "unchained"=some (some (.ref f_unchained)))
  (a_Search_find_all:PySem.W.findIn K (.ref C_Search) "find_all"=some (some (.ref f_Search_find_all)))
  (i_Search_find_all:PySem.W.isFn K (.ref f_Search_find_all)=true)
  (a_least_counted:PySem.W.nsIn K mainGlobals "least_counted"=some (some (.ref f_least_counted)))
  (a_least_branches:PySem.W.nsIn K mainGlobals "least_branches"=some (some (.ref f_least_branches)))
  (a_Book_names:PySem.W.findIn K (.ref C_Book) "names"=some (some (.ref p_Book_names)))
  (g_Book_names:PySem.W.specialIn K (.ref p_Book_names) "__get__"=some (some (.builtin "property.__get__")))
  (t_Book_names:PySem.W.takesIn K (.ref p_Book_names)=some true)
  (r_Book_names:PySem.W.recIn K p_Book_names "property"=some (.ref f_Book_names::rest_Book_names))
  (a_Kind_hand:PySem.W.findIn K (.ref C_Kind) "hand"=some (some (.ref p_Kind_hand)))
  (g_Kind_hand:PySem.W.specialIn K (.ref p_Kind_hand) "__get__"=some (some (.builtin "property.__get__")))
  (t_Kind_hand:PySem.W.takesIn K (.ref p_Kind_hand)=some true)
  (r_Kind_hand:PySem.W.recIn K p_Kind_hand "property"=some (.ref f_Kind_hand::rest_Kind_hand))
  (a_Kind_parts:PySem.W.findIn K (.ref C_Kind) "parts"=some (some (.ref p_Kind_parts)))
  (g_Kind_parts:PySem.W.specialIn K (.ref p_Kind_parts) "__get__"=some (some (.builtin "property.__get__")))
  (t_Kind_parts:PySem.W.takesIn K (.ref p_Kind_parts)=some true)
  (r_Kind_parts:PySem.W.recIn K p_Kind_parts "property"=some (.ref f_Kind_parts::rest_Kind_parts))
  (a_holds:PySem.W.nsIn K mainGlobals "holds"=some (some (.ref f_holds)))
  (a_Kind_counting:PySem.W.findIn K (.ref C_Kind) "counting"=some (some (.ref f_Kind_counting)))
  (i_Kind_counting:PySem.W.isFn K (.ref f_Kind_counting)=true)
  (a_Kind_told:PySem.W.findIn K (.ref C_Kind) "told"=some (some (.ref f_Kind_told)))
  (i_Kind_told:PySem.W.isFn K (.ref f_Kind_told)=true)
  (a_agreed:PySem.W.nsIn K mainGlobals "agreed"=some (some (.ref f_agreed)))
  (a_all_counts:PySem.W.nsIn K mainGlobals "all_counts"=some (some (.ref f_all_counts)))
  (a_Kind_clauses:PySem.W.findIn K (.ref C_Kind) "clauses"=some (some (.ref p_Kind_clauses)))
  (g_Kind_clauses:PySem.W.specialIn K (.ref p_Kind_clauses) "__get__"=some (some (.builtin "property.__get__")))
  (t_Kind_clauses:PySem.W.takesIn K (.ref p_Kind_clauses)=some true)
  (r_Kind_clauses:PySem.W.recIn K p_Kind_clauses "property"=some (.ref f_Kind_clauses::rest_Kind_clauses))
  (a_cap_of:PySem.W.nsIn K mainGlobals "cap_of"=some (some (.ref f_cap_of)))
  (a_in_common:PySem.W.nsIn K mainGlobals "in_common"=some (some (.ref f_in_common)))
  (a_listed:PySem.W.nsIn K mainGlobals "listed"=some (some (.ref f_listed)))
  (a_Rule___init__:PySem.W.findIn K (.ref C_Rule) "__init__"=some (some (.ref f_Rule___init__)))
  (i_Rule___init__:PySem.W.isFn K (.ref f_Rule___init__)=true)
  (a_rules_of:PySem.W.nsIn K mainGlobals "rules_of"=some (some (.ref f_rules_of)))
  (a_Rule_told_with:PySem.W.findIn K (.ref C_Rule) "told_with"=some (some (.ref f_Rule_told_with)))
  (i_Rule_told_with:PySem.W.isFn K (.ref f_Rule_told_with)=true)
  (a_chosen_others:PySem.W.nsIn K mainGlobals "chosen_others"=some (some (.ref f_chosen_others)))
  (a_counts_of_others:PySem.W.nsIn K mainGlobals "counts_of_others"=some (some (.ref f_counts_of_others)))
  (a_ways_of:PySem.W.nsIn K mainGlobals "ways_of"=some (some (.ref f_ways_of)))
  (a_Ways___init__:PySem.W.findIn K (.ref C_Ways) "__init__"=some (some (.ref f_Ways___init__)))
  (i_Ways___init__:PySem.W.isFn K (.ref f_Ways___init__)=true)
  (a_Ways_possible_states:PySem.W.findIn K (.ref C_Ways) "possible_states"=some (some (.ref f_Ways_possible_states)))
  (i_Ways_possible_states:PySem.W.isFn K (.ref f_Ways_possible_states)=true)
  (a_BadState___init__:PySem.W.findIn K (.ref C_BadState) "__init__"=some (some (.ref f_BadState___init__)))
  (tf_BadState:PySem.W.typeIn K (.ref f_BadState___init__)=some (.type "function"))
  (a_is_one_of:PySem.W.nsIn K mainGlobals "is_one_of"=some (some (.ref f_is_one_of)))
  (a_check_states:PySem.W.nsIn K mainGlobals "check_states"=some (some (.ref f_check_states)))
  (a_checked_ways:PySem.W.nsIn K mainGlobals "checked_ways"=some (some (.ref f_checked_ways)))
  (a_Choices_unlike:PySem.W.findIn K (.ref C_Choices) "unlike"=some (some (.ref f_Choices_unlike)))
  (i_Choices_unlike:PySem.W.isFn K (.ref f_Choices_unlike)=true)
  (a_Ways_steps:PySem.W.findIn K (.ref C_Ways) "steps"=some (some (.ref f_Ways_steps)))
  (i_Ways_steps:PySem.W.isFn K (.ref f_Ways_steps)=true)
  (gf_Ways_steps:PySem.W.specialIn K (.ref f_Ways_steps) "__get__"=some (some (.builtin "function.__get__")))
  (tk_Ways_steps:PySem.W.takesIn K (.ref f_Ways_steps)=some false)
  (fi_Ways_steps:PySem.W.fnIn K f_Ways_steps=true)
  (a_climbed_on:PySem.W.nsIn K mainGlobals "climbed_on"=some (some (.ref f_climbed_on)))
  (a_choices_of_two:PySem.W.nsIn K mainGlobals "choices_of_two"=some (some (.ref f_choices_of_two)))
  (a_least_pairs:PySem.W.nsIn K mainGlobals "least_pairs"=some (some (.ref f_least_pairs)))
  (a_states_of:PySem.W.nsIn K mainGlobals "states_of"=some (some (.ref f_states_of)))
  (a_joins_at:PySem.W.nsIn K mainGlobals "joins_at"=some (some (.ref f_joins_at)))
  (a_forks_of:PySem.W.nsIn K mainGlobals "forks_of"=some (some (.ref f_forks_of)))
  (a_rows_at:PySem.W.nsIn K mainGlobals "rows_at"=some (some (.ref f_rows_at)))
  (a_rows:PySem.W.nsIn K mainGlobals "rows"=some (some (.ref f_rows)))
  (a_flickers:PySem.W.nsIn K mainGlobals "flickers"=some (some (.ref f_flickers)))
  (a_is_list:PySem.W.nsIn K mainGlobals "is_list"=some (some (.ref f_is_list)))
  (a_fork:PySem.W.nsIn K mainGlobals "fork"=some (some (.ref f_fork)))
  (a_BadBook___init__:PySem.W.findIn K (.ref C_BadBook) "__init__"=some (some (.ref f_BadBook___init__)))
  (tf_BadBook:PySem.W.typeIn K (.ref f_BadBook___init__)=some (.type "function"))
  (a_are_kinds:PySem.W.nsIn K mainGlobals "are_kinds"=some (some (.ref f_are_kinds)))
  (a_Kind_last:PySem.W.findIn K (.ref C_Kind) "last"=some (some (.ref p_Kind_last)))
  (g_Kind_last:PySem.W.specialIn K (.ref p_Kind_last) "__get__"=some (some (.builtin "property.__get__")))
  (t_Kind_last:PySem.W.takesIn K (.ref p_Kind_last)=some true)
  (r_Kind_last:PySem.W.recIn K p_Kind_last "property"=some (.ref f_Kind_last::rest_Kind_last))
  (a_states_in:PySem.W.nsIn K mainGlobals "states_in"=some (some (.ref f_states_in)))
  (a_Book___init__:PySem.W.findIn K (.ref C_Book) "__init__"=some (some (.ref f_Book___init__)))
  (i_Book___init__:PySem.W.isFn K (.ref f_Book___init__)=true)
  (a_BadKind___init__:PySem.W.findIn K (.ref C_BadKind) "__init__"=some (some (.ref f_BadKind___init__)))
  (tf_BadKind:PySem.W.typeIn K (.ref f_BadKind___init__)=some (.type "function"))
  (a_are_names:PySem.W.nsIn K mainGlobals "are_names"=some (some (.ref f_are_names)))
  (a_is_digit:PySem.W.nsIn K mainGlobals "is_digit"=some (some (.ref f_is_digit)))
  (a_is_condition:PySem.W.nsIn K mainGlobals "is_condition"=some (some (.ref f_is_condition)))
  (a_is_clause:PySem.W.nsIn K mainGlobals "is_clause"=some (some (.ref f_is_clause)))
  (a_are_clauses:PySem.W.nsIn K mainGlobals "are_clauses"=some (some (.ref f_are_clauses)))
  (a_copied_clause:PySem.W.nsIn K mainGlobals "copied_clause"=some (some (.ref f_copied_clause)))
  (a_Kind___init__:PySem.W.findIn K (.ref C_Kind) "__init__"=some (some (.ref f_Kind___init__)))
  (i_Kind___init__:PySem.W.isFn K (.ref f_Kind___init__)=true)
  (a_lights:PySem.W.nsIn K mainGlobals "lights"=some (some (.ref f_lights)))
  (a_ticks:PySem.W.nsIn K mainGlobals "ticks"=some (some (.ref f_ticks)))
  (a_votes:PySem.W.nsIn K mainGlobals "votes"=some (some (.ref f_votes)))
  (a_law:PySem.W.nsIn K mainGlobals "law"=some (some (.ref f_law)))
  (z_all:PySem.W.nsIn K mainGlobals "all"=some none)
  (z_bool:PySem.W.nsIn K mainGlobals "bool"=some none)
  (z_dict:PySem.W.nsIn K mainGlobals "dict"=some none)
  (z_enumerate:PySem.W.nsIn K mainGlobals "enumerate"=some none)
  (z_int:PySem.W.nsIn K mainGlobals "int"=some none)
  (z_isinstance:PySem.W.nsIn K mainGlobals "isinstance"=some none)
  (z_len:PySem.W.nsIn K mainGlobals "len"=some none)
  (z_list:PySem.W.nsIn K mainGlobals "list"=some none)
  (z_max:PySem.W.nsIn K mainGlobals "max"=some none)
  (z_min:PySem.W.nsIn K mainGlobals "min"=some none)
  (z_range:PySem.W.nsIn K mainGlobals "range"=some none)
  (z_set:PySem.W.nsIn K mainGlobals "set"=some none)
  (z_sorted:PySem.W.nsIn K mainGlobals "sorted"=some none)
  (z_str:PySem.W.nsIn K mainGlobals "str"=some none)
  (z_sum:PySem.W.nsIn K mainGlobals "sum"=some none)
  (z_tuple:PySem.W.nsIn K mainGlobals "tuple"=some none)
  (z_zip:PySem.W.nsIn K mainGlobals "zip"=some none)
  (v_MOST_CLAUSES:PySem.W.nsIn K mainGlobals "MOST_CLAUSES"=some (some (.int 6 tk_MOST_CLAUSES)))
  (v_MOST_CONDITIONS:PySem.W.nsIn K mainGlobals "MOST_CONDITIONS"=some (some (.int 4 tk_MOST_CONDITIONS)))
  (v_MOST_DIGIT:PySem.W.nsIn K mainGlobals "MOST_DIGIT"=some (some (.int 9 tk_MOST_DIGIT)))
  (v_MOST_KINDS:PySem.W.nsIn K mainGlobals "MOST_KINDS"=some (some (.int 4 tk_MOST_KINDS)))
  (v_MOST_LETTERS:PySem.W.nsIn K mainGlobals "MOST_LETTERS"=some (some (.int 8 tk_MOST_LETTERS)))
  (v_MOST_STATES:PySem.W.nsIn K mainGlobals "MOST_STATES"=some (some (.int 8 tk_MOST_STATES)))
  (n_Book_kinds_by_name:PySem.W.findIn K (.ref C_Book) "kinds_by_name"=some none)
  (n_Book_name_row:PySem.W.findIn K (.ref C_Book) "name_row"=some none)
  (n_Book_state_row:PySem.W.findIn K (.ref C_Book) "state_row"=some none)
  (n_Choices_all_ways:PySem.W.findIn K (.ref C_Choices) "all_ways"=some none)
  (n_Choices_ways_by_keys:PySem.W.findIn K (.ref C_Choices) "ways_by_keys"=some none)
  (n_Kind_clause_row:PySem.W.findIn K (.ref C_Kind) "clause_row"=some none)
  (n_Kind_hand_states:PySem.W.findIn K (.ref C_Kind) "hand_states"=some none)
  (n_Kind_last_state:PySem.W.findIn K (.ref C_Kind) "last_state"=some none)
  (n_Kind_part_kinds:PySem.W.findIn K (.ref C_Kind) "part_kinds"=some none)
  (n_Rule_caps:PySem.W.findIn K (.ref C_Rule) "caps"=some none)
  (n_Rule_hand_states:PySem.W.findIn K (.ref C_Rule) "hand_states"=some none)
  (n_Rule_part_kinds:PySem.W.findIn K (.ref C_Rule) "part_kinds"=some none)
  (n_Rule_places:PySem.W.findIn K (.ref C_Rule) "places"=some none)
  (n_Rule_state_row:PySem.W.findIn K (.ref C_Rule) "state_row"=some none)
  (n_Rule_telling:PySem.W.findIn K (.ref C_Rule) "telling"=some none)
  (n_Search_found:PySem.W.findIn K (.ref C_Search) "found"=some none)
  (n_Search_rules:PySem.W.findIn K (.ref C_Search) "rules"=some none)
  (n_Search_sizes:PySem.W.findIn K (.ref C_Search) "sizes"=some none)
  (n_Search_sums:PySem.W.findIn K (.ref C_Search) "sums"=some none)
  (n_Search_waiting:PySem.W.findIn K (.ref C_Search) "waiting"=some none)
  (n_Sums_chains:PySem.W.findIn K (.ref C_Sums) "chains"=some none)
  (n_Sums_greatest:PySem.W.findIn K (.ref C_Sums) "greatest"=some none)
  (n_Sums_rule:PySem.W.findIn K (.ref C_Sums) "rule"=some none)
  (n_Sums_taken:PySem.W.findIn K (.ref C_Sums) "taken"=some none)
  (n_Waiting_heap:PySem.W.findIn K (.ref C_Waiting) "heap"=some none)
  (n_Waiting_things_of_size:PySem.W.findIn K (.ref C_Waiting) "things_of_size"=some none)
  (n_Ways_choices:PySem.W.findIn K (.ref C_Ways) "choices"=some none)
  (n_Ways_leasts:PySem.W.findIn K (.ref C_Ways) "leasts"=some none)
  (n_Ways_rules:PySem.W.findIn K (.ref C_Ways) "rules"=some none)
  (Fn__law_around_size:Fun K "_law_around_size" "_law_around_size" xK f__law_around_size fd__law_around_size)
  (Fn__law_draw:Fun K "_law_draw" "_law_draw" aAl f__law_draw fd__law_draw)
  (Fn__law_source:Fun K "_law_source" "_law_source" jH f__law_source fd__law_source)
  (Fn_is_flicker:Fun K "is_flicker" "is_flicker" jR f_is_flicker fd_is_flicker)
  (Fn_UnknownKind___init__:Fun K "__init__" "UnknownKind.__init__" xF f_UnknownKind___init__ fd_UnknownKind___init__)
  (Fn_is_name:Fun K "is_name" "is_name" aBs f_is_name fd_is_name)
  (Fn_Book_kind_named:Fun K "kind_named" "Book.kind_named" uV f_Book_kind_named fd_Book_kind_named)
  (Fn_Book_states:Fun K "states" "Book.states" jF f_Book_states fd_Book_states)
  (Fn_unlike_ways:Fun K "unlike_ways" "unlike_ways" tU f_unlike_ways fd_unlike_ways)
  (Fn_Choices___init__:Fun K "__init__" "Choices.__init__" vM f_Choices___init__ fd_Choices___init__)
  (Fn_least_parts:Fun K "least_parts" "least_parts" tT f_least_parts fd_least_parts)
  (Fn_Ways_least_parts_of:Fun K "least_parts_of" "Ways.least_parts_of" wZ f_Ways_least_parts_of fd_Ways_least_parts_of)
  (Fn_Waiting_raise_last:Fun K "raise_last" "Waiting.raise_last" wH f_Waiting_raise_last fd_Waiting_raise_last)
  (Fn_Waiting_wait:Fun K "wait" "Waiting.wait" tE f_Waiting_wait fd_Waiting_wait)
  (Fn_Search_offer:Fun K "offer" "Search.offer" tD f_Search_offer fd_Search_offer)
  (Fn_Sums___init__:Fun K "__init__" "Sums.__init__" uA f_Sums___init__ fd_Sums___init__)
  (Fn_Waiting___init__:Fun K "__init__" "Waiting.__init__" vN f_Waiting___init__ fd_Waiting___init__)
  (Fn_Search___init__:Fun K "__init__" "Search.__init__" xQ f_Search___init__ fd_Search___init__)
  (Fn_Rule_with_one_more:Fun K "with_one_more" "Rule.with_one_more" wD f_Rule_with_one_more fd_Rule_with_one_more)
  (Fn_Sums_with_one_more:Fun K "with_one_more" "Sums.with_one_more" wG f_Sums_with_one_more fd_Sums_with_one_more)
  (Fn_Sums_take:Fun K "take" "Sums.take" aAm f_Sums_take fd_Sums_take)
  (Fn_Search_take:Fun K "take" "Search.take" jG f_Search_take fd_Search_take)
  (Fn_Waiting_is_empty:Fun K "is_empty" "Waiting.is_empty" vP f_Waiting_is_empty fd_Waiting_is_empty)
  (Fn_Waiting_lesser_below:Fun K "lesser_below" "Waiting.lesser_below" xG f_Waiting_lesser_below fd_Waiting_lesser_below)
  (Fn_Waiting_lower_first:Fun K "lower_first" "Waiting.lower_first" wY f_Waiting_lower_first fd_Waiting_lower_first)
  (Fn_Waiting_leave:Fun K "leave" "Waiting.leave" uB f_Waiting_leave fd_Waiting_leave)
  (Fn_unchained:Fun K "unchained" "unchained" aAi f_unchained fd_unchained)
  (Fn_Search_find_all:Fun K "find_all" "Search.find_all" uY f_Search_find_all fd_Search_find_all)
  (Fn_least_counted:Fun K "least_counted" "least_counted" uD f_least_counted fd_least_counted)
  (Fn_least_branches:Fun K "least_branches" "least_branches" vU f_least_branches fd_least_branches)
  (Fn_Book_names:Fun K "names" "Book.names" qR f_Book_names fd_Book_names)
  (Fn_Kind_hand:Fun K "hand" "Kind.hand" aAp f_Kind_hand fd_Kind_hand)
  (Fn_Kind_parts:Fun K "parts" "Kind.parts" qS f_Kind_parts fd_Kind_parts)
  (Fn_holds:Fun K "holds" "holds" aIa f_holds fd_holds)
  (Fn_Kind_counting:Fun K "counting" "Kind.counting" uX f_Kind_counting fd_Kind_counting)
  (Fn_Kind_told:Fun K "told" "Kind.told" aAn f_Kind_told fd_Kind_told)
  (Fn_agreed:Fun K "agreed" "agreed" aGx f_agreed fd_agreed)
  (Fn_all_counts:Fun K "all_counts" "all_counts" jP f_all_counts fd_all_counts)
  (Fn_Kind_clauses:Fun K "clauses" "Kind.clauses" tA f_Kind_clauses fd_Kind_clauses)
  (Fn_cap_of:Fun K "cap_of" "cap_of" aGw f_cap_of fd_cap_of)
  (Fn_in_common:Fun K "in_common" "in_common" kF f_in_common fd_in_common)
  (Fn_listed:Fun K "listed" "listed" aF1 f_listed fd_listed)
  (Fn_Rule___init__:Fun K "__init__" "Rule.__init__" xW f_Rule___init__ fd_Rule___init__)
  (Fn_rules_of:Fun K "rules_of" "rules_of" aAa f_rules_of fd_rules_of)
  (Fn_Rule_told_with:Fun K "told_with" "Rule.told_with" uN f_Rule_told_with fd_Rule_told_with)
  (Fn_chosen_others:Fun K "chosen_others" "chosen_others" vY f_chosen_others fd_chosen_others)
  (Fn_counts_of_others:Fun K "counts_of_others" "counts_of_others" xM f_counts_of_others fd_counts_of_others)
  (Fn_ways_of:Fun K "ways_of" "ways_of" aBq f_ways_of fd_ways_of)
  (Fn_Ways___init__:Fun K "__init__" "Ways.__init__" uC f_Ways___init__ fd_Ways___init__)
  (Fn_Ways_possible_states:Fun K "possible_states" "Ways.possible_states" xH f_Ways_possible_states fd_Ways_possible_states)
  (Fn_BadState___init__:Fun K "__init__" "BadState.__init__" vX f_BadState___init__ fd_BadState___init__)
  (Fn_is_one_of:Fun K "is_one_of" "is_one_of" aAk f_is_one_of fd_is_one_of)
  (Fn_check_states:Fun K "check_states" "check_states" tG f_check_states fd_check_states)
  (Fn_checked_ways:Fun K "checked_ways" "checked_ways" tH f_checked_ways fd_checked_ways)
  (Fn_Choices_unlike:Fun K "unlike" "Choices.unlike" uM f_Choices_unlike fd_Choices_unlike)
  (Fn_Ways_steps:Fun K "steps" "Ways.steps" jN f_Ways_steps fd_Ways_steps)
  (Fn_climbed_on:Fun K "climbed_on" "climbed_on" jQ f_climbed_on fd_climbed_on)
  (Fn_choices_of_two:Fun K "choices_of_two" "choices_of_two" vT f_choices_of_two fd_choices_of_two)
  (Fn_least_pairs:Fun K "least_pairs" "least_pairs" jJ f_least_pairs fd_least_pairs)
  (Fn_states_of:Fun K "states_of" "states_of" kH f_states_of fd_states_of)
  (Fn_joins_at:Fun K "joins_at" "joins_at" jS f_joins_at fd_joins_at)
  (Fn_forks_of:Fun K "forks_of" "forks_of" aAb f_forks_of fd_forks_of)
  (Fn_rows_at:Fun K "rows_at" "rows_at" aBr f_rows_at fd_rows_at)
  (Fn_rows:Fun K "rows" "rows" aQx f_rows fd_rows)
  (Fn_flickers:Fun K "flickers" "flickers" aAc f_flickers fd_flickers)
  (Fn_is_list:Fun K "is_list" "is_list" aDt f_is_list fd_is_list)
  (Fn_fork:Fun K "fork" "fork" aO4 f_fork fd_fork)
  (Fn_BadBook___init__:Fun K "__init__" "BadBook.__init__" vK f_BadBook___init__ fd_BadBook___init__)
  (Fn_are_kinds:Fun K "are_kinds" "are_kinds" kD f_are_kinds fd_are_kinds)
  (Fn_Kind_last:Fun K "last" "Kind.last" aAo f_Kind_last fd_Kind_last)
  (Fn_states_in:Fun K "states_in" "states_in" aAj f_states_in fd_states_in)
  (Fn_Book___init__:Fun K "__init__" "Book.__init__" wX f_Book___init__ fd_Book___init__)
  (Fn_BadKind___init__:Fun K "__init__" "BadKind.__init__" vL f_BadKind___init__ fd_BadKind___init__)
  (Fn_are_names:Fun K "are_names" "are_names" kE f_are_names fd_are_names)
  (Fn_is_digit:Fun K "is_digit" "is_digit" aBt f_is_digit fd_is_digit)
  (Fn_is_condition:Fun K "is_condition" "is_condition" tJ f_is_condition fd_is_condition)
  (Fn_is_clause:Fun K "is_clause" "is_clause" kG f_is_clause fd_is_clause)
  (Fn_are_clauses:Fun K "are_clauses" "are_clauses" tS f_are_clauses fd_are_clauses)
  (Fn_copied_clause:Fun K "copied_clause" "copied_clause" uZ f_copied_clause fd_copied_clause)
  (Fn_Kind___init__:Fun K "__init__" "Kind.__init__" uW f_Kind___init__ fd_Kind___init__)
  (Fn_lights:Fun K "lights" "lights" aGv f_lights fd_lights)
  (Fn_ticks:Fun K "ticks" "ticks" aLg f_ticks fd_ticks)
  (Fn_votes:Fun K "votes" "votes" aLf f_votes fd_votes)
  (Fn_law:Fun K "law" "law" aQy f_law fd_law)
  (htb:((["least_parts"]:List Str).all fun y=>(PySem.W.tabIn K y).isSome)=true) (hnd:decide (((["least_parts"]:List Str).map fun y=>(EvT1.xJ K y).2).Nodup)=true)
  :∃ fd:FuncData,(∀(s:Shared) (v:Value),BindsTo s fd ⟨[v],[]⟩ [("_law_script",v)])∧∀ base:Heap,K.In base→base.Ns mainGlobals mg→(∀ y∈(["least_parts"]:List Str),LamX.TabB base mg (EvT1.xJ K y).1 (EvT1.xJ K y).2)→FnOk l.prog w K mg base (L2.CX l.prog w) 26 fa fd ["_law_script"] (bAb K):=by
 have e:=hfa.symm.trans (PySem.W.mg_of X G a_law)
 cases e
 letI:Wrl:=⟨l.prog,w,EvT1.aNz K ["least_parts"]⟩
 have hnd:=of_decide_eq_true hnd
 have hw:HereP l.prog w:=⟨rfl,rfl⟩
 have cat_BadBook:CAt K "BadBook" C_BadBook:=aC_BadBook
 have em_BadBook:=aKq lx_BadBook ex_BadBook ty_BadBook su_BadBook
 have cat_BadKind:CAt K "BadKind" C_BadKind:=aC_BadKind
 have em_BadKind:=aKq lx_BadKind ex_BadKind ty_BadKind su_BadKind
 have cat_BadState:CAt K "BadState" C_BadState:=aC_BadState
 have em_BadState:=aKq lx_BadState ex_BadState ty_BadState su_BadState
 have cat_UnknownKind:CAt K "UnknownKind" C_UnknownKind:=aC_UnknownKind
 have em_UnknownKind:=aKq lx_UnknownKind ex_UnknownKind ty_UnknownKind su_UnknownKind
 have cat_Book:CAt K "Book" C_Book:=aC_Book
 have cl_Book:Cls K C_Book:=⟨pg_Book,hd_Book,po_Book,sa_Book⟩
 have cat_Choices:CAt K "Choices" C_Choices:=aC_Choices
 have cl_Choices:Cls K C_Choices:=⟨pg_Choices,hd_Choices,po_Choices,sa_Choices⟩
 have cat_Kind:CAt K "Kind" C_Kind:=aC_Kind
 have cl_Kind:Cls K C_Kind:=⟨pg_Kind,hd_Kind,po_Kind,sa_Kind⟩
 have cat_Rule:CAt K "Rule" C_Rule:=aC_Rule
 have cl_Rule:Cls K C_Rule:=⟨pg_Rule,hd_Rule,po_Rule,sa_Rule⟩
 have cat_Search:CAt K "Search" C_Search:=aC_Search
 have cl_Search:Cls K C_Search:=⟨pg_Search,hd_Search,po_Search,sa_Search⟩
 have cat_Sums:CAt K "Sums" C_Sums:=aC_Sums
 have cl_Sums:Cls K C_Sums:=⟨pg_Sums,hd_Sums,po_Sums,sa_Sums⟩
 have cat_Waiting:CAt K "Waiting" C_Waiting:=aC_Waiting
 have cl_Waiting:Cls K C_Waiting:=⟨pg_Waiting,hd_Waiting,po_Waiting,sa_Waiting⟩
 have cat_Ways:CAt K "Ways" C_Ways:=aC_Ways
 have cl_Ways:Cls K C_Ways:=⟨pg_Ways,hd_Ways,po_Ways,sa_Ways⟩
 have T:Txt K mg:=⟨PySem.W.mg_none_of X G z_all,PySem.W.mg_none_of X G z_bool,PySem.W.mg_none_of X G z_dict,PySem.W.mg_none_of X G z_enumerate,PySem.W.mg_none_of X G z_int,PySem.W.mg_none_of X G z_isinstance,PySem.W.mg_none_of X G z_len,PySem.W.mg_none_of X G z_list,PySem.W.mg_none_of X G z_max,PySem.W.mg_none_of X G z_min,PySem.W.mg_none_of X G z_range,PySem.W.mg_none_of X G z_set,PySem.W.mg_none_of X G z_sorted,PySem.W.mg_none_of X G z_str,PySem.W.mg_none_of X G z_sum,PySem.W.mg_none_of X G z_tuple,PySem.W.mg_none_of X G z_zip,⟨_,PySem.W.mg_of X G v_MOST_CLAUSES⟩,⟨_,PySem.W.mg_of X G v_MOST_CONDITIONS⟩,⟨_,PySem.W.mg_of X G v_MOST_DIGIT⟩,⟨_,PySem.W.mg_of X G v_MOST_KINDS⟩,⟨_,PySem.W.mg_of X G v_MOST_LETTERS⟩,⟨_,PySem.W.mg_of X G v_MOST_STATES⟩,⟨_,cat_Book,cl_Book⟩,⟨_,cat_Choices,cl_Choices⟩,⟨_,cat_Kind,cl_Kind⟩,⟨_,cat_Rule,cl_Rule⟩,⟨_,cat_Search,cl_Search⟩,⟨_,cat_Sums,cl_Sums⟩,⟨_,cat_Waiting,cl_Waiting⟩,⟨_,cat_Ways,cl_Ways⟩,⟨C_Book,cat_Book,PySem.W.mg_of X G aC_Book,[C_Book,C_Choices,C_Kind,C_Rule,C_Search,C_Sums,C_Waiting,C_Ways],⟨ict_Book_NoneType,ict_Book_bool,ict_Book_int,ict_Book_str,ict_Book_tuple,ict_Book_list,ict_Book_dict⟩,.cons ⟨cat_Book,cl_Book,ic1_Book,ic2_Book,icc_Book_Book.trans (by decide+kernel)⟩ (.cons ⟨cat_Choices,cl_Choices,ic1_Choices,ic2_Choices,icc_Book_Choices.trans (by decide+kernel)⟩ (.cons ⟨cat_Kind,cl_Kind,ic1_Kind,ic2_Kind,icc_Book_Kind.trans (by decide+kernel)⟩ (.cons ⟨cat_Rule,cl_Rule,ic1_Rule,ic2_Rule,icc_Book_Rule.trans (by decide+kernel)⟩ (.cons ⟨cat_Search,cl_Search,ic1_Search,ic2_Search,icc_Book_Search.trans (by decide+kernel)⟩ (.cons ⟨cat_Sums,cl_Sums,ic1_Sums,ic2_Sums,icc_Book_Sums.trans (by decide+kernel)⟩ (.cons ⟨cat_Waiting,cl_Waiting,ic1_Waiting,ic2_Waiting,icc_Book_Waiting.trans (by decide+kernel)⟩ (.cons ⟨cat_Ways,cl_Ways,ic1_Ways,ic2_Ways,icc_Book_Ways.trans (by decide+kernel)⟩ (.nil)))))))),ic3,ic4⟩,⟨C_Kind,cat_Kind,PySem.W.mg_of X G aC_Kind,[C_Book,C_Choices,C_Kind,C_Rule,C_Search,C_Sums,C_Waiting,C_Ways],⟨ict_Kind_NoneType,ict_Kind_bool,ict_Kind_int,ict_Kind_str,ict_Kind_tuple,ict_Kind_list,ict_Kind_dict⟩,.cons ⟨cat_Book,cl_Book,ic1_Book,ic2_Book,icc_Kind_Book.trans (by decide+kernel)⟩ (.cons ⟨cat_Choices,cl_Choices,ic1_Choices,ic2_Choices,icc_Kind_Choices.trans (by decide+kernel)⟩ (.cons ⟨cat_Kind,cl_Kind,ic1_Kind,ic2_Kind,icc_Kind_Kind.trans (by decide+kernel)⟩ (.cons ⟨cat_Rule,cl_Rule,ic1_Rule,ic2_Rule,icc_Kind_Rule.trans (by decide+kernel)⟩ (.cons ⟨cat_Search,cl_Search,ic1_Search,ic2_Search,icc_Kind_Search.trans (by decide+kernel)⟩ (.cons ⟨cat_Sums,cl_Sums,ic1_Sums,ic2_Sums,icc_Kind_Sums.trans (by decide+kernel)⟩ (.cons ⟨cat_Waiting,cl_Waiting,ic1_Waiting,ic2_Waiting,icc_Kind_Waiting.trans (by decide+kernel)⟩ (.cons ⟨cat_Ways,cl_Ways,ic1_Ways,ic2_Ways,icc_Kind_Ways.trans (by decide+kernel)⟩ (.nil)))))))),ic3,ic4⟩,fun C h=>by cases h.inj cat_Book; exact n_Book_kinds_by_name,fun C h=>by cases h.inj cat_Book; exact n_Book_name_row,fun C h=>by cases h.inj cat_Book; exact n_Book_state_row,fun C h=>by cases h.inj cat_Choices; exact n_Choices_all_ways,fun C h=>by cases h.inj cat_Choices; exact n_Choices_ways_by_keys,fun C h=>by cases h.inj cat_Kind; exact n_Kind_clause_row,fun C h=>by cases h.inj cat_Kind; exact n_Kind_hand_states,fun C h=>by cases h.inj cat_Kind; exact n_Kind_last_state,fun C h=>by cases h.inj cat_Kind; exact n_Kind_part_kinds,fun C h=>by cases h.inj cat_Rule; exact n_Rule_caps,fun C h=>by cases h.inj cat_Rule; exact n_Rule_hand_states,fun C h=>by cases h.inj cat_Rule; exact n_Rule_part_kinds,fun C h=>by cases h.inj cat_Rule; exact n_Rule_places,fun C h=>by cases h.inj cat_Rule; exact n_Rule_state_row,fun C h=>by cases h.inj cat_Rule; exact n_Rule_telling,fun C h=>by cases h.inj cat_Search; exact n_Search_found,fun C h=>by cases h.inj cat_Search; exact n_Search_rules,fun C h=>by cases h.inj cat_Search; exact n_Search_sizes,fun C h=>by cases h.inj cat_Search; exact n_Search_sums,fun C h=>by cases h.inj cat_Search; exact n_Search_waiting,fun C h=>by cases h.inj cat_Sums; exact n_Sums_chains,fun C h=>by cases h.inj cat_Sums; exact n_Sums_greatest,fun C h=>by cases h.inj cat_Sums; exact n_Sums_rule,fun C h=>by cases h.inj cat_Sums; exact n_Sums_taken,fun C h=>by cases h.inj cat_Waiting; exact n_Waiting_heap,fun C h=>by cases h.inj cat_Waiting; exact n_Waiting_things_of_size,fun C h=>by cases h.inj cat_Ways; exact n_Ways_choices,fun C h=>by cases h.inj cat_Ways; exact n_Ways_leasts,fun C h=>by cases h.inj cat_Ways; exact n_Ways_rules⟩
 have k__law_around_size:=Fn__law_around_size.kp
 have k__law_draw:=Fn__law_draw.kp
 have k__law_source:=Fn__law_source.kp
 have k_is_flicker:=Fn_is_flicker.kp
 have k_UnknownKind___init__:=Fn_UnknownKind___init__.kp
 have k_is_name:=Fn_is_name.kp
 have k_Book_kind_named:=Fn_Book_kind_named.kp
 have k_Book_states:=Fn_Book_states.kp
 have k_unlike_ways:=Fn_unlike_ways.kp
 have k_Choices___init__:=Fn_Choices___init__.kp
 have k_least_parts:=Fn_least_parts.kp
 have k_Ways_least_parts_of:=Fn_Ways_least_parts_of.kp
 have k_Waiting_raise_last:=Fn_Waiting_raise_last.kp
 have k_Waiting_wait:=Fn_Waiting_wait.kp
 have k_Search_offer:=Fn_Search_offer.kp
 have k_Sums___init__:=Fn_Sums___init__.kp
 have k_Waiting___init__:=Fn_Waiting___init__.kp
 have k_Search___init__:=Fn_Search___init__.kp
 have k_Rule_with_one_more:=Fn_Rule_with_one_more.kp
 have k_Sums_with_one_more:=Fn_Sums_with_one_more.kp
 have k_Sums_take:=Fn_Sums_take.kp
 have k_Search_take:=Fn_Search_take.kp
 have k_Waiting_is_empty:=Fn_Waiting_is_empty.kp
 have k_Waiting_lesser_below:=Fn_Waiting_lesser_below.kp
 have k_Waiting_lower_first:=Fn_Waiting_lower_first.kp
 have k_Waiting_leave:=Fn_Waiting_leave.kp
 have k_unchained:=Fn_unchained.kp
 have k_Search_find_all:=Fn_Search_find_all.kp
 have k_least_counted:=Fn_least_counted.kp
 have k_least_branches:=Fn_least_branches.kp
 have k_Book_names:=Fn_Book_names.kp
 have k_Kind_hand:=Fn_Kind_hand.kp
 have k_Kind_parts:=Fn_Kind_parts.kp
 have k_holds:=Fn_holds.kp
 have k_Kind_counting:=Fn_Kind_counting.kp
 have k_Kind_told:=Fn_Kind_told.kp
 have k_agreed:=Fn_agreed.kp
 have k_all_counts:=Fn_all_counts.kp
 have k_Kind_clauses:=Fn_Kind_clauses.kp
 have k_cap_of:=Fn_cap_of.kp
 have k_in_common:=Fn_in_common.kp
 have k_listed:=Fn_listed.kp
 have k_Rule___init__:=Fn_Rule___init__.kp
 have k_rules_of:=Fn_rules_of.kp
 have k_Rule_told_with:=Fn_Rule_told_with.kp
 have k_chosen_others:=Fn_chosen_others.kp
 have k_counts_of_others:=Fn_counts_of_others.kp
 have k_ways_of:=Fn_ways_of.kp
 have k_Ways___init__:=Fn_Ways___init__.kp
 have k_Ways_possible_states:=Fn_Ways_possible_states.kp
 have k_BadState___init__:=Fn_BadState___init__.kp
 have k_is_one_of:=Fn_is_one_of.kp
 have k_check_states:=Fn_check_states.kp
 have k_checked_ways:=Fn_checked_ways.kp
 have k_Choices_unlike:=Fn_Choices_unlike.kp
 have k_Ways_steps:=Fn_Ways_steps.kp
 have k_climbed_on:=Fn_climbed_on.kp
 have k_choices_of_two:=Fn_choices_of_two.kp
 have k_least_pairs:=Fn_least_pairs.kp
 have k_states_of:=Fn_states_of.kp
 have k_joins_at:=Fn_joins_at.kp
 have k_forks_of:=Fn_forks_of.kp
 have k_rows_at:=Fn_rows_at.kp
 have k_rows:=Fn_rows.kp
 have k_flickers:=Fn_flickers.kp
 have k_is_list:=Fn_is_list.kp
 have k_fork:=Fn_fork.kp
 have k_BadBook___init__:=Fn_BadBook___init__.kp
 have k_are_kinds:=Fn_are_kinds.kp
 have k_Kind_last:=Fn_Kind_last.kp
 have k_states_in:=Fn_states_in.kp
 have k_Book___init__:=Fn_Book___init__.kp
 have k_BadKind___init__:=Fn_BadKind___init__.kp
 have k_are_names:=Fn_are_names.kp
 have k_is_digit:=Fn_is_digit.kp
 have k_is_condition:=Fn_is_condition.kp
 have k_is_clause:=Fn_is_clause.kp
 have k_are_clauses:=Fn_are_clauses.kp
 have k_copied_clause:=Fn_copied_clause.kp
 have k_Kind___init__:=Fn_Kind___init__.kp
 have k_lights:=Fn_lights.kp
 have k_ticks:=Fn_ticks.kp
 have k_votes:=Fn_votes.kp
 have k_law:=Fn_law.kp
 obtain⟨oc_law,od_law,kV_law,dc_law,pm_law,an_law,cd_law,ct_law,sl_law,efd_law,lk_law,co_law⟩:=Fn_law.ex
 subst efd_law
 refine⟨PySem.W.fnOf "law" "law" (defArgs aQy) (defBody aQy) (defScope aQy) .none kV_law dc_law pm_law an_law cd_law ct_law,fun s v=> .of_eq rfl,fun base _ _ hT=>?_⟩
 have D__law_around_size:DefOk l.prog w K mg base 1 25 "_law_around_size" (yH 24):=⟨⟨f__law_around_size,_,_,rfl,aAx hw Fn__law_around_size (PySem.W.mg_of X G a__law_around_size) T 24,PySem.W.mg_of X G a__law_around_size,k__law_around_size,jV Fn__law_around_size⟩⟩
 have D__law_draw:DefOk l.prog w K mg base 2 1 "_law_draw" tW:=⟨⟨f__law_draw,_,_,rfl,aRv hw Fn__law_draw T,PySem.W.mg_of X G a__law_draw,k__law_draw,aSf Fn__law_draw⟩⟩
 have D__law_source:DefOk l.prog w K mg base 1 1 "_law_source" vJ:=⟨⟨f__law_source,_,_,rfl,aNf hw Fn__law_source T,PySem.W.mg_of X G a__law_source,k__law_source,aNp Fn__law_source⟩⟩
 have D_is_flicker:DefOk l.prog w K mg base 1 1 "is_flicker" aBd:=⟨⟨f_is_flicker,_,_,rfl,aPf hw Fn_is_flicker T,PySem.W.mg_of X G a_is_flicker,k_is_flicker,aPp Fn_is_flicker⟩⟩
 have D_UnknownKind___init__:XcOk l.prog w K mg base 1 "UnknownKind" "kind":=⟨⟨C_UnknownKind,f_UnknownKind___init__,_,_,cat_UnknownKind,PySem.W.mg_of X G aC_UnknownKind,⟨⟨nm_UnknownKind,q_UnknownKind,N_UnknownKind,bs_UnknownKind,bm_UnknownKind,sn_UnknownKind,sub_UnknownKind,ab_UnknownKind,col_UnknownKind,dd_UnknownKind,k0_UnknownKind,k1_UnknownKind,k2_UnknownKind,k3_UnknownKind,k5_UnknownKind,lx_UnknownKind,rv_UnknownKind⟩,sa_UnknownKind,ex_UnknownKind,ty_UnknownKind,kc_UnknownKind⟩,no_UnknownKind,a_UnknownKind___init__,tf_UnknownKind,aCg Fn_UnknownKind___init__,aCj Fn_UnknownKind___init__,⟨ga_UnknownKind,gg_UnknownKind,ex_UnknownKind,hd_UnknownKind⟩,em_UnknownKind⟩⟩
 have D_is_name:DefOk l.prog w K mg base 1 1 "is_name" uL:=⟨⟨f_is_name,_,_,rfl,aWw hw Fn_is_name T,PySem.W.mg_of X G a_is_name,k_is_name,aX7 Fn_is_name⟩⟩
 have D_Book_kind_named:MethOk l.prog w K mg base 2 3 "Book" "kind_named" xB:=⟨⟨C_Book,f_Book_kind_named,_,_,rfl,cat_Book,cl_Book,⟨a_Book_kind_named,i_Book_kind_named,k_Book_kind_named⟩,aHb hw Fn_Book_kind_named T D_UnknownKind___init__ D_is_name,aHj Fn_Book_kind_named⟩⟩
 have D_Book_states:PropOk l.prog w K mg base 1 "Book" "states" vG:=⟨⟨C_Book,p_Book_states,f_Book_states,_,_,rfl,cat_Book,cl_Book,⟨a_Book_states,g_Book_states,t_Book_states,_,r_Book_states⟩,aNh hw Fn_Book_states T,aNr Fn_Book_states⟩⟩
 have D_unlike_ways:DefOk l.prog w K mg base 2 1 "unlike_ways" tP:=⟨⟨f_unlike_ways,_,_,rfl,aNb hw Fn_unlike_ways T,PySem.W.mg_of X G a_unlike_ways,k_unlike_ways,aNl Fn_unlike_ways⟩⟩
 have D_Choices___init__:InitOk l.prog w K mg base 2 2 "Choices" wK:=⟨⟨C_Choices,f_Choices___init__,_,_,rfl,cat_Choices,PySem.W.mg_of X G aC_Choices,⟨mk_Choices,a_Choices___init__,i_Choices___init__,kc_Choices⟩,aGb hw Fn_Choices___init__ T D_unlike_ways,aGi Fn_Choices___init__⟩⟩
 have D_least_parts:DefOk l.prog w K mg base 2 1 "least_parts" aA7:=⟨⟨f_least_parts,_,_,rfl,aNc hw Fn_least_parts (EvH.bEx X G (EvT1.aZ6 (List.all_eq_true.mp htb "least_parts" (by simp))) (PySem.W.mg_of X G a_least_parts) Fn_least_parts) (hT "least_parts" (by simp)) (EvT1.bA9 (by simp)) (EvT1.aUt hnd (by simp)) T,PySem.W.mg_of X G a_least_parts,k_least_parts,aNm Fn_least_parts⟩⟩
 have D_Ways_least_parts_of:MethOk l.prog w K mg base 2 2 "Ways" "least_parts_of" xP:=⟨⟨C_Ways,f_Ways_least_parts_of,_,_,rfl,cat_Ways,cl_Ways,⟨a_Ways_least_parts_of,i_Ways_least_parts_of,k_Ways_least_parts_of⟩,aDd hw Fn_Ways_least_parts_of T D_least_parts,aDf Fn_Ways_least_parts_of⟩⟩
 have D_Waiting_raise_last:MethOk l.prog w K mg base 1 1 "Waiting" "raise_last" vD:=⟨⟨C_Waiting,f_Waiting_raise_last,_,_,rfl,cat_Waiting,cl_Waiting,⟨a_Waiting_raise_last,i_Waiting_raise_last,k_Waiting_raise_last⟩,aE7 hw Fn_Waiting_raise_last T,aEd Fn_Waiting_raise_last⟩⟩
 have D_Waiting_wait:MethOk l.prog w K mg base 3 2 "Waiting" "wait" vE:=⟨⟨C_Waiting,f_Waiting_wait,_,_,rfl,cat_Waiting,cl_Waiting,⟨a_Waiting_wait,i_Waiting_wait,k_Waiting_wait⟩,aLy hw Fn_Waiting_wait T D_Waiting_raise_last,aMb Fn_Waiting_wait⟩⟩
 have D_Search_offer:MethOk l.prog w K mg base 6 3 "Search" "offer" uJ:=⟨⟨C_Search,f_Search_offer,_,_,rfl,cat_Search,cl_Search,⟨a_Search_offer,i_Search_offer,k_Search_offer⟩,aLz hw Fn_Search_offer T D_Waiting_wait,aMc Fn_Search_offer⟩⟩
 have D_Sums___init__:InitOk l.prog w K mg base 2 1 "Sums" kR:=⟨⟨C_Sums,f_Sums___init__,_,_,rfl,cat_Sums,PySem.W.mg_of X G aC_Sums,⟨mk_Sums,a_Sums___init__,i_Sums___init__,kc_Sums⟩,aK2 hw Fn_Sums___init__ T,aKe Fn_Sums___init__⟩⟩
 have D_Waiting___init__:InitOk l.prog w K mg base 0 1 "Waiting" wL:=⟨⟨C_Waiting,f_Waiting___init__,_,_,rfl,cat_Waiting,PySem.W.mg_of X G aC_Waiting,⟨mk_Waiting,a_Waiting___init__,i_Waiting___init__,kc_Waiting⟩,aGa hw Fn_Waiting___init__ T,aGh Fn_Waiting___init__⟩⟩
 have D_Search___init__:InitOk l.prog w K mg base 3 4 "Search" tL:=⟨⟨C_Search,f_Search___init__,_,_,rfl,cat_Search,PySem.W.mg_of X G aC_Search,⟨mk_Search,a_Search___init__,i_Search___init__,kc_Search⟩,aHa hw Fn_Search___init__ T D_Search_offer D_Sums___init__ D_Waiting___init__,aHi Fn_Search___init__⟩⟩
 have D_Rule_with_one_more:MethOk l.prog w K mg base 3 1 "Rule" "with_one_more" yG:=⟨⟨C_Rule,f_Rule_with_one_more,_,_,rfl,cat_Rule,cl_Rule,⟨a_Rule_with_one_more,i_Rule_with_one_more,k_Rule_with_one_more⟩,aE9 hw Fn_Rule_with_one_more T,aEf Fn_Rule_with_one_more⟩⟩
 have D_Sums_with_one_more:MethOk l.prog w K mg base 6 2 "Sums" "with_one_more" vC:=⟨⟨C_Sums,f_Sums_with_one_more,_,_,rfl,cat_Sums,cl_Sums,⟨a_Sums_with_one_more,i_Sums_with_one_more,k_Sums_with_one_more⟩,aE8 hw Fn_Sums_with_one_more T D_Rule_with_one_more,aEe Fn_Sums_with_one_more⟩⟩
 have D_Sums_take:MethOk l.prog w K mg base 5 3 "Sums" "take" aCo:=⟨⟨C_Sums,f_Sums_take,_,_,rfl,cat_Sums,cl_Sums,⟨a_Sums_take,i_Sums_take,k_Sums_take⟩,aRw hw Fn_Sums_take T D_Sums_with_one_more,aSg Fn_Sums_take⟩⟩
 have D_Search_take:MethOk l.prog w K mg base 6 4 "Search" "take" aA9:=⟨⟨C_Search,f_Search_take,_,_,rfl,cat_Search,cl_Search,⟨a_Search_take,i_Search_take,k_Search_take⟩,aNg hw Fn_Search_take T D_Search_offer D_Sums_take,aNq Fn_Search_take⟩⟩
 have D_Waiting_is_empty:MethOk l.prog w K mg base 1 1 "Waiting" "is_empty" wM:=⟨⟨C_Waiting,f_Waiting_is_empty,_,_,rfl,cat_Waiting,cl_Waiting,⟨a_Waiting_is_empty,i_Waiting_is_empty,k_Waiting_is_empty⟩,aG9 hw Fn_Waiting_is_empty T,aGg Fn_Waiting_is_empty⟩⟩
 have D_Waiting_lesser_below:MethOk l.prog w K mg base 2 1 "Waiting" "lesser_below" xE:=⟨⟨C_Waiting,f_Waiting_lesser_below,_,_,rfl,cat_Waiting,cl_Waiting,⟨a_Waiting_lesser_below,i_Waiting_lesser_below,k_Waiting_lesser_below⟩,aCf hw Fn_Waiting_lesser_below T,aCi Fn_Waiting_lesser_below⟩⟩
 have D_Waiting_lower_first:MethOk l.prog w K mg base 1 2 "Waiting" "lower_first" vH:=⟨⟨C_Waiting,f_Waiting_lower_first,_,_,rfl,cat_Waiting,cl_Waiting,⟨a_Waiting_lower_first,i_Waiting_lower_first,k_Waiting_lower_first⟩,aDe hw Fn_Waiting_lower_first T D_Waiting_lesser_below,aDg Fn_Waiting_lower_first⟩⟩
 have D_Waiting_leave:MethOk l.prog w K mg base 1 3 "Waiting" "leave" uR:=⟨⟨C_Waiting,f_Waiting_leave,_,_,rfl,cat_Waiting,cl_Waiting,⟨a_Waiting_leave,i_Waiting_leave,k_Waiting_leave⟩,aK1 hw Fn_Waiting_leave T D_Waiting_lower_first,aKd Fn_Waiting_leave⟩⟩
 have D_unchained:DefOk l.prog w K mg base 1 1 "unchained" aCk:=⟨⟨f_unchained,_,_,rfl,aRn hw Fn_unchained T,PySem.W.mg_of X G a_unchained,k_unchained,aS7 Fn_unchained⟩⟩
 have D_Search_find_all:MethOk l.prog w K mg base 1 5 "Search" "find_all" tM:=⟨⟨C_Search,f_Search_find_all,_,_,rfl,cat_Search,cl_Search,⟨a_Search_find_all,i_Search_find_all,k_Search_find_all⟩,aH9 hw Fn_Search_find_all T D_Search_take D_Waiting_is_empty D_Waiting_leave D_unchained,aHh Fn_Search_find_all⟩⟩
 have D_least_counted:DefOk l.prog w K mg base 3 6 "least_counted" kW:=⟨⟨f_least_counted,_,_,rfl,aJx hw Fn_least_counted T D_Search___init__ D_Search_find_all,PySem.W.mg_of X G a_least_counted,k_least_counted,aK9 Fn_least_counted⟩⟩
 have D_least_branches:DefOk l.prog w K mg base 1 7 "least_branches" jY:=⟨⟨f_least_branches,_,_,rfl,aIi hw Fn_least_branches T D_least_counted,PySem.W.mg_of X G a_least_branches,k_least_branches,aIn Fn_least_branches⟩⟩
 have D_Book_names:PropOk l.prog w K mg base 1 "Book" "names" aBg:=⟨⟨C_Book,p_Book_names,f_Book_names,_,_,rfl,cat_Book,cl_Book,⟨a_Book_names,g_Book_names,t_Book_names,_,r_Book_names⟩,aPk hw Fn_Book_names T,aPu Fn_Book_names⟩⟩
 have D_Kind_hand:PropOk l.prog w K mg base 1 "Kind" "hand" qY:=⟨⟨C_Kind,p_Kind_hand,f_Kind_hand,_,_,rfl,cat_Kind,cl_Kind,⟨a_Kind_hand,g_Kind_hand,t_Kind_hand,_,r_Kind_hand⟩,aRz hw Fn_Kind_hand T,aSj Fn_Kind_hand⟩⟩
 have D_Kind_parts:PropOk l.prog w K mg base 1 "Kind" "parts" jM:=⟨⟨C_Kind,p_Kind_parts,f_Kind_parts,_,_,rfl,cat_Kind,cl_Kind,⟨a_Kind_parts,g_Kind_parts,t_Kind_parts,_,r_Kind_parts⟩,aPj hw Fn_Kind_parts T,aPt Fn_Kind_parts⟩⟩
 have D_holds:DefOk l.prog w K mg base 2 1 "holds" aQ6:=⟨⟨f_holds,_,_,rfl,bBj hw Fn_holds T,PySem.W.mg_of X G a_holds,k_holds,bBt Fn_holds⟩⟩
 have D_Kind_counting:MethOk l.prog w K mg base 2 2 "Kind" "counting" kP:=⟨⟨C_Kind,f_Kind_counting,_,_,rfl,cat_Kind,cl_Kind,⟨a_Kind_counting,i_Kind_counting,k_Kind_counting⟩,aK4 hw Fn_Kind_counting T D_holds,aKg Fn_Kind_counting⟩⟩
 have D_Kind_told:MethOk l.prog w K mg base 2 3 "Kind" "told" aCp:=⟨⟨C_Kind,f_Kind_told,_,_,rfl,cat_Kind,cl_Kind,⟨a_Kind_told,i_Kind_told,k_Kind_told⟩,aRx hw Fn_Kind_told T D_Kind_counting,aSh Fn_Kind_told⟩⟩
 have D_agreed:DefOk l.prog w K mg base 1 1 "agreed" aKu:=⟨⟨f_agreed,_,_,rfl,aZc hw Fn_agreed T,PySem.W.mg_of X G a_agreed,k_agreed,aZt Fn_agreed⟩⟩
 have D_all_counts:DefOk l.prog w K mg base 1 1 "all_counts" aBe:=⟨⟨f_all_counts,_,_,rfl,aPh hw Fn_all_counts T,PySem.W.mg_of X G a_all_counts,k_all_counts,aPr Fn_all_counts⟩⟩
 have D_Kind_clauses:PropOk l.prog w K mg base 1 "Kind" "clauses" uH:=⟨⟨C_Kind,p_Kind_clauses,f_Kind_clauses,_,_,rfl,cat_Kind,cl_Kind,⟨a_Kind_clauses,g_Kind_clauses,t_Kind_clauses,_,r_Kind_clauses⟩,aM0 hw Fn_Kind_clauses T,aMd Fn_Kind_clauses⟩⟩
 have D_cap_of:DefOk l.prog w K mg base 2 3 "cap_of" aKt:=⟨⟨f_cap_of,_,_,rfl,aZb hw Fn_cap_of T D_Kind_clauses,PySem.W.mg_of X G a_cap_of,k_cap_of,aZs Fn_cap_of⟩⟩
 have D_in_common:DefOk l.prog w K mg base 1 1 "in_common" aB2:=⟨⟨f_in_common,_,_,rfl,aRs hw Fn_in_common T,PySem.W.mg_of X G a_in_common,k_in_common,aSc Fn_in_common⟩⟩
 have D_listed:DefOk l.prog w K mg base 2 1 "listed" aKs:=⟨⟨f_listed,_,_,rfl,aZ9 hw Fn_listed T,PySem.W.mg_of X G a_listed,k_listed,aZq Fn_listed⟩⟩
 have D_Rule___init__:InitOk l.prog w K mg base 2 4 "Rule" kQ:=⟨⟨C_Rule,f_Rule___init__,_,_,rfl,cat_Rule,PySem.W.mg_of X G aC_Rule,⟨mk_Rule,a_Rule___init__,i_Rule___init__,kc_Rule⟩,aK3 hw Fn_Rule___init__ T D_Kind_hand D_Kind_parts D_Kind_told D_agreed D_all_counts D_cap_of D_in_common D_listed,aKf Fn_Rule___init__⟩⟩
 have D_rules_of:DefOk l.prog w K mg base 1 6 "rules_of" aF7:=⟨⟨f_rules_of,_,_,rfl,aTy hw Fn_rules_of T D_Book_kind_named D_Book_names D_Book_states D_Rule___init__,PySem.W.mg_of X G a_rules_of,k_rules_of,aU6 Fn_rules_of⟩⟩
 have D_Rule_told_with:MethOk l.prog w K mg base 3 2 "Rule" "told_with" vS:=⟨⟨C_Rule,f_Rule_told_with,_,_,rfl,cat_Rule,cl_Rule,⟨a_Rule_told_with,i_Rule_told_with,k_Rule_told_with⟩,aIk hw Fn_Rule_told_with T D_Rule_with_one_more,aIp Fn_Rule_told_with⟩⟩
 have D_chosen_others:DefOk l.prog w K mg base 3 1 "chosen_others" uS:=⟨⟨f_chosen_others,_,_,rfl,aJz hw Fn_chosen_others T,PySem.W.mg_of X G a_chosen_others,k_chosen_others,aKb Fn_chosen_others⟩⟩
 have D_counts_of_others:DefOk l.prog w K mg base 2 1 "counts_of_others" wN:=⟨⟨f_counts_of_others,_,_,rfl,aG8 hw Fn_counts_of_others T,PySem.W.mg_of X G a_counts_of_others,k_counts_of_others,aGf Fn_counts_of_others⟩⟩
 have D_ways_of:DefOk l.prog w K mg base 2 3 "ways_of" aHs:=⟨⟨f_ways_of,_,_,rfl,aWu hw Fn_ways_of T D_Rule_told_with D_chosen_others D_counts_of_others,PySem.W.mg_of X G a_ways_of,k_ways_of,aX5 Fn_ways_of⟩⟩
 have D_Ways___init__:InitOk l.prog w K mg base 1 8 "Ways" kS:=⟨⟨C_Ways,f_Ways___init__,_,_,rfl,cat_Ways,PySem.W.mg_of X G aC_Ways,⟨mk_Ways,a_Ways___init__,i_Ways___init__,kc_Ways⟩,aK0 hw Fn_Ways___init__ T D_Book_states D_Choices___init__ D_Ways_least_parts_of D_least_branches D_rules_of D_ways_of,aKc Fn_Ways___init__⟩⟩
 have D_Ways_possible_states:MethOk l.prog w K mg base 2 1 "Ways" "possible_states" vW:=⟨⟨C_Ways,f_Ways_possible_states,_,_,rfl,cat_Ways,cl_Ways,⟨a_Ways_possible_states,i_Ways_possible_states,k_Ways_possible_states⟩,aCe hw Fn_Ways_possible_states T,aCh Fn_Ways_possible_states⟩⟩
 have D_BadState___init__:XcOk l.prog w K mg base 1 "BadState" "state":=⟨⟨C_BadState,f_BadState___init__,_,_,cat_BadState,PySem.W.mg_of X G aC_BadState,⟨⟨nm_BadState,q_BadState,N_BadState,bs_BadState,bm_BadState,sn_BadState,sub_BadState,ab_BadState,col_BadState,dd_BadState,k0_BadState,k1_BadState,k2_BadState,k3_BadState,k5_BadState,lx_BadState,rv_BadState⟩,sa_BadState,ex_BadState,ty_BadState,kc_BadState⟩,no_BadState,a_BadState___init__,tf_BadState,aFa Fn_BadState___init__,aFb Fn_BadState___init__,⟨ga_BadState,gg_BadState,ex_BadState,hd_BadState⟩,em_BadState⟩⟩
 have D_is_one_of:DefOk l.prog w K mg base 2 1 "is_one_of" qZ:=⟨⟨f_is_one_of,_,_,rfl,aRq hw Fn_is_one_of T,PySem.W.mg_of X G a_is_one_of,k_is_one_of,aSa Fn_is_one_of⟩⟩
 have D_check_states:DefOk l.prog w K mg base 2 3 "check_states" qV:=⟨⟨f_check_states,_,_,rfl,aLx hw Fn_check_states T D_BadState___init__ D_is_one_of,PySem.W.mg_of X G a_check_states,k_check_states,aMa Fn_check_states⟩⟩
 have D_checked_ways:DefOk l.prog w K mg base 4 10 "checked_ways" uK:=⟨⟨f_checked_ways,_,_,rfl,aLw hw Fn_checked_ways T D_Book_kind_named D_Ways___init__ D_Ways_possible_states D_check_states,PySem.W.mg_of X G a_checked_ways,k_checked_ways,aM9 Fn_checked_ways⟩⟩
 have D_Choices_unlike:MethOk l.prog w K mg base 2 2 "Choices" "unlike" vR:=⟨⟨C_Choices,f_Choices_unlike,_,_,rfl,cat_Choices,cl_Choices,⟨a_Choices_unlike,i_Choices_unlike,k_Choices_unlike⟩,aIl hw Fn_Choices_unlike T D_unlike_ways,aIq Fn_Choices_unlike⟩⟩
 have D_Ways_steps:MethOkB l.prog w K mg base 3 3 "Ways" "steps" aBf:=⟨⟨C_Ways,f_Ways_steps,_,_,rfl,cat_Ways,cl_Ways,⟨⟨a_Ways_steps,i_Ways_steps,k_Ways_steps⟩,gf_Ways_steps,tk_Ways_steps,by decide+kernel,fi_Ways_steps⟩,aPi hw Fn_Ways_steps T D_Choices_unlike,aPs Fn_Ways_steps⟩⟩
 have D_climbed_on:DefOk l.prog w K mg base 2 4 "climbed_on" qM:=⟨⟨f_climbed_on,_,_,rfl,aPg hw Fn_climbed_on T D_Waiting___init__ D_Waiting_is_empty D_Waiting_leave D_Waiting_wait D_Ways_steps,PySem.W.mg_of X G a_climbed_on,k_climbed_on,aPq Fn_climbed_on⟩⟩
 have D_choices_of_two:DefOk l.prog w K mg base 4 4 "choices_of_two" jX:=⟨⟨f_choices_of_two,_,_,rfl,aIj hw Fn_choices_of_two T D_Choices___init__ D_Rule_told_with D_Rule_with_one_more D_Ways_least_parts_of D_chosen_others D_counts_of_others,PySem.W.mg_of X G a_choices_of_two,k_choices_of_two,aIo Fn_choices_of_two⟩⟩
 have D_least_pairs:DefOk l.prog w K mg base 2 1 "least_pairs" kX:=⟨⟨f_least_pairs,_,_,rfl,aNd hw Fn_least_pairs T,PySem.W.mg_of X G a_least_pairs,k_least_pairs,aNn Fn_least_pairs⟩⟩
 have D_states_of:DefOk l.prog w K mg base 1 1 "states_of" aB1:=⟨⟨f_states_of,_,_,rfl,aRo hw Fn_states_of T,PySem.W.mg_of X G a_states_of,k_states_of,aS8 Fn_states_of⟩⟩
 have D_joins_at:DefOk l.prog w K mg base 4 5 "joins_at" aF8:=⟨⟨f_joins_at,_,_,rfl,aTz hw Fn_joins_at T D_Choices_unlike D_choices_of_two D_least_pairs D_states_of,PySem.W.mg_of X G a_joins_at,k_joins_at,aU7 Fn_joins_at⟩⟩
 have D_forks_of:DefOk l.prog w K mg base 3 6 "forks_of" aAd:=⟨⟨f_forks_of,_,_,rfl,aU1 hw Fn_forks_of T D_climbed_on D_joins_at,PySem.W.mg_of X G a_forks_of,k_forks_of,aU9 Fn_forks_of⟩⟩
 have D_rows_at:DefOk l.prog w K mg base 2 1 "rows_at" aHt:=⟨⟨f_rows_at,_,_,rfl,aWv hw Fn_rows_at T,PySem.W.mg_of X G a_rows_at,k_rows_at,aX6 Fn_rows_at⟩⟩
 have D_rows:DefOk l.prog w K mg base 4 11 "rows" aEn:=⟨⟨f_rows,_,_,rfl,bEs hw Fn_rows T D_checked_ways D_forks_of D_rows_at,PySem.W.mg_of X G a_rows,k_rows,bEz Fn_rows⟩⟩
 have D_flickers:DefOk l.prog w K mg base 4 12 "flickers" tN:=⟨⟨f_flickers,_,_,rfl,aU2 hw Fn_flickers T D_is_flicker D_rows,PySem.W.mg_of X G a_flickers,k_flickers,aUa Fn_flickers⟩⟩
 have D_is_list:DefOk l.prog w K mg base 1 1 "is_list" uT:=⟨⟨f_is_list,_,_,rfl,aWx hw Fn_is_list T,PySem.W.mg_of X G a_is_list,k_is_list,aX8 Fn_is_list⟩⟩
 have D_fork:DefOk l.prog w K mg base 5 11 "fork" aEo:=⟨⟨f_fork,_,_,rfl,bEt hw Fn_fork T D_Book_states D_checked_ways D_forks_of D_is_list D_is_one_of,PySem.W.mg_of X G a_fork,k_fork,bF0 Fn_fork⟩⟩
 have D_BadBook___init__:XcOk l.prog w K mg base 1 "BadBook" "place":=⟨⟨C_BadBook,f_BadBook___init__,_,_,cat_BadBook,PySem.W.mg_of X G aC_BadBook,⟨⟨nm_BadBook,q_BadBook,N_BadBook,bs_BadBook,bm_BadBook,sn_BadBook,sub_BadBook,ab_BadBook,col_BadBook,dd_BadBook,k0_BadBook,k1_BadBook,k2_BadBook,k3_BadBook,k5_BadBook,lx_BadBook,rv_BadBook⟩,sa_BadBook,ex_BadBook,ty_BadBook,kc_BadBook⟩,no_BadBook,a_BadBook___init__,tf_BadBook,aGd Fn_BadBook___init__,aGk Fn_BadBook___init__,⟨ga_BadBook,gg_BadBook,ex_BadBook,hd_BadBook⟩,em_BadBook⟩⟩
 have D_are_kinds:DefOk l.prog w K mg base 1 2 "are_kinds" aCn:=⟨⟨f_are_kinds,_,_,rfl,aRu hw Fn_are_kinds T D_is_name,PySem.W.mg_of X G a_are_kinds,k_are_kinds,aSe Fn_are_kinds⟩⟩
 have D_Kind_last:PropOk l.prog w K mg base 1 "Kind" "last" aCq:=⟨⟨C_Kind,p_Kind_last,f_Kind_last,_,_,rfl,cat_Kind,cl_Kind,⟨a_Kind_last,g_Kind_last,t_Kind_last,_,r_Kind_last⟩,aRy hw Fn_Kind_last T,aSi Fn_Kind_last⟩⟩
 have D_states_in:DefOk l.prog w K mg base 1 3 "states_in" aCl:=⟨⟨f_states_in,_,_,rfl,aRp hw Fn_states_in T D_Kind_clauses D_Kind_hand D_Kind_last,PySem.W.mg_of X G a_states_in,k_states_in,aS9 Fn_states_in⟩⟩
 have D_Book___init__:InitOk l.prog w K mg base 1 4 "Book" wR:=⟨⟨C_Book,f_Book___init__,_,_,rfl,cat_Book,PySem.W.mg_of X G aC_Book,⟨mk_Book,a_Book___init__,i_Book___init__,kc_Book⟩,aK6 hw Fn_Book___init__ T D_BadBook___init__ D_Kind_parts D_are_kinds D_states_in,aKi Fn_Book___init__⟩⟩
 have D_BadKind___init__:XcOk l.prog w K mg base 1 "BadKind" "place":=⟨⟨C_BadKind,f_BadKind___init__,_,_,cat_BadKind,PySem.W.mg_of X G aC_BadKind,⟨⟨nm_BadKind,q_BadKind,N_BadKind,bs_BadKind,bm_BadKind,sn_BadKind,sub_BadKind,ab_BadKind,col_BadKind,dd_BadKind,k0_BadKind,k1_BadKind,k2_BadKind,k3_BadKind,k5_BadKind,lx_BadKind,rv_BadKind⟩,sa_BadKind,ex_BadKind,ty_BadKind,kc_BadKind⟩,no_BadKind,a_BadKind___init__,tf_BadKind,aGc Fn_BadKind___init__,aGj Fn_BadKind___init__,⟨ga_BadKind,gg_BadKind,ex_BadKind,hd_BadKind⟩,em_BadKind⟩⟩
 have D_are_names:DefOk l.prog w K mg base 1 2 "are_names" jU:=⟨⟨f_are_names,_,_,rfl,aRt hw Fn_are_names T D_is_list D_is_name,PySem.W.mg_of X G a_are_names,k_are_names,aSd Fn_are_names⟩⟩
 have D_is_digit:DefOk l.prog w K mg base 1 1 "is_digit" aC3:=⟨⟨f_is_digit,_,_,rfl,aU0 hw Fn_is_digit T,PySem.W.mg_of X G a_is_digit,k_is_digit,aU8 Fn_is_digit⟩⟩
 have D_is_condition:DefOk l.prog w K mg base 1 3 "is_condition" qW:=⟨⟨f_is_condition,_,_,rfl,aLv hw Fn_is_condition T D_are_names D_is_digit D_is_list,PySem.W.mg_of X G a_is_condition,k_is_condition,aM8 Fn_is_condition⟩⟩
 have D_is_clause:DefOk l.prog w K mg base 1 4 "is_clause" aCm:=⟨⟨f_is_clause,_,_,rfl,aRr hw Fn_is_clause T D_is_condition D_is_list D_is_name,PySem.W.mg_of X G a_is_clause,k_is_clause,aSb Fn_is_clause⟩⟩
 have D_are_clauses:DefOk l.prog w K mg base 1 5 "are_clauses" aA8:=⟨⟨f_are_clauses,_,_,rfl,aNe hw Fn_are_clauses T D_is_clause D_is_list,PySem.W.mg_of X G a_are_clauses,k_are_clauses,aNo Fn_are_clauses⟩⟩
 have D_copied_clause:DefOk l.prog w K mg base 1 1 "copied_clause" kU:=⟨⟨f_copied_clause,_,_,rfl,aJy hw Fn_copied_clause T,PySem.W.mg_of X G a_copied_clause,k_copied_clause,aKa Fn_copied_clause⟩⟩
 have D_Kind___init__:InitOk l.prog w K mg base 4 6 "Kind" wU:=⟨⟨C_Kind,f_Kind___init__,_,_,rfl,cat_Kind,PySem.W.mg_of X G aC_Kind,⟨mk_Kind,a_Kind___init__,i_Kind___init__,kc_Kind⟩,aK5 hw Fn_Kind___init__ T D_BadKind___init__ D_are_clauses D_are_names D_copied_clause D_is_name,aKh Fn_Kind___init__⟩⟩
 have D_lights:DefOk l.prog w K mg base 0 8 "lights" aA6:=⟨⟨f_lights,_,_,rfl,aZa hw Fn_lights T D_Book___init__ D_Kind___init__,PySem.W.mg_of X G a_lights,k_lights,aZr Fn_lights⟩⟩
 have D_ticks:DefOk l.prog w K mg base 0 8 "ticks" aGm:=⟨⟨f_ticks,_,_,rfl,bBi hw Fn_ticks T D_Book___init__ D_Kind___init__,PySem.W.mg_of X G a_ticks,k_ticks,bBs Fn_ticks⟩⟩
 have D_votes:DefOk l.prog w K mg base 1 8 "votes" kA:=⟨⟨f_votes,_,_,rfl,bBh hw Fn_votes T D_Book___init__ D_Kind___init__,PySem.W.mg_of X G a_votes,k_votes,bBr Fn_votes⟩⟩
 exact(bGq hw Fn_law T D__law_around_size D__law_draw D__law_source D_flickers D_fork D_lights D_rows D_ticks D_votes).imp (bEo rfl law_true)
theorem bGz {l:PySem.W.OpenLaw} {w:World} {K:PySem.W.Frag} {h:Heap} {mg:Str→Option Value} {fa:Addr} (law_true:∀ ns:List Int,ns.length≤63→∃ m,F_law [.rls (ns.map T.int)] []= .ok (.bl true) m) (X:K.In h) (G:h.Ns mainGlobals mg) (hfa:mg "law"=some (.ref fa)) (S:EvH.Says hds hys hex h K):
  ∃ fd:FuncData,(∀(s:Shared) (v:Value),BindsTo s fd ⟨[v],[]⟩ [("_law_script",v)])∧∀ base:Heap,K.In base→base.Ns mainGlobals mg→(∀ y∈hys,LamX.TabB base mg (EvT1.xJ K y).1 (EvT1.xJ K y).2)→FnOk l.prog w K mg base (L2.CX l.prog w) 26 fa fd ["_law_script"] (bAb K):=by
 have e:=S.more
 obtain⟨h0,e⟩:=He.ba e
 obtain⟨aC_Book,pg_Book,hd_Book,po_Book,sa_Book,mk_Book,kc_Book,aC_Choices,pg_Choices,hd_Choices,po_Choices,sa_Choices,mk_Choices,kc_Choices,aC_Kind,pg_Kind⟩:=of_decide_eq_true h0
 obtain⟨h0,e⟩:=He.ba e
 obtain⟨hd_Kind,po_Kind,sa_Kind,mk_Kind,kc_Kind,aC_Rule,pg_Rule,hd_Rule,po_Rule,sa_Rule,mk_Rule,kc_Rule,aC_Search,pg_Search,hd_Search,po_Search⟩:=of_decide_eq_true h0
 obtain⟨h0,e⟩:=He.ba e
 obtain⟨sa_Search,mk_Search,kc_Search,aC_Sums,pg_Sums,hd_Sums,po_Sums,sa_Sums,mk_Sums,kc_Sums,aC_Waiting,pg_Waiting,hd_Waiting,po_Waiting,sa_Waiting,mk_Waiting⟩:=of_decide_eq_true h0
 obtain⟨h0,e⟩:=He.ba e
 obtain⟨kc_Waiting,aC_Ways,pg_Ways,hd_Ways,po_Ways,sa_Ways,mk_Ways,kc_Ways,ic1_Book,ic2_Book,ic1_Choices,ic2_Choices,ic1_Kind,ic2_Kind,ic1_Rule,ic2_Rule⟩:=of_decide_eq_true h0
 obtain⟨h0,e⟩:=He.ba e
 obtain⟨ic1_Search,ic2_Search,ic1_Sums,ic2_Sums,ic1_Waiting,ic2_Waiting,ic1_Ways,ic2_Ways,ic3,ic4,ict_Book_NoneType,ict_Book_bool,ict_Book_int,ict_Book_str,ict_Book_tuple,ict_Book_list⟩:=of_decide_eq_true h0
 obtain⟨h0,e⟩:=He.ba e
 obtain⟨ict_Book_dict,icc_Book_Book,icc_Book_Choices,icc_Book_Kind,icc_Book_Rule,icc_Book_Search,icc_Book_Sums,icc_Book_Waiting,icc_Book_Ways,ict_Kind_NoneType,ict_Kind_bool,ict_Kind_int,ict_Kind_str,ict_Kind_tuple,ict_Kind_list,ict_Kind_dict⟩:=of_decide_eq_true h0
 obtain⟨h0,e⟩:=He.ba e
 obtain⟨icc_Kind_Book,icc_Kind_Choices,icc_Kind_Kind,icc_Kind_Rule,icc_Kind_Search,icc_Kind_Sums,icc_Kind_Waiting,icc_Kind_Ways,aC_BadBook,lx_BadBook,sa_BadBook,ex_BadBook,ty_BadBook,kc_BadBook,no_BadBook,ga_BadBook⟩:=of_decide_eq_true h0
 obtain⟨h0,e⟩:=He.ba e
 obtain⟨gg_BadBook,hd_BadBook,su_BadBook,aC_BadKind,lx_BadKind,sa_BadKind,ex_BadKind,ty_BadKind,kc_BadKind,no_BadKind,ga_BadKind,gg_BadKind,hd_BadKind,su_BadKind,aC_BadState,lx_BadState⟩:=of_decide_eq_true h0
 obtain⟨h0,e⟩:=He.ba e
 obtain⟨sa_BadState,ex_BadState,ty_BadState,kc_BadState,no_BadState,ga_BadState,gg_BadState,hd_BadState,su_BadState,aC_UnknownKind,lx_UnknownKind,sa_UnknownKind,ex_UnknownKind,ty_UnknownKind,kc_UnknownKind,no_UnknownKind⟩:=of_decide_eq_true h0
 obtain⟨h0,e⟩:=He.ba e
 obtain⟨ga_UnknownKind,gg_UnknownKind,hd_UnknownKind,su_UnknownKind,a__law_around_size,a__law_draw,a__law_source,a_is_flicker,a_UnknownKind___init__,tf_UnknownKind,a_is_name,a_Book_kind_named,i_Book_kind_named,a_Book_states,g_Book_states,t_Book_states⟩:=of_decide_eq_true h0
 obtain⟨h0,e⟩:=He.ba e
 obtain⟨r_Book_states,a_unlike_ways,a_Choices___init__,i_Choices___init__,a_least_parts,a_Ways_least_parts_of,i_Ways_least_parts_of,a_Waiting_raise_last,i_Waiting_raise_last,a_Waiting_wait,i_Waiting_wait,a_Search_offer,i_Search_offer,a_Sums___init__,i_Sums___init__,a_Waiting___init__⟩:=of_decide_eq_true h0
 obtain⟨h0,e⟩:=He.ba e
 obtain⟨i_Waiting___init__,a_Search___init__,i_Search___init__,a_Rule_with_one_more,i_Rule_with_one_more,a_Sums_with_one_more,i_Sums_with_one_more,a_Sums_take,i_Sums_take,a_Search_take,i_Search_take,a_Waiting_is_empty,i_Waiting_is_empty,a_Waiting_lesser_below,i_Waiting_lesser_below,a_Waiting_lower_first⟩:=of_decide_eq_true h0
 obtain⟨h0,e⟩:=He.ba e
 obtain⟨i_Waiting_lower_first,a_Waiting_leave,i_Waiting_leave,a_unchained,a_Search_find_all,i_Search_find_all,a_least_counted,a_least_branches,a_Book_names,g_Book_names,t_Book_names,r_Book_names,a_Kind_hand,g_Kind_hand,t_Kind_hand,r_Kind_hand⟩:=of_decide_eq_true h0
 obtain⟨h0,e⟩:=He.ba e
 obtain⟨a_Kind_parts,g_Kind_parts,t_Kind_parts,r_Kind_parts,a_holds,a_Kind_counting,i_Kind_counting,a_Kind_told,i_Kind_told,a_agreed,a_all_counts,a_Kind_clauses,g_Kind_clauses,t_Kind_clauses,r_Kind_clauses,a_cap_of⟩:=of_decide_eq_true h0
 obtain⟨h0,e⟩:=He.ba e
 obtain⟨a_in_common,a_listed,a_Rule___init__,i_Rule___init__,a_rules_of,a_Rule_told_with,i_Rule_told_with,a_chosen_others,a_counts_of_others,a_ways_of,a_Ways___init__,i_Ways___init__,a_Ways_possible_states,i_Ways_possible_states,a_BadState___init__,tf_BadState⟩:=of_decide_eq_true h0
 obtain⟨h0,e⟩:=He.ba e
 obtain⟨a_is_one_of,a_check_states,a_checked_ways,a_Choices_unlike,i_Choices_unlike,a_Ways_steps,i_Ways_steps,gf_Ways_steps,tk_Ways_steps,fi_Ways_steps,a_climbed_on,a_choices_of_two,a_least_pairs,a_states_of,a_joins_at,a_forks_of⟩:=of_decide_eq_true h0
 obtain⟨h0,e⟩:=He.ba e
 obtain⟨a_rows_at,a_rows,a_flickers,a_is_list,a_fork,a_BadBook___init__,tf_BadBook,a_are_kinds,a_Kind_last,g_Kind_last,t_Kind_last,r_Kind_last,a_states_in,a_Book___init__,i_Book___init__,a_BadKind___init__⟩:=of_decide_eq_true h0
 obtain⟨h0,e⟩:=He.ba e
 obtain⟨tf_BadKind,a_are_names,a_is_digit,a_is_condition,a_is_clause,a_are_clauses,a_copied_clause,a_Kind___init__,i_Kind___init__,a_lights,a_ticks,a_votes,a_law,z_all,z_bool,z_dict⟩:=of_decide_eq_true h0
 obtain⟨h0,e⟩:=He.ba e
 obtain⟨z_enumerate,z_int,z_isinstance,z_len,z_list,z_max,z_min,z_range,z_set,z_sorted,z_str,z_sum,z_tuple,z_zip,v_MOST_CLAUSES,v_MOST_CONDITIONS⟩:=of_decide_eq_true h0
 obtain⟨h0,e⟩:=He.ba e
 obtain⟨v_MOST_DIGIT,v_MOST_KINDS,v_MOST_LETTERS,v_MOST_STATES,n_Book_kinds_by_name,n_Book_name_row,n_Book_state_row,n_Choices_all_ways,n_Choices_ways_by_keys,n_Kind_clause_row,n_Kind_hand_states,n_Kind_last_state,n_Kind_part_kinds,n_Rule_caps,n_Rule_hand_states,n_Rule_part_kinds⟩:=of_decide_eq_true h0
 obtain⟨h0,e⟩:=He.ba e
 obtain⟨n_Rule_places,n_Rule_state_row,n_Rule_telling,n_Search_found,n_Search_rules,n_Search_sizes,n_Search_sums,n_Search_waiting,n_Sums_chains,n_Sums_greatest,n_Sums_rule,n_Sums_taken,n_Waiting_heap,n_Waiting_things_of_size,n_Ways_choices,n_Ways_leasts⟩:=of_decide_eq_true h0
 obtain⟨h0,e⟩:=He.ba e
 obtain⟨n_Ways_rules,htb,hnd⟩:=of_decide_eq_true h0
 obtain⟨nm_BadBook,q_BadBook,N_BadBook,bs_BadBook,bm_BadBook,sn_BadBook,sub_BadBook,ab_BadBook,col_BadBook,dd_BadBook,k0_BadBook,k1_BadBook,k2_BadBook,k3_BadBook,k5_BadBook,lx_BadBook,rv_BadBook⟩:=EvH.aPl lx_BadBook
 obtain⟨nm_BadKind,q_BadKind,N_BadKind,bs_BadKind,bm_BadKind,sn_BadKind,sub_BadKind,ab_BadKind,col_BadKind,dd_BadKind,k0_BadKind,k1_BadKind,k2_BadKind,k3_BadKind,k5_BadKind,lx_BadKind,rv_BadKind⟩:=EvH.aPl lx_BadKind
 obtain⟨nm_BadState,q_BadState,N_BadState,bs_BadState,bm_BadState,sn_BadState,sub_BadState,ab_BadState,col_BadState,dd_BadState,k0_BadState,k1_BadState,k2_BadState,k3_BadState,k5_BadState,lx_BadState,rv_BadState⟩:=EvH.aPl lx_BadState
 obtain⟨nm_UnknownKind,q_UnknownKind,N_UnknownKind,bs_UnknownKind,bm_UnknownKind,sn_UnknownKind,sub_UnknownKind,ab_UnknownKind,col_UnknownKind,dd_UnknownKind,k0_UnknownKind,k1_UnknownKind,k2_UnknownKind,k3_UnknownKind,k5_UnknownKind,lx_UnknownKind,rv_UnknownKind⟩:=EvH.aPl lx_UnknownKind
 obtain⟨rest_Book_states,r_Book_states⟩:=EvH.aOd r_Book_states
 obtain⟨rest_Book_names,r_Book_names⟩:=EvH.aOd r_Book_names
 obtain⟨rest_Kind_hand,r_Kind_hand⟩:=EvH.aOd r_Kind_hand
 obtain⟨rest_Kind_parts,r_Kind_parts⟩:=EvH.aOd r_Kind_parts
 obtain⟨rest_Kind_clauses,r_Kind_clauses⟩:=EvH.aOd r_Kind_clauses
 obtain⟨rest_Kind_last,r_Kind_last⟩:=EvH.aOd r_Kind_last
 obtain⟨tk_MOST_CLAUSES,v_MOST_CLAUSES⟩:=EvH.aIg v_MOST_CLAUSES
 obtain⟨tk_MOST_CONDITIONS,v_MOST_CONDITIONS⟩:=EvH.aIg v_MOST_CONDITIONS
 obtain⟨tk_MOST_DIGIT,v_MOST_DIGIT⟩:=EvH.aIg v_MOST_DIGIT
 obtain⟨tk_MOST_KINDS,v_MOST_KINDS⟩:=EvH.aIg v_MOST_KINDS
 obtain⟨tk_MOST_LETTERS,v_MOST_LETTERS⟩:=EvH.aIg v_MOST_LETTERS
 obtain⟨tk_MOST_STATES,v_MOST_STATES⟩:=EvH.aIg v_MOST_STATES
 obtain⟨fd__law_around_size,Fn__law_around_size⟩:=EvH.Dd.fn (d:=aAr) (S.rows _ (List.mem_of_getElem? (i:=0) rfl)) (S.good _ (List.mem_of_getElem? (i:=0) rfl)) rfl
 obtain⟨fd__law_draw,Fn__law_draw⟩:=EvH.Dd.fn (d:=aJ7) (S.rows _ (List.mem_of_getElem? (i:=1) rfl)) (S.good _ (List.mem_of_getElem? (i:=1) rfl)) rfl
 obtain⟨fd__law_source,Fn__law_source⟩:=EvH.Dd.fn (d:=aFl) (S.rows _ (List.mem_of_getElem? (i:=2) rfl)) (S.good _ (List.mem_of_getElem? (i:=2) rfl)) rfl
 obtain⟨fd_is_flicker,Fn_is_flicker⟩:=EvH.Dd.fn (d:=aH3) (S.rows _ (List.mem_of_getElem? (i:=3) rfl)) (S.good _ (List.mem_of_getElem? (i:=3) rfl)) rfl
 obtain⟨fd_UnknownKind___init__,Fn_UnknownKind___init__⟩:=EvH.Dd.fn (d:=jB) (S.rows _ (List.mem_of_getElem? (i:=4) rfl)) (S.good _ (List.mem_of_getElem? (i:=4) rfl)) rfl
 obtain⟨fd_is_name,Fn_is_name⟩:=EvH.Dd.fn (d:=aOb) (S.rows _ (List.mem_of_getElem? (i:=5) rfl)) (S.good _ (List.mem_of_getElem? (i:=5) rfl)) rfl
 obtain⟨fd_Book_kind_named,Fn_Book_kind_named⟩:=EvH.Dd.fn (d:=aBb) (S.rows _ (List.mem_of_getElem? (i:=6) rfl)) (S.good _ (List.mem_of_getElem? (i:=6) rfl)) rfl
 obtain⟨fd_Book_states,Fn_Book_states⟩:=EvH.Dd.fn (d:=aFn) (S.rows _ (List.mem_of_getElem? (i:=7) rfl)) (S.good _ (List.mem_of_getElem? (i:=7) rfl)) rfl
 obtain⟨fd_unlike_ways,Fn_unlike_ways⟩:=EvH.Dd.fn (d:=aFh) (S.rows _ (List.mem_of_getElem? (i:=8) rfl)) (S.good _ (List.mem_of_getElem? (i:=8) rfl)) rfl
 obtain⟨fd_Choices___init__,Fn_Choices___init__⟩:=EvH.Dd.fn (d:=aAu) (S.rows _ (List.mem_of_getElem? (i:=9) rfl)) (S.good _ (List.mem_of_getElem? (i:=9) rfl)) rfl
 obtain⟨fd_least_parts,Fn_least_parts⟩:=EvH.Dd.fn (d:=aFi) (S.rows _ (List.mem_of_getElem? (i:=10) rfl)) (S.good _ (List.mem_of_getElem? (i:=10) rfl)) rfl
 obtain⟨fd_Ways_least_parts_of,Fn_Ways_least_parts_of⟩:=EvH.Dd.fn (d:=kN) (S.rows _ (List.mem_of_getElem? (i:=11) rfl)) (S.good _ (List.mem_of_getElem? (i:=11) rfl)) rfl
 obtain⟨fd_Waiting_raise_last,Fn_Waiting_raise_last⟩:=EvH.Dd.fn (d:=qQ) (S.rows _ (List.mem_of_getElem? (i:=12) rfl)) (S.good _ (List.mem_of_getElem? (i:=12) rfl)) rfl
 obtain⟨fd_Waiting_wait,Fn_Waiting_wait⟩:=EvH.Dd.fn (d:=aE4) (S.rows _ (List.mem_of_getElem? (i:=13) rfl)) (S.good _ (List.mem_of_getElem? (i:=13) rfl)) rfl
 obtain⟨fd_Search_offer,Fn_Search_offer⟩:=EvH.Dd.fn (d:=aE5) (S.rows _ (List.mem_of_getElem? (i:=14) rfl)) (S.good _ (List.mem_of_getElem? (i:=14) rfl)) rfl
 obtain⟨fd_Sums___init__,Fn_Sums___init__⟩:=EvH.Dd.fn (d:=aCy) (S.rows _ (List.mem_of_getElem? (i:=15) rfl)) (S.good _ (List.mem_of_getElem? (i:=15) rfl)) rfl
 obtain⟨fd_Waiting___init__,Fn_Waiting___init__⟩:=EvH.Dd.fn (d:=aAt) (S.rows _ (List.mem_of_getElem? (i:=16) rfl)) (S.good _ (List.mem_of_getElem? (i:=16) rfl)) rfl
 obtain⟨fd_Search___init__,Fn_Search___init__⟩:=EvH.Dd.fn (d:=aBa) (S.rows _ (List.mem_of_getElem? (i:=17) rfl)) (S.good _ (List.mem_of_getElem? (i:=17) rfl)) rfl
 obtain⟨fd_Rule_with_one_more,Fn_Rule_with_one_more⟩:=EvH.Dd.fn (d:=qN) (S.rows _ (List.mem_of_getElem? (i:=18) rfl)) (S.good _ (List.mem_of_getElem? (i:=18) rfl)) rfl
 obtain⟨fd_Sums_with_one_more,Fn_Sums_with_one_more⟩:=EvH.Dd.fn (d:=qP) (S.rows _ (List.mem_of_getElem? (i:=19) rfl)) (S.good _ (List.mem_of_getElem? (i:=19) rfl)) rfl
 obtain⟨fd_Sums_take,Fn_Sums_take⟩:=EvH.Dd.fn (d:=aJ8) (S.rows _ (List.mem_of_getElem? (i:=20) rfl)) (S.good _ (List.mem_of_getElem? (i:=20) rfl)) rfl
 obtain⟨fd_Search_take,Fn_Search_take⟩:=EvH.Dd.fn (d:=aFm) (S.rows _ (List.mem_of_getElem? (i:=21) rfl)) (S.good _ (List.mem_of_getElem? (i:=21) rfl)) rfl
 obtain⟨fd_Waiting_is_empty,Fn_Waiting_is_empty⟩:=EvH.Dd.fn (d:=aAs) (S.rows _ (List.mem_of_getElem? (i:=22) rfl)) (S.good _ (List.mem_of_getElem? (i:=22) rfl)) rfl
 obtain⟨fd_Waiting_lesser_below,Fn_Waiting_lesser_below⟩:=EvH.Dd.fn (d:=jC) (S.rows _ (List.mem_of_getElem? (i:=23) rfl)) (S.good _ (List.mem_of_getElem? (i:=23) rfl)) rfl
 obtain⟨fd_Waiting_lower_first,Fn_Waiting_lower_first⟩:=EvH.Dd.fn (d:=kM) (S.rows _ (List.mem_of_getElem? (i:=24) rfl)) (S.good _ (List.mem_of_getElem? (i:=24) rfl)) rfl
 obtain⟨fd_Waiting_leave,Fn_Waiting_leave⟩:=EvH.Dd.fn (d:=aCx) (S.rows _ (List.mem_of_getElem? (i:=25) rfl)) (S.good _ (List.mem_of_getElem? (i:=25) rfl)) rfl
 obtain⟨fd_unchained,Fn_unchained⟩:=EvH.Dd.fn (d:=aIz) (S.rows _ (List.mem_of_getElem? (i:=26) rfl)) (S.good _ (List.mem_of_getElem? (i:=26) rfl)) rfl
 obtain⟨fd_Search_find_all,Fn_Search_find_all⟩:=EvH.Dd.fn (d:=aB9) (S.rows _ (List.mem_of_getElem? (i:=27) rfl)) (S.good _ (List.mem_of_getElem? (i:=27) rfl)) rfl
 obtain⟨fd_least_counted,Fn_least_counted⟩:=EvH.Dd.fn (d:=aCt) (S.rows _ (List.mem_of_getElem? (i:=28) rfl)) (S.good _ (List.mem_of_getElem? (i:=28) rfl)) rfl
 obtain⟨fd_least_branches,Fn_least_branches⟩:=EvH.Dd.fn (d:=aBx) (S.rows _ (List.mem_of_getElem? (i:=29) rfl)) (S.good _ (List.mem_of_getElem? (i:=29) rfl)) rfl
 obtain⟨fd_Book_names,Fn_Book_names⟩:=EvH.Dd.fn (d:=aH8) (S.rows _ (List.mem_of_getElem? (i:=30) rfl)) (S.good _ (List.mem_of_getElem? (i:=30) rfl)) rfl
 obtain⟨fd_Kind_hand,Fn_Kind_hand⟩:=EvH.Dd.fn (d:=aJb) (S.rows _ (List.mem_of_getElem? (i:=31) rfl)) (S.good _ (List.mem_of_getElem? (i:=31) rfl)) rfl
 obtain⟨fd_Kind_parts,Fn_Kind_parts⟩:=EvH.Dd.fn (d:=aH7) (S.rows _ (List.mem_of_getElem? (i:=32) rfl)) (S.good _ (List.mem_of_getElem? (i:=32) rfl)) rfl
 obtain⟨fd_holds,Fn_holds⟩:=EvH.Dd.fn (d:=aVq) (S.rows _ (List.mem_of_getElem? (i:=33) rfl)) (S.good _ (List.mem_of_getElem? (i:=33) rfl)) rfl
 obtain⟨fd_Kind_counting,Fn_Kind_counting⟩:=EvH.Dd.fn (d:=aD0) (S.rows _ (List.mem_of_getElem? (i:=34) rfl)) (S.good _ (List.mem_of_getElem? (i:=34) rfl)) rfl
 obtain⟨fd_Kind_told,Fn_Kind_told⟩:=EvH.Dd.fn (d:=aJ9) (S.rows _ (List.mem_of_getElem? (i:=35) rfl)) (S.good _ (List.mem_of_getElem? (i:=35) rfl)) rfl
 obtain⟨fd_agreed,Fn_agreed⟩:=EvH.Dd.fn (d:=aRm) (S.rows _ (List.mem_of_getElem? (i:=36) rfl)) (S.good _ (List.mem_of_getElem? (i:=36) rfl)) rfl
 obtain⟨fd_all_counts,Fn_all_counts⟩:=EvH.Dd.fn (d:=aH5) (S.rows _ (List.mem_of_getElem? (i:=37) rfl)) (S.good _ (List.mem_of_getElem? (i:=37) rfl)) rfl
 obtain⟨fd_Kind_clauses,Fn_Kind_clauses⟩:=EvH.Dd.fn (d:=aE6) (S.rows _ (List.mem_of_getElem? (i:=38) rfl)) (S.good _ (List.mem_of_getElem? (i:=38) rfl)) rfl
 obtain⟨fd_cap_of,Fn_cap_of⟩:=EvH.Dd.fn (d:=aRl) (S.rows _ (List.mem_of_getElem? (i:=39) rfl)) (S.good _ (List.mem_of_getElem? (i:=39) rfl)) rfl
 obtain⟨fd_in_common,Fn_in_common⟩:=EvH.Dd.fn (d:=aJ4) (S.rows _ (List.mem_of_getElem? (i:=40) rfl)) (S.good _ (List.mem_of_getElem? (i:=40) rfl)) rfl
 obtain⟨fd_listed,Fn_listed⟩:=EvH.Dd.fn (d:=aRj) (S.rows _ (List.mem_of_getElem? (i:=41) rfl)) (S.good _ (List.mem_of_getElem? (i:=41) rfl)) rfl
 obtain⟨fd_Rule___init__,Fn_Rule___init__⟩:=EvH.Dd.fn (d:=aCz) (S.rows _ (List.mem_of_getElem? (i:=42) rfl)) (S.good _ (List.mem_of_getElem? (i:=42) rfl)) rfl
 obtain⟨fd_rules_of,Fn_rules_of⟩:=EvH.Dd.fn (d:=aLp) (S.rows _ (List.mem_of_getElem? (i:=43) rfl)) (S.good _ (List.mem_of_getElem? (i:=43) rfl)) rfl
 obtain⟨fd_Rule_told_with,Fn_Rule_told_with⟩:=EvH.Dd.fn (d:=aBz) (S.rows _ (List.mem_of_getElem? (i:=44) rfl)) (S.good _ (List.mem_of_getElem? (i:=44) rfl)) rfl
 obtain⟨fd_chosen_others,Fn_chosen_others⟩:=EvH.Dd.fn (d:=aCv) (S.rows _ (List.mem_of_getElem? (i:=45) rfl)) (S.good _ (List.mem_of_getElem? (i:=45) rfl)) rfl
 obtain⟨fd_counts_of_others,Fn_counts_of_others⟩:=EvH.Dd.fn (d:=aAq) (S.rows _ (List.mem_of_getElem? (i:=46) rfl)) (S.good _ (List.mem_of_getElem? (i:=46) rfl)) rfl
 obtain⟨fd_ways_of,Fn_ways_of⟩:=EvH.Dd.fn (d:=aO9) (S.rows _ (List.mem_of_getElem? (i:=47) rfl)) (S.good _ (List.mem_of_getElem? (i:=47) rfl)) rfl
 obtain⟨fd_Ways___init__,Fn_Ways___init__⟩:=EvH.Dd.fn (d:=aCw) (S.rows _ (List.mem_of_getElem? (i:=48) rfl)) (S.good _ (List.mem_of_getElem? (i:=48) rfl)) rfl
 obtain⟨fd_Ways_possible_states,Fn_Ways_possible_states⟩:=EvH.Dd.fn (d:=jD) (S.rows _ (List.mem_of_getElem? (i:=49) rfl)) (S.good _ (List.mem_of_getElem? (i:=49) rfl)) rfl
 obtain⟨fd_BadState___init__,Fn_BadState___init__⟩:=EvH.Dd.fn (d:=aA0) (S.rows _ (List.mem_of_getElem? (i:=50) rfl)) (S.good _ (List.mem_of_getElem? (i:=50) rfl)) rfl
 obtain⟨fd_is_one_of,Fn_is_one_of⟩:=EvH.Dd.fn (d:=aJ2) (S.rows _ (List.mem_of_getElem? (i:=51) rfl)) (S.good _ (List.mem_of_getElem? (i:=51) rfl)) rfl
 obtain⟨fd_check_states,Fn_check_states⟩:=EvH.Dd.fn (d:=aE3) (S.rows _ (List.mem_of_getElem? (i:=52) rfl)) (S.good _ (List.mem_of_getElem? (i:=52) rfl)) rfl
 obtain⟨fd_checked_ways,Fn_checked_ways⟩:=EvH.Dd.fn (d:=aE2) (S.rows _ (List.mem_of_getElem? (i:=53) rfl)) (S.good _ (List.mem_of_getElem? (i:=53) rfl)) rfl
 obtain⟨fd_Choices_unlike,Fn_Choices_unlike⟩:=EvH.Dd.fn (d:=aC0) (S.rows _ (List.mem_of_getElem? (i:=54) rfl)) (S.good _ (List.mem_of_getElem? (i:=54) rfl)) rfl
 obtain⟨fd_Ways_steps,Fn_Ways_steps⟩:=EvH.Dd.fn (d:=aH6) (S.rows _ (List.mem_of_getElem? (i:=55) rfl)) (S.good _ (List.mem_of_getElem? (i:=55) rfl)) rfl
 obtain⟨fd_climbed_on,Fn_climbed_on⟩:=EvH.Dd.fn (d:=aH4) (S.rows _ (List.mem_of_getElem? (i:=56) rfl)) (S.good _ (List.mem_of_getElem? (i:=56) rfl)) rfl
 obtain⟨fd_choices_of_two,Fn_choices_of_two⟩:=EvH.Dd.fn (d:=aBy) (S.rows _ (List.mem_of_getElem? (i:=57) rfl)) (S.good _ (List.mem_of_getElem? (i:=57) rfl)) rfl
 obtain⟨fd_least_pairs,Fn_least_pairs⟩:=EvH.Dd.fn (d:=aFj) (S.rows _ (List.mem_of_getElem? (i:=58) rfl)) (S.good _ (List.mem_of_getElem? (i:=58) rfl)) rfl
 obtain⟨fd_states_of,Fn_states_of⟩:=EvH.Dd.fn (d:=aJ0) (S.rows _ (List.mem_of_getElem? (i:=59) rfl)) (S.good _ (List.mem_of_getElem? (i:=59) rfl)) rfl
 obtain⟨fd_joins_at,Fn_joins_at⟩:=EvH.Dd.fn (d:=aLq) (S.rows _ (List.mem_of_getElem? (i:=60) rfl)) (S.good _ (List.mem_of_getElem? (i:=60) rfl)) rfl
 obtain⟨fd_forks_of,Fn_forks_of⟩:=EvH.Dd.fn (d:=aLs) (S.rows _ (List.mem_of_getElem? (i:=61) rfl)) (S.good _ (List.mem_of_getElem? (i:=61) rfl)) rfl
 obtain⟨fd_rows_at,Fn_rows_at⟩:=EvH.Dd.fn (d:=aOa) (S.rows _ (List.mem_of_getElem? (i:=62) rfl)) (S.good _ (List.mem_of_getElem? (i:=62) rfl)) rfl
 obtain⟨fd_rows,Fn_rows⟩:=EvH.Dd.fn (d:=aZ3) (S.rows _ (List.mem_of_getElem? (i:=63) rfl)) (S.good _ (List.mem_of_getElem? (i:=63) rfl)) rfl
 obtain⟨fd_flickers,Fn_flickers⟩:=EvH.Dd.fn (d:=aLt) (S.rows _ (List.mem_of_getElem? (i:=64) rfl)) (S.good _ (List.mem_of_getElem? (i:=64) rfl)) rfl
 obtain⟨fd_is_list,Fn_is_list⟩:=EvH.Dd.fn (d:=aOc) (S.rows _ (List.mem_of_getElem? (i:=65) rfl)) (S.good _ (List.mem_of_getElem? (i:=65) rfl)) rfl
 obtain⟨fd_fork,Fn_fork⟩:=EvH.Dd.fn (d:=aZ4) (S.rows _ (List.mem_of_getElem? (i:=66) rfl)) (S.good _ (List.mem_of_getElem? (i:=66) rfl)) rfl
 obtain⟨fd_BadBook___init__,Fn_BadBook___init__⟩:=EvH.Dd.fn (d:=aAw) (S.rows _ (List.mem_of_getElem? (i:=67) rfl)) (S.good _ (List.mem_of_getElem? (i:=67) rfl)) rfl
 obtain⟨fd_are_kinds,Fn_are_kinds⟩:=EvH.Dd.fn (d:=aJ6) (S.rows _ (List.mem_of_getElem? (i:=68) rfl)) (S.good _ (List.mem_of_getElem? (i:=68) rfl)) rfl
 obtain⟨fd_Kind_last,Fn_Kind_last⟩:=EvH.Dd.fn (d:=aJa) (S.rows _ (List.mem_of_getElem? (i:=69) rfl)) (S.good _ (List.mem_of_getElem? (i:=69) rfl)) rfl
 obtain⟨fd_states_in,Fn_states_in⟩:=EvH.Dd.fn (d:=aJ1) (S.rows _ (List.mem_of_getElem? (i:=70) rfl)) (S.good _ (List.mem_of_getElem? (i:=70) rfl)) rfl
 obtain⟨fd_Book___init__,Fn_Book___init__⟩:=EvH.Dd.fn (d:=aD2) (S.rows _ (List.mem_of_getElem? (i:=71) rfl)) (S.good _ (List.mem_of_getElem? (i:=71) rfl)) rfl
 obtain⟨fd_BadKind___init__,Fn_BadKind___init__⟩:=EvH.Dd.fn (d:=aAv) (S.rows _ (List.mem_of_getElem? (i:=72) rfl)) (S.good _ (List.mem_of_getElem? (i:=72) rfl)) rfl
 obtain⟨fd_are_names,Fn_are_names⟩:=EvH.Dd.fn (d:=aJ5) (S.rows _ (List.mem_of_getElem? (i:=73) rfl)) (S.good _ (List.mem_of_getElem? (i:=73) rfl)) rfl
 obtain⟨fd_is_digit,Fn_is_digit⟩:=EvH.Dd.fn (d:=aLr) (S.rows _ (List.mem_of_getElem? (i:=74) rfl)) (S.good _ (List.mem_of_getElem? (i:=74) rfl)) rfl
 obtain⟨fd_is_condition,Fn_is_condition⟩:=EvH.Dd.fn (d:=aE1) (S.rows _ (List.mem_of_getElem? (i:=75) rfl)) (S.good _ (List.mem_of_getElem? (i:=75) rfl)) rfl
 obtain⟨fd_is_clause,Fn_is_clause⟩:=EvH.Dd.fn (d:=aJ3) (S.rows _ (List.mem_of_getElem? (i:=76) rfl)) (S.good _ (List.mem_of_getElem? (i:=76) rfl)) rfl
 obtain⟨fd_are_clauses,Fn_are_clauses⟩:=EvH.Dd.fn (d:=aFk) (S.rows _ (List.mem_of_getElem? (i:=77) rfl)) (S.good _ (List.mem_of_getElem? (i:=77) rfl)) rfl
 obtain⟨fd_copied_clause,Fn_copied_clause⟩:=EvH.Dd.fn (d:=aCu) (S.rows _ (List.mem_of_getElem? (i:=78) rfl)) (S.good _ (List.mem_of_getElem? (i:=78) rfl)) rfl
 obtain⟨fd_Kind___init__,Fn_Kind___init__⟩:=EvH.Dd.fn (d:=aD1) (S.rows _ (List.mem_of_getElem? (i:=79) rfl)) (S.good _ (List.mem_of_getElem? (i:=79) rfl)) rfl
 obtain⟨fd_lights,Fn_lights⟩:=EvH.Dd.fn (d:=aRk) (S.rows _ (List.mem_of_getElem? (i:=80) rfl)) (S.good _ (List.mem_of_getElem? (i:=80) rfl)) rfl
 obtain⟨fd_ticks,Fn_ticks⟩:=EvH.Dd.fn (d:=aVp) (S.rows _ (List.mem_of_getElem? (i:=81) rfl)) (S.good _ (List.mem_of_getElem? (i:=81) rfl)) rfl
 obtain⟨fd_votes,Fn_votes⟩:=EvH.Dd.fn (d:=aVo) (S.rows _ (List.mem_of_getElem? (i:=82) rfl)) (S.good _ (List.mem_of_getElem? (i:=82) rfl)) rfl
 obtain⟨fd_law,Fn_law⟩:=EvH.Dd.fn (d:=bCh) (S.rows _ (List.mem_of_getElem? (i:=83) rfl)) (S.good _ (List.mem_of_getElem? (i:=83) rfl)) rfl
 obtain⟨fd,b,F⟩:=all_mk (l:=l) (w:=w) law_true X G hfa aC_Book pg_Book hd_Book po_Book sa_Book mk_Book kc_Book aC_Choices pg_Choices hd_Choices po_Choices sa_Choices mk_Choices kc_Choices aC_Kind pg_Kind hd_Kind po_Kind sa_Kind mk_Kind kc_Kind aC_Rule pg_Rule hd_Rule po_Rule sa_Rule mk_Rule kc_Rule aC_Search pg_Search hd_Search po_Search sa_Search mk_Search kc_Search aC_Sums pg_Sums hd_Sums po_Sums sa_Sums mk_Sums kc_Sums aC_Waiting pg_Waiting hd_Waiting po_Waiting sa_Waiting mk_Waiting kc_Waiting aC_Ways pg_Ways hd_Ways po_Ways sa_Ways mk_Ways kc_Ways ic1_Book ic2_Book ic1_Choices ic2_Choices ic1_Kind ic2_Kind ic1_Rule ic2_Rule ic1_Search ic2_Search ic1_Sums ic2_Sums ic1_Waiting ic2_Waiting ic1_Ways ic2_Ways ic3 ic4 ict_Book_NoneType ict_Book_bool ict_Book_int ict_Book_str ict_Book_tuple ict_Book_list ict_Book_dict icc_Book_Book icc_Book_Choices icc_Book_Kind icc_Book_Rule icc_Book_Search icc_Book_Sums icc_Book_Waiting icc_Book_Ways ict_Kind_NoneType ict_Kind_bool ict_Kind_int ict_Kind_str ict_Kind_tuple ict_Kind_list ict_Kind_dict icc_Kind_Book icc_Kind_Choices icc_Kind_Kind icc_Kind_Rule icc_Kind_Search icc_Kind_Sums icc_Kind_Waiting icc_Kind_Ways aC_BadBook lx_BadBook rv_BadBook sa_BadBook ex_BadBook ty_BadBook kc_BadBook no_BadBook ga_BadBook gg_BadBook hd_BadBook su_BadBook aC_BadKind lx_BadKind rv_BadKind sa_BadKind ex_BadKind ty_BadKind kc_BadKind no_BadKind ga_BadKind gg_BadKind hd_BadKind su_BadKind aC_BadState lx_BadState rv_BadState sa_BadState ex_BadState ty_BadState kc_BadState no_BadState ga_BadState gg_BadState hd_BadState su_BadState aC_UnknownKind lx_UnknownKind rv_UnknownKind sa_UnknownKind ex_UnknownKind ty_UnknownKind kc_UnknownKind no_UnknownKind ga_UnknownKind gg_UnknownKind hd_UnknownKind su_UnknownKind a__law_around_size a__law_draw a__law_source a_is_flicker a_UnknownKind___init__ tf_UnknownKind a_is_name a_Book_kind_named i_Book_kind_named a_Book_states g_Book_states t_Book_states r_Book_states a_unlike_ways a_Choices___init__ i_Choices___init__ a_least_parts a_Ways_least_parts_of i_Ways_least_parts_of a_Waiting_raise_last i_Waiting_raise_last a_Waiting_wait i_Waiting_wait a_Search_offer i_Search_offer a_Sums___init__ i_Sums___init__ a_Waiting___init__ i_Waiting___init__ a_Search___init__ i_Search___init__ a_Rule_with_one_more i_Rule_with_one_more a_Sums_with_one_more i_Sums_with_one_more a_Sums_take i_Sums_take a_Search_take i_Search_take a_Waiting_is_empty i_Waiting_is_empty a_Waiting_lesser_below i_Waiting_lesser_below a_Waiting_lower_first i_Waiting_lower_first a_Waiting_leave i_Waiting_leave a_unchained a_Search_find_all i_Search_find_all a_least_counted a_least_branches a_Book_names g_Book_names t_Book_names r_Book_names a_Kind_hand g_Kind_hand t_Kind_hand r_Kind_hand a_Kind_parts g_Kind_parts t_Kind_parts r_Kind_parts a_holds a_Kind_counting i_Kind_counting a_Kind_told i_Kind_told a_agreed a_all_counts a_Kind_clauses g_Kind_clauses t_Kind_clauses r_Kind_clauses a_cap_of a_in_common a_listed a_Rule___init__ i_Rule___init__ a_rules_of a_Rule_told_with i_Rule_told_with a_chosen_others a_counts_of_others a_ways_of a_Ways___init__ i_Ways___init__ a_Ways_possible_states i_Ways_possible_states a_BadState___init__ tf_BadState a_is_one_of a_check_states a_checked_ways a_Choices_unlike i_Choices_unlike a_Ways_steps i_Ways_steps gf_Ways_steps tk_Ways_steps fi_Ways_steps a_climbed_on a_choices_of_two a_least_pairs a_states_of a_joins_at a_forks_of a_rows_at a_rows a_flickers a_is_list a_fork a_BadBook___init__ tf_BadBook a_are_kinds a_Kind_last g_Kind_last t_Kind_last r_Kind_last a_states_in a_Book___init__ i_Book___init__ a_BadKind___init__ tf_BadKind a_are_names a_is_digit a_is_condition a_is_clause a_are_clauses a_copied_clause a_Kind___init__ i_Kind___init__ a_lights a_ticks a_votes a_law z_all z_bool z_dict z_enumerate z_int z_isinstance z_len z_list z_max z_min z_range z_set z_sorted z_str z_sum z_tuple z_zip v_MOST_CLAUSES v_MOST_CONDITIONS v_MOST_DIGIT v_MOST_KINDS v_MOST_LETTERS v_MOST_STATES n_Book_kinds_by_name n_Book_name_row n_Book_state_row n_Choices_all_ways n_Choices_ways_by_keys n_Kind_clause_row n_Kind_hand_states n_Kind_last_state n_Kind_part_kinds n_Rule_caps n_Rule_hand_states n_Rule_part_kinds n_Rule_places n_Rule_state_row n_Rule_telling n_Search_found n_Search_rules n_Search_sizes n_Search_sums n_Search_waiting n_Sums_chains n_Sums_greatest n_Sums_rule n_Sums_taken n_Waiting_heap n_Waiting_things_of_size n_Ways_choices n_Ways_leasts n_Ways_rules Fn__law_around_size Fn__law_draw Fn__law_source Fn_is_flicker Fn_UnknownKind___init__ Fn_is_name Fn_Book_kind_named Fn_Book_states Fn_unlike_ways Fn_Choices___init__ Fn_least_parts Fn_Ways_least_parts_of Fn_Waiting_raise_last Fn_Waiting_wait Fn_Search_offer Fn_Sums___init__ Fn_Waiting___init__ Fn_Search___init__ Fn_Rule_with_one_more Fn_Sums_with_one_more Fn_Sums_take Fn_Search_take Fn_Waiting_is_empty Fn_Waiting_lesser_below Fn_Waiting_lower_first Fn_Waiting_leave Fn_unchained Fn_Search_find_all Fn_least_counted Fn_least_branches Fn_Book_names Fn_Kind_hand Fn_Kind_parts Fn_holds Fn_Kind_counting Fn_Kind_told Fn_agreed Fn_all_counts Fn_Kind_clauses Fn_cap_of Fn_in_common Fn_listed Fn_Rule___init__ Fn_rules_of Fn_Rule_told_with Fn_chosen_others Fn_counts_of_others Fn_ways_of Fn_Ways___init__ Fn_Ways_possible_states Fn_BadState___init__ Fn_is_one_of Fn_check_states Fn_checked_ways Fn_Choices_unlike Fn_Ways_steps Fn_climbed_on Fn_choices_of_two Fn_least_pairs Fn_states_of Fn_joins_at Fn_forks_of Fn_rows_at Fn_rows Fn_flickers Fn_is_list Fn_fork Fn_BadBook___init__ Fn_are_kinds Fn_Kind_last Fn_states_in Fn_Book___init__ Fn_BadKind___init__ Fn_are_names Fn_is_digit Fn_is_condition Fn_is_clause Fn_are_clauses Fn_copied_clause Fn_Kind___init__ Fn_lights Fn_ticks Fn_votes Fn_law htb hnd
 exact⟨fd,b,fun base h1 h2 h3=>F base h1 h2 h3⟩
theorem walk {l:PySem.W.OpenLaw} {q:Program} {loose:List Str} {XP:(Str→Option Value)→Heap→Prop} {n:Nat} {d:DefRec} (law_true:∀ ns:List Int,ns.length≤63→∃ m,F_law [.rls (ns.map T.int)] []= .ok (.bl true) m) (hn:l.most=some 63) (hdf:d.params.defaults=[]) (hdn:d.name="law"):
  PySem.W.WalkO q loose XP (EvH.hook n hds hys hex).says l.row.toRowW d [] (fun f vs=>PySem.call f vs):=
 EvH.bH3 (n:=63) (k:=26) (x:="_law_script") (C:=fun w=>L2.CX l.prog w) (sp:=fun K=>bAb K) hn (by decide) hdf ⟨rfl,by decide,by decide⟩ (fun w mg fa h K X S G hm=>bGz law_true X G (hdn▸hm) S) (fun _ _ a ns hl ht hS=>⟨a,ns,rfl,hS,hl,ht,fun _=>rfl⟩) fun _ _ _ _ _ z=>by
  obtain⟨_,_,_,_,_,_,_,_,_,_,_,_,z⟩:=z
  exact z
theorem bGk (s:PySem.W.SharedT):hob s=hk.obs s.abs:=EvH.bDg (HandSHeadRun.getT_eq s)
end G
namespace M
open PySem L2 Ev G
noncomputable def Src (m:Mem) (s:Nat) (c:Nat):Prop:=∃ g sd k:Int,m[s]? =some (some (.lst [.int g,.int sd,.int k]))∧0≤sd∧sd < 2147483647∧0≤k∧k≤c
structure Fr (s:Nat) (m m':Mem):Prop where
 len:m.length≤m'.length
 get:∀ i,i < m.length→i≠s→m'[i]? =m[i]?
theorem Fr.refl {s:Nat} {m:Mem}:Fr s m m:=⟨Nat.le_refl _,fun _ _ _=>rfl⟩
theorem Fr.cell {s j:Nat} {m m':Mem} {o:MO} (f:Fr s m m') (h:m[j]? =some (some o)) (n:j≠s):m'[j]? =some (some o):=by
 rw [f.get j (List.getElem?_eq_some_iff.mp h).1 n]; exact h
theorem Src.set {m:Mem} {s c j:Nat} (h:Src m s c) (n:j≠s) (o:Option MO):Src (m.set j o) s c:=by
 obtain⟨g,sd,k,a,b⟩:=h
 exact⟨g,sd,k,by rw [List.getElem?_set_ne n]; exact a,b⟩
theorem Src.lt {m:Mem} {s c:Nat} (h:Src m s c):s < m.length:=by
 obtain⟨g,sd,k,a,b⟩:=h
 exact(List.getElem?_eq_some_iff.mp a).1
theorem at0 {α:Type} {a:α} {ts:List α}:atI (a::ts) 0=some a:=by
 unfold atI ixN
 rw [if_pos (by decide),if_pos (by simp only [List.length_cons]; omega)]; rfl
theorem at1 {α:Type} {a b:α} {ts:List α}:atI (a::b::ts) 1=some b:=by
 unfold atI ixN
 rw [if_pos (by decide),if_pos (by simp only [List.length_cons]; omega)]; rfl
theorem at2 {α:Type} {a b c:α} {ts:List α}:atI (a::b::c::ts) 2=some c:=by
 unfold atI ixN
 rw [if_pos (by decide),if_pos (by simp only [List.length_cons]; omega)]; rfl
theorem at3 {α:Type} {a b c d:α} {ts:List α}:atI (a::b::c::d::ts) 3=some d:=by
 unfold atI ixN
 rw [if_pos (by decide),if_pos (by simp only [List.length_cons]; omega)]; rfl
theorem ix30:ixN 3 0=some 0:=by decide
theorem ix31:ixN 3 1=some 1:=by decide
theorem ix32:ixN 3 2=some 2:=by decide
theorem bAg {k:Nat} {i:Int} (h0:0≤i) (h1:i < 2 ^ k):small k i=true:=by
 unfold small
 simp only [Bool.and_eq_true,decide_eq_true_eq]
 have:(0:Int) < 2 ^ k:=by omega
 omega
theorem aZh {m:Mem} {s c:Nat} {many:Int} (h:Src m s c) (hc:c < 900000) (h0:0 < many) (h1:many < 1073741824):∃ d m',tW [.loc s,.int many] m= .ok (.int d) m'∧0≤d∧d < many∧Src m' s (c+1)∧Fr s m m'∧m'.length=m.length:=by
 obtain⟨g,sd,k,hm,s0,s1,k0,kc⟩:=h
 have hl:=(List.getElem?_eq_some_iff.mp hm).1
 unfold tW aGn
 simp only [fnOf,sSeq,sOf,sIf,sAsg,sNil,sNo,aCs,sFor,sPar,e2,e1,eVar,eC,eOfL,lNil,zX,yU,bV,bAnd,bOr,bNot,eAnd,eOr,eNot,eIf,aBn,uQ,iVal,aH2,aLo,aC2,aC1,aLk,aG4,aEb,gN,gT,gTL,zR,xX,frz,sFrz,bYes,Out.bind,gAdd,Ev.gSub,gMul,gMod,gDiv,gPow,gIx,gLt,gLe,gGt,gGe,gOrd,gEq,gNe,gEqB,gIsN,gInt,gIntA,gTupleA,gExtendA,aVs,gLen,gTuple,aZ7,yW,xN,gAllAny,gAppend,gExtend,gPop,aVr,bBg,gSetL,aLu,gSorted,gIsi,mk,asL,asO,asT,aDh,aK8,isTy,items,gEn,aFg,aWy,tyOf,qU,eNeg,List.map_cons,List.map_nil,List.cons_append,List.nil_append,List.append_nil,List.length_cons,List.length_nil,List.replicate_succ,List.replicate_zero,List.getElem?_cons_zero,List.getElem?_cons_succ,List.set_cons_zero,List.set_cons_succ,Option.bind_some,if_true,if_false,Bool.false_eq_true,Bool.not_true,Bool.not_false,reduceIte,Nat.reduceSub,Nat.reduceAdd,Nat.reduceEqDiff,Int.reduceSub,Int.reduceAdd,Int.reduceMul,Int.reduceLE,Int.reduceLT,Int.reduceNeg,Nat.reduceLeDiff,Nat.reduceLT,reduceCtorEq,decide_true,decide_false,beq_self_eq_true,String.reduceBEq,and_self,true_and,and_true,at0,at1,at2,at3,ix30,ix31,ix32,hm,List.getElem?_set_self hl]
 by_cases hg:1 < g
 ·simp only [fnOf,sSeq,sOf,sIf,sAsg,sNil,sNo,aCs,sFor,sPar,e2,e1,eVar,eC,eOfL,lNil,zX,yU,bV,bAnd,bOr,bNot,eAnd,eOr,eNot,eIf,aBn,uQ,iVal,aH2,aLo,aC2,aC1,aLk,aG4,aEb,gN,gT,gTL,zR,xX,frz,sFrz,bYes,Out.bind,gAdd,Ev.gSub,gMul,gMod,gDiv,gPow,gIx,gLt,gLe,gGt,gGe,gOrd,gEq,gNe,gEqB,gIsN,gInt,gIntA,gTupleA,gExtendA,aVs,gLen,gTuple,aZ7,yW,xN,gAllAny,gAppend,gExtend,gPop,aVr,bBg,gSetL,aLu,gSorted,gIsi,mk,asL,asO,asT,aDh,aK8,isTy,items,gEn,aFg,aWy,tyOf,qU,eNeg,List.map_cons,List.map_nil,List.cons_append,List.nil_append,List.append_nil,List.length_cons,List.length_nil,List.replicate_succ,List.replicate_zero,List.getElem?_cons_zero,List.getElem?_cons_succ,List.set_cons_zero,List.set_cons_succ,Option.bind_some,if_true,if_false,Bool.false_eq_true,Bool.not_true,Bool.not_false,reduceIte,Nat.reduceSub,Nat.reduceAdd,Nat.reduceEqDiff,Int.reduceSub,Int.reduceAdd,Int.reduceMul,Int.reduceLE,Int.reduceLT,Int.reduceNeg,Nat.reduceLeDiff,Nat.reduceLT,reduceCtorEq,decide_true,decide_false,beq_self_eq_true,String.reduceBEq,and_self,true_and,and_true,at0,at1,at2,at3,ix30,ix31,ix32,hg,h0,h1,List.getElem?_set_self hl,List.set_set,List.length_set]
  refine⟨g % many,_,rfl,Int.emod_nonneg _ (by omega),Int.emod_lt_of_pos _ h0,⟨g / many,sd,k+1,by simp [hl],s0,s1,by omega,by omega⟩,⟨by simp,fun i _ n=>by rw [List.getElem?_set_ne (by omega)]⟩,by simp⟩
 ·have b1:(small 64 7919||small 64 (k+1))=true:=by rw [show small 64 7919=true by decide]; rfl
  have b2:(small 64 16807||small 64 (k+1))=true:=by rw [show small 64 16807=true by decide]; rfl
  have b4:(small 64 (16807*(k+1))||small 64 (k+1))=true:=by rw [bAg (i:=k+1) (by omega) (by omega)]; simp
  have p1:((0:Int)≤5∧(5:Int)≤100∧(sd+7919*(k+1)).natAbs < 2 ^ 64):=⟨by decide,by decide,by omega⟩
  simp only [fnOf,sSeq,sOf,sIf,sAsg,sNil,sNo,aCs,sFor,sPar,e2,e1,eVar,eC,eOfL,lNil,zX,yU,bV,bAnd,bOr,bNot,eAnd,eOr,eNot,eIf,aBn,uQ,iVal,aH2,aLo,aC2,aC1,aLk,aG4,aEb,gN,gT,gTL,zR,xX,frz,sFrz,bYes,Out.bind,gAdd,Ev.gSub,gMul,gMod,gDiv,gPow,gIx,gLt,gLe,gGt,gGe,gOrd,gEq,gNe,gEqB,gIsN,gInt,gIntA,gTupleA,gExtendA,aVs,gLen,gTuple,aZ7,yW,xN,gAllAny,gAppend,gExtend,gPop,aVr,bBg,gSetL,aLu,gSorted,gIsi,mk,asL,asO,asT,aDh,aK8,isTy,items,gEn,aFg,aWy,tyOf,qU,eNeg,List.map_cons,List.map_nil,List.cons_append,List.nil_append,List.append_nil,List.length_cons,List.length_nil,List.replicate_succ,List.replicate_zero,List.getElem?_cons_zero,List.getElem?_cons_succ,List.set_cons_zero,List.set_cons_succ,Option.bind_some,if_true,if_false,Bool.false_eq_true,Bool.not_true,Bool.not_false,reduceIte,Nat.reduceSub,Nat.reduceAdd,Nat.reduceEqDiff,Int.reduceSub,Int.reduceAdd,Int.reduceMul,Int.reduceLE,Int.reduceLT,Int.reduceNeg,Nat.reduceLeDiff,Nat.reduceLT,reduceCtorEq,decide_true,decide_false,beq_self_eq_true,String.reduceBEq,and_self,true_and,and_true,at0,at1,at2,at3,ix30,ix31,ix32,hg,List.getElem?_set_self hl,b1,b2,b4,p1.2.2]
  generalize hf:(sd+7919*(k+1)) ^ (5:Int).toNat % 2147483629=f
  have f0:0≤f:=by rw [←hf]; exact Int.emod_nonneg _ (by decide)
  have f1:f < 2147483629:=by rw [←hf]; exact Int.emod_lt_of_pos _ (by decide)
  have b3:(small 64 f||small 64 48271)=true:=by rw [show small 64 48271=true by decide]; simp
  have q:(k+1)*(k+1)≤900000*900000:=Int.mul_le_mul (by omega) (by omega) (by omega) (by omega)
  have q0:0≤(k+1)*(k+1):=Int.mul_nonneg (by omega) (by omega)
  have p2:((0:Int)≤3∧(3:Int)≤100∧(f*48271+16807*(k+1)*(k+1)+11).natAbs < 2 ^ 64):=⟨by decide,by decide,by rw [Int.mul_assoc]; omega⟩
  simp only [fnOf,sSeq,sOf,sIf,sAsg,sNil,sNo,aCs,sFor,sPar,e2,e1,eVar,eC,eOfL,lNil,zX,yU,bV,bAnd,bOr,bNot,eAnd,eOr,eNot,eIf,aBn,uQ,iVal,aH2,aLo,aC2,aC1,aLk,aG4,aEb,gN,gT,gTL,zR,xX,frz,sFrz,bYes,Out.bind,gAdd,Ev.gSub,gMul,gMod,gDiv,gPow,gIx,gLt,gLe,gGt,gGe,gOrd,gEq,gNe,gEqB,gIsN,gInt,gIntA,gTupleA,gExtendA,aVs,gLen,gTuple,aZ7,yW,xN,gAllAny,gAppend,gExtend,gPop,aVr,bBg,gSetL,aLu,gSorted,gIsi,mk,asL,asO,asT,aDh,aK8,isTy,items,gEn,aFg,aWy,tyOf,qU,eNeg,List.map_cons,List.map_nil,List.cons_append,List.nil_append,List.append_nil,List.length_cons,List.length_nil,List.replicate_succ,List.replicate_zero,List.getElem?_cons_zero,List.getElem?_cons_succ,List.set_cons_zero,List.set_cons_succ,Option.bind_some,if_true,if_false,Bool.false_eq_true,Bool.not_true,Bool.not_false,reduceIte,Nat.reduceSub,Nat.reduceAdd,Nat.reduceEqDiff,Int.reduceSub,Int.reduceAdd,Int.reduceMul,Int.reduceLE,Int.reduceLT,Int.reduceNeg,Nat.reduceLeDiff,Nat.reduceLT,reduceCtorEq,decide_true,decide_false,beq_self_eq_true,String.reduceBEq,and_self,true_and,and_true,at0,at1,at2,at3,ix30,ix31,ix32,List.getElem?_set_self hl,b2,b4,b3,p2.2.2,h0]
  refine⟨_,m.set s (some (.lst [.int g,.int sd,.int (k+1)])),rfl,Int.emod_nonneg _ (by omega),Int.emod_lt_of_pos _ h0,⟨g,sd,k+1,by simp [hl],s0,s1,by omega,by omega⟩,⟨by simp,fun i _ n=>by rw [List.getElem?_set_ne (by omega)]⟩,by simp⟩
end M
namespace M
open PySem hiding Env
open L2 Ev G
noncomputable def Ok {α:Type} (o:Out α) (P:α→Mem→Prop):Prop:=∃ a m,o= .ok a m∧P a m
noncomputable def Nx (o:SOut) (P:Env→Mem→Prop):Prop:=∃ e m,o= .nx e m∧P e m
noncomputable def Rt (o:SOut) (P:T→Mem→Prop):Prop:=∃ t m,o= .rt t m∧P t m
noncomputable def Bl (t:T) (m:Mem) (PB:Bool→Mem→Prop):Prop:=∃ x,t= .bl x∧PB x m
noncomputable def It (t:T) (m:Mem) (PL:List T→Mem→Prop):Prop:=∃ ts,items t=some ts∧PL ts m
noncomputable def Rg (ts:List T) (m:Mem) (PL:List T→Mem→Prop):Prop:=∃ n,ts=[.int n]∧ -1000000≤n∧n≤1000000∧PL (rng 0 n) m
noncomputable def Calls (n:Nat) (F:FS) (xs:List T) (m:Mem) (P:T→Mem→Prop):Prop:=xs.length=n∧Ok (F xs m) P
noncomputable def En (ts:List T) (m:Mem) (PL:List T→Mem→Prop):Prop:=∃ us,(ts=[.lst us]∨ts=[.tup us])∧PL (aGe 0 us) m
section
variable {env:Env} {m:Mem} {P:T→Mem→Prop} {PB:Bool→Mem→Prop} {PL:List T→Mem→Prop} {PE:Env→Mem→Prop} {fa fb fc:EF} {fs:LF} {f g:SF} {b c:BF}
theorem Ok.imp {α:Type} {o:Out α} {P Q:α→Mem→Prop} (h:Ok o P) (i:∀ a m,P a m→Q a m):Ok o Q:=let ⟨a,m,e,p⟩:=h; ⟨a,m,e,i a m p⟩
theorem Nx.imp {o:SOut} {P Q:Env→Mem→Prop} (h:Nx o P) (i:∀ a m,P a m→Q a m):Nx o Q:=let ⟨a,m,e,p⟩:=h; ⟨a,m,e,i a m p⟩
theorem Ok.of {α:Type} {o:Out α} {P:α→Mem→Prop} {a:α} {m:Mem} (e:o= .ok a m) (p:P a m):Ok o P:=⟨a,m,e,p⟩
theorem Ok.bind {α β:Type} {o:Out α} {k:α→Mem→Out β} {P:β→Mem→Prop} (h:Ok o fun a m=>Ok (k a m) P):Ok (o.bind k) P:=by
 obtain⟨a,m,rfl,p⟩:=h
 exact p
theorem bG3 {n:Nat} {ts:List T} (h:Rt (g (ts.map some++List.replicate (n - ts.length) none) m) P):Ok (fnOf n g ts m) P:=by
 obtain⟨t,m',e,p⟩:=h
 exact⟨t,m',by unfold fnOf; rw [e],p⟩
theorem bCc (h:Nx (f env m) fun e1 m1=>Nx (g e1 m1) PE):Nx (sSeq f g env m) PE:=by
 obtain⟨t,m',e,p⟩:=h
 unfold sSeq; rw [e]; exact p
theorem aV5 (h:Nx (f env m) fun e1 m1=>Rt (g e1 m1) P):Rt (sSeq f g env m) P:=by
 obtain⟨t,m',e,p⟩:=h
 unfold sSeq; rw [e]; exact p
theorem bGb (h:PE env m):Nx (sNil env m) PE:=⟨_,_,rfl,h⟩
theorem bEl (h:PE env m):Nx (.nx env m) PE:=⟨_,_,rfl,h⟩
theorem bH7 {t:T} (h:P t m):Rt (.rt t m) P:=⟨_,_,rfl,h⟩
theorem bEk {k:T→Env→Mem→SOut} (h:Ok (fa env m) fun t m1=>Nx (k t env m1) PE):Nx (sOf fa k env m) PE:=by
 obtain⟨t,m',e,p⟩:=h
 unfold sOf; rw [e]; exact p
theorem bH8 {k:T→Env→Mem→SOut} (h:Ok (fa env m) fun t m1=>Rt (k t env m1) P):Rt (sOf fa k env m) P:=by
 obtain⟨t,m',e,p⟩:=h
 unfold sOf; rw [e]; exact p
theorem bHc (h:Ok (b env m) fun x m1=>if x then Nx (f env m1) PE else Nx (g env m1) PE):Nx (sIf b f g env m) PE:=by
 obtain⟨t,m',e,p⟩:=h
 unfold sIf; rw [e]
 cases t<;>exact p
theorem bCd {gt:GF} (h:Ok (fa env m) fun t m1=>∃ env1,gt t env=some env1∧PE env1 m1):Nx (sAsg fa gt env m) PE:=by
 obtain⟨t,m',e,env1,e1,p⟩:=h
 unfold sAsg sOf; rw [e]; exact⟨env1,m',by simp only [e1],p⟩
theorem aYj {i:Nat} {t:T} (e:env[i]? =some (some t)) (h:P t m):Ok (eVar i env m) P:=⟨t,m,by unfold eVar; rw [e],h⟩
theorem ok_c {t:T} (h:P t m):Ok (eC t env m) P:=⟨t,m,rfl,h⟩
theorem bG8 {o:T→T→Mem→Out T} (h:Ok (fa env m) fun x m1=>Ok (fb env m1) fun y m2=>Ok (o x y m2) P):Ok (e2 o fa fb env m) P:=Ok.bind (h.imp fun _ _ h=>Ok.bind h)
theorem aO8 (h:PL [] m):Ok (lNil env m) PL:=⟨_,_,rfl,h⟩
theorem qD (h:Ok (fa env m) fun x m1=>Ok (fs env m1) fun xs m2=>PL (x::xs) m2):Ok (zX fa fs env m) PL:=Ok.bind (h.imp fun _ _ h=>Ok.bind (h.imp fun _ _ h=>⟨_,_,rfl,h⟩))
theorem aVh {o:List T→Mem→Out T} (h:Ok (fs env m) fun xs m1=>Ok (o xs m1) P):Ok (eOfL o fs env m) P:=Ok.bind h
theorem aTq {n:Nat} {F:FS} (h:Ok (fs env m) fun xs m1=>Calls n F xs m1 P):Ok (yU n F fs env m) P:=
 Ok.bind (h.imp fun xs m1 ⟨e,h⟩=>by rw [if_pos e]; exact h)
theorem bE7 {n:String} {o:T→List T→Mem→Out T} (h:Ok (fa env m) fun x m1=>isTy n m1 x=true∧Ok (fs env m1) fun xs m2=>Ok (o x xs m2) P):Ok (aBn n o fa fs env m) P:=
 Ok.bind (h.imp fun xs m1 ⟨e,h⟩=>by rw [if_pos e]; exact Ok.bind h)
theorem bHb (h:Ok (fa env m) fun t m1=>Bl t m1 PB):Ok (bV fa env m) PB:=Ok.bind (h.imp fun t m1 ⟨x,e,h⟩=>by subst e; exact⟨x,m1,rfl,h⟩)
theorem bEi (h:Ok (b env m) fun x m1=>PB (!x) m1):Ok (bNot b env m) PB:=Ok.bind (h.imp fun t m1 h=>⟨_,m1,rfl,h⟩)
theorem bEj (h:Ok (b env m) fun x m1=>if x then Ok (c env m1) PB else PB false m1):Ok (bAnd b c env m) PB:=Ok.bind (h.imp fun t m1 h=>by
 cases t with
 | true=>exact h
 | false=>exact⟨_,_,rfl,h⟩)
theorem bG9 (h:Ok (b env m) fun x m1=>if x then PB true m1 else Ok (c env m1) PB):Ok (bOr b c env m) PB:=Ok.bind (h.imp fun t m1 h=>by
 cases t with
 | false=>exact h
 | true=>exact⟨_,_,rfl,h⟩)
theorem bEg (h:Ok (fa env m) fun t m1=>Bl t m1 fun x m1=>if x then Ok (fb env m1) P else P (.bl false) m1):Ok (eAnd fa fb env m) P:=Ok.bind (h.imp fun t m1 ⟨x,e,h⟩=>by
 subst e
 cases x with
 | true=>exact h
 | false=>exact⟨_,_,rfl,h⟩)
theorem bG6 (h:Ok (fa env m) fun t m1=>Bl t m1 fun x m1=>if x then P (.bl true) m1 else Ok (fb env m1) P):Ok (eOr fa fb env m) P:=Ok.bind (h.imp fun t m1 ⟨x,e,h⟩=>by
 subst e
 cases x with
 | false=>exact h
 | true=>exact⟨_,_,rfl,h⟩)
theorem bEf (h:Ok (fa env m) fun t m1=>Bl t m1 fun x m1=>P (.bl (!x)) m1):Ok (eNot fa env m) P:=Ok.bind (h.imp fun t m1 ⟨x,e,h⟩=>by subst e; exact⟨_,_,rfl,h⟩)
theorem bG7 (h:Ok (b env m) fun x m1=>if x then Ok (fa env m1) P else Ok (fb env m1) P):Ok (eIf b fa fb env m) P:=Ok.bind (h.imp fun t m1 h=>by
 cases t with
 | false=>exact h
 | true=>exact h)
theorem bEd (h:Ok (fa env m) fun t m1=>It t m1 PL):Ok (iVal fa env m) PL:=Ok.bind (h.imp fun t m1 ⟨ts,e,h⟩=>⟨ts,m1,by simp only [e],h⟩)
theorem bB7 (h:Ok (fs env m) fun ts m1=>Rg ts m1 PL):Ok (aH2 fs env m) PL:=Ok.bind (h.imp fun ts m1 ⟨n,e,h0,h1,h⟩=>by
 subst e
 exact⟨_,m1,by simp only [h0,h1,and_self,if_true],h⟩)
theorem aYm (h:Ok (fs env m) fun ts m1=>∃ a b,ts=[.int a,.int b]∧(-1000000≤a∧a≤1000000∧ -1000000≤b∧b≤1000000)∧PL (rng a b) m1):Ok (aLo fs env m) PL:=Ok.bind (h.imp fun ts m1 ⟨a,b,e,h0,h⟩=>by
 subst e
 exact⟨_,m1,by simp only [h0,and_self,if_true],h⟩)
theorem aR9 {mu:Bool} (h:Ok (fa env m) fun t m1=>∃ n,t= .int n∧ -1000000≤n∧n≤1000000∧Ok (mk mu (rng 0 n) m1) P):Ok (aC2 mu fa env m) P:=Ok.bind (h.imp fun t m1 ⟨n,e,h0,h1,h⟩=>by
 subst e
 show Ok (if -1000000≤n∧n≤1000000 then mk mu (rng 0 n) m1 else Out.no) P
 rw [if_pos ⟨h0,h1⟩]; exact h)
theorem bEe (h:Ok (fs env m) fun ts m1=>En ts m1 PL):Ok (aFg fs env m) PL:=Ok.bind (h.imp fun ts m1 ⟨us,e,h⟩=>by
 rcases e with e | e<;>subst e<;>exact⟨_,_,rfl,h⟩)
theorem bHk {x:Bool} (h:PB x m):Bl (.bl x) m PB:=⟨x,rfl,h⟩
theorem bGi {ts:List T} (h:PL ts m):It (.lst ts) m PL:=⟨ts,rfl,h⟩
theorem bGg {ts:List T} (h:PL ts m):It (.tup ts) m PL:=⟨ts,rfl,h⟩
theorem bGh {ts:List T} (h:PL ts m):It (.rls ts) m PL:=⟨ts,rfl,h⟩
theorem bGt {ts:List T} (h:PL (aGe 0 ts) m):En [.lst ts] m PL:=⟨ts,.inl rfl,h⟩
theorem bGs {ts:List T} (h:PL (aGe 0 ts) m):En [.tup ts] m PL:=⟨ts,.inr rfl,h⟩
theorem aP7 {n:Nat} {F:FS} {xs:List T} (e:xs.length=n) (h:Ok (F xs m) P):Calls n F xs m P:=⟨e,h⟩
theorem aY3 {k:SF} (h:Rt (k env m) P):Rt (sSeq sNil k env m) P:=h
theorem aP3 {k:T→Env→Mem→SOut} (h:Ok (fa env m) fun t m1=>Nx (k t env m1) fun e1 m2=>Rt (g e1 m2) P):Rt (sSeq (sOf fa k) g env m) P:=aV5 (bEk h)
theorem bB8 {k:T→Env→Mem→SOut} (h:Ok (fa env m) fun t m1=>Nx (k t env m1) fun e1 m2=>Nx (g e1 m2) PE):Nx (sSeq (sOf fa k) g env m) PE:=bCc (bEk h)
theorem bEh (h:PB true m):Ok (bYes env m) PB:=⟨_,_,rfl,h⟩
theorem bFv {ts:List T} (h:P (.lst ts) m):Ok (mk false ts m) P:=⟨_,_,rfl,h⟩
theorem bFw {ts:List T} (h:P (.loc m.length) (m++[some (.lst ts)])):Ok (mk true ts m) P:=⟨_,_,rfl,h⟩
theorem bHa {α:Type} {Q:α→Mem→Prop} {t:α} (h:Q t m):Ok (.ok t m) Q:=⟨_,_,rfl,h⟩
theorem aYn {mu:Bool} {i j:Int} (h:P (.int (i+j)) m):Ok (gAdd mu (.int i) (.int j) m) P:=⟨_,_,rfl,h⟩
theorem bG1 {i j:Int} (h:P (.bl (decide (j < i))) m):Ok (gGt (.int i) (.int j) m) P:=⟨_,_,rfl,h⟩
theorem bG2 {i j:Int} (h:P (.bl (decide (j≤i))) m):Ok (gGe (.int i) (.int j) m) P:=⟨_,_,rfl,h⟩
theorem bFx {i j:Int} (h:P (.bl (decide (i < j))) m):Ok (gLt (.int i) (.int j) m) P:=⟨_,_,rfl,h⟩
theorem bFz {i j:Int} (h:P (.bl (decide (i≤j))) m):Ok (gLe (.int i) (.int j) m) P:=⟨_,_,rfl,h⟩
theorem bFy {i j:Str} (h:P (.bl (!decide (j.cps.toList < i.cps.toList))) m):Ok (gLe (.str i) (.str j) m) P:=⟨_,_,rfl,h⟩
theorem bG5 {i j:Int} (h:P (.bl (decide (i=j))) m):Ok (gEq (.int i) (.int j) m) P:=⟨_,_,rfl,h⟩
theorem bFu {i j:Int} (h:P (.bl (!decide (i=j))) m):Ok (gNe (.int i) (.int j) m) P:=⟨_,_,rfl,h⟩
theorem bG4 {i j:Str} (h:P (.bl (decide (i=j))) m):Ok (gEq (.str i) (.str j) m) P:=⟨.bl (eqS i j),_,rfl,by rw [←aPm]; exact h⟩
theorem bFt {i j:Str} (h:P (.bl (!decide (i=j))) m):Ok (gNe (.str i) (.str j) m) P:=⟨.bl (!eqS i j),_,rfl,by rw [←aPm]; exact h⟩
theorem bE6 {i j:Int} (h0:0 < j) (h:P (.int (i % j)) m):Ok (gMod (.int i) (.int j) m) P:=⟨_,_,by unfold gMod; simp only [if_pos h0]; try rfl,h⟩
theorem bE5 {mu:Bool} {i j:Int} (hs:(small 64 i||small 64 j)=true) (h:P (.int (i*j)) m):Ok (gMul mu (.int i) (.int j) m) P:=⟨_,_,by unfold gMul; simp only [if_pos hs]; try rfl,h⟩
theorem bG0 {i:Int} (h:P (.int i) m):Ok (gIntA [.int i] m) P:=⟨_,_,rfl,h⟩
theorem bEb {ts:List T} (h:P (.int ts.length) m):Ok (gLen [.lst ts] m) P:=⟨_,_,rfl,h⟩
theorem bEa {ts:List T} (h:P (.int ts.length) m):Ok (gLen [.tup ts] m) P:=⟨_,_,rfl,h⟩
theorem aYl {ts:List T} (h:P (.tup ts) m):Ok (gTupleA [.lst ts] m) P:=⟨_,_,rfl,h⟩
theorem aYk {ts:List T} (h:P (.tup ts) m):Ok (gTupleA [.tup ts] m) P:=⟨_,_,rfl,h⟩
theorem aP6 {ts:List T} (hl:ts.length≤lim) (h:P (.tup ts) m):Ok (yW ts m) P:=⟨_,_,by unfold yW; simp only [if_pos hl]; try rfl,h⟩
theorem bE8 {ts:List T} (hl:ts.length≤lim) (h:P (.lst ts) m):Ok (xN false ts m) P:=⟨_,_,by unfold xN; simp only [if_pos hl]; try rfl,h⟩
theorem bE9 {ts:List T} (hl:ts.length≤lim) (h:P (.loc m.length) (m++[some (.lst ts)])):Ok (xN true ts m) P:=⟨_,_,by unfold xN; simp only [if_pos hl]; try rfl,h⟩
theorem bEc (h:P (.bl true) m):Ok (gIsN false .non .non m) P:=⟨_,_,rfl,h⟩
theorem aVk {gt:GF} {body:SF} {R:List T→Env→Mem→Prop}:∀(ts pre:List T) (env:Env) (m:Mem),R pre env m→
  (∀(p:List T) (t:T) (q:List T) (env:Env) (m:Mem),pre++ts=p++t::q→R p env m→∃ env1,gt t env=some env1∧Nx (body env1 m) (R (p++[t])))→
  Nx (loop gt body ts env m) (R (pre++ts))
 | [],pre,env,m,h,_=>⟨env,m,rfl,by simpa using h⟩
 | t::ts,pre,env,m,h,st=>by
  obtain⟨env1,e1,env2,m2,e2,h2⟩:=st pre t ts env m rfl h
  obtain⟨env',m',e3,h3⟩:=aVk (R:=R) ts (pre++[t]) env2 m2 h2 (fun p u q env m e=>st p u q env m (by rw [←e]; simp))
  exact⟨env',m',by unfold loop; simp only [e1,e2,e3],by simpa using h3⟩
theorem bGc {fi:LF} {gt:GF} (R:List T→Env→Mem→Prop)
  (h:Ok (fi env m) fun ts m1=>R [] env m1∧(∀(p:List T) (t:T) (q:List T) (env2:Env) (m2:Mem),ts=p++t::q→R p env2 m2→∃ env3,gt t env2=some env3∧Nx (f env3 m2) (R (p++[t])))∧∀ env2 m2,R ts env2 m2→PE env2 m2):Nx (sFor fi gt f env m) PE:=by
 obtain⟨ts,m1,e,h0,st,h⟩:=h
 obtain⟨env2,m2,e2,h2⟩:=aVk ts [] env m1 h0 st
 exact⟨env2,m2,by unfold sFor; simp only [e,e2],h env2 m2 h2⟩
end
end M
local macro_rules | `(tactic| walk_at "wp") => `(tactic| repeat (first | ((with_reducible apply M.aYj); exact rfl) | ((with_reducible apply M.aP7); exact rfl) | ((with_reducible apply M.aP6); exact Nat.le_of_ble_eq_true rfl) | ((with_reducible apply M.bE8); exact Nat.le_of_ble_eq_true rfl) | ((with_reducible apply M.bE9); exact Nat.le_of_ble_eq_true rfl) | (with_reducible apply M.bG8) | (with_reducible apply M.ok_c) | (with_reducible apply M.qD) | (with_reducible apply M.aO8) | (with_reducible apply M.aVh) | (with_reducible apply M.aTq) | (with_reducible apply M.bE7) | (with_reducible apply M.bHb) | (with_reducible apply M.bEi) | (with_reducible apply M.bEj) | (with_reducible apply M.bG9) | (with_reducible apply M.bEg) | (with_reducible apply M.bG6) | (with_reducible apply M.bEf) | (with_reducible apply M.bG7) | (with_reducible apply M.bEd) | (with_reducible apply M.bB7) | (with_reducible apply M.aYm) | (with_reducible apply M.aR9) | (with_reducible apply M.bEe) | (with_reducible apply M.bEh) | (with_reducible apply M.bFv) | (with_reducible apply M.bFw) | (with_reducible apply M.bHa) | (with_reducible apply M.aYn) | (with_reducible apply M.bG1) | (with_reducible apply M.bG2) | (with_reducible apply M.bFx) | (with_reducible apply M.bFz) | (with_reducible apply M.bFy) | (with_reducible apply M.bG5) | (with_reducible apply M.bFu) | (with_reducible apply M.bG4) | (with_reducible apply M.bFt) | (with_reducible apply M.bG0) | (with_reducible apply M.bEb) | (with_reducible apply M.bEa) | (with_reducible apply M.aYl) | (with_reducible apply M.aYk) | (with_reducible apply M.bHk) | (with_reducible apply M.bGi) | (with_reducible apply M.bGg) | (with_reducible apply M.bGh) | (with_reducible apply M.bGt) | (with_reducible apply M.bGs) | (with_reducible apply M.aP3) | (with_reducible apply M.bB8) | (with_reducible apply M.bH8) | (with_reducible apply M.bEk) | (with_reducible apply M.bEl) | (with_reducible apply M.bH7) | (with_reducible apply M.bGb) | (with_reducible apply M.aY3) | (with_reducible apply M.bCd) | (with_reducible apply M.bEc)))
local macro_rules | `(tactic| walk_at "norm") => `(tactic| try simp only [List.map_cons, List.map_nil, List.cons_append, List.nil_append, List.length_cons, List.length_nil, Nat.reduceAdd, Nat.reduceSub, List.replicate_succ, List.replicate_zero, List.set_cons_succ, List.set_cons_zero])
namespace M
open PySem hiding Env
open L2 Ev G
noncomputable def Cl (o:Option MO) (c:Nat):Prop:=∃ g sd k:Int,o=some (.lst [.int g,.int sd,.int k])∧0≤sd∧sd < 2147483647∧0≤k∧k≤c
theorem bHj {o:Option MO} {t:Mem} {c:Nat} {many:Int} {P:T→Mem→Prop} (h:Cl o c) (hc:c < 900000) (h0:0 < many) (h1:many < 1073741824)
  (k:∀ d o',0≤d→d < many→Cl o' (c+1)→P (.int d) (o'::t)):Ok (tW [.loc 0,.int many] (o::t)) P:=by
 obtain⟨g,sd,n,e,b1,b2,b3,b4⟩:=h
 obtain⟨d,m',e,a,b,x,f,y⟩:=aZh (m:=o::t) (s:=0) (c:=c) ⟨g,sd,n,by rw [e]; rfl,b1,b2,b3,b4⟩ hc h0 h1
 cases m' with
 | nil=>cases y
 | cons o' t'=>
  have ht:t'=t:=by
   apply List.ext_getElem?
   intro i
   by_cases hi:i < t.length
   ·have:=f.get (i+1) (by simp; omega) (by omega)
    simpa using this
   ·have l:t'.length=t.length:=by simpa using y
    rw [List.getElem?_eq_none (by omega),List.getElem?_eq_none (by omega)]
  subst ht
  refine⟨_,_,e,k d o' a b ?_⟩
  obtain⟨g,sd,n,q,r⟩:=x
  exact⟨g,sd,n,by simpa using q,r⟩
theorem bE4 {m:Mem} {P:T→Mem→Prop} {i j:Int} (h0:0≤j) (h1:j≤100) (h2:i.natAbs < 2 ^ 64) (h:P (.int (i ^ j.toNat)) m):Ok (gPow (.int i) (.int j) m) P:=⟨_,_,by unfold gPow; simp only [h0,h1,h2,and_self,if_true],h⟩
theorem aXk {ns:List Int} {m:Mem} {P:T→Mem→Prop}
  (k:∀ m',m'.length=m.length+1→Src m' m.length 0→P (.loc m.length) m'):Ok (vJ [.rls (ns.map T.int)] m) P:=by
 unfold vJ aCr
 refine bG3 ?_
 walk_at "norm"
 refine aV5 ?_
 walk_at "wp"
 refine⟨_,rfl,?_⟩
 walk_at "norm"
 refine aV5 (bGc (fun _ env m1=>∃ g sd w,env=[some (.rls (ns.map T.int)),some (.int g),some (.int sd),w]∧m1=m∧(0:Int)≤sd∧sd < 2147483647) ?_)
 walk_at "wp"
 refine⟨⟨0,17,none,rfl,rfl,by decide,by decide⟩,?_,?_⟩
 ·rintro p t q env m1 hp ⟨g,sd,w,rfl,rfl,h0,h1⟩
  obtain⟨n,_,rfl⟩:∃ n,n∈ns∧T.int n=t:=by
   have:t∈ns.map T.int:=by rw [hp]; simp
   simpa using this
  refine⟨_,rfl,?_⟩
  walk_at "norm"
  refine bCc (Nx.imp (P:=fun env m=>∃ g',env=[some (.rls (ns.map T.int)),some (.int g'),some (.int sd),some (.int n)]∧m=m1) (bHc ?_) ?_)
  ·walk_at "wp"
   split
   ·walk_at "wp"
    refine bE4 (by decide) (by decide) (by decide) ?_
    walk_at "wp"
    split
    ·walk_at "wp"
     exact⟨_,rfl,rfl⟩
    ·walk_at "wp"
     exact⟨_,rfl,rfl⟩
   ·rw [if_neg (by decide)]
    walk_at "wp"
    exact⟨_,rfl,rfl⟩
  ·rintro env m ⟨g',rfl,rfl⟩
   walk_at "wp"
   refine bE5 (by rw [show small 64 31=true by decide]; simp) ?_
   walk_at "wp"
   refine bE6 (by decide) ?_
   walk_at "wp"
   exact⟨g',_,_,rfl,rfl,Int.emod_nonneg _ (by decide),Int.emod_lt_of_pos _ (by decide)⟩
 ·rintro env m1 ⟨g,sd,w,rfl,rfl,h0,h1⟩
  walk_at "wp"
  refine k (m1++[some (.lst [.int g,.int sd,.int 0])]) (by simp) ⟨g,sd,0,?_,h0,h1,by omega,by omega⟩
  simp
theorem bD2 {ns:List Int} {P:T→Mem→Prop} (k:∀ o,Cl o 0→P (.loc 0) [o]):Ok (vJ [.rls (ns.map T.int)] []) P:=
 aXk fun m' hl hs=>by
  match m',hl with
  | [o],_=>
   obtain⟨g,sd,n,q,r⟩:=hs
   exact k o ⟨g,sd,n,by simpa using q,r⟩
noncomputable def okRt:SOut→Bool
 | .rt (.bl true) _=>true
 | _=>false
theorem aCd {o:SOut} (h:okRt o=true):Rt o (fun t _=>t= .bl true):=by
 match o,h with
 | .rt (.bl true) m,_=>exact⟨_,m,rfl,rfl⟩
noncomputable def sl (i:Nat) (o:SOut):Option T:=match o with
 | .nx e _=>(e[i]?).getD none
 | _=>none
end M
namespace M
open PySem hiding Env
open L2 Ev G
noncomputable def seg3 (rest:SF):SF:=(sSeq (sOf (eOfL (xN false) lNil) fun t env m=> .nx (env.set 5 (some t)) m)
  (sSeq (sIf (bV (e2 gGt (eVar 4) (eC (.int 1)))) (sOf (eOfL (xN false) (zX (e2 gMulU (eOfL yW (zX (eC (.str "no")) lNil)) (eC (.int 4))) (zX (eOfL yW (zX (eC (.str "no")) (zX (eC (.str "yes")) (zX (eC (.str "no")) (zX (eC (.str "no")) lNil))))) (zX (eOfL yW (zX (eC (.str "no")) (zX (eC (.str "yes")) (zX (eC (.str "no")) (zX (eC (.str "yes")) lNil))))) (zX (eOfL yW (zX (eC (.str "yes")) (zX (eC (.str "yes")) (zX (eC (.str "no")) (zX (eC (.str "no")) lNil))))) lNil))))) fun t env m=> .nx (env.set 5 (some t)) m) sNil)
  (sSeq (sOf (yU 4 (vF aEn) (zX (yU 1 (vF kA) (zX (eVar 4) lNil)) (zX (eVar 2) (zX (eVar 3) (zX (eC (.str "vote")) lNil))))) fun t env m=> .nx (env.set 6 (some t)) m)
  (sSeq (sIf (bV (e2 gNe (eVar 6) (eOfL (wA false) (zX (e2 (gAdd false) (eVar 5) (eOfL (xN false) (zX (eOfL yW (zX (eC (.str "yes")) (zX (eC (.str "yes")) (zX (eC (.str "no")) (zX (eC (.str "yes")) lNil))))) (zX (e2 gMulU (eOfL yW (zX (eC (.str "yes")) lNil)) (eC (.int 4))) lNil)))) lNil)))) (sOf (eC (.bl false)) fun t _ m=> .rt t m) sNil)
  (sSeq (sOf (yU 4 (vF tN) (zX (yU 1 (vF kA) (zX (eVar 4) lNil)) (zX (eVar 2) (zX (eVar 3) (zX (eC (.str "vote")) lNil))))) fun t env m=> .nx (env.set 7 (some t)) m)
  (sSeq (sIf (bV (e2 gNe (eVar 7) (uQ false [13] (iVal (eVar 6)) (gN 13) (bAnd (bV (e2 gEq (e2 gIx (eVar 13) (eC (.int 0))) (e2 gIx (eVar 13) (eC (.int 3))))) (bV (e2 gNe (aC1 false (eVar 13) (aG4 (eC (.int 1))) (aG4 (eC (.int 3)))) (e2 gMulU (aC1 false (eVar 13) aLk (aG4 (eC (.int 1)))) (eC (.int 2)))))) (eVar 13)))) (sOf (eC (.bl false)) fun t _ m=> .rt t m) sNil)
  rest))))))
noncomputable def seg4 (rest:SF):SF:=(sSeq (sIf (bV (e2 gNe (yU 1 (yH 24) (zX (yU 5 (vF aEo) (zX (yU 1 (vF kA) (zX (eVar 4) lNil)) (zX (eVar 2) (zX (eVar 3) (zX (eC (.str "vote")) (zX (eOfL yW (zX (eC (.str "yes")) (zX (eC (.str "yes")) (zX (eC (.str "no")) (zX (eC (.str "yes")) lNil))))) lNil)))))) lNil)) (eVar 4))) (sOf (eC (.bl false)) fun t _ m=> .rt t m) sNil)
  (sSeq (sIf (bV (e2 gNe (yU 1 (yH 24) (zX (yU 5 (vF aEo) (zX (yU 1 (vF kA) (zX (eVar 4) lNil)) (zX (eVar 2) (zX (eVar 3) (zX (eC (.str "vote")) (zX (e2 gMulU (eOfL yW (zX (eC (.str "yes")) lNil)) (eC (.int 4))) lNil)))))) lNil)) (e2 (gAdd false) (eVar 4) (eC (.int 1))))) (sOf (eC (.bl false)) fun t _ m=> .rt t m) sNil)
  (sSeq (sIf (bV (e2 gGt (eVar 4) (eC (.int 1)))) (sSeq (sOf (yU 5 (vF aEo) (zX (yU 1 (vF kA) (zX (eVar 4) lNil)) (zX (eVar 2) (zX (eVar 3) (zX (eC (.str "vote")) (zX (eOfL yW (zX (eC (.str "no")) (zX (eC (.str "yes")) (zX (eC (.str "no")) (zX (eC (.str "no")) lNil))))) lNil)))))) fun t env m=> .nx (env.set 8 (some t)) m)
  (sIf (bV (e2 gNe (yU 1 (yH 24) (zX (eVar 8) lNil)) (e2 gSub (eVar 4) (eC (.int 1))))) (sOf (eC (.bl false)) fun t _ m=> .rt t m) sNil)) sNil)
  rest)))
noncomputable def seg5 (rest:SF):SF:=(sSeq (sAsg (eOfL yW (zX (eOfL yW (zX (eC (.str "unit")) (zX (eC (.str "green")) (zX (eC (.str "red")) lNil)))) (zX (eOfL yW (zX (eC (.str "unit")) (zX (eC (.str "red")) (zX (eC (.str "green")) lNil)))) lNil))) (gT 2 (zR (gN 9) (zR (gN 10) xX))))
  (sSeq (sOf (eOfL (xN false) (zX (eOfL yW (zX (eC (.str "red")) (zX (eC (.str "red")) (zX (eC (.str "green")) (zX (eC (.str "red")) lNil))))) (zX (eOfL yW (zX (eC (.str "red")) (zX (eC (.str "red")) (zX (eC (.str "amber")) (zX (eC (.str "red")) lNil))))) (zX (e2 gMulU (eOfL yW (zX (eC (.str "red")) lNil)) (eC (.int 4))) lNil)))) fun t env m=> .nx (env.set 5 (some t)) m)
  (sSeq (sIf (bV (e2 gNe (yU 4 (vF aEn) (zX (yU 0 (vF aA6) lNil) (zX (eVar 9) (zX (eVar 10) (zX (eC (.str "unit")) lNil))))) (eOfL (wA false) (zX (eVar 5) lNil)))) (sOf (eC (.bl false)) fun t _ m=> .rt t m) sNil)
  (sSeq (sIf (bV (e2 gNe (yU 4 (vF tN) (zX (yU 0 (vF aA6) lNil) (zX (eVar 9) (zX (eVar 10) (zX (eC (.str "unit")) lNil))))) (eOfL (wA false) (zX (aC1 false (eVar 5) aLk (aG4 (eC (.int 2)))) lNil)))) (sOf (eC (.bl false)) fun t _ m=> .rt t m) sNil)
  (sSeq (sIf (bV (e2 (gIsN true) (yU 5 (vF aEo) (zX (yU 0 (vF aA6) lNil) (zX (eVar 9) (zX (eVar 10) (zX (eC (.str "unit")) (zX (eOfL yW (zX (eC (.str "green")) (zX (eC (.str "red")) (zX (eC (.str "green")) (zX (eC (.str "red")) lNil))))) lNil)))))) (eC .non))) (sOf (eC (.bl false)) fun t _ m=> .rt t m) sNil)
  rest)))))
noncomputable def seg6:SF:=(sSeq (sAsg (eOfL yW (zX (eOfL yW (zX (eC (.str "box")) (zX (eC (.str "off")) (zX (eC (.str "on")) lNil)))) (zX (eOfL yW (zX (eC (.str "box")) (zX (eC (.str "on")) (zX (eC (.str "off")) lNil)))) lNil))) (gT 2 (zR (gN 11) (zR (gN 12) xX))))
  (sSeq (sOf (yU 4 (vF tN) (zX (yU 0 (vF aGm) lNil) (zX (eVar 11) (zX (eVar 12) (zX (eC (.str "box")) lNil))))) fun t env m=> .nx (env.set 6 (some t)) m)
  (sSeq (sIf (bV (e2 gNe (eVar 6) (eOfL (xN false) (zX (eOfL yW (zX (eC (.str "part")) (zX (eC (.str "on")) (zX (eC (.str "off")) (zX (eC (.str "part")) lNil))))) (zX (eOfL yW (zX (eC (.str "part")) (zX (eC (.str "on")) (zX (eC (.str "part")) (zX (eC (.str "part")) lNil))))) (zX (eOfL yW (zX (eC (.str "part")) (zX (eC (.str "part")) (zX (eC (.str "off")) (zX (eC (.str "part")) lNil))))) lNil)))))) (sOf (eC (.bl false)) fun t _ m=> .rt t m) sNil)
  (sOf (e2 gEq (yU 4 (vF aEn) (zX (yU 0 (vF aGm) lNil) (zX (eVar 11) (zX (eVar 12) (zX (eC (.str "box")) lNil))))) (e2 (gAdd false) (eVar 6) (eOfL (xN false) (zX (e2 gMulU (eOfL yW (zX (eC (.str "part")) lNil)) (eC (.int 4))) lNil)))) fun t _ m=> .rt t m))))
theorem B_eq:bF5=sSeq (sOf (yU 1 vJ (zX (eVar 0) lNil)) fun t env m=> .nx (env.set 1 (some t)) m) (sSeq (sAsg (eOfL yW (zX (eOfL yW (zX (eC (.str "vote")) (zX (eC (.str "no")) (zX (eC (.str "yes")) lNil)))) (zX (eOfL yW (zX (eC (.str "vote")) (zX (eC (.str "yes")) (zX (eC (.str "no")) lNil)))) lNil))) (gT 2 (zR (gN 2) (zR (gN 3) xX)))) (sSeq (sOf (e2 (gAdd false) (eC (.int 1)) (yU 2 tW (zX (eVar 1) (zX (eC (.int 9)) lNil)))) fun t env m=> .nx (env.set 4 (some t)) m) (seg3 (seg4 (seg5 seg6))))):=rfl
end M
namespace M
open PySem hiding Env
open L2 Ev G
theorem sV_1 (rest:SF) (o:Option MO) (x0 x5 x6 x7 x8 x9 x10 x11 x12 x13:Option T):seg3 (seg4 rest) [x0,some (.loc 0),some (.tup [.str "vote",.str "no",.str "yes"]),some (.tup [.str "vote",.str "yes",.str "no"]),some (.int 1),x5,x6,x7,x8,x9,x10,x11,x12,x13] [o]=rest [x0,some (.loc 0),some (.tup [.str "vote",.str "no",.str "yes"]),some (.tup [.str "vote",.str "yes",.str "no"]),some (.int 1),some (.lst []),some (.lst [(.tup [(.str "yes"),(.str "yes"),(.str "no"),(.str "yes")]),(.tup [(.str "yes"),(.str "yes"),(.str "yes"),(.str "yes")])]),some (.lst [(.tup [(.str "yes"),(.str "yes"),(.str "no"),(.str "yes")])]),x8,x9,x10,x11,x12,x13] [o]:=by kernel_rfl
end M
namespace M
open PySem hiding Env
open L2 Ev G
theorem sV_2 (rest:SF) (o:Option MO) (x0 x5 x6 x7 x8 x9 x10 x11 x12 x13:Option T):seg3 (seg4 rest) [x0,some (.loc 0),some (.tup [.str "vote",.str "no",.str "yes"]),some (.tup [.str "vote",.str "yes",.str "no"]),some (.int 2),x5,x6,x7,x8,x9,x10,x11,x12,x13] [o]=rest [x0,some (.loc 0),some (.tup [.str "vote",.str "no",.str "yes"]),some (.tup [.str "vote",.str "yes",.str "no"]),some (.int 2),some (.lst [(.tup [(.str "no"),(.str "no"),(.str "no"),(.str "no")]),(.tup [(.str "no"),(.str "yes"),(.str "no"),(.str "no")]),(.tup [(.str "no"),(.str "yes"),(.str "no"),(.str "yes")]),(.tup [(.str "yes"),(.str "yes"),(.str "no"),(.str "no")])]),some (.lst [(.tup [(.str "no"),(.str "no"),(.str "no"),(.str "no")]),(.tup [(.str "no"),(.str "yes"),(.str "no"),(.str "no")]),(.tup [(.str "no"),(.str "yes"),(.str "no"),(.str "yes")]),(.tup [(.str "yes"),(.str "yes"),(.str "no"),(.str "no")]),(.tup [(.str "yes"),(.str "yes"),(.str "no"),(.str "yes")]),(.tup [(.str "yes"),(.str "yes"),(.str "yes"),(.str "yes")])]),some (.lst [(.tup [(.str "no"),(.str "yes"),(.str "no"),(.str "no")]),(.tup [(.str "yes"),(.str "yes"),(.str "no"),(.str "yes")])]),some (.tup [(.str "vote"),(.tup [(.tup []),(.tup [])])]),x9,x10,x11,x12,x13] [o]:=by kernel_rfl
end M
namespace M
open PySem hiding Env
open L2 Ev G
theorem sV_3 (rest:SF) (o:Option MO) (x0 x5 x6 x7 x8 x9 x10 x11 x12 x13:Option T):seg3 (seg4 rest) [x0,some (.loc 0),some (.tup [.str "vote",.str "no",.str "yes"]),some (.tup [.str "vote",.str "yes",.str "no"]),some (.int 3),x5,x6,x7,x8,x9,x10,x11,x12,x13] [o]=rest [x0,some (.loc 0),some (.tup [.str "vote",.str "no",.str "yes"]),some (.tup [.str "vote",.str "yes",.str "no"]),some (.int 3),some (.lst [(.tup [(.str "no"),(.str "no"),(.str "no"),(.str "no")]),(.tup [(.str "no"),(.str "yes"),(.str "no"),(.str "no")]),(.tup [(.str "no"),(.str "yes"),(.str "no"),(.str "yes")]),(.tup [(.str "yes"),(.str "yes"),(.str "no"),(.str "no")])]),some (.lst [(.tup [(.str "no"),(.str "no"),(.str "no"),(.str "no")]),(.tup [(.str "no"),(.str "yes"),(.str "no"),(.str "no")]),(.tup [(.str "no"),(.str "yes"),(.str "no"),(.str "yes")]),(.tup [(.str "yes"),(.str "yes"),(.str "no"),(.str "no")]),(.tup [(.str "yes"),(.str "yes"),(.str "no"),(.str "yes")]),(.tup [(.str "yes"),(.str "yes"),(.str "yes"),(.str "yes")])]),some (.lst [(.tup [(.str "no"),(.str "yes"),(.str "no"),(.str "no")]),(.tup [(.str "yes"),(.str "yes"),(.str "no"),(.str "yes")])]),some (.tup [(.str "vote"),(.tup [(.tup []),(.tup []),(.tup [(.str "vote"),(.str "yes")])])]),x9,x10,x11,x12,x13] [o]:=by kernel_rfl
end M
namespace M
open PySem hiding Env
open L2 Ev G
theorem sV_4 (rest:SF) (o:Option MO) (x0 x5 x6 x7 x8 x9 x10 x11 x12 x13:Option T):seg3 (seg4 rest) [x0,some (.loc 0),some (.tup [.str "vote",.str "no",.str "yes"]),some (.tup [.str "vote",.str "yes",.str "no"]),some (.int 4),x5,x6,x7,x8,x9,x10,x11,x12,x13] [o]=rest [x0,some (.loc 0),some (.tup [.str "vote",.str "no",.str "yes"]),some (.tup [.str "vote",.str "yes",.str "no"]),some (.int 4),some (.lst [(.tup [(.str "no"),(.str "no"),(.str "no"),(.str "no")]),(.tup [(.str "no"),(.str "yes"),(.str "no"),(.str "no")]),(.tup [(.str "no"),(.str "yes"),(.str "no"),(.str "yes")]),(.tup [(.str "yes"),(.str "yes"),(.str "no"),(.str "no")])]),some (.lst [(.tup [(.str "no"),(.str "no"),(.str "no"),(.str "no")]),(.tup [(.str "no"),(.str "yes"),(.str "no"),(.str "no")]),(.tup [(.str "no"),(.str "yes"),(.str "no"),(.str "yes")]),(.tup [(.str "yes"),(.str "yes"),(.str "no"),(.str "no")]),(.tup [(.str "yes"),(.str "yes"),(.str "no"),(.str "yes")]),(.tup [(.str "yes"),(.str "yes"),(.str "yes"),(.str "yes")])]),some (.lst [(.tup [(.str "no"),(.str "yes"),(.str "no"),(.str "no")]),(.tup [(.str "yes"),(.str "yes"),(.str "no"),(.str "yes")])]),some (.tup [(.str "vote"),(.tup [(.tup []),(.tup []),(.tup [(.str "vote"),(.str "yes")]),(.tup [(.str "vote"),(.str "yes")])])]),x9,x10,x11,x12,x13] [o]:=by kernel_rfl
end M
namespace M
open PySem hiding Env
open L2 Ev G
theorem sV_5 (rest:SF) (o:Option MO) (x0 x5 x6 x7 x8 x9 x10 x11 x12 x13:Option T):seg3 (seg4 rest) [x0,some (.loc 0),some (.tup [.str "vote",.str "no",.str "yes"]),some (.tup [.str "vote",.str "yes",.str "no"]),some (.int 5),x5,x6,x7,x8,x9,x10,x11,x12,x13] [o]=rest [x0,some (.loc 0),some (.tup [.str "vote",.str "no",.str "yes"]),some (.tup [.str "vote",.str "yes",.str "no"]),some (.int 5),some (.lst [(.tup [(.str "no"),(.str "no"),(.str "no"),(.str "no")]),(.tup [(.str "no"),(.str "yes"),(.str "no"),(.str "no")]),(.tup [(.str "no"),(.str "yes"),(.str "no"),(.str "yes")]),(.tup [(.str "yes"),(.str "yes"),(.str "no"),(.str "no")])]),some (.lst [(.tup [(.str "no"),(.str "no"),(.str "no"),(.str "no")]),(.tup [(.str "no"),(.str "yes"),(.str "no"),(.str "no")]),(.tup [(.str "no"),(.str "yes"),(.str "no"),(.str "yes")]),(.tup [(.str "yes"),(.str "yes"),(.str "no"),(.str "no")]),(.tup [(.str "yes"),(.str "yes"),(.str "no"),(.str "yes")]),(.tup [(.str "yes"),(.str "yes"),(.str "yes"),(.str "yes")])]),some (.lst [(.tup [(.str "no"),(.str "yes"),(.str "no"),(.str "no")]),(.tup [(.str "yes"),(.str "yes"),(.str "no"),(.str "yes")])]),some (.tup [(.str "vote"),(.tup [(.tup []),(.tup []),(.tup [(.str "vote"),(.str "yes")]),(.tup [(.str "vote"),(.str "yes")]),(.tup [(.str "vote"),(.str "yes")])])]),x9,x10,x11,x12,x13] [o]:=by kernel_rfl
end M
namespace M
open PySem hiding Env
open L2 Ev G
theorem sV_6 (rest:SF) (o:Option MO) (x0 x5 x6 x7 x8 x9 x10 x11 x12 x13:Option T):seg3 (seg4 rest) [x0,some (.loc 0),some (.tup [.str "vote",.str "no",.str "yes"]),some (.tup [.str "vote",.str "yes",.str "no"]),some (.int 6),x5,x6,x7,x8,x9,x10,x11,x12,x13] [o]=rest [x0,some (.loc 0),some (.tup [.str "vote",.str "no",.str "yes"]),some (.tup [.str "vote",.str "yes",.str "no"]),some (.int 6),some (.lst [(.tup [(.str "no"),(.str "no"),(.str "no"),(.str "no")]),(.tup [(.str "no"),(.str "yes"),(.str "no"),(.str "no")]),(.tup [(.str "no"),(.str "yes"),(.str "no"),(.str "yes")]),(.tup [(.str "yes"),(.str "yes"),(.str "no"),(.str "no")])]),some (.lst [(.tup [(.str "no"),(.str "no"),(.str "no"),(.str "no")]),(.tup [(.str "no"),(.str "yes"),(.str "no"),(.str "no")]),(.tup [(.str "no"),(.str "yes"),(.str "no"),(.str "yes")]),(.tup [(.str "yes"),(.str "yes"),(.str "no"),(.str "no")]),(.tup [(.str "yes"),(.str "yes"),(.str "no"),(.str "yes")]),(.tup [(.str "yes"),(.str "yes"),(.str "yes"),(.str "yes")])]),some (.lst [(.tup [(.str "no"),(.str "yes"),(.str "no"),(.str "no")]),(.tup [(.str "yes"),(.str "yes"),(.str "no"),(.str "yes")])]),some (.tup [(.str "vote"),(.tup [(.tup []),(.tup []),(.tup [(.str "vote"),(.str "yes")]),(.tup [(.str "vote"),(.str "yes")]),(.tup [(.str "vote"),(.str "yes")]),(.tup [(.str "vote"),(.str "yes")])])]),x9,x10,x11,x12,x13] [o]:=by kernel_rfl
end M
namespace M
open PySem hiding Env
open L2 Ev G
theorem sV_7 (rest:SF) (o:Option MO) (x0 x5 x6 x7 x8 x9 x10 x11 x12 x13:Option T):seg3 (seg4 rest) [x0,some (.loc 0),some (.tup [.str "vote",.str "no",.str "yes"]),some (.tup [.str "vote",.str "yes",.str "no"]),some (.int 7),x5,x6,x7,x8,x9,x10,x11,x12,x13] [o]=rest [x0,some (.loc 0),some (.tup [.str "vote",.str "no",.str "yes"]),some (.tup [.str "vote",.str "yes",.str "no"]),some (.int 7),some (.lst [(.tup [(.str "no"),(.str "no"),(.str "no"),(.str "no")]),(.tup [(.str "no"),(.str "yes"),(.str "no"),(.str "no")]),(.tup [(.str "no"),(.str "yes"),(.str "no"),(.str "yes")]),(.tup [(.str "yes"),(.str "yes"),(.str "no"),(.str "no")])]),some (.lst [(.tup [(.str "no"),(.str "no"),(.str "no"),(.str "no")]),(.tup [(.str "no"),(.str "yes"),(.str "no"),(.str "no")]),(.tup [(.str "no"),(.str "yes"),(.str "no"),(.str "yes")]),(.tup [(.str "yes"),(.str "yes"),(.str "no"),(.str "no")]),(.tup [(.str "yes"),(.str "yes"),(.str "no"),(.str "yes")]),(.tup [(.str "yes"),(.str "yes"),(.str "yes"),(.str "yes")])]),some (.lst [(.tup [(.str "no"),(.str "yes"),(.str "no"),(.str "no")]),(.tup [(.str "yes"),(.str "yes"),(.str "no"),(.str "yes")])]),some (.tup [(.str "vote"),(.tup [(.tup []),(.tup []),(.tup [(.str "vote"),(.str "yes")]),(.tup [(.str "vote"),(.str "yes")]),(.tup [(.str "vote"),(.str "yes")]),(.tup [(.str "vote"),(.str "yes")]),(.tup [(.str "vote"),(.str "yes")])])]),x9,x10,x11,x12,x13] [o]:=by kernel_rfl
end M
namespace M
open PySem hiding Env
open L2 Ev G
theorem sV_8 (rest:SF) (o:Option MO) (x0 x5 x6 x7 x8 x9 x10 x11 x12 x13:Option T):seg3 (seg4 rest) [x0,some (.loc 0),some (.tup [.str "vote",.str "no",.str "yes"]),some (.tup [.str "vote",.str "yes",.str "no"]),some (.int 8),x5,x6,x7,x8,x9,x10,x11,x12,x13] [o]=rest [x0,some (.loc 0),some (.tup [.str "vote",.str "no",.str "yes"]),some (.tup [.str "vote",.str "yes",.str "no"]),some (.int 8),some (.lst [(.tup [(.str "no"),(.str "no"),(.str "no"),(.str "no")]),(.tup [(.str "no"),(.str "yes"),(.str "no"),(.str "no")]),(.tup [(.str "no"),(.str "yes"),(.str "no"),(.str "yes")]),(.tup [(.str "yes"),(.str "yes"),(.str "no"),(.str "no")])]),some (.lst [(.tup [(.str "no"),(.str "no"),(.str "no"),(.str "no")]),(.tup [(.str "no"),(.str "yes"),(.str "no"),(.str "no")]),(.tup [(.str "no"),(.str "yes"),(.str "no"),(.str "yes")]),(.tup [(.str "yes"),(.str "yes"),(.str "no"),(.str "no")]),(.tup [(.str "yes"),(.str "yes"),(.str "no"),(.str "yes")]),(.tup [(.str "yes"),(.str "yes"),(.str "yes"),(.str "yes")])]),some (.lst [(.tup [(.str "no"),(.str "yes"),(.str "no"),(.str "no")]),(.tup [(.str "yes"),(.str "yes"),(.str "no"),(.str "yes")])]),some (.tup [(.str "vote"),(.tup [(.tup []),(.tup []),(.tup [(.str "vote"),(.str "yes")]),(.tup [(.str "vote"),(.str "yes")]),(.tup [(.str "vote"),(.str "yes")]),(.tup [(.str "vote"),(.str "yes")]),(.tup [(.str "vote"),(.str "yes")]),(.tup [(.str "vote"),(.str "yes")])])]),x9,x10,x11,x12,x13] [o]:=by kernel_rfl
end M
namespace M
open PySem hiding Env
open L2 Ev G
theorem sV_9 (rest:SF) (o:Option MO) (x0 x5 x6 x7 x8 x9 x10 x11 x12 x13:Option T):seg3 (seg4 rest) [x0,some (.loc 0),some (.tup [.str "vote",.str "no",.str "yes"]),some (.tup [.str "vote",.str "yes",.str "no"]),some (.int 9),x5,x6,x7,x8,x9,x10,x11,x12,x13] [o]=rest [x0,some (.loc 0),some (.tup [.str "vote",.str "no",.str "yes"]),some (.tup [.str "vote",.str "yes",.str "no"]),some (.int 9),some (.lst [(.tup [(.str "no"),(.str "no"),(.str "no"),(.str "no")]),(.tup [(.str "no"),(.str "yes"),(.str "no"),(.str "no")]),(.tup [(.str "no"),(.str "yes"),(.str "no"),(.str "yes")]),(.tup [(.str "yes"),(.str "yes"),(.str "no"),(.str "no")])]),some (.lst [(.tup [(.str "no"),(.str "no"),(.str "no"),(.str "no")]),(.tup [(.str "no"),(.str "yes"),(.str "no"),(.str "no")]),(.tup [(.str "no"),(.str "yes"),(.str "no"),(.str "yes")]),(.tup [(.str "yes"),(.str "yes"),(.str "no"),(.str "no")]),(.tup [(.str "yes"),(.str "yes"),(.str "no"),(.str "yes")]),(.tup [(.str "yes"),(.str "yes"),(.str "yes"),(.str "yes")])]),some (.lst [(.tup [(.str "no"),(.str "yes"),(.str "no"),(.str "no")]),(.tup [(.str "yes"),(.str "yes"),(.str "no"),(.str "yes")])]),some (.tup [(.str "vote"),(.tup [(.tup []),(.tup []),(.tup [(.str "vote"),(.str "yes")]),(.tup [(.str "vote"),(.str "yes")]),(.tup [(.str "vote"),(.str "yes")]),(.tup [(.str "vote"),(.str "yes")]),(.tup [(.str "vote"),(.str "yes")]),(.tup [(.str "vote"),(.str "yes")]),(.tup [(.str "vote"),(.str "yes")])])]),x9,x10,x11,x12,x13] [o]:=by kernel_rfl
end M
namespace M
open PySem hiding Env
open L2 Ev G
theorem sC (o:Option MO) (x0 x2 x3 x4 x5 x6 x7 x8 x9 x10 x11 x12 x13:Option T):okRt (seg5 seg6 [x0,some (.loc 0),x2,x3,x4,x5,x6,x7,x8,x9,x10,x11,x12,x13] [o])=true:=by kernel_rfl
end M
namespace M
open PySem hiding Env
open L2 Ev G
noncomputable abbrev tt:T→Mem→Prop:=fun t _=>t= .bl true
theorem law_true (ns:List Int) (_:ns.length≤63):∃ m,F_law [.rls (ns.map T.int)] []= .ok (.bl true) m:=by
 have key:Ok (F_law [.rls (ns.map T.int)] []) tt:=by
  unfold F_law
  rw [B_eq]
  refine bG3 ?_
  walk_at "norm"
  refine aP3 (aTq (qD (aYj rfl (aO8 (aP7 rfl (bD2 fun o hc=>bEl ?_))))))
  walk_at "norm"
  refine aV5 (bCd (aVh (qD (aVh (qD (ok_c (qD (ok_c (qD (ok_c (aO8 (aP6 (EvA0.n rfl) ?_))))))))))))
  refine qD (aVh (qD (ok_c (qD (ok_c (qD (ok_c (aO8 (aP6 (EvA0.n rfl) (aO8 (aP6 (EvA0.n rfl) ⟨_,rfl,?_⟩)))))))))))
  walk_at "norm"
  refine aP3 (bG8 (ok_c (aTq (qD (aYj rfl (qD (ok_c (aO8 (aP7 rfl ?_)))))))))
  refine bHj hc (by decide) (by decide) (by decide) fun d o1 a1 b1 h1=>aYn (bEl ?_)
  walk_at "norm"
  have hc9:d=0∨d=1∨d=2∨d=3∨d=4∨d=5∨d=6∨d=7∨d=8:=by omega
  rcases hc9 with rfl | rfl | rfl | rfl | rfl | rfl | rfl | rfl | rfl
  ·exact(sV_1 _ _ _ _ _ _ _ _ _ _ _ _).symm▸aCd (sC _ _ _ _ _ _ _ _ _ _ _ _ _ _)
  ·exact(sV_2 _ _ _ _ _ _ _ _ _ _ _ _).symm▸aCd (sC _ _ _ _ _ _ _ _ _ _ _ _ _ _)
  ·exact(sV_3 _ _ _ _ _ _ _ _ _ _ _ _).symm▸aCd (sC _ _ _ _ _ _ _ _ _ _ _ _ _ _)
  ·exact(sV_4 _ _ _ _ _ _ _ _ _ _ _ _).symm▸aCd (sC _ _ _ _ _ _ _ _ _ _ _ _ _ _)
  ·exact(sV_5 _ _ _ _ _ _ _ _ _ _ _ _).symm▸aCd (sC _ _ _ _ _ _ _ _ _ _ _ _ _ _)
  ·exact(sV_6 _ _ _ _ _ _ _ _ _ _ _ _).symm▸aCd (sC _ _ _ _ _ _ _ _ _ _ _ _ _ _)
  ·exact(sV_7 _ _ _ _ _ _ _ _ _ _ _ _).symm▸aCd (sC _ _ _ _ _ _ _ _ _ _ _ _ _ _)
  ·exact(sV_8 _ _ _ _ _ _ _ _ _ _ _ _).symm▸aCd (sC _ _ _ _ _ _ _ _ _ _ _ _ _ _)
  ·exact(sV_9 _ _ _ _ _ _ _ _ _ _ _ _).symm▸aCd (sC _ _ _ _ _ _ _ _ _ _ _ _ _ _)
 obtain⟨t,m,e,rfl⟩:=key
 exact⟨m,e⟩
end M
open PySem L2 Ev in
theorem G.law_true:∀ ns:List Int,ns.length≤63→∃ m,G.F_law [.rls (ns.map T.int)] []= .ok (.bl true) m:=M.law_true
open PySem PySem.W PySem.Calls PyProof.Rows
set_option maxRecDepth 100000 in
set_option maxHeartbeats 0 in
theorem PySem.Challenge.cw_partstold_k55_known_rows_holds : PySem.Challenge.rw_partstold_k55_known_rows.Holds := by
 w_on; o_law
 refine HandSHeadRun.head_any (r:=G.hR) (q:=G.hq) (H:=G.hk) (ob:=G.hob) (M:=12000) (loose:=G.bCg) (d:=HandSHeadRun.topDef G.hR.prog 76) (kwd:=[]) G.bGk
  (by kernel_rfl) (fun s=>by kernel_rfl) G.hrun (by kernel_rfl) (by kernel_rfl) (by kernel_rfl) (by rfl) (by first | assumption | decide+kernel) (by decide+kernel) ⟨rfl,rfl,rfl,rfl,rfl,by decide+kernel⟩ ?hw ?hc
 case hw=>w_witness2
 case hc=>exact G.walk (l:=PySem.Challenge.rw_partstold_k55_known_rows) G.law_true rfl (by kernel_rfl) (by kernel_rfl)
