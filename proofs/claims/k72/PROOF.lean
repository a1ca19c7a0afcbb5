import PyProof.Rows.All
import Wide.All
import OpenK.AllK
import Wide.FinOn
import Lean
import PyProof.EqAt
import PyProof.EqKinds
import PyProof.TupleCall
import PyProof.P3Eq
import PyProof.NeData
import PyProof.P3In
import PyProof.Rows.EnumRows
import PyProof.ZipIter
import PySem.Challenge.RW_evenhues_k72_worths
set_option genSizeOf false
set_option genSizeOfSpec false
set_option bootstrap.genMatcherCode false
set_option Elab.async false
set_option linter.all false
set_option maxRecDepth 100000
set_option maxHeartbeats 4000000
section
namespace Hd
open PySem
inductive G where
 |int (i:Int)|str (x:Str)|ctup (ns:List Int)
noncomputable def args(s:Stmt):Arguments:=match s with
 |.FunctionDef _ a _ _ _ _ _ _ _ _=>a
 |_=>{posonlyargs:=[],args:=[],vararg:=none,kwonlyargs:=[],kw_defaults:=[],kwarg:=none,defaults:=[]}
noncomputable def body(s:Stmt):List Stmt:=match s with
 |.FunctionDef _ _ b _ _ _ _ _ _ _=>b
 |_=>[]
noncomputable def scope(s:Stmt):Scope:=match s with
 |.FunctionDef _ _ _ _ _ _ sc _ _ _=>sc
 |_=>{kind:=.function,names:=[],isGenerator:=false,isCoroutine:=false}
noncomputable def posOf(s:Stmt):Pos:=match s with
 |.FunctionDef _ _ _ _ _ _ _ _ _ p=>p
 |_=>⟨0,0,0,0⟩
noncomputable def cb(x:Str)(st:Stmt):DefRec:=⟨x,args st,body st,scope st,posOf st⟩
noncomputable def XO:List Str:=["len","all","any","tuple","list","sorted","repr","max","min","sum","int","isinstance","divmod","str","bool","dict","set","range","enumerate","zip"]
noncomputable def pH:List Value→Option (List Int)
 |[]=>some []
 |.int i _::r=>(pH r).map (i::·)
 |_=>none
noncomputable def nsH(h:Heap)(x:Str):Option (Option Value):=match h.get? mainGlobals with
 |some o=>PySem.W.nsIn [(mainGlobals,o)] mainGlobals x
 |none=>none
noncomputable def Za(fd:FuncData):FuncData:={fd with kwdefaults:=.none,doc:=.none,pyModule:=.none,annotations:=none,code:=.none,closureTuple:=.none}
noncomputable def jA(h:Heap)(cd:Value)(x:Str):Bool:=match cd with
 |.ref c=>(match h.get? c with
  |some o=>PySem.W.codeIn [(c,o)] (.ref c) x
  |none=>false)
 |_=>false
noncomputable def fc(h:Heap)(x:Str):Option FuncData:=match nsH h x with
 |some (some (.ref f))=>(match h.get? f with
  |some ⟨_,_,.func fd,_⟩=>if jA h fd.code x then some (Za fd) else none
  |_=>none)
 |_=>none
noncomputable def dH(p:Str × Stmt):Option FuncData:=some (PySem.W.fnOf p.1 p.1 (args p.2) (body p.2) (scope p.2) .none .none .none .none none .none .none)
noncomputable def glB(h:Heap)(x:Str):G→Bool
 |.int i=>(match nsH h x with|some (some (.int j _))=>decide (i=j)|_=>false)
 |.str y=>(match nsH h x with|some (some (.str z _))=>decide (y=z)|_=>false)
 |.ctup ns=>(match nsH h x with
  |some (some (.ref a))=>(match h.get? a with
   |some ⟨.type n,_,.seq us _,_⟩=>decide (n="tuple")&&decide (us.toList.length≤1000)&&decide (pH us.toList=some ns)
   |_=>false)
  |_=>false)
noncomputable def blB(h:Heap)(x:Str):Bool:=match nsH h x with|some none=>true|_=>false
noncomputable def aF(D:List (Str × Stmt))(gl:List (Str × G))(s:Shared):List (Option FuncData) × Bool:=(D.map fun p=>fc s.heap p.1,gl.all (fun p=>glB s.heap p.1 p.2)&&XO.all fun x=>blB s.heap x)
noncomputable def ZS(D:List (Str × Stmt)):List (Option FuncData) × Bool:=(D.map dH,true)
end Hd
end
section
set_option maxHeartbeats 0
open PySem PySem.W PyProof.Rows
namespace P72
noncomputable def top(i:Nat):Stmt:=PySem.Challenge.pw_evenhues_k72_worths.main.body.getD i (.Pass ⟨0,0,0,0⟩)
noncomputable def D:List (Str × Stmt):=(("is_whole":Str),top 8)::(("are_wholes":Str),top 9)::(("need_whole":Str),top 10)::(("need_size":Str),top 11)::(("need_length":Str),top 12)::(("most_step":Str),top 14)::(("rows_in":Str),top 15)::(("is_one_hue":Str),top 17)::(("other_hand":Str),top 22)::(("has_row":Str),top 23)::(("hand_due":Str),top 24)::(("is_marked":Str),top 25)::(("is_in_turn":Str),top 26)::(("is_stand":Str),top 27)::(("need_stand":Str),top 28)::(("winner":Str),top 29)::(("free_places":Str),top 30)::(("behind_taking":Str),top 31)::(("worth_of":Str),top 34)::(("found_worth":Str),top 35)::(("wished_worth":Str),top 36)::(("best_places":Str),top 37)::(("worth":Str),top 38)::(("best":Str),top 39)::(("line":Str),top 40)::(("_law_cell_at":Str),top 42)::(("_law_pen":Str),top 43)::(("_law_draw":Str),top 44)::(("_law_has":Str),top 45)::(("_law_free":Str),top 46)::(("_law_hand":Str),top 47)::(("_law_put":Str),top 48)::(("_law_played":Str),top 49)::(("_law_text":Str),top 50)::(("_law_worth":Str),top 51)::(("_law_reckoned":Str),top 52)::(("_law_best":Str),top 53)::(("law":Str),top 54)::[]
noncomputable def gl:List (Str × Hd.G):=[("MOST_PLACES",.int 40),("LEAST_SIZE",.int 2),("MOST_SIZE",.int 8),("FREE",.int 0),("HANDS",.ctup [1,2]),("MOST_STAND_PLACES",.int 8),("NEITHER",.int 0)]
noncomputable def q:Program:={PySem.Challenge.pw_evenhues_k72_worths with main:={PySem.Challenge.pw_evenhues_k72_worths.main with body:=[1,2,3,5,6,7,8,9,10,11,12,14,15,17,19,20,21,22,23,24,25,26,27,28,29,30,31,33,34,35,36,37,38,39,40,42,43,44,45,46,47,48,49,50,51,52,53,54].map top}}
noncomputable def dd:DefRec:=Hd.cb "law" (top 54)
theorem left:PySem.W.LeftO PySem.Challenge.rw_evenhues_k72_worths.row.prog q [] (fun s=>PySem.W.recOk PySem.Challenge.rw_evenhues_k72_worths.row.records s) (Hd.aF D gl) (fun _=>Hd.ZS D) 100000:=by
 intro w
 kernel_rfl
theorem ZC:PySem.Challenge.rw_evenhues_k72_worths.wellSaid=true:=by kernel_rfl
theorem cy:PySem.W.defOf q PySem.Challenge.rw_evenhues_k72_worths.row.name=some (dd,[]):=by kernel_rfl
theorem hp:PySem.Challenge.rw_evenhues_k72_worths.row.prog.theDef PySem.Challenge.rw_evenhues_k72_worths.row.name=some (dd.params,dd.body,dd.scope):=by kernel_rfl
theorem hk:PySem.W.kwWritten? dd.params.kwonlyargs dd.params.kw_defaults=some []:=by kernel_rfl
theorem hwr:(!PySem.Challenge.rw_evenhues_k72_worths.row.writes||PySem.Challenge.rw_evenhues_k72_worths.row.records.isEmpty)=true:=by kernel_rfl
theorem ok:(PySem.W.chainsOk q&&PySem.W.opensWell PySem.Challenge.rw_evenhues_k72_worths.row.prog&&(PySem.W.frees PySem.Challenge.rw_evenhues_k72_worths.row.toRowW&&PySem.Challenge.rw_evenhues_k72_worths.row.within.isEmpty))=true:=by kernel_rfl
theorem hdf:dd.params.defaults=[]:=by kernel_rfl
theorem bare:PySem.Challenge.rw_evenhues_k72_worths.row.prog.bare:=⟨rfl,rfl,rfl,rfl,rfl,by decide +kernel⟩
theorem hw:PySem.Challenge.rw_evenhues_k72_worths.row.toRowW.promised:=by w_witness2
end P72
end
section
namespace L2
open PySem PySem.Spec PyProof.Rows
noncomputable abbrev Key:=Sum Int Str
noncomputable def rZ:Key→Value→Bool
 |.inl k,v=>Value.isInt k v
 |.inr x,v=>Value.isStrOf x v
noncomputable def XU(w:World):Key→Int
 |.inl k=>hashInt k
 |.inr x=>hashStr w x
theorem yB:∀{k:Key} {v:Value},rZ k v=true→(∃i t,k=Sum.inl i∧v=Value.int i t)∨(∃x t,k=Sum.inr x∧v=Value.str x t)
 |.inl i,v,h=>by
  obtain⟨t,e⟩:=Value.isInt_shape (k:=i) (v:=v) h
  exact .inl ⟨i,t,rfl,e⟩
 |.inr x,v,h=>by
  obtain⟨t,e⟩:=Value.isStrOf_shape (x:=x) (v:=v) h
  exact .inr ⟨x,t,rfl,e⟩
theorem lR(i:Int)(t:Tok):rZ (.inl i) (.int i t)=true:=by simp[rZ,Value.isInt]
theorem lS(x:Str)(t:Tok):rZ (.inr x) (.str x t)=true:=by simp[rZ,Value.isStrOf]
theorem b0(a b:Int):decide ((Sum.inl a:Key)=Sum.inl b)=(a == b):=by
 by_cases e:a=b
 . subst e;simp
 . have h:¬(Sum.inl a:Key)=Sum.inl b:=fun q=>e (Sum.inl.inj q)
   rw[decide_eq_false h]
   exact(beq_eq_false_iff_ne.mpr e).symm
theorem b5(a b:Str):decide ((Sum.inr a:Key)=Sum.inr b)=decide (a=b):=by
 by_cases e:a=b
 . subst e;simp
 . have h:¬(Sum.inr a:Key)=Sum.inr b:=fun q=>e (Sum.inr.inj q)
   rw[decide_eq_false h,decide_eq_false e]
theorem b3(a:Int)(b:Str):decide ((Sum.inl a:Key)=Sum.inr b)=false:=decide_eq_false (fun q=>nomatch q)
theorem b4(a:Str)(b:Int):decide ((Sum.inr a:Key)=Sum.inl b)=false:=decide_eq_false (fun q=>nomatch q)
noncomputable def ya(prog:Program)(w:World):PySem.KeyKind prog w Key where
 is:=rZ
 hash:=XU w
 inj:=fun v a b ha hb=>by
  rcases yB ha with⟨i,t,rfl,rfl⟩|⟨x,t,rfl,rfl⟩
  . rcases yB hb with⟨j,u,rfl,e⟩|⟨y,u,rfl,e⟩
    . injection e with e1 _;rw[e1]
    . exact nomatch e
  . rcases yB hb with⟨j,u,rfl,e⟩|⟨y,u,rfl,e⟩
    . exact nomatch e
    . injection e with e1 _;rw[e1]
 byValue:=fun k v h=>by
  rcases yB h with⟨i,t,rfl,rfl⟩|⟨x,t,rfl,rfl⟩<;>rfl
 pyHash:=fun hv h=>by
  rcases yB hv with⟨i,t,rfl,rfl⟩|⟨x,t,rfl,rfl⟩
  . exact wpAny_pyHash_int h
  . exact wpAny_pyHash_str h
 eqBool:=fun hu hv h=>by
  rcases yB hu with⟨i,t,rfl,rfl⟩|⟨x,t,rfl,rfl⟩
  . rcases yB hv with⟨j,u,rfl,rfl⟩|⟨y,u,rfl,rfl⟩
    . rw[b0]at h;exact wpAny_eqBool_int h
    . rw[b3]at h;exact SeqAt.EqAt.int_str i t y u _ _ _ _ h
  . rcases yB hv with⟨j,u,rfl,rfl⟩|⟨y,u,rfl,rfl⟩
    . rw[b4]at h;exact SeqAt.EqAt.str_int x t j u _ _ _ _ h
    . rw[b5]at h;exact wpAny_eqBool_str h
 «strs»:=fun k x t v h=>by
  rcases yB h with⟨i,u,rfl,e⟩|⟨y,u,rfl,e⟩
  . exact nomatch e
  . injection e with e1 _
    subst e1
    cases v<;>rfl
theorem pS(prog:Program)(w:World)(i:Int)(t:Tok):(ya prog w).is (.inl i) (.int i t)=true:=lR i t
theorem pT(prog:Program)(w:World)(x:Str)(t:Tok):(ya prog w).is (.inr x) (.str x t)=true:=lS x t
end L2
namespace L2
open PySem PySem.Spec PyProof.Rows
inductive V where
 |non|bl (b:Bool)|int (i:Int)|str (x:Str)|byt (b:Array UInt8)|flt (b:UInt64)|ref (a:Addr)|ty (n:String)
 deriving DecidableEq
noncomputable def RelV:V→Value→Prop
 |.non,u=>u=Value.none
 |.bl b,u=>u=Value.bool b
 |.int i,u=>∃t,u=Value.int i t
 |.str x,u=>∃t,u=Value.str x t
 |.byt b,u=>∃t,u=Value.bytes b t
 |.flt b,u=>∃t,u=Value.float b t
 |.ref a,u=>u=Value.ref a
 |.ty n,u=>u=Value.type n
noncomputable abbrev Vals:List V→List Value→Prop:=Paired RelV
theorem Vals.length{xs:List V}{us:List Value}(r:Vals xs us):xs.length=us.length:=Paired.length r
theorem Vals.get:∀{xs:List V} {us:List Value} {i:Nat} {x:V},Vals xs us→xs[i]?=some x→∃u,us[i]?=some u∧RelV x u
 |_,_,_,_,.nil,e=>by simp at e
 |_,_,0,_,.cons r _,e=>by simp at e;subst e;exact⟨_,rfl,r⟩
 |_,_,i+1,x,.cons _ t,e=>by
  obtain⟨u,h1,h2⟩:=Vals.get (i:=i) (x:=x) t (by simpa using e)
  exact⟨u,by simpa using h1,h2⟩
theorem Vals.set{x:V}{u:Value}(r:RelV x u):∀{xs:List V} {us:List Value} (i:Nat),Vals xs us→Vals (xs.set i x) (us.set i u)
 |_,_,_,.nil=>.nil
 |_,_,0,.cons _ t=>.cons r t
 |_,_,i+1,.cons q t=>.cons q (Vals.set r i t)
theorem Vals.append:∀{xs ys:List V} {us ws:List Value},Vals xs us→Vals ys ws→Vals (xs++ys) (us++ws)
 |_,_,_,_,.nil,s=>s
 |_,_,_,_,.cons r t,s=>.cons r (Vals.append t s)
theorem Vals.take:∀{xs:List V} {us:List Value} (n:Nat),Vals xs us→Vals (xs.take n) (us.take n)
 |_,_,0,_=>.nil
 |_,_,_+1,.nil=>.nil
 |_,_,n+1,.cons r t=>.cons r (Vals.take n t)
theorem Vals.drop:∀{xs:List V} {us:List Value} (n:Nat),Vals xs us→Vals (xs.drop n) (us.drop n)
 |_,_,0,r=>r
 |_,_,_+1,.nil=>.nil
 |_,_,n+1,.cons _ t=>Vals.drop n t
theorem Vals.none_of:∀{xs:List V} {us:List Value} {i:Nat},Vals xs us→xs[i]?=none→us[i]?=none:=fun{xs us i} r e=>by
 have h1:=r.length
 have h2:xs.length≤i:=List.getElem?_eq_none_iff.mp e
 exact List.getElem?_eq_none_iff.mpr (by omega)
noncomputable def tZ:Option V→Option Value→Prop
 |some v,some u=>RelV v u
 |none,none=>True
 |_,_=>False
noncomputable def KV{κ:Type}:List (κ × V)→List (κ × Value)→Prop:=Paired fun(p:κ × V) (q:κ × Value)=>p.1=q.1∧RelV p.2 q.2
noncomputable def kV:Key→V
 |.inl i=>.int i
 |.inr x=>.str x
inductive HO where
 /-- a list -/
 |lst (xs:List V)
 /-- a tuple (never changes) -/
 |tup (xs:List V)
 /-- a dict whose keys are ints and texts;one whose keys are tuples of ints and texts (the empty one is both) -/
 |dK (kvs:List (Key × V))|dT (kvs:List (List Key × V))
 /-- a set of ints: its members,its size -/
 |set (S:Int→Bool) (n:Nat)
 /-- an instance of the class at C,its dict at dx,its attributes -/
 |ins (C dx:Addr) (fs:List (Str × V))
 /-- the dict of the instance at x -/
 |own (x:Addr)
 /-- the dict of an exception -/
 |xd (fs:List (Str × V))
 /-- a bound method,f of x -/
 |met (f x:Addr)
 /-- a range object lo,lo+1,.. below hi -/
 |rng (lo hi:Int)
 /-- a thing that is known to the object (the script;a dict while a loop walks it): read,never written while it is so -/
 |frz (o:Obj) (u:HO)
 /-- a code object's table -/
 |tbl (ps:Array Value)
 /-- any other thing,by what is true of its one object (a def of one's own: SetO a S n:=HO.ext fun h=>..) -/
 |ext (φ:Heap→Prop)
noncomputable abbrev Hp:=Addr→Option HO
def vt(h:Heap)(a:Addr)(items:Array Value):Prop:=∃o,h.get? a=some o∧o.cls=.type "tuple"∧∃n,o.data=.seq items n∧o.dict=none
theorem vt.tup{h:Heap}{a:Addr}{items:Array Value}(x:vt h a items):IsTup h a items:=let ⟨o,e,c,n,d,_⟩:=x;⟨o,e,c,n,d⟩
theorem vt.lt{h:Heap}{a:Addr}{items:Array Value}(x:vt h a items):a<h.objs.size:=let ⟨_,e,_⟩:=x;Heap.lt_size e
theorem vt.new(h:Heap)(items:Array Value):vt (h.push {cls:=.type "tuple",data:=.seq items}) h.objs.size items:=⟨_,Heap.get?_push_size _ rfl,rfl,_,rfl,rfl⟩
noncomputable def upd(H:Hp)(a:Addr)(o:HO):Hp:=fun b=>if b=a then some o else H b
theorem zc{H:Hp}{a:Addr}{o:HO}:upd H a o a=some o:=by unfold upd;rw[if_pos rfl]
theorem zQ{H:Hp}{a b:Addr}{o:HO}(h:b≠a):upd H a o b=H b:=by unfold upd;rw[if_neg h]
theorem dh{H:Hp}{a b:Addr}{o u:HO}(h:H a=some o)(h':H b=some u)(d:o≠u):a≠b:=by
 intro e;subst e;rw[h]at h';exact d (Option.some.inj h')
theorem zU{H:Hp}{a b:Addr}{o:HO}(h:H a=some o)(h':H b=none):a≠b:=by
 intro e;subst e;rw[h]at h';cases h'
section
variable (P:Program)(w:World)
noncomputable def zl(H:Hp)(h:Heap)(a:Addr):HO→Prop
 |.lst xs=>xs.length≤sizeLine∧∃(its:List Value) (n:Nat),Vals xs its∧h.get? a=some {cls:=.type "list",data:=.seq its.toArray n}
 |.tup xs=>xs.length≤sizeLine∧∃its:List Value,Vals xs its∧vt h a its.toArray
 |.dK kvs=>kvs.length≤sizeLine∧(a == sysModules)=false∧∃vs,KV kvs vs∧h.DictOf (ya P w) a vs
 |.dT kvs=>kvs.length≤sizeLine∧(a == sysModules)=false∧∃xs:List (List Key × Addr × Value),
  Paired (fun(p:List Key × V) (q:List Key × Addr × Value)=>p.1=q.1∧H q.2.1=some (.tup (p.1.map kV))∧RelV p.2 q.2.2) kvs xs ∧
  ∃o es ep,h.get? a=some o∧o.ExactDict∧o.data=.dict es ep∧es.toList=xs.map (entryOfKey (tupleKind (ya P w)))∧(xs.map (·.1)).Nodup
 |.set S n=>h.SetOf (intKind P w) a S n
 |.ins C dx fs=>H dx=some (.own a)∧fs.length≤1000∧dx≠a∧h.get? a=some (PySem.W.instObj C dx) ∧
  ∃mA,h.Ns1 dx mA∧(∀f,tZ (fs.lookup f) (mA f))∧PySem.Within mA (fs.map (·.1))
 |.own _=>∃o,h.get? a=some o
 |.xd fs=>∃mA,h.Ns1 a mA∧∀f,tZ (fs.lookup f) (mA f)
 |.rng lo hi=>∃t u v,h.get? a=some {cls:=.type "range",data:=.fields #[.int lo t,.int hi u,.int 1 v]}
 |.frz o u=>h.get? a=some o∧zl H h a u
 |.tbl ps=>h.get? a=some {cls:=.none,data:=.fields ps}
 |.met f x=>h.get? a=some (PySem.W.methodObj (.ref f) (.ref x))
 |.ext φ=>φ h∧(∃o,h.get? a=some o)∧∀h1 h2:Heap,φ h1→(∀o,h1.get? a=some o→h2.get? a=some o)→φ h2
def HOk(H:Hp)(h:Heap):Prop:=∀a o,H a=some o→zl P w H h a o
end
section
variable {P:Program}{w:World}{H H':Hp}{h h':Heap}{a:Addr}{o:HO}
theorem zl.lt(x:zl P w H h a o):a<h.objs.size:=by
 cases o with
 |lst xs=>obtain⟨_,_,_,_,e⟩:=x;exact Heap.lt_size e
 |tup xs=>obtain⟨_,_,_,p⟩:=x;exact p.lt
 |dK kvs=>obtain⟨_,_,_,_,o,_,_,e,_⟩:=x;exact Heap.lt_size e
 |dT kvs=>obtain⟨_,_,_,_,o,_,_,e,_⟩:=x;exact Heap.lt_size e
 |set S n=>obtain⟨o,_,_,_,e,_⟩:=x;exact Heap.lt_size e
 |ins C dx fs=>obtain⟨_,_,_,e,_⟩:=x;exact Heap.lt_size e
 |own y=>obtain⟨_,e⟩:=x;exact Heap.lt_size e
 |xd fs=>obtain⟨_,⟨_,_,_,e,_⟩,_⟩:=x;exact Heap.lt_size e
 |rng lo hi=>obtain⟨_,_,_,e⟩:=x;exact Heap.lt_size e
 |frz ob u=>obtain⟨e,_⟩:=x;exact Heap.lt_size e
 |tbl ps=>exact Heap.lt_size (show h.get? a=some _ from x)
 |met f y=>exact Heap.lt_size (show h.get? a=some _ from x)
 |ext φ=>obtain⟨_,⟨_,e⟩,_⟩:=x;exact Heap.lt_size e
theorem Paired.aA{α β:Type}{F G:α→β→Prop}:∀{l₁:List α} {l₂:List β},Paired F l₁ l₂→(∀a b,F a b→G a b)→Paired G l₁ l₂
 |_,_,.nil,_=>.nil
 |_,_,.cons r t,f=>.cons (f _ _ r) (Paired.aA t f)
theorem zl.kO(x:zl P w H h a o)(k:∀b u,(b=a∨H b=some (.own a))→h.get? b=some u→h'.get? b=some u)
 (ho:∀b,H b=some (.own a)→H' b=some (.own a)) (ht:∀b xs,H b=some (.tup xs)→H' b=some (.tup xs)):zl P w H' h' a o:=by
 induction o with
 |lst xs=>obtain⟨z,its,n,r,e⟩:=x;exact⟨z,its,n,r,k _ _ (.inl rfl) e⟩
 |tup xs=>obtain⟨z,its,r,ob,e,c⟩:=x;exact⟨z,its,r,ob,k _ _ (.inl rfl) e,c⟩
 |dK kvs=>obtain⟨z,y,vs,r,ob,es,ep,e,c⟩:=x;exact⟨z,y,vs,r,ob,es,ep,k _ _ (.inl rfl) e,c⟩
 |dT kvs=>
  obtain⟨z,y,xs,r,ob,es,ep,e,c⟩:=x
  exact⟨z,y,xs,Paired.aA r fun p q z=>⟨z.1,ht _ _ z.2.1,z.2.2⟩,ob,es,ep,k _ _ (.inl rfl) e,c⟩
 |set S n=>obtain⟨ob,es,ep,t,e,c⟩:=x;exact⟨ob,es,ep,t,k _ _ (.inl rfl) e,c⟩
 |ins C dx fs=>
  obtain⟨d,z,ne,e,mA,⟨od,es,ep,e2,c⟩,r⟩:=x
  exact⟨ho _ d,z,ne,k _ _ (.inl rfl) e,mA,⟨od,es,ep,k _ _ (.inr d) e2,c⟩,r⟩
 |own y=>obtain⟨ob,e⟩:=x;exact⟨ob,k _ _ (.inl rfl) e⟩
 |xd fs=>obtain⟨mA,⟨od,es,ep,e,c⟩,r⟩:=x;exact⟨mA,⟨od,es,ep,k _ _ (.inl rfl) e,c⟩,r⟩
 |rng lo hi=>obtain⟨t,u,v,e⟩:=x;exact⟨t,u,v,k _ _ (.inl rfl) e⟩
 |frz ob u ih=>obtain⟨e,q⟩:=x;exact⟨k _ _ (.inl rfl) e,ih q⟩
 |tbl ps=>
  have e:h.get? a=some {cls:=.none,data:=.fields ps}:=x
  show h'.get? a=some {cls:=.none,data:=.fields ps}
  exact k a _ (.inl rfl) e
 |met f y=>
  have e:h.get? a=some (PySem.W.methodObj (.ref f) (.ref y)):=x
  show h'.get? a=some (PySem.W.methodObj (.ref f) (.ref y))
  exact k a _ (.inl rfl) e
 |ext φ=>obtain⟨p,⟨o,e⟩,st⟩:=x;exact⟨st _ _ p fun o q=>k _ _ (.inl rfl) q,⟨o,k _ _ (.inl rfl) e⟩,st⟩
theorem HOk.lt(x:HOk P w H h)(e:H a=some o):a<h.objs.size:=(x a o e).lt
theorem HOk.fresh(x:HOk P w H h)(e:h.objs.size≤a):H a=none:=by
 cases q:H a with
 |none=>rfl
 |some u=>exact absurd (Nat.lt_of_lt_of_le (x.lt q) e) (Nat.lt_irrefl _)
theorem HOk.kept(x:HOk P w H h)(k:∀b u,h.get? b=some u→h'.get? b=some u):HOk P w H h':=fun a o e=>
 (x a o e).kO (fun b u _ q=>k b u q) (fun _ q=>q) fun _ _ q=>q
theorem HOk.laid(x:HOk P w H h)(k:∀b u,h.get? b=some u→h'.get? b=some u)(hp:h.objs.size≤a)(new:zl P w (upd H a o) h' a o):HOk P w (upd H a o) h':=fun b u e=>by
 have hn:=x.fresh hp
 by_cases hb:b=a
 . subst hb;rw[zc]at e;cases e;exact new
 . rw[zQ hb]at e
   exact(x b u e).kO (fun c v _ q=>k c v q) (fun c q=>by rw[zQ (zU q hn)];exact q) fun c xs q=>by rw[zQ (zU q hn)];exact q
end
def Rd(H:Hp)(a:Addr)(u:HO):Prop:=H a=some u∨∃o,H a=some (.frz o u)
theorem Rd.ok{P:Program}{w:World}{H:Hp}{h:Heap}{a:Addr}{u:HO}(r:Rd H a u)(x:HOk P w H h):zl P w H h a u:=by
 rcases r with r|⟨o,r⟩
 . exact x a u r
 . obtain⟨_,q⟩:=x a _ r
   exact q
noncomputable def Mut:Option HO→Prop
 |some (.lst _)=>True
 |some (.dK _)=>True
 |some (.dT _)=>True
 |some (.set _ _)=>True
 |some (.ins _ _ _)=>True
 |some (.ext _)=>True
 |_=>False
section
variable {P:Program}{w:World}{H:Hp}{h h':Heap}{x e:Addr}{o':HO}
theorem HOk.write(ok:HOk P w H h)(mu:Mut (H x))(he:e=x∨H e=some (.own x))(k:∀b u,b≠e→h.get? b=some u→h'.get? b=some u)(heo:∃u,h'.get? e=some u)
 (new:zl P w (upd H x o') h' x o'):HOk P w (upd H x o') h':=fun b u q=>by
 have nown:∀c y,H c=some (.own y)→c≠x:=fun c y r z=>by subst z;rw[r]at mu;exact mu
 have ntup:∀c xs,H c=some (.tup xs)→c≠x:=fun c xs r z=>by subst z;rw[r]at mu;exact mu
 by_cases hb:b=x
 . subst hb;rw[zc]at q;cases q;exact new
 . rw[zQ hb]at q
   by_cases hbe:b=e
   . have q':H b=some (.own x):=by
      rcases he with z|z
      . exact absurd (hbe.trans z) hb
      . rw[hbe];exact z
     rw[q]at q';cases q'
     obtain⟨v,hv⟩:=heo
     exact⟨v,by rw[hbe];exact hv⟩
   . refine(ok b u q).kO (fun c v hc r=>k c v ?_ r) (fun c r=>by rw[zQ (nown c b r)];exact r) fun c xs r=>by rw[zQ (ntup c xs r)];exact r
     rcases hc with rfl|hc
     . exact hbe
     . rintro rfl
       rcases he with z|z
       . exact nown c b hc z
       . rw[hc]at z;cases z;exact hb rfl
end
structure Un(fs ex:List Addr)(H H':Hp)(h h':Heap):Prop where
 keep:∀b o,h.get? b=some o→H b=none→b ∉ fs→b ∉ ex→h'.get? b=some o
 slot:∀b o,h.get? b=some o→H b=none→b∈fs→b ∉ ex→∃sl,h'.get? b=some {o with slots:=sl}
 free:∀b o,h.get? b=some o→H b=none→b ∉ ex→H' b=none
 there:∀b o,h.get? b=some o→b ∉ ex→∃o',h'.get? b=some o'
 tups:∀b xs,H b=some (.tup xs)→H' b=some (.tup xs)
 frzs:∀b o u,H b=some (.frz o u)→H' b=some (.frz o u)
 tbls:∀b ps,H b=some (.tbl ps)→∃more,H' b=some (.tbl (ps++more))
section
variable {fs fs' ex ex':List Addr}{H H1 H2:Hp}{h h1 h2 h':Heap}{a x e:Addr}{o:HO}
theorem Un.any(u:Un fs ex H H1 h h1){b:Addr}{ob:Obj}(q:h.get? b=some ob)(n:H b=none)(hx:b ∉ ex):∃sl,h1.get? b=some {ob with slots:=sl}:=by
 by_cases hb:b∈fs
 . exact u.slot b ob q n hb hx
 . exact⟨ob.slots,u.keep b ob q n hb hx⟩
theorem Un.kept(k:∀b u,h.get? b=some u→h'.get? b=some u):Un fs ex H H h h':=
 ⟨fun b ob q _ _ _=>k b ob q,fun b ob q _ _ _=>⟨ob.slots,k b ob q⟩,fun _ _ _ n _=>n,fun b ob q _=>⟨ob,k b ob q⟩,fun _ _ q=>q,fun _ _ _ q=>q,fun _ ps q=>⟨#[],by rw[q];simp⟩⟩
theorem Un.refl:Un fs ex H H h h:=Un.kept fun _ _ q=>q
theorem Un.laid(k:∀b u,h.get? b=some u→h'.get? b=some u)(hp:h.objs.size≤a)(hn:H a=none):Un fs ex H (upd H a o) h h' where
 keep:=fun b u q _ _ _=>k b u q
 slot:=fun b u q _ _ _=>⟨u.slots,k b u q⟩
 free:=fun b u q n _=>by rw[zQ (Nat.ne_of_lt (Nat.lt_of_lt_of_le (Heap.lt_size q) hp))];exact n
 there:=fun b u q _=>⟨u,k b u q⟩
 tups:=fun b xs q=>by rw[zQ (zU q hn)];exact q
 frzs:=fun b u xs q=>by rw[zQ (zU q hn)];exact q
 tbls:=fun b ps q=>⟨#[],by rw[zQ (zU q hn),q];simp⟩
theorem Un.write(mu:Mut (H x))(he:e=x∨H e=some (.own x))(k:∀b u,b≠e→h.get? b=some u→h'.get? b=some u)(heo:∃u,h'.get? e=some u):Un fs ex H (upd H x o) h h':=by
 have hx:∀b,H b=none→b≠x:=fun b n z=>by subst z;rw[n]at mu;exact mu
 have hb:∀b,H b=none→b≠e:=fun b n z=>by
  subst z
  rcases he with r|r
  . exact hx b n r
  . rw[n]at r;cases r
 have hm:∀b u,H b=some u→¬Mut (some u)→b≠x:=fun b u q nm z=>by subst z;rw[q]at mu;exact nm mu
 refine⟨fun b u q n _ _=>k b u (hb b n) q,fun b u q n _ _=>⟨u.slots,k b u (hb b n) q⟩,fun b u q n _=>by rw[zQ (hx b n)];exact n,fun b u q _=>?_,
  fun b xs q=>by rw[zQ (hm b _ q fun z=>z)];exact q,fun b u xs q=>by rw[zQ (hm b _ q fun z=>z)];exact q,fun b ps q=>⟨#[],by rw[zQ (hm b _ q fun z=>z),q];simp⟩⟩
 by_cases hbe:b=e
 . subst hbe;exact heo
 . exact⟨u,k b u hbe q⟩
end
noncomputable def trk(h:Heap)(H:Hp):List Addr:=(List.range h.objs.size).filter fun a=>(H a).isSome
noncomputable def qV(h:Heap)(H:Hp):Heap:=PySem.W.hideAll h (trk h H)
theorem lI(h:Heap)(H:Hp):(qV h H).objs.size=h.objs.size:=PySem.W.hideAll_size _ _
theorem jU{h:Heap}{H:Hp}{b:Addr}{o:Obj}(e:h.get? b=some o)(n:H b=none):(qV h H).get? b=some o:=
 PySem.W.hideAll_get _ e fun hm=>by
  have q:(H b).isSome=true:=(List.mem_filter.mp hm).2
  rw[n]at q;simp at q
theorem ff{h:Heap}{H:Hp}{b:Addr}{o:Obj}(e:(qV h H).get? b=some o):h.get? b=some o∧H b=none:=by
 have e':h.get? b=some o:=PySem.W.of_hideAll (trk h H) e
 refine⟨e',?_⟩
 cases q:H b with
 |none=>rfl
 |some x=>
  have hm:b∈trk h H:=List.mem_filter.mpr ⟨List.mem_range.mpr (Heap.lt_size e'),by simp[q]⟩
  have z:(qV h H).get? b=none:=PySem.W.hideAll_none (trk h H) hm
  rw[z]at e;cases e
end L2
namespace L2
open PySem PySem.Spec PyProof.Rows
structure Mod(K:PySem.W.Frag)(mg:Str→Option Value)(base:Heap):Prop where
 kin:K.In base
 glob:base.Ns mainGlobals mg
 blt:∃mb,base.Ns builtinsNs mb∧∀x:Str,x≠"__name__"→mb x=bootBuiltins x
 nolimit:base.NoLimit
structure Cx where
 prog:Program
 w:World
 K:PySem.W.Frag
 mg:Str→Option Value
 base:Heap
 A:Around
 N:List Str
 s₀:Shared
 H₀:Hp
 env:Env
 outer:List Env
 stack:List Env
 ex:List Addr
 fn:Str→Bool
 calm:Bool
 pn:List (Addr × Obj)
 xe:Value→Shared→Prop
noncomputable def frs(l:List Env):List Addr:=l.filterMap (·.frame)
noncomputable abbrev Cx.fs(X:Cx):List Addr:=frs X.outer
def Vis(sc:Scope)(x:Str):Prop:=sc.names.lookup x=some .local∨sc.names.lookup x=some .cell∨sc.names.lookup x=some .free
def Loc(sc:Scope)(x:Str):Prop:=sc.names.lookup x=some .local∨sc.names.lookup x=some .cell
def Look(env:Env)(h:Heap)(m:Str→Option Value)(x:Str)(u:Value):Prop:=
 (env.kindOf x=some .local∧m x=some u)∨((env.kindOf x=some .cell∨env.kindOf x=some .free)∧∃c,env.cells.lookup x=some c∧h.IsCell c (some u))
structure Cx.Ok(X:Cx):Prop where
 mod:Mod X.K X.mg X.base
 kind:X.env.scope.kind=.function
 glob:X.env.globals=mainGlobals
 blt:X.env.builtins=builtinsNs
 above:X.s₀.heap.objs.size≤X.env.locals
 inj:∀x y c,X.env.cells.lookup x=some c→X.env.cells.lookup y=some c→x=y
 has:∀x,(X.env.kindOf x=some .cell∨X.env.kindOf x=some .free)→∃c,X.env.cells.lookup x=some c
 cab:∀x c,X.fn x=true→X.env.cells.lookup x=some c→X.s₀.heap.objs.size≤c
 hd:X.calm=true→X.A.handled=none
 frames:X.A.frames=some X.stack
 stk:X.stack=X.outer∨(X.stack=X.env::X.outer∧X.env.frame=some X.env.locals)
 exf:∀b∈X.ex,b≠X.env.locals∧∀x c,X.env.cells.lookup x=some c→c≠b
 bs:∀b o,X.base.get? b=some o→X.s₀.heap.get? b=some o∧X.H₀ b=none
 bsz:X.base.objs.size≤X.s₀.heap.objs.size
 noex:∀b o,X.base.get? b=some o→b ∉ X.ex
 exfs:∀b∈X.ex,b ∉ X.fs
 sC:X.s₀.heap.FunFrames X.base X.outer
 frf:∀b∈X.fs,X.H₀ b=none
structure Inv(X:Cx)(pins:List (Addr × Obj))(σ:List (Option V))(H:Hp)(s:Shared):Prop where
 ok:X.Ok
 os:s.os=X.s₀.os
 bare:AllBare s.gens
 base:Un X.fs X.ex X.H₀ H X.s₀.heap s.heap
 loc:∃m,s.heap.Ns X.env.locals m∧∀(i:Nat) (x:Str) (v:V),X.N[i]?=some x→σ[i]?=some (some v)→Vis X.env.scope x→∃u,RelV v u∧Look X.env s.heap m x u
 cell:∀x c,X.env.cells.lookup x=some c→∃v,s.heap.IsCell c v
 free:H X.env.locals=none
 freeC:∀x c,X.env.cells.lookup x=some c→H c=none
 pin:∀p∈X.pn++pins,s.heap.get? p.1=some p.2∧H p.1=none∧p.1≠X.env.locals∧p.1 ∉ X.fs∧∀v,p.2.data≠.cell v
 hok:HOk X.prog X.w H s.heap
 len:σ.length=X.N.length
section
variable {X:Cx}{pins:List (Addr × Obj)}{σ:List (Option V)}{H H':Hp}{s:Shared}{h':Heap}
theorem Cx.Ok.XW(ok:X.Ok){b:Addr}{o:Obj}(e:X.base.get? b=some o):b ∉ X.fs:=fun hb=>by
 have:=(ok.sC.mem hb).1
 rw[e]at this;cases this
theorem Inv.bs(I:Inv X pins σ H s):∀b o,X.base.get? b=some o→s.heap.get? b=some o∧H b=none:=fun b o e=>
 ⟨I.base.keep b o (I.ok.bs b o e).1 (I.ok.bs b o e).2 (I.ok.XW e) (I.ok.noex b o e),I.base.free b o (I.ok.bs b o e).1 (I.ok.bs b o e).2 (I.ok.noex b o e)⟩
theorem Inv.bk(I:Inv X pins σ H s):∀b o,X.base.get? b=some o→s.heap.get? b=some o:=fun b o e=>(I.bs b o e).1
theorem Inv.mod(I:Inv X pins σ H s):Mod X.K X.mg X.base:=I.ok.mod
theorem Inv.kIn(I:Inv X pins σ H s):X.K.In s.heap:=I.ok.mod.kin.keeps I.bk
theorem Inv.lt(I:Inv X pins σ H s):X.env.locals<s.heap.objs.size:=let ⟨_,hn,_⟩:=I.loc;hn.lt
theorem Inv.sz(I:Inv X pins σ H s):X.s₀.heap.objs.size≤s.heap.objs.size:=Nat.le_trans I.ok.above (Nat.le_of_lt I.lt)
theorem Inv.XX(I:Inv X pins σ H s){a:Addr}(h:s.heap.objs.size≤a):a ∉ X.fs:=fun hb=>by
 obtain⟨_,o,ho,_⟩:=I.ok.sC.mem hb
 exact absurd (Nat.lt_of_lt_of_le (Heap.lt_size ho) (Nat.le_trans I.sz h)) (Nat.lt_irrefl _)
theorem Inv.cne(I:Inv X pins σ H s):∀x c,X.env.cells.lookup x=some c→c≠X.env.locals:=fun x c e z=>by
 obtain⟨v,o,ho,hd⟩:=I.cell x c e
 obtain⟨m,⟨o',es,ep,ho',hd',_⟩,_⟩:=I.loc
 rw[z,ho']at ho;cases ho;rw[hd']at hd;cases hd
theorem Inv.sC(I:Inv X pins σ H s):s.heap.FunFrames X.base X.outer:=by
 have all:∀(l:List Env),(∀b∈frs l,b∈X.fs)→X.s₀.heap.FunFrames X.base l→s.heap.FunFrames X.base l:=by
  intro l
  induction l with
  |nil=>intro _ _;trivial
  |cons env r ih=>
   intro hs hl
   obtain⟨hk,⟨L,o,hf,hn,ho,hd⟩,hr⟩:=hl
   have hL:L∈X.fs:=hs L (by unfold frs;rw[List.filterMap_cons,hf];exact List.mem_cons_self)
   obtain⟨sl,e⟩:=I.base.slot L o ho (I.ok.frf L hL) hL fun z=>I.ok.exfs L z hL
   exact⟨hk,⟨L,_,hf,hn,e,hd⟩,ih (fun b hb=>hs b (by unfold frs;rw[List.filterMap_cons,hf];exact List.mem_cons_of_mem _ hb)) hr⟩
 exact all X.outer (fun _ hb=>hb) I.ok.sC
theorem Inv.stack(I:Inv X pins σ H s):s.heap.FunFrames X.base X.stack:=by
 rcases I.ok.stk with e|⟨e,hf⟩
 . rw[e];exact I.sC
 . rw[e]
   obtain⟨m,hn,_⟩:=I.loc
   refine .cons (by rw[I.ok.kind];decide) hf hn ?_ I.sC
   exact Heap.get?_none_of_le (Nat.le_trans I.ok.bsz I.ok.above)
theorem Inv.nY(I:Inv X pins σ H s):∀b∈frs X.stack,b∈X.env.locals::X.fs:=fun b hb=>by
 rcases I.ok.stk with e|⟨e,hf⟩
 . rw[e]at hb;exact List.mem_cons_of_mem _ hb
 . rw[e]at hb
   unfold frs at hb
   rw[List.filterMap_cons,hf]at hb
   exact hb
theorem Inv.mw(I:Inv X pins σ H s):∀b∈frs X.stack,H b=none:=fun b hb=>by
 rcases List.mem_cons.mp (I.nY b hb) with e|hb
 . rw[e];exact I.free
 . obtain⟨_,o,ho,_⟩:=I.ok.sC.mem hb
   exact I.base.free b o ho (I.ok.frf b hb) fun z=>I.ok.exfs b z hb
theorem Inv.step{g':Array GenState}{t':Nat}{d':Drawn}{ch:List Addr}(I:Inv X pins σ H s)
 (hch:∀b∈ch,(b∈X.ex∨X.s₀.heap.objs.size≤b)∧b≠X.env.locals∧(∀x c,X.env.cells.lookup x=some c→c≠b)∧∀p∈X.pn++pins,p.1≠b)
 (keep:∀b o,b≠X.env.locals→b ∉ X.fs→b ∉ ch→s.heap.get? b=some o→H b=none→h'.get? b=some o)
 (slot:∀b o,b≠X.env.locals→b∈X.fs→b ∉ ch→s.heap.get? b=some o→H b=none→∃sl,h'.get? b=some {o with slots:=sl}) (free:∀b o,b ∉ ch→s.heap.get? b=some o→H b=none→H' b=none)
 (there:∀b o,b ∉ ch→s.heap.get? b=some o→∃o',h'.get? b=some o')
 (tups:∀b xs,H b=some (.tup xs)→H' b=some (.tup xs)) (frzs:∀b o u,H b=some (.frz o u)→H' b=some (.frz o u)) (tbls:∀b ps,H b=some (.tbl ps)→∃more,H' b=some (.tbl (ps++more)))
 (ns:∀m,s.heap.Ns X.env.locals m→h'.Ns X.env.locals m) (hok:HOk X.prog X.w H' h') (hg:AllBare g') :
 Inv X pins σ H' {s with heap:=h',gens:=g',drawn:=d',toks:=t'}:=by
 have neL:∀b o,X.s₀.heap.get? b=some o→b≠X.env.locals:=fun b o e=>Nat.ne_of_lt (Nat.lt_of_lt_of_le (Heap.lt_size e) I.ok.above)
 have neC:∀b o,X.s₀.heap.get? b=some o→b ∉ X.ex→b ∉ ch:=fun b o e hx hb=>by
  rcases (hch b hb).1 with z|z
  . exact hx z
  . exact absurd (Nat.lt_of_lt_of_le (Heap.lt_size e) z) (Nat.lt_irrefl _)
 have cellK:∀x c,X.env.cells.lookup x=some c→∀v,s.heap.IsCell c v→h'.IsCell c v:=fun x c e v ⟨o,ho,hd⟩=>by
  have nch:c ∉ ch:=fun z=>(hch c z).2.2.1 x c e rfl
  by_cases hc:c∈X.fs
  . obtain⟨sl,q⟩:=slot c o (I.cne x c e) hc nch ho (I.freeC x c e)
    exact⟨_,q,hd⟩
  . exact⟨o,keep c o (I.cne x c e) hc nch ho (I.freeC x c e),hd⟩
 refine⟨I.ok,I.os,hg,⟨fun b o e n hb hx=>?_,fun b o e n hb hx=>?_,fun b o e n hx=>?_,fun b o e hx=>?_,fun b xs e=>tups b xs (I.base.tups b xs e),fun b o xs e=>frzs b o xs (I.base.frzs b o xs e),fun b ps e=>?_⟩,?_,fun x c e=>?_,?_,fun x c e=>?_,fun p hp=>?_,hok,I.len⟩
 . exact keep b o (neL b o e) hb (neC b o e hx) (I.base.keep b o e n hb hx) (I.base.free b o e n hx)
 . obtain⟨sl,e1⟩:=I.base.slot b o e n hb hx
   obtain⟨sl',e2⟩:=slot b _ (neL b o e) hb (neC b o e hx) e1 (I.base.free b o e n hx)
   exact⟨sl',e2⟩
 . obtain⟨o',e1⟩:=I.base.there b o e hx
   exact free b o' (neC b o e hx) e1 (I.base.free b o e n hx)
 . obtain⟨o',e1⟩:=I.base.there b o e hx
   exact there b o' (neC b o e hx) e1
 . obtain⟨m1,e1⟩:=I.base.tbls b ps e
   obtain⟨m2,e2⟩:=tbls b _ e1
   exact⟨m1++m2,by rw[e2,Array.append_assoc]⟩
 . obtain⟨m,hn,hl⟩:=I.loc
   refine⟨m,ns m hn,fun i x v e1 e2 e3=>?_⟩
   obtain⟨u,r,l⟩:=hl i x v e1 e2 e3
   refine⟨u,r,?_⟩
   rcases l with l|⟨k,c,e,z⟩
   . exact .inl l
   . exact .inr ⟨k,c,e,cellK x c e _ z⟩
 . obtain⟨v,z⟩:=I.cell x c e
   exact⟨v,cellK x c e v z⟩
 . obtain⟨m,⟨o,_,_,ho,_⟩,_⟩:=I.loc
   exact free _ o (fun z=>(hch _ z).2.1 rfl) ho I.free
 . obtain⟨v,o,ho,hd⟩:=I.cell x c e
   exact free c o (fun z=>(hch c z).2.2.1 x c e rfl) ho (I.freeC x c e)
 . obtain⟨e,n,ne,nf,d⟩:=I.pin p hp
   have nch:p.1 ∉ ch:=fun z=>(hch p.1 z).2.2.2 p hp rfl
   exact⟨keep p.1 p.2 ne nf nch e n,free p.1 p.2 nch e n,ne,nf,d⟩
theorem Inv.un{t':Nat}(I:Inv X pins σ H s)(u:Un X.fs [] H H' s.heap h')(hok:HOk X.prog X.w H' h'):Inv X pins σ H' {s with heap:=h',toks:=t'}:=by
 obtain⟨m,⟨o,es,ep,ho,r⟩,_⟩:=id I.loc
 obtain⟨sl,hL⟩:=u.any ho I.free (by simp)
 exact I.step (g':=s.gens) (d':=s.drawn) (ch:=[]) (fun _ z=>nomatch z) (fun b o _ hb _ e n=>u.keep b o e n hb (by simp)) (fun b o _ hb _ e n=>u.slot b o e n hb (by simp)) (fun b o _ e n=>u.free b o e n (by simp)) (fun b o _ e=>u.there b o e (by simp)) u.tups u.frzs u.tbls (fun m' hm=>by
  obtain⟨o',es',ep',ho',r'⟩:=hm
  rw[ho]at ho';cases ho'
  exact⟨_,es',ep',hL,r'⟩) hok I.bare
theorem Inv.call{g':Array GenState}{t':Nat}{d':Drawn}{ch:List Addr}(I:Inv X pins σ H s)(u:Un (frs X.stack) ch H H' s.heap h')(hok:HOk X.prog X.w H' h')(hg:AllBare g')
 (hch:∀b∈ch,(b∈X.ex∨X.s₀.heap.objs.size≤b)∧b≠X.env.locals∧(∀x c,X.env.cells.lookup x=some c→c≠b)∧∀p∈X.pn++pins,p.1≠b) :
 Inv X pins σ H' {s with heap:=h',gens:=g',drawn:=d',toks:=t'}:=by
 obtain⟨m,⟨o,es,ep,ho,r⟩,_⟩:=id I.loc
 obtain⟨sl,hL⟩:=u.any ho I.free fun z=>(hch _ z).2.1 rfl
 exact I.step (ch:=ch) hch (fun b o hL hb hc e n=>u.keep b o e n (fun z=>(List.mem_cons.mp (I.nY b z)).elim hL hb) hc) (fun b o _ _ hc e n=>u.any e n hc) (fun b o hc e n=>u.free b o e n hc) (fun b o hc e=>u.there b o e hc) u.tups u.frzs u.tbls (fun m' hm=>by
  obtain⟨o',es',ep',ho',r'⟩:=hm
  rw[ho]at ho';cases ho'
  exact⟨_,es',ep',hL,r'⟩) hok hg
theorem Inv.turned{t':Nat}{it:Addr}(I:Inv X pins σ H s)(k:∀b o,b≠it→s.heap.get? b=some o→h'.get? b=some o)(hn:H it=none)(hL:it≠X.env.locals)
 (h1:it∈X.ex∨X.s₀.heap.objs.size≤it) (h2:∀x c,X.env.cells.lookup x=some c→c≠it) (h3:∀p∈X.pn++pins,p.1≠it):Inv X pins σ H {s with heap:=h',toks:=t'}:=by
 have nit:∀b u,H b=some u→b≠it:=fun b u e z=>by rw[z,hn]at e;cases e
 refine I.step (g':=s.gens) (d':=s.drawn) (ch:=[it]) (fun b hb=>?_) (fun b o _ _ hc e _=>k b o (fun z=>hc (by simp[z])) e) (fun b o _ _ hc e _=>⟨o.slots,k b o (fun z=>hc (by simp[z])) e⟩) (fun _ _ _ _ n=>n)
  (fun b o hc e=>⟨o,k b o (fun z=>hc (by simp[z])) e⟩) (fun _ _ e=>e) (fun _ _ _ e=>e) (fun b ps e=>⟨#[],by rw[e];simp⟩) (fun m hm=>?_) (fun b u e=>?_) I.bare
 . have e:b=it:=by simpa using hb
   subst e
   exact⟨h1,hL,h2,h3⟩
 . obtain⟨o,es,ep,ho,r⟩:=hm
   exact⟨o,es,ep,k _ o (Ne.symm hL) ho,r⟩
 . refine(I.hok b u e).kO (fun c v hc q=>k c v ?_ q) (fun _ q=>q) fun _ _ q=>q
   rcases hc with z|z
   . rw[z];exact nit b u e
   . exact nit c _ z
theorem Inv.tok(I:Inv X pins σ H s)(t:Nat):Inv X pins σ H {s with toks:=t}:=I.un (h':=s.heap) (t':=t) Un.refl I.hok
theorem Inv.kept{t':Nat}(I:Inv X pins σ H s)(k:∀b u,s.heap.get? b=some u→h'.get? b=some u):Inv X pins σ H {s with heap:=h',toks:=t'}:=I.un (Un.kept k) (I.hok.kept k)
theorem Inv.laid{a:Addr}{o:HO}{t':Nat}(I:Inv X pins σ H s)(k:∀b u,s.heap.get? b=some u→h'.get? b=some u)(hp:s.heap.objs.size≤a)(new:zl X.prog X.w (upd H a o) h' a o) :
 Inv X pins σ (upd H a o) {s with heap:=h',toks:=t'}:=I.un (Un.laid k hp (I.hok.fresh hp)) (I.hok.laid k hp new)
theorem Inv.write{x e:Addr}{o:HO}{t':Nat}(I:Inv X pins σ H s)(mu:Mut (H x))(he:e=x∨H e=some (.own x))(k:∀b u,b≠e→s.heap.get? b=some u→h'.get? b=some u)(heo:∃u,h'.get? e=some u)
 (new:zl X.prog X.w (upd H x o) h' x o):Inv X pins σ (upd H x o) {s with heap:=h',toks:=t'}:=I.un (Un.write mu he k heo) (I.hok.write mu he k heo new)
theorem Inv.mj{pins':List (Addr × Obj)}(I:Inv X pins σ H s)(h:∀p∈pins',s.heap.get? p.1=some p.2∧H p.1=none∧p.1≠X.env.locals∧p.1 ∉ X.fs∧∀v,p.2.data≠.cell v):Inv X pins' σ H s:=
 ⟨I.ok,I.os,I.bare,I.base,I.loc,I.cell,I.free,I.freeC,fun p hp=>(List.mem_append.mp hp).elim (fun z=>I.pin p (List.mem_append_left _ z)) (h p),I.hok,I.len⟩
theorem pV{N:List Str}(hN:N.Nodup){i j:Nat}{x:Str}(a:N[i]?=some x)(b:N[j]?=some x):i=j:=by
 obtain⟨h1,e1⟩:=List.getElem?_eq_some_iff.mp a
 obtain⟨h2,e2⟩:=List.getElem?_eq_some_iff.mp b
 exact(List.getElem_inj hN).mp (e1.trans e2.symm)
theorem r8{M:Model}{A:Around}{E:Value→Shared→Prop}{i:Nat}{x:Str}{v:V}{u:Value}{Q:Unit→Shared→Prop}(I:Inv X pins σ H s)(hN:X.N.Nodup)(hi:X.N[i]?=some x)(hx:Loc X.env.scope x)(r:RelV v u)
 (h:∀s',Inv X pins (σ.set i (some v)) H s'→(∃a,Heap.SameBut a s.heap s'.heap∧(a=X.env.locals∨X.env.cells.lookup x=some a))→Q () s') (hf:X.fn x=true∨X.env.scope.names.lookup x=some .local:=by first|exact .inl rfl|exact .inr rfl|assumption):wpAny M A (storeName X.env x u) Q E s:=by
 obtain⟨m,hn,hl⟩:=id I.loc
 have hcls:(X.env.scope.kind == .class||(X.env.scope.kind == .module&&X.env.locals != X.env.globals))=false:=by rw[I.ok.kind];rfl
 have hiσ:i<σ.length:=by rw[I.len];exact(List.getElem?_eq_some_iff.mp hi).1
 have cne:=I.cne
 have tracked:∀{a:Addr} {h':Heap},(∃o,s.heap.get? a=some o∧H a=none)→Heap.SameBut a s.heap h'→HOk X.prog X.w H h':=fun{a h'} ha hs b ob e=>by
  obtain⟨_,_,hfree⟩:=ha
  refine(I.hok b ob e).kO (fun c w' hc q=>(hs.2 c ?_).trans q) (fun _ q=>q) fun _ _ q=>q
  rintro rfl
  rcases hc with rfl|hc
  . rw[hfree]at e;cases e
  . rw[hfree]at hc;cases hc
 rcases hx with hk|hk
 . refine wpAny_storeName_local hk hn (fun h' hn' hs=>?_) hcls
   obtain⟨oL,_,_,hoL,_⟩:=id hn
   refine h _ ⟨I.ok,I.os,I.bare,⟨fun b o e n hb hx=>?_,fun b o e n hb hx=>?_,I.base.free,fun b o e hx=>?_,I.base.tups,I.base.frzs,I.base.tbls⟩,⟨_,hn',fun j y v' e1 e2 e3=>?_⟩,fun y c e=>?_,I.free,I.freeC,fun p hp=>?_,tracked ⟨oL,hoL,I.free⟩ hs,by simpa using I.len⟩ ⟨_,hs,.inl rfl⟩
   . exact(hs.2 b (Nat.ne_of_lt (Nat.lt_of_lt_of_le (Heap.lt_size e) I.ok.above))).trans (I.base.keep b o e n hb hx)
   . obtain⟨sl,e1⟩:=I.base.slot b o e n hb hx
     exact⟨sl,(hs.2 b (Nat.ne_of_lt (Nat.lt_of_lt_of_le (Heap.lt_size e) I.ok.above))).trans e1⟩
   . obtain⟨o',e1⟩:=I.base.there b o e hx
     exact⟨o',(hs.2 b (Nat.ne_of_lt (Nat.lt_of_lt_of_le (Heap.lt_size e) I.ok.above))).trans e1⟩
   . by_cases hj:j=i
     . subst hj
       rw[hi]at e1;cases e1
       rw[List.getElem?_set_self hiσ]at e2
       cases e2
       exact⟨u,r,.inl ⟨hk,by simp⟩⟩
     . rw[List.getElem?_set_ne (Ne.symm hj)]at e2
       obtain⟨u',r',q⟩:=hl j y v' e1 e2 e3
       refine⟨u',r',?_⟩
       rcases q with⟨k,e⟩|⟨k,c,e,z⟩
       . refine .inl ⟨k,?_⟩
         have:y≠x:=fun e=>hj (pV hN e1 (e▸hi))
         simp[this,e]
       . exact .inr ⟨k,c,e,z.sameBut hs (cne y c e)⟩
   . obtain⟨w',z⟩:=I.cell y c e
     exact⟨w',z.sameBut hs (cne y c e)⟩
   . obtain⟨e,n,ne,nf,d⟩:=I.pin p hp
     exact⟨(hs.2 p.1 ne).trans e,n,ne,nf,d⟩
 . have hfn:X.fn x=true:=by
    rcases hf with z|z
    . exact z
    . rw[z]at hk;cases hk
   obtain⟨c,hc⟩:=I.ok.has x (.inl hk)
   obtain⟨w',z⟩:=I.cell x c hc
   refine wpAny_storeName_cell I.ok.kind hk hc z (fun h' hc' hs=>?_)
   obtain⟨oc,hoc,hocd⟩:=id z
   refine h {s with heap:=h'} ⟨I.ok,I.os,I.bare,⟨fun b o e n hb hx=>?_,fun b o e n hb hx=>?_,I.base.free,fun b o e hx=>?_,I.base.tups,I.base.frzs,I.base.tbls⟩,⟨m,hn.sameBut hs (Ne.symm (cne x c hc)),fun j y v' e1 e2 e3=>?_⟩,fun y c' e=>?_,I.free,I.freeC,fun p hp=>?_,tracked ⟨oc,hoc,I.freeC x c hc⟩ hs,by simpa using I.len⟩ ⟨c,hs,.inr hc⟩
   . exact(hs.2 b (Nat.ne_of_lt (Nat.lt_of_lt_of_le (Heap.lt_size e) (I.ok.cab x c hfn hc)))).trans (I.base.keep b o e n hb hx)
   . obtain⟨sl,e1⟩:=I.base.slot b o e n hb hx
     exact⟨sl,(hs.2 b (Nat.ne_of_lt (Nat.lt_of_lt_of_le (Heap.lt_size e) (I.ok.cab x c hfn hc)))).trans e1⟩
   . obtain⟨o',e1⟩:=I.base.there b o e hx
     exact⟨o',(hs.2 b (Nat.ne_of_lt (Nat.lt_of_lt_of_le (Heap.lt_size e) (I.ok.cab x c hfn hc)))).trans e1⟩
   . by_cases hj:j=i
     . subst hj
       rw[hi]at e1;cases e1
       rw[List.getElem?_set_self hiσ]at e2
       cases e2
       exact⟨u,r,.inr ⟨.inl hk,c,hc,hc'⟩⟩
     . rw[List.getElem?_set_ne (Ne.symm hj)]at e2
       obtain⟨u',r',q⟩:=hl j y v' e1 e2 e3
       refine⟨u',r',?_⟩
       rcases q with q|⟨k,c',e,z'⟩
       . exact .inl q
       . refine .inr ⟨k,c',e,z'.sameBut hs ?_⟩
         rintro rfl
         exact hj (pV hN e1 (I.ok.inj _ _ _ e hc▸hi))
   . by_cases hcc:c'=c
     . subst hcc;exact⟨_,hc'⟩
     . obtain⟨w2,z2⟩:=I.cell y c' e
       exact⟨w2,z2.sameBut hs hcc⟩
   . obtain⟨e,n,ne,nf,d⟩:=I.pin p hp
     refine⟨(hs.2 p.1 ?_).trans e,n,ne,nf,d⟩
     intro q
     rw[q,hoc]at e
     have q':oc=p.2:=Option.some.inj e
     exact d w' (by rw[←q'];exact hocd)
theorem xT{M:Model}{A:Around}{E:Value→Shared→Prop}{i:Nat}{x:Str}{v:V}{u:Value}{Q:Unit→Shared→Prop}(I:Inv X pins σ H s)(hN:X.N.Nodup)(hi:X.N[i]?=some x)(hx:Loc X.env.scope x)(r:RelV v u)
 (h:∀s',Inv X pins (σ.set i (some v)) H s'→Q () s') (hf:X.fn x=true∨X.env.scope.names.lookup x=some .local:=by first|exact .inl rfl|exact .inr rfl|assumption):wpAny M A (storeName X.env x u) Q E s:=
 r8 I hN hi hx r (fun s' I' _=>h s' I') hf
theorem Inv.Ze{s':Shared}{ch:List Addr}(I:Inv X pins σ H s)(ho:s'.os=s.os)(u:Un (frs X.stack) ch H H' s.heap s'.heap)(hok:HOk X.prog X.w H' s'.heap)(hg:AllBare s'.gens)
 (hch:∀b∈ch,(b∈X.ex∨X.s₀.heap.objs.size≤b)∧b≠X.env.locals∧(∀x c,X.env.cells.lookup x=some c→c≠b)∧∀p∈X.pn++pins,p.1≠b):Inv X pins σ H' s':=by
 obtain⟨h',g',d',t',o'⟩:=s'
 have e:o'=s.os:=ho
 subst e
 exact I.call (g':=g') (t':=t') (d':=d') u hok hg hch
end
noncomputable abbrev XK:=Value→Option Addr→Hp→Prop
noncomputable abbrev St:=List (Option V)
noncomputable abbrev VK:=V→Hp→Prop
noncomputable abbrev TE:=St→Hp→VK→Prop
noncomputable abbrev TT:=St→Hp→(Bool→Hp→Prop)→Prop
noncomputable abbrev TA:=St→Hp→(List V→Hp→Prop)→Prop
structure Ends where
 nx:St→Hp→Prop
 rt:VK
 bk:St→Hp→Prop:=fun _ _=>False
 ct:St→Hp→Prop:=fun _ _=>False
noncomputable abbrev TS:=Ends→St→Hp→Prop
def EP(X:Cx)(pins:List (Addr × Obj))(σ:St)(Q:VK)(u:Value)(s':Shared):Prop:=∃v H',Inv X pins σ H' s'∧RelV v u∧Q v H'
def TP(X:Cx)(pins:List (Addr × Obj))(σ:St)(Q:Bool→Hp→Prop)(b:Bool)(s':Shared):Prop:=∃H',Inv X pins σ H' s'∧Q b H'
def AP(X:Cx)(pins:List (Addr × Obj))(σ:St)(Q:List V→Hp→Prop)(us:List Value)(s':Shared):Prop:=∃vs H',Inv X pins σ H' s'∧Vals vs us∧Q vs H'
def SP(X:Cx)(pins:List (Addr × Obj))(D:Ends)(f:Flow)(s':Shared):Prop:=
 match f with
 |.next=>∃σ' H',Inv X pins σ' H' s'∧D.nx σ' H'
 |.brk=>∃σ' H',Inv X pins σ' H' s'∧D.bk σ' H'
 |.cont=>∃σ' H',Inv X pins σ' H' s'∧D.ct σ' H'
 |.ret u=>∃v σ' H',Inv X pins σ' H' s'∧RelV v u∧D.rt v H'
def PE(X:Cx)(e:Expr)(t:TE):Prop:=
 ∀(pins:List (Addr × Obj)) (s:Shared) (σ:St) (H:Hp) (Q:VK),Inv X pins σ H s→t σ H Q→wpAny (model X.prog X.w) X.A (eval e X.env) (EP X pins σ Q) X.xe s
def PT(X:Cx)(e:Expr)(t:TT):Prop:=
 ∀(pins:List (Addr × Obj)) (s:Shared) (σ:St) (H:Hp) (Q:Bool→Hp→Prop),Inv X pins σ H s→t σ H Q→wpAny (model X.prog X.w) X.A (isTrue e X.env (eval e X.env)) (TP X pins σ Q) X.xe s
def PW(X:Cx)(e:Expr)(t:TT):Prop:=
 ∀(whole:Sem Value) (pins:List (Addr × Obj)) (s:Shared) (σ:St) (H:Hp) (Q:Bool→Hp→Prop),Inv X pins σ H s→t σ H Q→wpAny (model X.prog X.w) X.A (isTrue e X.env whole) (TP X pins σ Q) X.xe s
theorem PW.pt{X:Cx}{e:Expr}{t:TT}(h:PW X e t):PT X e t:=h _
def PA(X:Cx)(es:List Expr)(t:TA):Prop:=
 ∀(pos:Pos) (pins:List (Addr × Obj)) (s:Shared) (σ:St) (H:Hp) (Q:List V→Hp→Prop),Inv X pins σ H s→t σ H Q→wpAny (model X.prog X.w) X.A (spliced (backTo pos (starEach es X.env))) (AP X pins σ Q) X.xe s
def PS(X:Cx)(st:Stmt)(t:TS):Prop:=
 ∀(pins:List (Addr × Obj)) (s:Shared) (σ:St) (H:Hp) (D:Ends),Inv X pins σ H s→t D σ H→wpAny (model X.prog X.w) X.A (exec st X.env) (SP X pins D) X.xe s
def PSs(X:Cx)(st:List Stmt)(t:TS):Prop:=
 ∀(pins:List (Addr × Obj)) (s:Shared) (σ:St) (H:Hp) (D:Ends),Inv X pins σ H s→t D σ H→wpAny (model X.prog X.w) X.A (execs st X.env) (SP X pins D) X.xe s
theorem thn{α:Type}{t:Sem α}{Q Q':α→Shared→Prop}{M:Model}{A:Around}{E:Value→Shared→Prop}{s:Shared}(h:wpAny M A t Q E s)(hQ:∀a s,Q a s→Q' a s):wpAny M A t Q' E s:=wpAny_mono h hQ fun _ _ x=>x
end L2
namespace L2
open PySem PySem.Spec PyProof.Rows
section
variable {X:Cx}
theorem bin{a b:Expr}{ta tb:TE}(ha:PE X a ta)(hb:PE X b tb){pins:List (Addr × Obj)}{s:Shared}{σ:St}{H:Hp}{R:V→V→Hp→Prop}(I:Inv X pins σ H s)(h:ta σ H fun x H1=>tb σ H1 fun y H2=>R x y H2)
 {α:Type} {Q:α→Shared→Prop} {f:Value→Value→Sem α}
 (hf:∀v u s2 x y H2,Inv X pins σ H2 s2→RelV x v→RelV y u→R x y H2→wpAny (model X.prog X.w) X.A (f v u) Q X.xe s2) :
 wpAny (model X.prog X.w) X.A (eval a X.env) (fun v s₁=>wpAny (model X.prog X.w) X.A (eval b X.env) (fun u s₂=>wpAny (model X.prog X.w) X.A (f v u) Q X.xe s₂) X.xe s₁) X.xe s:=by
 refine thn (ha pins s σ H _ I h) fun v s1 ⟨x,H1,I1,r1,q1⟩=>?_
 refine thn (hb pins s1 σ H1 _ I1 q1) fun u s2 ⟨y,H2,I2,r2,q2⟩=>?_
 exact hf v u s2 x y H2 I2 r1 r2 q2
noncomputable def Xu(i:Nat):TE:=fun σ H Q=>∃v,σ[i]?=some (some v)∧Q v H
noncomputable def tC(v:V):TE:=fun _ H Q=>Q v H
theorem ao{i:Nat}{x:Str}{pos:Pos}(hN:X.N[i]?=some x)(hv:Vis X.env.scope x)(hd:(x == ("__debug__":Str))=false:=by decide)(hcd:(x == ("__classdict__":Str))=false:=by decide):PE X (.Name x pos) (Xu i):=by
 intro pins s σ H Q I h
 obtain⟨v,e,h⟩:=h
 obtain⟨m,hn,hl⟩:=I.loc
 obtain⟨u,r,l⟩:=hl i x v hN e hv
 have fin:EP X pins σ Q u s:=⟨v,H,I,r,h⟩
 rcases l with⟨hk,hm⟩|⟨hk,c,hc,hcell⟩
 . exact wpAny_Name (wpAny_loadName_local I.ok.kind hk hn hm fin) hd
 . rcases hk with hk|hk
   . exact wpAny_Name (wpAny_loadName_cell I.ok.kind hk hc hcell fin) hd
   . exact wpAny_Name (wpAny_loadName_free I.ok.kind hk hc hcell fin hcd) hd
theorem ae{i j pos}:PE X (.Constant (.int i) j pos) (tC (.int i)):=fun _ _ _ H _ I h=>wpAny_Constant_int ⟨.int i,H,I.tok _,⟨_,rfl⟩,h⟩
theorem Ya{b j pos}:PE X (.Constant (.bool b) j pos) (tC (.bl b)):=fun _ _ _ H _ I h=>Constant_bool ⟨.bl b,H,I,rfl,h⟩
theorem ag{j pos}:PE X (.Constant .none j pos) (tC .non):=fun _ _ _ H _ I h=>Constant_none ⟨.non,H,I,rfl,h⟩
theorem aj{x j pos}:PE X (.Constant (.str x) j pos) (tC (.str x)):=fun _ _ _ H _ I h=>Calls.Constant_str ⟨.str x,H,I.tok _,⟨_,rfl⟩,h⟩
def Gl(X:Cx)(x:Str):Prop:=X.env.kindOf x=some .globalImplicit
theorem qZ{E:Value→Shared→Prop}{pins:List (Addr × Obj)}{s:Shared}{σ:St}{H:Hp}{x:Str}{u:Value}{pos:Pos}{Q:Value→Shared→Prop}(I:Inv X pins σ H s)(hg:Gl X x)(hm:X.mg x=some u)(h:Q u s)
 (hd:(x == ("__debug__":Str))=false:=by decide):wpAny (model X.prog X.w) X.A (eval (.Name x pos) X.env) Q E s:=
 Calls.Name_function_global I.ok.kind hg (Calls.loadGlobal_global (by rw[I.ok.glob];exact I.mod.glob.keeps I.bk) hm h) hd
theorem uZ{E:Value→Shared→Prop}{pins:List (Addr × Obj)}{s:Shared}{σ:St}{H:Hp}{x:Str}{u:Value}{pos:Pos}{Q:Value→Shared→Prop}(I:Inv X pins σ H s)(hg:Gl X x)(hm:X.mg x=none)(hv:bootBuiltins x=some u)(h:Q u s)
 (hn:x≠"__name__":=by decide) (hd:(x == ("__debug__":Str))=false:=by decide):wpAny (model X.prog X.w) X.A (eval (.Name x pos) X.env) Q E s:=by
 obtain⟨mb,h1,h2⟩:=I.mod.blt
 exact Calls.Name_function_global I.ok.kind hg (Calls.loadGlobal_builtin (by rw[I.ok.glob];exact I.mod.glob.keeps I.bk) hm (by rw[I.ok.blt];exact h1.keeps I.bk) ((h2 x hn).trans hv) h) hd
theorem eF{x:Str}{v:V}{u:Value}{pos:Pos}(hg:Gl X x)(hm:X.mg x=some u)(r:RelV v u)(hd:(x == ("__debug__":Str))=false:=by decide):PE X (.Name x pos) (tC v):=
 fun _ _ _ H _ I h=>qZ I hg hm ⟨v,H,I,r,h⟩ hd
theorem f9{x:Str}{v:V}{u:Value}{pos:Pos}(hg:Gl X x)(hm:X.mg x=none)(hv:bootBuiltins x=some u)(r:RelV v u)(hn:x≠"__name__":=by decide)(hd:(x == ("__debug__":Str))=false:=by decide):PE X (.Name x pos) (tC v):=
 fun _ _ _ H _ I h=>uZ I hg hm hv ⟨v,H,I,r,h⟩ hn hd
variable {a b:Expr}{ta tb:TE}{pos:Pos}
variable {tA tB':TT}{rest:List Expr}
noncomputable def Xo(t:TT):TT:=fun σ H Q=>t σ H fun c H1=>Q (!c) H1
theorem ax(ha:PT X a tA):PT X (.UnaryOp .Not a pos) (Xo tA):=by
 intro pins s σ H Q I h
 exact isTrue_not (ha pins s σ H (fun c H1=>Q (!c) H1) I h)
noncomputable def Y2(ta tb:TE):TE:=fun σ H Q=>ta σ H fun x H1=>∃c,x=.bl c∧if c=true then tb σ H1 Q else Q (.bl false) H1
noncomputable def Y6(ta:TE):TE:=fun σ H Q=>ta σ H fun x H1=>∃c,x=.bl c∧Q (.bl (!c)) H1
theorem nH{op}{t:TE}(h:PE X a t):PE X (.BoolOp op [a] pos) t:=fun pins s σ H Q I hw=>BoolOp_one (h pins s σ H Q I hw)
theorem ab(ha:PE X a ta)(hb:PE X (.BoolOp .And (b::rest) pos) tb):PE X (.BoolOp .And (a::b::rest) pos) (Y2 ta tb):=by
 intro pins s σ H Q I h
 refine BoolOp_and (thn (ha pins s σ H _ I h) fun v s1 ⟨x,H1,I1,r1,q1⟩=>?_)
 obtain⟨c,rfl,q1⟩:=q1
 cases r1
 refine wpAny_truthy_bool ?_
 cases c with
 |true=>exact hb pins s1 σ H1 Q I1 q1
 |false=>exact⟨.bl false,H1,I1,rfl,q1⟩
theorem ah(ha:PE X a ta):PE X (.UnaryOp .Not a pos) (Y6 ta):=by
 intro pins s σ H Q I h
 refine UnaryOp_ (thn (ha pins s σ H _ I h) fun v s1 ⟨x,H1,I1,r1,q1⟩=>?_)
 obtain⟨c,rfl,q1⟩:=q1
 cases r1
 exact not_of (wpAny_truthy_bool ⟨.bl (!c),H1,I1,rfl,q1⟩)
noncomputable def tIf(t:TT)(ta tb:TE):TE:=fun σ H Q=>t σ H fun c H1=>if c=true then ta σ H1 Q else tb σ H1 Q
theorem iW{c:Expr}(hc:PT X c tA)(ha:PE X a ta)(hb:PE X b tb):PE X (.IfExp c a b pos) (tIf tA ta tb):=by
 intro pins s σ H Q I h
 refine wpAny_IfExp (thn (hc pins s σ H _ I h) fun d s1 ⟨H1,I1,q1⟩=>?_)
 cases d with
 |true=>exact ha pins s1 σ H1 Q I1 q1
 |false=>exact hb pins s1 σ H1 Q I1 q1
end
end L2
namespace L2
open PySem PySem.Spec PyProof.Rows
def SqL(K:PySem.W.Frag)(H:Hp)(a:Addr)(xs:List V):Prop:=
 Rd H a (.lst xs) ∨
  ∃(o:Obj) (its:Array Value) (n:Nat),K.lookup a=some o∧o.cls=.type "list"∧o.dict=none∧o.data=.seq its n∧its.size≤sizeLine∧Vals xs its.toList
def SqT(K:PySem.W.Frag)(H:Hp)(a:Addr)(xs:List V):Prop:=
 Rd H a (.tup xs) ∨
  ∃(o:Obj) (its:Array Value) (n:Nat),K.lookup a=some o∧o.cls=.type "tuple"∧o.data=.seq its n∧its.size≤sizeLine∧Vals xs its.toList
noncomputable def XM:Value→Option V
 |.none=>some .non
 |.bool b=>some (.bl b)
 |.int i _=>some (.int i)
 |.str x _=>some (.str x)
 |.bytes b _=>some (.byt b)
 |.float b _=>some (.flt b)
 |.ref a=>some (.ref a)
 |.type n=>some (.ty n)
 |_=>none
theorem RelV.abs{x:V}{u:Value}(r:RelV x u):XM u=some x:=by
 cases x with
 |non=>cases r;rfl
 |bl _=>cases r;rfl
 |int _=>obtain⟨t,rfl⟩:=r;rfl
 |str _=>obtain⟨t,rfl⟩:=r;rfl
 |byt _=>obtain⟨t,rfl⟩:=r;rfl
 |flt _=>obtain⟨t,rfl⟩:=r;rfl
 |ref _=>cases r;rfl
 |ty _=>cases r;rfl
theorem RelV.inj{x y:V}{u:Value}(r:RelV x u)(q:RelV y u):x=y:=Option.some.inj (r.abs.symm.trans q.abs)
theorem Vals.inj:∀{xs ys:List V} {us:List Value},Vals xs us→Vals ys us→xs=ys
 |_,_,_,.nil,.nil=>rfl
 |_,_,_,.cons r t,.cons r' t'=>by rw[r.inj r',Vals.inj t t']
section
variable {X:Cx}{pins:List (Addr × Obj)}{σ:St}{H:Hp}{s:Shared}{a:Addr}{xs ys:List V}
theorem SqL.of{K:PySem.W.Frag}(h:H a=some (.lst xs)):SqL K H a xs:=.inl (.inl h)
theorem SqT.of{K:PySem.W.Frag}(h:H a=some (.tup xs)):SqT K H a xs:=.inl (.inl h)
theorem Inv.list(I:Inv X pins σ H s)(h:SqL X.K H a xs):∃its:List Value,Vals xs its∧PlainL s.heap a its.toArray∧xs.length≤sizeLine:=by
 rcases h with h|⟨o,its,n,hk,hc,hd,hs,hz,r⟩
 . obtain⟨z,its,n,r,e⟩:=h.ok I.hok
   exact⟨its,r,⟨_,n,e,rfl,rfl,rfl⟩,z⟩
 . refine⟨its.toList,r,⟨o,n,I.kIn a o hk,hc,hd,by simpa using hs⟩,?_⟩
   have e:=r.length
   simp only[Array.length_toList]at e
   omega
theorem Inv.tuple(I:Inv X pins σ H s)(h:SqT X.K H a xs):∃its:List Value,Vals xs its∧IsTup s.heap a its.toArray∧xs.length≤sizeLine:=by
 rcases h with h|⟨o,its,n,hk,hc,hs,hz,r⟩
 . obtain⟨z,its,r,p⟩:=h.ok I.hok
   exact⟨its,r,p.tup,z⟩
 . refine⟨its.toList,r,⟨o,I.kIn a o hk,hc,n,by simpa using hs⟩,?_⟩
   have e:=r.length
   simp only[Array.length_toList]at e
   omega
theorem Inv.pQ(I:Inv X pins σ H s)(h:SqL X.K H a xs)(h':SqL X.K H a ys):xs=ys:=by
 obtain⟨its,r,⟨o,n,e,_,_,d⟩,_⟩:=I.list h
 obtain⟨its',r',⟨o',n',e',_,_,d'⟩,_⟩:=I.list h'
 rw[e]at e';cases e'
 rw[d]at d'
 injection d' with d1 _
 have:its=its':=by simpa using congrArg Array.toList d1
 subst this
 exact r.inj r'
theorem Inv.r9(I:Inv X pins σ H s)(h:SqT X.K H a xs)(h':SqT X.K H a ys):xs=ys:=by
 obtain⟨its,r,⟨o,e,_,n,d⟩,_⟩:=I.tuple h
 obtain⟨its',r',⟨o',e',_,n',d'⟩,_⟩:=I.tuple h'
 rw[e]at e';cases e'
 rw[d]at d'
 injection d' with d1 _
 have:its=its':=by simpa using congrArg Array.toList d1
 subst this
 exact r.inj r'
end
noncomputable abbrev Cx.xa(X:Cx)(E:Value→Shared→Prop):Cx:={X with xe:=E}
noncomputable abbrev Cx.nox(X:Cx):Cx:=X.xa fun _ _=>False
theorem Cx.Ok.xa{X:Cx}(ok:X.Ok)(E:Value→Shared→Prop):(X.xa E).Ok:=
 ⟨ok.mod,ok.kind,ok.glob,ok.blt,ok.above,ok.inj,ok.has,ok.cab,ok.hd,ok.frames,ok.stk,ok.exf,ok.bs,ok.bsz,ok.noex,ok.exfs,ok.sC,ok.frf⟩
theorem Cx.Ok.vH{X:Cx}{E:Value→Shared→Prop}(ok:(X.xa E).Ok):X.Ok:=
 ⟨ok.mod,ok.kind,ok.glob,ok.blt,ok.above,ok.inj,ok.has,ok.cab,ok.hd,ok.frames,ok.stk,ok.exf,ok.bs,ok.bsz,ok.noex,ok.exfs,ok.sC,ok.frf⟩
section
variable {X:Cx}{pins:List (Addr × Obj)}{σ:St}{H:Hp}{s:Shared}{E:Value→Shared→Prop}
theorem Inv.xa(I:Inv X pins σ H s)(E:Value→Shared→Prop):Inv (X.xa E) pins σ H s:=⟨I.ok.xa E,I.os,I.bare,I.base,I.loc,I.cell,I.free,I.freeC,I.pin,I.hok,I.len⟩
theorem Inv.vH(I:Inv (X.xa E) pins σ H s):Inv X pins σ H s:=⟨I.ok.vH,I.os,I.bare,I.base,I.loc,I.cell,I.free,I.freeC,I.pin,I.hok,I.len⟩
theorem SP.vH{D:Ends}{f:Flow}{s':Shared}(h:SP (X.xa E) pins D f s'):SP X pins D f s':=by
 cases f with
 |next=>obtain⟨σ',H',I,q⟩:=h;exact⟨σ',H',I.vH,q⟩
 |brk=>obtain⟨σ',H',I,q⟩:=h;exact⟨σ',H',I.vH,q⟩
 |cont=>obtain⟨σ',H',I,q⟩:=h;exact⟨σ',H',I.vH,q⟩
 |ret u=>obtain⟨v,σ',H',I,r,q⟩:=h;exact⟨v,σ',H',I.vH,r,q⟩
theorem PSs.nox{st:List Stmt}{t:TS}(h:PSs X.nox st t):PSs X st t:=fun pins s σ H D I hw=>
 wpAny_mono (h pins s σ H D (I.xa _) hw) (fun _ _ q=>q.vH) fun _ _ z=>False.elim z
end
section
variable {X:Cx}{st:Stmt}{rest:List Stmt}{t u:TS}{e:Expr}{te:TE}{pos:Pos}
noncomputable def Y5:TS:=fun D σ H=>D.nx σ H
noncomputable def Xr(t u:TS):TS:=fun D σ H=>t {D with nx:=u D} σ H
theorem eT:PSs X [] Y5:=fun _ _ σ H _ I h=>wpAny_execs_nil ⟨σ,H,I,h⟩
theorem iq(h1:PS X st t)(h2:PSs X rest u):PSs X (st::rest) (Xr t u):=by
 intro pins s σ H D I h
 refine wpAny_execs_cons (thn (h1 pins s σ H {D with nx:=u D} I h) fun f s1 q=>?_)
 cases f with
 |next=>
  obtain⟨σ',H',I',q⟩:=q
  exact h2 pins s1 σ' H' D I' q
 |ret v=>exact q
 |brk=>exact q
 |cont=>exact q
theorem Inv.quiet{pins:List (Addr × Obj)}{σ:St}{H:Hp}{s:Shared}(I:Inv X pins σ H s):interactive X.env=false:=by simp[interactive,I.ok.kind]
noncomputable def Y4(te:TE):TS:=fun D σ H=>te σ H fun _ H1=>D.nx σ H1
theorem eQ(he:PE X e te)(hs:swapsWith e none pos.line X.env=pure false:=by rfl):PS X (.Expr e pos) (Y4 te):=by
 intro pins s σ H D I h
 exact wpAny_Expr_any (thn (he pins s σ H _ I h) fun v s1 ⟨x,H1,I1,r1,q1⟩=>⟨σ,H1,I1,q1⟩) I.quiet hs
noncomputable def Xq(te:TE):TS:=fun D σ H=>te σ H D.rt
theorem aw(he:PE X e te):PS X (.Return (some e) pos) (Xq te):=by
 intro pins s σ H D I h
 exact wpAny_Return_some (thn (he pins s σ H _ I h) fun v s1 ⟨x,H1,I1,r1,q1⟩=>⟨x,σ,H1,I1,r1,q1⟩)
noncomputable def Xm(c:TT)(t u:TS):TS:=fun D σ H=>c σ H fun b H1=>if b=true then t D σ H1 else u D σ H1
theorem Yj{c:Expr}{a b:List Stmt}{tc:TT}(hc:PT X c tc)(ha:PSs X a t)(hb:PSs X b u):PS X (.If c a b pos) (Xm tc t u):=by
 intro pins s σ H D I h
 refine wpAny_If (thn (hc pins s σ H _ I h) fun d s1 ⟨H1,I1,q1⟩=>?_)
 cases d with
 |true=>exact ha pins s1 σ H1 D I1 q1
 |false=>exact hb pins s1 σ H1 D I1 q1
end
noncomputable abbrev TG:=V→St→Hp→(St→Hp→Prop)→Prop
noncomputable abbrev TGs:=List V→St→Hp→(St→Hp→Prop)→Prop
def PG(X:Cx)(target:Expr)(t:TG):Prop:=
 ∀(pins:List (Addr × Obj)) (s:Shared) (σ:St) (H:Hp) (v:V) (u:Value) (Q:St→Hp→Prop),Inv X pins σ H s→RelV v u→t v σ H Q →
  wpAny (model X.prog X.w) X.A (assign target X.env u) (fun _ s'=>∃σ' H',Inv X pins σ' H' s'∧Q σ' H') X.xe s
def PGs(X:Cx)(ts:List Expr)(t:TGs):Prop:=
 ∀(pins:List (Addr × Obj)) (s:Shared) (σ:St) (H:Hp) (vs:List V) (us:List Value) (Q:St→Hp→Prop),Inv X pins σ H s→Vals vs us→t vs σ H Q →
  wpAny (model X.prog X.w) X.A (assignInOrder ((assignEach ts X.env).map (·.2)) us) (fun _ s'=>∃σ' H',Inv X pins σ' H' s'∧Q σ' H') X.xe s
noncomputable abbrev cQ:=V→V→V→Hp→(Hp→Prop)→Prop
def ZY(X:Cx)(t:cQ):Prop:=
 ∀(pins:List (Addr × Obj)) (s:Shared) (σ:St) (H:Hp) (o i v:V) (ov iv u:Value) (Q:Hp→Prop),Inv X pins σ H s→RelV o ov→RelV i iv→RelV v u→t o i v H Q →
  wpAny (model X.prog X.w) X.A (setItem ov iv u) (fun _ s'=>∃H',Inv X pins σ H' s'∧Q H') X.xe s
noncomputable abbrev TIp:=V→V→Hp→VK→Prop
def PIp(X:Cx)(op:Operator)(t:TIp):Prop:=
 ∀(pins:List (Addr × Obj)) (s:Shared) (σ:St) (H:Hp) (x y:V) (v u:Value) (Q:VK),Inv X pins σ H s→RelV x v→RelV y u→t x y H Q →
  wpAny (model X.prog X.w) X.A (inplaceOp op v u) (EP X pins σ Q) X.xe s
section
variable {X:Cx}{pos:Pos}
noncomputable def w4(i:Nat):TG:=fun v σ H Q=>Q (σ.set i (some v)) H
theorem eJ{i:Nat}{x:Str}(hN:X.N.Nodup)(hi:X.N[i]?=some x)(hx:Loc X.env.scope x)(hf:X.fn x=true∨X.env.scope.names.lookup x=some .local:=by first|exact .inl rfl|exact .inr rfl|assumption):PG X (.Name x pos) (w4 i):=by
 intro pins s σ H v u Q I r h
 exact wpAny_assign_Name (xT I hN hi hx r (fun s' I'=>⟨_,H,I',h⟩) hf)
noncomputable def Zj:TGs:=fun vs σ H Q=>vs=[]∧Q σ H
noncomputable def dZ(t:TG)(u:TGs):TGs:=fun vs σ H Q=>∃v r,vs=v::r∧t v σ H fun σ' H'=>u r σ' H' Q
theorem eK:PGs X [] Zj:=by
 intro pins s σ H vs us Q I r h
 obtain⟨e,h⟩:=h
 subst e
 cases r
 exact assignInOrder_nil ⟨σ,H,I,h⟩
theorem iY{e:Expr}{es:List Expr}{t:TG}{u:TGs}(h1:PG X e t)(h2:PGs X es u)
 (hs:(assignEach (e::es) X.env).map (·.2)=assign e X.env::(assignEach es X.env).map (·.2):=by rfl):PGs X (e::es) (dZ t u):=by
 intro pins s σ H vs us Q I r h
 obtain⟨v,vr,e1,h⟩:=h
 subst e1
 cases r with
 |cons r rr=>
  rw[hs]
  refine assignInOrder_cons (thn (h1 pins s σ H _ _ _ I r h) fun _ s1 ⟨σ1,H1,I1,q1⟩=>?_)
  exact h2 pins s1 σ1 H1 _ _ Q I1 rr q1
noncomputable def Zl(K:PySem.W.Frag)(n:Nat)(t:TGs):TG:=fun v σ H Q=>∃a xs,v=.ref a∧SqT K H a xs∧xs.length=n∧t xs σ H Q
theorem ue{es:List Expr}{k:Nat}{t:TGs}{n:Nat}(hc:X.calm=true)(h:PGs X es t)
 (hn:(assignEach es X.env).length=n:=by rfl) (hst:(assignEach es X.env).findIdx? (·.1)=none:=by rfl):PG X (.Tuple es k pos) (Zl X.K n t):=by
 intro pins s σ H v u Q I r hw
 obtain⟨a,xs,e1,hq,hl,hw⟩:=hw
 subst e1
 cases r
 obtain⟨its,rv,ht,hz⟩:=I.tuple hq
 refine assign_Tuple_tuple (I.ok.hd hc) ht (by simp[hn,←hl,rv.length]) hst fun h' hx=>?_
 have I1:Inv X pins σ H {s with heap:=h'}:=I.kept (t':=s.toks) fun b o e=>hx b o (Nat.ne_of_lt (Heap.lt_size e)) e
 exact h pins _ σ H xs _ Q I1 (by simpa using rv) hw
noncomputable def Zk(to ti:TE)(t:cQ):TG:=fun v σ H Q=>to σ H fun o H1=>ti σ H1 fun i H2=>t o i v H2 fun H3=>Q σ H3
theorem aq{o i:Expr}{to ti:TE}{t:cQ}(ho:PE X o to)(hi:PE X i ti)(hs:ZY X t)
 (ha:∀v,assign (.Subscript o i pos) X.env v=(do
  let ov ←holding [v] (eval o X.env)
  let iv ←holding [v,ov] (eval i X.env)
  standAt pos
  holding [v,ov,iv] (setItem ov iv v)
  release [v,ov,iv] []):=by intro _;rfl):PG X (.Subscript o i pos) (Zk to ti t):=by
 intro pins s σ H v u Q I r h
 rw[ha]
 refine wpAny_bind (wpAny_holding (thn (ho pins s σ H _ I h) fun ov s1 ⟨x,H1,I1,r1,q1⟩=>?_))
 refine wpAny_bind (wpAny_holding (thn (hi pins s1 σ H1 _ I1 q1) fun iv s2 ⟨y,H2,I2,r2,q2⟩=>?_))
 refine wpAny_bind (wpAny_standAt (wpAny_bind (wpAny_holding (thn (hs pins s2 σ H2 x y v ov iv u _ I2 r1 r2 r q2) fun _ s3 ⟨H3,I3,q3⟩=>?_))))
 exact wpAny_release ⟨σ,H3,I3,q3⟩
noncomputable def rH(te:TE)(g:TG):TS:=fun D σ H=>te σ H fun x H1=>g x σ H1 D.nx
theorem ij{tg e:Expr}{te:TE}{g:TG}(he:PE X e te)(hg:PG X tg g)(hs:swapsWithSole [tg] e pos.line X.env=pure false:=by rfl)(hw:swappedStores [tg] e X.env=pure none:=by rfl)
 (h1:(assignEach [tg] X.env).map (·.2)=[assign tg X.env]:=by rfl):PS X (.Assign [tg] e pos) (rH te g):=by
 intro pins s σ H D I h
 refine wpAny_Assign_stores (thn (he pins s σ H _ I h) fun v s1 ⟨x,H1,I1,r1,q1⟩=>?_) hs hw
 rw[h1]
 exact thn (hg pins s1 σ H1 x v _ I1 r1 q1) fun _ s2 q=>q
theorem nN{i:Nat}{x:Str}{e:Expr}{te:TE}{pos':Pos}(hN:X.N.Nodup)(hi:X.N[i]?=some x)(hx:Loc X.env.scope x)(he:PE X e te)(hs:swapsWith e (some (.Name x pos')) pos.line X.env=pure false:=by rfl)(hf:X.fn x=true∨X.env.scope.names.lookup x=some .local:=by first|exact .inl rfl|exact .inr rfl|assumption) :
 PS X (.Assign [.Name x pos'] e pos) (rH te (w4 i)):=by
 intro pins s σ H D I h
 refine wpAny_Assign_Name (thn (he pins s σ H _ I h) fun v s1 ⟨y,H1,I1,r1,q1⟩=>?_) hs
 exact xT I1 hN hi hx r1 (fun s2 I2=>⟨_,H1,I2,q1⟩) hf
noncomputable def Y8(i j:Nat)(ta:TA):TS:=fun D σ H=>ta σ H fun vs H1=>∃v w,vs=[v,w]∧D.nx ((σ.set i (some v)).set j (some w)) H1
theorem av{i j:Nat}{x y:Str}{a b:Expr}{ta:TA}{px py pt:Pos}{kt k2 pt2}(hc:X.calm=true)(hN:X.N.Nodup)(hi:X.N[i]?=some x)(hj:X.N[j]?=some y)(hij:i≠j)
 (hx:X.env.scope.names.lookup x=some .local) (hy:X.env.scope.names.lookup y=some .local) (ha:PA X [a,b] ta)
 (hw:swappedStores [.Tuple [.Name x px,.Name y py] kt pt] (.Tuple [a,b] k2 pt2) X.env=pure (some [x,y]))
 (hs:swapsWithSole [.Tuple [.Name x px,.Name y py] kt pt] (.Tuple [a,b] k2 pt2) pos.line X.env=pure false:=by rfl) :
 PS X (.Assign [.Tuple [.Name x px,.Name y py] kt pt] (.Tuple [a,b] k2 pt2) pos) (Y8 i j ta):=by
 intro pins s σ H D I h
 rw[exec_Assign_arm]
 refine wpAny_bind (wpAny_standAt ?_)
 rw[hs]
 refine wpAny_bind (wpAny_pure ?_)
 rw[if_neg (by decide)]
 refine wpAny_bind (Tuple_ (thn (ha _ pins s σ H _ I h) fun us s1 ⟨vs,H1,I1,r1,q1⟩=>?_))
 obtain⟨v,w,e1,q1⟩:=q1
 subst e1
 obtain⟨u1,u2,rfl,rv,rw'⟩:∃u1 u2,us=[u1,u2]∧RelV v u1∧RelV w u2:=by
  cases r1 with
  |cons p q=>
   cases q with
   |cons p' q'=>
    cases q'
    exact⟨_,_,rfl,p,p'⟩
 refine wpAny_newObj_type ?_ (by show 2≤sizeLine;decide)
 have I2:Inv X pins σ H1 {s1 with heap:=s1.heap.push {cls:=.type "tuple",data:=.seq [u1,u2].toArray}}:=I1.kept (t':=s1.toks) fun b o e=>Heap.get?_push_of_some _ e
 rw[hw]
 refine wpAny_bind (wpAny_pure ?_)
 show wpAny (model X.prog X.w) X.A (do rule "assign.swapped-stores";let items ←unpackItems (.ref s1.heap.objs.size) 2 none;assignInOrder [fun v=>bindName X.env y v,fun v=>bindName X.env x v] items.reverse;pure Flow.next) _ _ _
 refine wpAny_bind (wpAny_rule (wpAny_bind (unpackItems_tuple (items:=#[u1,u2]) (I.ok.hd hc) (IsTup.new s1.heap _) fun h' hx'=>?_)))
 have I3:=I2.kept (h':=h') (t':=s1.toks) fun b o e=>hx' b o (Nat.ne_of_lt (Heap.lt_size e)) e
 show wpAny _ _ (assignInOrder [fun v=>bindName X.env y v,fun v=>bindName X.env x v] [u2,u1] >>= fun _=>pure Flow.next) _ _ _
 refine wpAny_bind (assignInOrder_cons (wpAny_bindName (xT I3 hN hj (.inl hy) rw' (fun s2 I4=>?_) (.inr hy))))
 refine assignInOrder_cons (wpAny_bindName (xT I4 hN hi (.inl hx) rv (fun s3 I5=>assignInOrder_nil (wpAny_pure ?_)) (.inr hx)))
 rw[List.set_comm _ _ (Ne.symm hij)]at I5
 exact⟨_,H1,I5,q1⟩
noncomputable def Xj(i:Nat)(te:TE)(ti:TIp):TS:=fun D σ H=>∃x,σ[i]?=some (some x)∧te σ H fun y H1=>ti x y H1 fun z H2=>D.nx (σ.set i (some z)) H2
theorem ik{i:Nat}{x:Str}{e:Expr}{te:TE}{op:Operator}{ti:TIp}{pos':Pos}(hN:X.N.Nodup)(hi:X.N[i]?=some x)(hx:Loc X.env.scope x)(he:PE X e te)(ho:PIp X op ti)(hf:X.fn x=true∨X.env.scope.names.lookup x=some .local:=by first|exact .inl rfl|exact .inr rfl|assumption) :
 PS X (.AugAssign (.Name x pos') op e pos) (Xj i te ti):=by
 intro pins s σ H D I h
 obtain⟨v,e1,h⟩:=h
 obtain⟨m,hn,hl⟩:=I.loc
 have vis:Vis X.env.scope x:=by rcases hx with k|k;exact .inl k;exact .inr (.inl k)
 obtain⟨u,r,l⟩:=hl i x v hi e1 vis
 refine wpAny_AugAssign_Name ?_
 have go:wpAny (model X.prog X.w) X.A (eval e X.env) (fun w s₂=>wpAny (model X.prog X.w) X.A (inplaceOp op u w) (fun r s₃=>wpAny (model X.prog X.w) X.A (storeName X.env x r) (fun _=>SP X pins D .next) X.xe s₃) X.xe s₂) X.xe s:=by
  refine thn (he pins s σ H _ I h) fun w s1 ⟨y,H1,I1,r1,q1⟩=>?_
  refine thn (ho pins s1 σ H1 v y u w _ I1 r r1 q1) fun z s2 ⟨zv,H2,I2,r2,q2⟩=>?_
  exact xT I2 hN hi hx r2 (fun s3 I3=>⟨_,H2,I3,q2⟩) hf
 rcases l with⟨hk,hm⟩|⟨hk,c,hc,hcell⟩
 . exact wpAny_loadName_local I.ok.kind hk hn hm go
 . rcases hk with hk|hk
   . exact wpAny_loadName_cell I.ok.kind hk hc hcell go
   . rcases hx with k|k
     . have:X.env.scope.names.lookup x=some .free:=hk
       rw[k]at this;cases this
     . have:X.env.scope.names.lookup x=some .free:=hk
       rw[k]at this;cases this
end
section
variable {X:Cx}{pos:Pos}
noncomputable def gO(c:TT)(tb:TS):TS:=fun D σ H=>∃W:Nat→St→Hp→Prop,(∃m,W m σ H)∧∀m σ H,W m σ H →
 c σ H fun b H1=>if b=true then ∃N:St→Hp→Prop,(∀σ' H',N σ' H'→∃m',m'<m∧W m' σ' H')∧tb {D with nx:=N,ct:=N,bk:=D.nx} σ H1 else D.nx σ H1
theorem ip{c:Expr}{body:List Stmt}{tc:TT}{tb:TS}(hp:PassesOwn (model X.prog X.w) X.A X.env X.xe)(hc:PT X c tc)(hb:PSs X body tb):PS X (.While c body [] pos) (gO tc tb):=by
 intro pins s σ H D I h
 obtain⟨W,⟨m0,w0⟩,turn⟩:=h
 refine wpAny_While (codeAny_whileLoop (fun n s'=>∃σ' H',Inv X pins σ' H' s'∧W n σ' H') ?_ m0 ⟨σ,H,I,w0⟩)
 rintro n s1 ⟨σ1,H1,I1,w1⟩
 refine wpAny_passesOwn hp (thn (hc pins s1 σ1 H1 _ I1 (turn n σ1 H1 w1)) fun b s2 ⟨H2,I2,q2⟩=>?_)
 cases b with
 |true=>
  obtain⟨N,hN,q2⟩:=q2
  rw[if_pos rfl]
  refine wpAny_passesOwn hp (thn (hb pins s2 σ1 H2 _ I2 q2) fun f s3 q3=>?_)
  cases f with
  |next=>
   obtain⟨σ3,H3,I3,n3⟩:=q3
   obtain⟨m',hm,w3⟩:=hN σ3 H3 n3
   exact⟨m',hm,σ3,H3,I3,w3⟩
  |cont=>
   obtain⟨σ3,H3,I3,n3⟩:=q3
   obtain⟨m',hm,w3⟩:=hN σ3 H3 n3
   exact⟨m',hm,σ3,H3,I3,w3⟩
  |brk=>exact q3
  |ret v=>exact q3
 |false=>
  rw[if_neg Bool.false_ne_true]
  exact wpAny_execs_nil ⟨σ1,H2,I2,q2⟩
end
structure It where
 go:Nat→Hp→Prop
 yld:Nat→Hp→V→Hp→Prop
 stop:Nat→Hp→Prop
def vS(X:Cx)(pins:List (Addr × Obj))(H:Hp)(b:Addr):Prop:=
 H b=none∧b≠X.env.locals∧b ∉ X.fs∧(b∈X.ex∨X.s₀.heap.objs.size≤b)∧(∀x c,X.env.cells.lookup x=some c→c≠b)∧∀p∈X.pn++pins,p.1≠b
theorem Inv.g7{X:Cx}{pins:List (Addr × Obj)}{σ:St}{H H':Hp}{s:Shared}{b:Addr}(I:Inv X pins σ H s)(hb:s.heap.objs.size≤b)(hn:H' b=none):vS X pins H' b:=by
 refine⟨hn,Nat.ne_of_gt (Nat.lt_of_lt_of_le I.lt hb),I.XX hb,.inr (Nat.le_trans I.sz hb),fun x c e z=>?_,fun p hp z=>?_⟩
 . obtain⟨v,q⟩:=I.cell x c e
   exact absurd (Nat.lt_of_lt_of_le q.lt (by rw[z];exact hb)) (Nat.lt_irrefl _)
 . exact absurd (Nat.lt_of_lt_of_le (Heap.lt_size (I.pin p hp).1) (by rw[z];exact hb)) (Nat.lt_irrefl _)
structure Turn(P:Program)(w:World)(K:PySem.W.Frag)(tg:Expr)(J:It)(fp:List Addr)(it:Addr)(tn:Nat→Heap→Prop):Prop where
 mem:it∈fp
 obj:∀i h,tn i h→∀b∈fp,∃o,h.get? b=some o∧∀v,o.data≠.cell v
 keep:∀i h h',tn i h→(∀b∈fp,∀o,h.get? b=some o→h'.get? b=some o)→tn i h'
 item:∀(X:Cx),X.prog=P→X.w=w→X.K=K→X.calm=true→∀(i:Nat) (pins:List (Addr × Obj)) (s:Shared) (σ:St) (H:Hp) (E:Value→Shared→Prop),Inv X pins σ H s→(∀b∈fp,vS X pins H b)→tn i s.heap→J.go i H →
  wpAny (model P w) X.A (pyNext (.ref it)) (fun r s1=>∃u,r=some u ∧
   wpAny (model P w) X.A (letOwnedTupleGo tg (.ref it) u) (fun _ s2=>∃x H',Inv X pins σ H' s2∧RelV x u∧J.yld i H x H'∧tn (i+1) s2.heap∧∀b∈fp,H' b=none) E s1) E s
 done:∀(X:Cx),X.prog=P→X.w=w→X.K=K→X.calm=true→∀(i:Nat) (pins:List (Addr × Obj)) (s:Shared) (σ:St) (H:Hp) (E:Value→Shared→Prop),Inv X pins σ H s→(∀b∈fp,vS X pins H b)→tn i s.heap→J.stop i H →
  wpAny (model P w) X.A (pyNext (.ref it)) (fun r s1=>r=none∧Inv X pins σ H s1) E s
 self:∀(A:Around) (i:Nat) (s:Shared) (Q:Value→Shared→Prop) (E:Value→Shared→Prop),tn i s.heap→Q (.ref it) s→wpAny (model P w) A (pyIter (.ref it)) Q E s
noncomputable abbrev TI:=St→Hp→(It→Hp→Prop)→Prop
def PIE(X:Cx)(pins:List (Addr × Obj))(σ:St)(tg:Expr)(R:It→Hp→Prop)(itv:Value)(s2:Shared):Prop:=
 ∃(it:Addr) (fp:List Addr) (tn:Nat→Heap→Prop) (J:It) (H':Hp),itv=.ref it∧Inv X pins σ H' s2∧Turn X.prog X.w X.K tg J fp it tn∧tn 0 s2.heap∧(∀b∈fp,vS X pins H' b)∧R J H'
def PI(X:Cx)(tg iter:Expr)(wi:TI):Prop:=
 ∀(pins:List (Addr × Obj)) (s:Shared) (σ:St) (H:Hp) (R:It→Hp→Prop),Inv X pins σ H s→wi σ H R →
  wpAny (model X.prog X.w) X.A (eval iter X.env) (fun v s1=>wpAny (model X.prog X.w) X.A (pyIter v) (PIE X pins σ tg R) X.xe s1) X.xe s
theorem jT{M:Model}{A:Around}{E:Value→Shared→Prop}{s:Shared}{tg:Expr}{it:Addr}{u:Value}{o:Obj}{n:String}{vs:Array Value}{Q:Unit→Shared→Prop}(ho:s.heap.get? it=some o)(hc:o.cls=.type n)(hd:o.data=.fields vs)
 (hn:["enumerate","zip","dict_itemiterator","dict_reverseitemiterator","odict_iterator","itertools.zip_longest","itertools.pairwise"].contains n=false) (hQ:Q () s):wpAny M A (letOwnedTupleGo tg (.ref it) u) Q E s:=by
 unfold letOwnedTupleGo
 cases tg<;>first
  |exact wpAny_pure hQ
  |(cases u<;>first
   |exact wpAny_pure hQ
   |(refine wpAny_bind (wpAny_load ho ?_)
     rw[hc,hd]
     show wpAny M A (if (["enumerate","zip","dict_itemiterator","dict_reverseitemiterator","odict_iterator","itertools.zip_longest","itertools.pairwise"].contains n&&vs[0]? == some (rawInt _))=true then _ else _) Q E s
     rw[if_neg (by intro h;rw[hn,Bool.false_and]at h;cases h)]
     exact wpAny_pure hQ))
noncomputable def Itl(K:PySem.W.Frag)(a:Addr):It:=
 ⟨fun i H=>∃xs x,SqL K H a xs∧xs[i]?=some x,fun i H x H'=>H'=H∧∀xs,SqL K H a xs→xs[i]?=some x,fun i H=>∃xs,SqL K H a xs∧xs.length≤i⟩
noncomputable def Itt(K:PySem.W.Frag)(a:Addr):It:=
 ⟨fun i H=>∃xs x,SqT K H a xs∧xs[i]?=some x,fun i H x H'=>H'=H∧∀xs,SqT K H a xs→xs[i]?=some x,fun i H=>∃xs,SqT K H a xs∧xs.length≤i⟩
noncomputable def Itr(lo:Int)(n:Nat):It:=⟨fun i _=>i<n,fun i H x H'=>H'=H∧x=.int (lo+i),fun i _=>n≤i⟩
theorem kR{P:Program}{w:World}{K:PySem.W.Frag}{tg:Expr}(a it:Addr):Turn P w K tg (Itl K a) [it] it (fun i h=>h.IsListIter it a i) where
 mem:=by simp
 obj:=fun i h st b hb=>by
  have e:b=it:=by simpa using hb
  subst e
  obtain⟨o,e,c,d⟩:=st
  exact⟨o,e,fun v z=>by rw[d]at z;cases z⟩
 keep:=fun i h h' st k=>st.at fun o e=>k it (by simp) o e
 item:=by
  intro X hP hw hK hc i pins s σ H E I hf st hg
  subst hP hw hK
  obtain⟨xs,x,hq,hx⟩:=hg
  obtain⟨its,rv,p,hz⟩:=I.list hq
  obtain⟨u,hu,ru⟩:=rv.get hx
  obtain⟨f0,f1,f2,f3,f4,f5⟩:=hf it (by simp)
  refine wpAny_pyNext_list_item st p.isList (x:=u) (by simpa using hu) fun h' st' sb=>?_
  have I1:Inv X pins σ H {s with heap:=h'}:=I.turned (t':=s.toks) (fun b o hb e=>(sb.2 b hb).trans e) f0 f1 f3 f4 f5
  obtain⟨o,e,c,d⟩:=id st'
  exact⟨u,rfl,jT (s:={s with heap:=h'}) e c d (by decide) ⟨x,H,I1,ru,⟨rfl,fun ys hy=>by rw[I.pQ hy hq];exact hx⟩,st',fun b hb=>(hf b hb).1⟩⟩
 done:=by
  intro X hP hw hK hc i pins s σ H E I hf st hg
  subst hP hw hK
  obtain⟨xs,hq,hx⟩:=hg
  obtain⟨its,rv,p,hz⟩:=I.list hq
  obtain⟨f0,f1,f2,f3,f4,f5⟩:=hf it (by simp)
  have hl:=rv.length
  exact wpAny_pyNext_list_end (I.ok.hd hc) st p.isList (by simp;omega) fun h' eb=>⟨rfl,I.turned (t':=s.toks) (fun b o hb e=>eb b o hb e) f0 f1 f3 f4 f5⟩
 self:=fun _ _ _ _ _ st h=>wpAny_pyIter_listiter st h
theorem nu{P:Program}{w:World}{K:PySem.W.Frag}{tg:Expr}(a it:Addr):Turn P w K tg (Itt K a) [it] it (fun i h=>h.IsTupleIter it a i) where
 mem:=by simp
 obj:=fun i h st b hb=>by
  have e:b=it:=by simpa using hb
  subst e
  obtain⟨o,e,c,d⟩:=st
  exact⟨o,e,fun v z=>by rw[d]at z;cases z⟩
 keep:=fun i h h' st k=>st.at fun o e=>k it (by simp) o e
 item:=by
  intro X hP hw hK hc i pins s σ H E I hf st hg
  subst hP hw hK
  obtain⟨xs,x,hq,hx⟩:=hg
  obtain⟨its,rv,p,hz⟩:=I.tuple hq
  obtain⟨u,hu,ru⟩:=rv.get hx
  obtain⟨f0,f1,f2,f3,f4,f5⟩:=hf it (by simp)
  refine wpAny_pyNext_tuple_item st (show s.heap.IsTuple a its.toArray from p) (x:=u) (by simpa using hu) fun h' st' sb=>?_
  have I1:Inv X pins σ H {s with heap:=h'}:=I.turned (t':=s.toks) (fun b o hb e=>(sb.2 b hb).trans e) f0 f1 f3 f4 f5
  obtain⟨o,e,c,d⟩:=id st'
  exact⟨u,rfl,jT (s:={s with heap:=h'}) e c d (by decide) ⟨x,H,I1,ru,⟨rfl,fun ys hy=>by rw[I.r9 hy hq];exact hx⟩,st',fun b hb=>(hf b hb).1⟩⟩
 done:=by
  intro X hP hw hK hc i pins s σ H E I hf st hg
  subst hP hw hK
  obtain⟨xs,hq,hx⟩:=hg
  obtain⟨its,rv,p,hz⟩:=I.tuple hq
  obtain⟨f0,f1,f2,f3,f4,f5⟩:=hf it (by simp)
  have hl:=rv.length
  exact wpAny_pyNext_tuple_end (I.ok.hd hc) st (show s.heap.IsTuple a its.toArray from p) (by simp;omega) fun h' eb=>⟨rfl,I.turned (t':=s.toks) (fun b o hb e=>eb b o hb e) f0 f1 f3 f4 f5⟩
 self:=fun _ _ _ _ _ st h=>wpAny_pyIter_tupleiter st h
theorem nt{P:Program}{w:World}{K:PySem.W.Frag}{tg:Expr}(it:Addr)(lo:Int)(n:Nat):Turn P w K tg (Itr lo n) [it] it (fun i h=>IsRangeIter h it (lo+(i:Nat)*1) ((n:Int)-(i:Nat)) 1) where
 mem:=by simp
 obj:=fun i h st b hb=>by
  have e:b=it:=by simpa using hb
  subst e
  exact⟨_,st,fun v z=>by
   have z':Data.fields _=Data.cell v:=z
   cases z'⟩
 keep:=fun i h h' st k=>k it (by simp) _ st
 item:=by
  intro X hP hw hK hc i pins s σ H E I hf st hg
  subst hP hw hK
  obtain⟨f0,f1,f2,f3,f4,f5⟩:=hf it (by simp)
  have W:=Walks.range (prog:=X.prog) (w:=X.w) (I.ok.hd hc) it lo 1 n
  refine W.item i s _ _ hg st fun v h' tk hv st' kk=>?_
  obtain⟨t,rfl⟩:=hv
  have I1:Inv X pins σ H {s with heap:=h',toks:=tk}:=I.turned (fun b o hb e=>kk b o (by simpa using hb) e) f0 f1 f3 f4 f5
  refine⟨_,rfl,jT (s:={s with heap:=h',toks:=tk}) (n:="range_iterator") st' rfl rfl (by decide) ⟨.int (lo+i),H,I1,⟨t,?_⟩,⟨rfl,rfl⟩,st',fun b hb=>(hf b hb).1⟩⟩
  rw[Int.mul_one]
 done:=by
  intro X hP hw hK hc i pins s σ H E I hf st hg
  subst hP hw hK
  obtain⟨f0,f1,f2,f3,f4,f5⟩:=hf it (by simp)
  exact wpAny_pyNext_range_end (I.ok.hd hc) st (by have:n≤i:=hg;omega) fun h' eb=>⟨rfl,I.turned (t':=s.toks) (fun b o hb e=>eb b o hb e) f0 f1 f3 f4 f5⟩
 self:=fun _ _ _ _ _ st h=>wpAny_pyIter_rangeiter st h
end L2
namespace L2
open PySem PySem.Spec PyProof.Rows
section
variable {X:Cx}{tg:Expr}
noncomputable def Zr(K:PySem.W.Frag)(tl:TE):TI:=fun σ H R=>tl σ H fun x H1=>∃a,x=.ref a∧(∃xs,SqL K H1 a xs)∧R (Itl K a) H1
noncomputable def XT(K:PySem.W.Frag)(tl:TE):TI:=fun σ H R=>tl σ H fun x H1=>∃a,x=.ref a∧(∃xs,SqT K H1 a xs)∧R (Itt K a) H1
theorem mh{l:Expr}{tl:TE}(hl:PE X l tl):PI X tg l (Zr X.K tl):=by
 intro pins s σ H R I h
 refine thn (hl pins s σ H _ I h) fun v s1 ⟨x,H1,I1,r1,q1⟩=>?_
 obtain⟨a,e,⟨xs,hq⟩,q⟩:=q1
 subst e
 cases r1
 obtain⟨its,rv,p,hz⟩:=I1.list hq
 refine wpAny_pyIter_list p.isList ?_
 refine⟨s1.heap.objs.size,[s1.heap.objs.size],_,_,H1,rfl,I1.kept (t':=s1.toks) fun b o e=>Heap.get?_push_of_some _ e,kR a _,⟨_,Heap.get?_push_size _ rfl,rfl,rfl⟩,fun b hb=>?_,q⟩
 have e:b=s1.heap.objs.size:=by simpa using hb
 subst e
 exact I1.g7 (Nat.le_refl _) (I1.hok.fresh (Nat.le_refl _))
theorem iZ{l:Expr}{tl:TE}(hl:PE X l tl):PI X tg l (XT X.K tl):=by
 intro pins s σ H R I h
 refine thn (hl pins s σ H _ I h) fun v s1 ⟨x,H1,I1,r1,q1⟩=>?_
 obtain⟨a,e,⟨xs,hq⟩,q⟩:=q1
 subst e
 cases r1
 obtain⟨its,rv,p,hz⟩:=I1.tuple hq
 refine wpAny_pyIter_tuple (show s1.heap.IsTuple a its.toArray from p) ?_
 refine⟨s1.heap.objs.size,[s1.heap.objs.size],_,_,H1,rfl,I1.kept (t':=s1.toks) fun b o e=>Heap.get?_push_of_some _ e,nu a _,⟨_,Heap.get?_push_size _ rfl,rfl,rfl⟩,fun b hb=>?_,q⟩
 have e:b=s1.heap.objs.size:=by simpa using hb
 subst e
 exact I1.g7 (Nat.le_refl _) (I1.hok.fresh (Nat.le_refl _))
theorem p8{pins:List (Addr × Obj)}{σ:St}{H:Hp}{s:Shared}{R:It→Hp→Prop}{E:Value→Shared→Prop}{lo hi:Int}{t u v:Tok}{tk:Nat}(I:Inv X pins σ H s)(h1:-(2 ^ 62)≤lo)(h2:lo<2 ^ 62)(h3:-(2 ^ 62)≤hi)(h4:hi<2 ^ 62)
 (q:R (Itr lo (hi-lo).toNat) H):wpAny (model X.prog X.w) X.A (pyIter (.ref s.heap.objs.size)) (PIE X pins σ tg R) E {s with heap:=s.heap.push {cls:=.type "range",data:=.fields #[.int lo t,.int hi u,.int 1 v]},toks:=tk}:=by
 refine wpAny_pyIter_range (IsRange.new ..) (small_one h1 h2 h3 h4) ?_
 have I1:Inv X pins σ H {s with heap:=s.heap.push {cls:=.type "range",data:=.fields #[.int lo t,.int hi u,.int 1 v]},toks:=tk}:=I.kept fun b o e=>Heap.get?_push_of_some _ e
 refine⟨(s.heap.push {cls:=.type "range",data:=.fields #[.int lo t,.int hi u,.int 1 v]}).objs.size,[(s.heap.push {cls:=.type "range",data:=.fields #[.int lo t,.int hi u,.int 1 v]}).objs.size],_,_,H,rfl,
  I1.kept (t':=tk) fun b o e=>Heap.get?_push_of_some _ e,nt _ lo (hi-lo).toNat,?_,fun b hb=>?_,q⟩
 . have e1:lo+((0:Nat):Int)*1=lo:=by simp
   have e2:(((hi-lo).toNat:Nat):Int)-((0:Nat):Int)=Builtin.Range.rangeSize lo hi 1:=by rw[rangeSize_one];split<;>omega
   show IsRangeIter _ _ (lo+((0:Nat):Int)*1) ((((hi-lo).toNat:Nat):Int)-((0:Nat):Int)) 1
   rw[e1,e2]
   exact Heap.get?_push_size _ rfl
 . have e:b=(s.heap.push {cls:=.type "range",data:=.fields #[.int lo t,.int hi u,.int 1 v]}).objs.size:=by simpa using hb
   subst e
   exact I1.g7 (Nat.le_refl _) (I1.hok.fresh (Nat.le_refl _))
noncomputable def Zs(ta:TA):TI:=fun σ H R=>ta σ H fun vs H1=>∃j:Int,vs=[.int j]∧-(2 ^ 62)≤j∧j<2 ^ 62∧R (Itr 0 j.toNat) H1
noncomputable def Zt(ta:TA):TI:=fun σ H R=>ta σ H fun vs H1=>∃i j:Int,vs=[.int i,.int j]∧(-(2 ^ 62)≤i∧i<2 ^ 62∧-(2 ^ 62)≤j∧j<2 ^ 62)∧R (Itr i (j-i).toNat) H1
theorem l8{a:Expr}{ta:TA}{p pos:Pos}(hg:Gl X "range")(hm:X.mg "range"=none)(ha:PA X [a] ta)(hs:starEach [a] X.env=[(false,eval a X.env)]:=by rfl):PI X tg (.Call (.Name "range" p) [a] [] pos) (Zs ta):=by
 intro pins s σ H R I h
 refine Call_ (uZ I hg hm boot_range (PyProof.Rows.callWith_type1 (thn (ha pos pins s σ H _ I h) fun us s1 ⟨vs,H1,I1,r1,q1⟩=>?_) hs rfl))
 obtain⟨j,e,q1,q2,q⟩:=q1
 subst e
 cases r1 with
 |cons r rr=>
  cases rr
  obtain⟨t,rfl⟩:=r
  exact call_range_1 (p8 I1 (by omega) (by omega) q1 q2 (by simpa using q))
theorem l9{a b:Expr}{ta:TA}{p pos:Pos}(hg:Gl X "range")(hm:X.mg "range"=none)(ha:PA X [a,b] ta)(hs:starEach [a,b] X.env=[(false,eval a X.env),(false,eval b X.env)]:=by rfl)(hs2:starEach [b] X.env=[(false,eval b X.env)]:=by rfl) :
 PI X tg (.Call (.Name "range" p) [a,b] [] pos) (Zt ta):=by
 intro pins s σ H R I h
 refine Call_ (uZ I hg hm boot_range (PyProof.Rows.callWith_type1 (thn (ha pos pins s σ H _ I h) fun us s1 ⟨vs,H1,I1,r1,q1⟩=>?_) (by rw[hs,hs2]) (by rw[hs2];rfl)))
 obtain⟨i,j,e,⟨q1,q2,q3,q4⟩,q⟩:=q1
 subst e
 cases r1 with
 |cons r rr=>
  cases rr with
  |cons r' rr=>
   cases rr
   obtain⟨t,rfl⟩:=r
   obtain⟨t',rfl⟩:=r'
   exact call_range_2 (p8 I1 q1 q2 q3 q4 q)
noncomputable def Xl(wi:TI)(g:TG)(tb:TS):TS:=fun D σ H=>wi σ H fun J H1=>∃W:Nat→Nat→St→Hp→Prop,(∃m,W 0 m σ H1)∧∀i m σ H,W i m σ H →
 (J.stop i H∧D.nx σ H)∨(J.go i H∧∃N:St→Hp→Prop,(∀σ' H',N σ' H'→∃m',m'<m∧W (i+1) m' σ' H')∧∀x H',J.yld i H x H'→g x σ H' fun σ2 H2=>tb {D with nx:=N,ct:=N,bk:=D.nx} σ2 H2)
noncomputable def sW(fp:List Addr)(h:Heap):List (Addr × Obj):=fp.filterMap fun b=>(h.get? b).map fun o=>(b,o)
theorem wZ{fp:List Addr}{h:Heap}{b:Addr}{o:Obj}(hb:b∈fp)(e:h.get? b=some o):(b,o)∈sW fp h:=List.mem_filterMap.mpr ⟨b,hb,by rw[e];rfl⟩
theorem lb{fp:List Addr}{h:Heap}{p:Addr × Obj}(hp:p∈sW fp h):p.1∈fp∧h.get? p.1=some p.2:=by
 obtain⟨b,hb,e⟩:=List.mem_filterMap.mp hp
 cases q:h.get? b with
 |none=>rw[q]at e;cases e
 |some o=>
  rw[q]at e
  have e':(b,o)=p:=Option.some.inj e
  subst e'
  exact⟨hb,q⟩
theorem Inv.pinned{pins:List (Addr × Obj)}{σ:St}{H:Hp}{s:Shared}{fp:List Addr}(I:Inv X pins σ H s)(hf:∀b∈fp,vS X pins H b)(ho:∀b∈fp,∃o,s.heap.get? b=some o∧∀v,o.data≠.cell v):Inv X (pins++sW fp s.heap) σ H s:=
 I.mj fun p hp=>(List.mem_append.mp hp).elim (fun z=>I.pin p (List.mem_append_right _ z)) fun z=>by
   obtain⟨hb,e⟩:=lb z
   obtain⟨f0,f1,f2,_⟩:=hf p.1 hb
   obtain⟨o,e',d⟩:=ho p.1 hb
   rw[e]at e';cases e'
   exact⟨e,f0,f1,f2,d⟩
theorem Inv.uN{pins pl:List (Addr × Obj)}{σ:St}{H:Hp}{s:Shared}(I:Inv X (pins++pl) σ H s):Inv X pins σ H s:=I.mj fun p hp=>I.pin p (List.mem_append_right _ (List.mem_append_left _ hp))
theorem au{iter:Expr}{body:List Stmt}{wi:TI}{g:TG}{tb:TS}{pos:Pos}(hp:PassesOwn (model X.prog X.w) X.A X.env X.xe)(hc:X.calm=true)(hi:PI X tg iter wi)(hg:PG X tg g)(hb:PSs X body tb)
 (hs:∀x,foldedSetIterable iter X.env x=pure x:=by intro _;rfl):PS X (.For tg iter body [] pos) (Xl wi g tb):=by
 intro pins s σ H D I h
 refine wpAny_For (thn (hi pins s σ H _ I h) fun v s1 h1=>thn h1 fun itv s2 h2=>?_) hs
 obtain⟨it,fp,tn,J,H2,e,I2,T,st2,f2,W,⟨m0,w0⟩,turn⟩:=h2
 subst e
 -- what stays true of the iterator's objects through the loop
 have stat:∀{H':Hp},(∀b∈fp,H' b=none)→∀b∈fp,vS X pins H' b:=fun hn b hb=>⟨hn b hb,(f2 b hb).2⟩
 refine codeAny_forLoop_any (fun n s'=>∃i σ' H',Inv X pins σ' H' s'∧tn i s'.heap∧(∀b∈fp,H' b=none)∧W i n σ' H') ?_ m0 ⟨0,σ,H2,I2,st2,fun b hb=>(f2 b hb).1,w0⟩
 rintro n s3 ⟨i,σ3,H3,I3,st3,fr3,w3⟩
 rcases turn i n σ3 H3 w3 with⟨stop,qn⟩|⟨go,N,hN,step⟩
 . refine wpAny_passesOwn hp (thn (T.done X rfl rfl rfl hc i pins s3 σ3 H3 X.xe I3 (stat fr3) st3 stop) fun r s4 ⟨hr,I4⟩=>?_)
   subst hr
   exact wpAny_execs_nil ⟨σ3,H3,I4,qn⟩
 . refine wpAny_passesOwn hp (thn (T.item X rfl rfl rfl hc i pins s3 σ3 H3 X.xe I3 (stat fr3) st3 go) fun r s4 ⟨u,hr,h4⟩=>?_)
   subst hr
   refine wpAny_passesOwn hp (thn h4 fun _ s5 ⟨x,H5,I5,r5,y5,st5,fr5⟩=>?_)
   have I5':=I5.pinned (stat fr5) (T.obj _ _ st5)
   refine wpAny_passesOwn hp (thn (hg _ s5 σ3 H5 x u _ I5' r5 (step x H5 y5)) fun _ s6 ⟨σ6,H6,I6,q6⟩=>?_)
   refine wpAny_passesOwn hp (thn (hb _ s6 σ6 H6 _ I6 q6) fun f s7 q7=>?_)
   have again:∀{σ7:St} {H7:Hp},Inv X (pins++sW fp s5.heap) σ7 H7 s7→N σ7 H7→∃m,m<n∧∃i σ' H',Inv X pins σ' H' s7∧tn i s7.heap∧(∀b∈fp,H' b=none)∧W i m σ' H':=fun{σ7 H7} I7 n7=>by
    obtain⟨m',hm,w7⟩:=hN σ7 H7 n7
    refine⟨m',hm,i+1,σ7,H7,I7.uN,T.keep _ _ _ st5 fun b hb o e=>(I7.pin (b,o) (List.mem_append_right _ (List.mem_append_right _ (wZ hb e)))).1,fun b hb=>?_,w7⟩
    obtain⟨o,e,d⟩:=T.obj _ _ st5 b hb
    exact(I7.pin (b,o) (List.mem_append_right _ (List.mem_append_right _ (wZ hb e)))).2.1
   cases f with
   |next=>obtain⟨σ7,H7,I7,n7⟩:=q7;exact again I7 n7
   |cont=>obtain⟨σ7,H7,I7,n7⟩:=q7;exact again I7 n7
   |brk=>obtain⟨σ7,H7,I7,q7⟩:=q7;exact⟨σ7,H7,I7.uN,q7⟩
   |ret v=>obtain⟨x7,σ7,H7,I7,r7,q7⟩:=q7;exact⟨x7,σ7,H7,I7.uN,r7,q7⟩
end
end L2
namespace L2
open PySem PySem.Spec PyProof.Rows
noncomputable abbrev R2:=V→V→Hp→VK→Prop
def OpR(X:Cx)(f:Value→Value→Sem Value)(r:R2):Prop:=
 ∀(pins:List (Addr × Obj)) (s:Shared) (σ:St) (H:Hp) (x y:V) (v u:Value) (Q:VK),Inv X pins σ H s→RelV x v→RelV y u→r x y H Q →
  wpAny (model X.prog X.w) X.A (f v u) (EP X pins σ Q) X.xe s
def UnR(X:Cx)(f:Value→Sem Value)(r:V→Hp→VK→Prop):Prop:=
 ∀(pins:List (Addr × Obj)) (s:Shared) (σ:St) (H:Hp) (x:V) (v:Value) (Q:VK),Inv X pins σ H s→RelV x v→r x H Q →
  wpAny (model X.prog X.w) X.A (f v) (EP X pins σ Q) X.xe s
def yO(X:Cx)(f:Value)(r:List V→Hp→VK→Prop):Prop:=
 ∀(pins:List (Addr × Obj)) (s:Shared) (σ:St) (H:Hp) (xs:List V) (us:List Value) (Q:VK),Inv X pins σ H s→Vals xs us→r xs H Q →
  wpAny (model X.prog X.w) X.A (call f us) (EP X pins σ Q) X.xe s
def XJ(X:Cx)(r:V→Hp→(Bool→Hp→Prop)→Prop):Prop:=
 ∀(pins:List (Addr × Obj)) (s:Shared) (σ:St) (H:Hp) (x:V) (v:Value) (Q:Bool→Hp→Prop),Inv X pins σ H s→RelV x v→r x H Q →
  wpAny (model X.prog X.w) X.A (truthy v) (TP X pins σ Q) X.xe s
noncomputable def tOp(r:R2)(ta tb:TE):TE:=fun σ H Q=>ta σ H fun x H1=>tb σ H1 fun y H2=>r x y H2 Q
noncomputable def tUn(r:V→Hp→VK→Prop)(ta:TE):TE:=fun σ H Q=>ta σ H fun x H1=>r x H1 Q
noncomputable def rI(C:Int→Int→Prop)(g:Int→Int→V):R2:=fun x y H Q=>∃i j,x=.int i∧y=.int j∧C i j∧Q (g i j) H
noncomputable def rI0(g:Int→Int→V):R2:=fun x y H Q=>∃i j,x=.int i∧y=.int j∧Q (g i j) H
noncomputable def rU(g:Int→V):V→Hp→VK→Prop:=fun x H Q=>∃i,x=.int i∧Q (g i) H
section
variable {X:Cx}{a b c:Expr}{ta tb tc:TE}{pos:Pos}
theorem cX(ha:PE X a ta)(hb:PE X b tb){pins:List (Addr × Obj)}{s:Shared}{σ:St}{H:Hp}{R:V→V→Hp→Prop}(I:Inv X pins σ H s)
 (h:ta σ H fun x H1=>tb σ H1 fun y H2=>R x y H2) {Q:Value→Shared→Prop} {f:Value→Value→Sem Value}
 (hf:∀v u s2 x y H2,Inv X pins σ H2 s2→RelV x v→RelV y u→R x y H2→wpAny (model X.prog X.w) X.A (f v u) Q X.xe s2) :
 wpAny (model X.prog X.w) X.A (eval a X.env) (fun v s₁=>wpAny (model X.prog X.w) X.A (eval b X.env) (fun u s₂=>wpAny (model X.prog X.w) X.A (f v u) Q X.xe s₂) X.xe s₁) X.xe s:=by
 refine thn (ha pins s σ H _ I h) fun v s1 ⟨x,H1,I1,r1,q1⟩=>?_
 refine thn (hb pins s1 σ H1 _ I1 q1) fun u s2 ⟨y,H2,I2,r2,q2⟩=>?_
 exact hf v u s2 x y H2 I2 r1 r2 q2
theorem Yd{op:Operator}{r:R2}(ho:OpR X (binaryOp op) r)(ha:PE X a ta)(hb:PE X b tb):PE X (.BinOp a op b pos) (tOp r ta tb):=by
 intro pins s σ H Q I h
 exact wpAny_BinOp (cX ha hb I h fun v u s2 x y H2 I2 rx ry q=>ho pins s2 σ H2 x y v u Q I2 rx ry q)
theorem Yf{op:UnaryOp}{r:V→Hp→VK→Prop}(ho:UnR X (unaryOp op) r)(ha:PE X a ta):PE X (.UnaryOp op a pos) (tUn r ta):=by
 intro pins s σ H Q I h
 exact UnaryOp_ (thn (ha pins s σ H _ I h) fun v s1 ⟨x,H1,I1,r1,q1⟩=>ho pins s1 σ H1 x v Q I1 r1 q1)
theorem opI{f:Value→Value→Sem Value}{C:Int→Int→Prop}{g:Int→Int→Int}
 (rule:∀(i j:Int) (t u:Tok) (s:Shared) (Q:Value→Shared→Prop) (E:Value→Shared→Prop),C i j→Q (.int (g i j) s.toks) {s with toks:=s.toks+1}→wpAny (model X.prog X.w) X.A (f (.int i t) (.int j u)) Q E s) :
 OpR X f (rI C fun i j=>.int (g i j)):=by
 intro pins s σ H x y v u Q I rx ry h
 obtain⟨i,j,rfl,rfl,hc,q⟩:=h
 obtain⟨t,rfl⟩:=rx
 obtain⟨t',rfl⟩:=ry
 exact rule i j t t' s _ _ hc ⟨.int (g i j),H,I.tok _,⟨_,rfl⟩,q⟩
theorem fj{f:Value→Value→Sem Value}{g:Int→Int→Int}
 (rule:∀(i j:Int) (t u:Tok) (s:Shared) (Q:Value→Shared→Prop) (E:Value→Shared→Prop),Q (.int (g i j) s.toks) {s with toks:=s.toks+1}→wpAny (model X.prog X.w) X.A (f (.int i t) (.int j u)) Q E s) :
 OpR X f (rI0 fun i j=>.int (g i j)):=by
 intro pins s σ H x y v u Q I rx ry h
 obtain⟨i,j,rfl,rfl,q⟩:=h
 obtain⟨t,rfl⟩:=rx
 obtain⟨t',rfl⟩:=ry
 exact rule i j t t' s _ _ ⟨.int (g i j),H,I.tok _,⟨_,rfl⟩,q⟩
theorem fh{f:Value→Value→Sem Value}{g:Int→Int→Bool}
 (rule:∀(i j:Int) (t u:Tok) (s:Shared) (Q:Value→Shared→Prop) (E:Value→Shared→Prop),Q (.bool (g i j)) s→wpAny (model X.prog X.w) X.A (f (.int i t) (.int j u)) Q E s) :
 OpR X f (rI0 fun i j=>.bl (g i j)):=by
 intro pins s σ H x y v u Q I rx ry h
 obtain⟨i,j,rfl,rfl,q⟩:=h
 obtain⟨t,rfl⟩:=rx
 obtain⟨t',rfl⟩:=ry
 exact rule i j t t' s _ _ ⟨.bl (g i j),H,I,rfl,q⟩
def ZV(i j:Int):Prop:=0<j∧j<1073741824
def XI(i j:Int):Prop:=0≤j∧j≤1000000∧i.natAbs<2 ^ 64
def gh(i j:Int):Prop:=(-(2 ^ 64)<i∧i<2 ^ 64)∨(-(2 ^ 64)<j∧j<2 ^ 64)
theorem gh.ok{i j:Int}(h:gh i j):IntMulOk i j:=by
 rcases h with⟨h1,h2⟩|⟨h1,h2⟩
 . exact .of_left (intBits_le_64 h1 h2)
 . exact .of_right (intBits_le_64 h1 h2)
theorem aG:OpR X (binaryOp .Add) (rI0 fun i j=>.int (i+j)):=fj fun _ _ _ _ _ _ _ q=>add_int q
theorem aN:OpR X (binaryOp .Sub) (rI0 fun i j=>.int (i-j)):=fj fun _ _ _ _ _ _ _ q=>sub_int q
theorem aK:OpR X (binaryOp .Mult) (rI gh fun i j=>.int (i*j)):=opI fun _ _ _ _ _ _ _ hc q=>mul_int q hc.ok
theorem fm:OpR X (binaryOp .FloorDiv) (rI ZV fun i j=>.int (i/j)):=opI fun i j _ _ _ _ _ hc q=>by
 have h1:(0:Int)<j:=hc.1
 have h2:j<1073741824:=hc.2
 exact floordiv_int (by omega) (by rw[Int.fdiv_eq_ediv_of_nonneg i (by omega)];exact q) (.inl (PyProof.noPylong_small (by omega)))
theorem aJ:OpR X (binaryOp .Mod) (rI (fun _ j=>0<j) fun i j=>.int (i%j)):=opI fun i j _ _ _ _ _ hc q=>by
 have h1:(0:Int)<j:=hc
 exact mod_int' (by omega) (by rw[Int.fmod_eq_emod_of_nonneg i (by omega)];exact q)
theorem aL:OpR X (binaryOp .Pow) (rI XI fun i j=>.int (i ^ j.toNat)):=opI fun _ _ _ _ _ _ _ hc q=>pow_int_small hc.1 hc.2.1 hc.2.2 q
theorem g9:OpR X (inplaceOp .Add) (rI0 fun i j=>.int (i+j)):=fj fun _ _ _ _ _ _ _ q=>iadd_int q
theorem fC:OpR X (inplaceOp .Sub) (rI0 fun i j=>.int (i-j)):=fj fun _ _ _ _ _ _ _ q=>isub_int q
theorem fB:OpR X (inplaceOp .Mult) (rI gh fun i j=>.int (i*j)):=opI fun _ _ _ _ _ _ _ hc q=>imul_int q hc.ok
theorem jX:OpR X (inplaceOp .FloorDiv) (rI ZV fun i j=>.int (i/j)):=opI fun i j _ _ _ _ _ hc q=>by
 have h1:(0:Int)<j:=hc.1
 have h2:j<1073741824:=hc.2
 exact ifloordiv_int (by omega) (by rw[Int.fdiv_eq_ediv_of_nonneg i (by omega)];exact q) (.inl (PyProof.noPylong_small (by omega)))
theorem fA:OpR X (inplaceOp .Mod) (rI (fun _ j=>0<j) fun i j=>.int (i%j)):=opI fun i j _ _ _ _ _ hc q=>by
 have h1:(0:Int)<j:=hc
 exact imod_int (by omega) (by rw[Int.fmod_eq_emod_of_nonneg i (by omega)];exact q)
theorem unI{f:Value→Sem Value}{g:Int→Int}
 (rule:∀(i:Int) (t:Tok) (s:Shared) (Q:Value→Shared→Prop) (E:Value→Shared→Prop),Q (.int (g i) s.toks) {s with toks:=s.toks+1}→wpAny (model X.prog X.w) X.A (f (.int i t)) Q E s) :
 UnR X f (rU fun i=>.int (g i)):=by
 intro pins s σ H x v Q I rx h
 obtain⟨i,rfl,q⟩:=h
 obtain⟨t,rfl⟩:=rx
 exact rule i t s _ _ ⟨.int (g i),H,I.tok _,⟨_,rfl⟩,q⟩
theorem ZR:UnR X (unaryOp .USub) (rU fun i=>.int (-i)):=unI fun _ _ _ _ _ q=>neg_int q
end
noncomputable def Yx:V→V→Bool
 |.non,.non=>true|.non,.int _=>true|.int _,.non=>true|.non,.bl _=>true|.bl _,.non=>true|.non,.str _=>true|.str _,.non=>true
 |.int _,.int _=>true|.bl _,.bl _=>true|.str _,.str _=>true|.byt _,.byt _=>true
 |.int _,.str _=>true|.str _,.int _=>true|.bl _,.str _=>true|.str _,.bl _=>true
 |_,_=>false
noncomputable def rEq:R2:=fun x y H Q=>Yx x y=true∧Q (.bl (decide (x=y))) H
noncomputable def rNe:R2:=fun x y H Q=>Yx x y=true∧Q (.bl (!decide (x=y))) H
theorem mP{i j:Int}:decide (V.int i=V.int j)=(i == j):=by
 rw[Bool.eq_iff_iff]
 simp
theorem jF{i j:Bool}:decide (V.bl i=V.bl j)=(i == j):=by
 rw[Bool.eq_iff_iff]
 simp
theorem mQ{i j:Str}:decide (V.str i=V.str j)=(i == j):=by
 rw[Bool.eq_iff_iff]
 simp
theorem mO{i j:Array UInt8}:decide (V.byt i=V.byt j)=(i.toList == j.toList):=by
 rw[Bool.eq_iff_iff]
 cases i
 cases j
 simp
section
variable {X:Cx}{a b c:Expr}{ta tb tc:TE}{pos:Pos}
theorem zf{pins:List (Addr × Obj)}{σ:St}{H:Hp}{s:Shared}{Q:VK}{k k':Bool}(I:Inv X pins σ H s)(q:Q (.bl k) H)(e:k=k'):EP X pins σ Q (.bool k') s:=by
 subst e
 exact⟨.bl k,H,I,rfl,q⟩
theorem YG:OpR X (compareOp .Eq) rEq:=by
 intro pins s σ H x y v u Q I rx ry h
 obtain⟨hs,q⟩:=h
 cases x with
 |non=>
  cases rx
  cases y with
  |non=>cases ry;exact PySem.EqNone.eq_none_none (zf I q (by simp))
  |bl j=>cases ry;exact PySem.EqNone.eq_none_bool (zf I q (by simp))
  |int j=>obtain⟨t',rfl⟩:=ry;exact PySem.EqNone.eq_none_int (zf I q (by simp))
  |str j=>obtain⟨t',rfl⟩:=ry;exact PySem.EqNone.eq_none_str (zf I q (by simp))
  |_=>exact absurd (show false=true from hs) Bool.false_ne_true
 |bl i=>
  cases rx
  cases y with
  |non=>cases ry;exact PySem.EqNone.eq_bool_none (zf I q (by simp))
  |bl j=>cases ry;exact eq_bool (zf I q jF)
  |str j=>obtain⟨t',rfl⟩:=ry;exact PySem.EqMixed.eq_bool_str (zf I q (by simp))
  |_=>exact absurd (show false=true from hs) Bool.false_ne_true
 |int i=>
  obtain⟨t,rfl⟩:=rx
  cases y with
  |non=>cases ry;exact PySem.EqNone.eq_int_none (zf I q (by simp))
  |int j=>obtain⟨t',rfl⟩:=ry;exact eq_int (zf I q mP)
  |str j=>obtain⟨t',rfl⟩:=ry;exact PySem.EqMixed.eq_int_str (zf I q (by simp))
  |_=>exact absurd (show false=true from hs) Bool.false_ne_true
 |str i=>
  obtain⟨t,rfl⟩:=rx
  cases y with
  |non=>cases ry;exact PySem.EqNone.eq_str_none (zf I q (by simp))
  |bl j=>cases ry;exact PySem.EqMixed.eq_str_bool (zf I q (by simp))
  |int j=>obtain⟨t',rfl⟩:=ry;exact PySem.EqMixed.eq_str_int (zf I q (by simp))
  |str j=>obtain⟨t',rfl⟩:=ry;exact eq_str (zf I q mQ)
  |_=>exact absurd (show false=true from hs) Bool.false_ne_true
 |byt i=>
  obtain⟨t,rfl⟩:=rx
  cases y with
  |byt j=>obtain⟨t',rfl⟩:=ry;exact PySem.W.eq_bytes (zf I q mO)
  |_=>exact absurd (show false=true from hs) Bool.false_ne_true
 |_=>cases y<;>exact absurd (show false=true from hs) Bool.false_ne_true
theorem YL:OpR X (compareOp .NotEq) rNe:=by
 intro pins s σ H x y v u Q I rx ry h
 obtain⟨hs,q⟩:=h
 cases x with
 |non=>
  cases rx
  cases y with
  |non=>cases ry;exact PySem.EqNone.ne_none_none (zf I q (by simp))
  |bl j=>cases ry;exact PySem.EqNone.ne_none_bool (zf I q (by simp))
  |int j=>obtain⟨t',rfl⟩:=ry;exact PySem.EqNone.ne_none_int (zf I q (by simp))
  |str j=>obtain⟨t',rfl⟩:=ry;exact PySem.EqNone.ne_none_str (zf I q (by simp))
  |_=>exact absurd (show false=true from hs) Bool.false_ne_true
 |bl i=>
  cases rx
  cases y with
  |non=>cases ry;exact PySem.EqNone.ne_bool_none (zf I q (by simp))
  |bl j=>cases ry;exact ne_bool (zf I q (congrArg not jF))
  |str j=>obtain⟨t',rfl⟩:=ry;exact PySem.EqMixed.ne_bool_str (zf I q (by simp))
  |_=>exact absurd (show false=true from hs) Bool.false_ne_true
 |int i=>
  obtain⟨t,rfl⟩:=rx
  cases y with
  |non=>cases ry;exact PySem.EqNone.ne_int_none (zf I q (by simp))
  |int j=>obtain⟨t',rfl⟩:=ry;exact ne_int (zf I q (congrArg not mP))
  |str j=>obtain⟨t',rfl⟩:=ry;exact PySem.EqMixed.ne_int_str (zf I q (by simp))
  |_=>exact absurd (show false=true from hs) Bool.false_ne_true
 |str i=>
  obtain⟨t,rfl⟩:=rx
  cases y with
  |non=>cases ry;exact PySem.EqNone.ne_str_none (zf I q (by simp))
  |bl j=>cases ry;exact PySem.EqMixed.ne_str_bool (zf I q (by simp))
  |int j=>obtain⟨t',rfl⟩:=ry;exact PySem.EqMixed.ne_str_int (zf I q (by simp))
  |str j=>obtain⟨t',rfl⟩:=ry;exact ne_str (zf I q (congrArg not mQ))
  |_=>exact absurd (show false=true from hs) Bool.false_ne_true
 |byt i=>
  obtain⟨t,rfl⟩:=rx
  cases y with
  |byt j=>obtain⟨t',rfl⟩:=ry;exact PySem.W.ne_bytes (zf I q (congrArg not mO))
  |_=>exact absurd (show false=true from hs) Bool.false_ne_true
 |_=>cases y<;>exact absurd (show false=true from hs) Bool.false_ne_true
theorem YK:OpR X (compareOp .Lt) (rI0 fun i j=>.bl (decide (i<j))):=fh fun _ _ _ _ _ _ _ q=>lt_int q
theorem YJ:OpR X (compareOp .LtE) (rI0 fun i j=>.bl (decide (i≤j))):=fh fun _ _ _ _ _ _ _ q=>le_int q
theorem YI:OpR X (compareOp .Gt) (rI0 fun i j=>.bl (decide (j<i))):=fh fun _ _ _ _ _ _ _ q=>gt_int q
theorem YH:OpR X (compareOp .GtE) (rI0 fun i j=>.bl (decide (j≤i))):=fh fun _ _ _ _ _ _ _ q=>ge_int q
theorem fo:OpR X (compareOp .IsNot) (fun x y H Q=>y=.non∧Q (.bl (!decide (x=.non))) H):=by
 intro pins s σ H x y v u Q I rx ry h
 obtain⟨rfl,q⟩:=h
 cases ry
 refine isnot_none_gen (zf I q ?_)
 cases x<;>first
  |(cases rx;rfl)
  |(obtain⟨t,rfl⟩:=rx;rfl)
theorem eC{op:CmpOp}{r:R2}(ho:OpR X (compareOp op) r)(ha:PE X a ta)(hb:PE X b tb)(hm:behindInMarks op b=false):PE X (.Compare a [op] [b] pos) (tOp r ta tb):=by
 intro pins s σ H Q I h
 exact wpAny_Compare1 (cX ha hb I h fun v u s2 x y H2 I2 rx ry q=>ho pins s2 σ H2 x y v u Q I2 rx ry q) hm
noncomputable def d4(t:TE):TT:=fun σ H Q=>t σ H fun x H'=>∃k,x=.bl k∧Q k H'
theorem eU{op:CmpOp}{r:R2}(ho:OpR X (compareOp op) r)(ha:PE X a ta)(hb:PE X b tb)(hm:behindInMarks op b=false):PT X (.Compare a [op] [b] pos) (d4 (tOp r ta tb)):=by
 intro pins s σ H Q I h
 refine wpAny_isTrue_Compare1 (thn (ha pins s σ H _ I h) fun v s1 ⟨x,H1,I1,r1,q1⟩=>thn (hb pins s1 σ H1 _ I1 q1) fun u s2 ⟨y,H2,I2,r2,q2⟩=>
  thn (ho pins s2 σ H2 x y v u _ I2 r1 r2 q2) fun c s3 ⟨z,H3,I3,r3,k,e,q3⟩=>?_) hm
 subst e
 cases r3
 exact wpAny_truthy_bool ⟨H3,I3,q3⟩
noncomputable def gN(r r':R2)(ta tb tc:TE):TE:=fun σ H Q=>ta σ H fun x H1=>tb σ H1 fun y H2=>r x y H2 fun z H3=>∃k,z=.bl k ∧
 (if k=true then tc σ H3 fun w' H4=>r' y w' H4 Q else Q (.bl false) H3)
theorem iT{op op':CmpOp}{r r':R2}(ho:OpR X (compareOp op) r)(ho':OpR X (compareOp op') r')(ha:PE X a ta)(hb:PE X b tb)(hc:PE X c tc)
 (hm:lastMarks [op,op'] [b,c]=false:=by with_unfolding_all rfl):PE X (.Compare a [op,op'] [b,c] pos) (gN r r' ta tb tc):=by
 intro pins s σ H Q I h
 refine Compare_chain (thn (ha pins s σ H _ I h) fun v s1 ⟨x,H1,I1,r1,q1⟩=>chain_link (thn (hb pins s1 σ H1 _ I1 q1) fun u s2 ⟨y,H2,I2,r2,q2⟩=>
  thn (ho pins s2 σ H2 x y v u _ I2 r1 r2 q2) fun d s3 ⟨z,H3,I3,r3,k,e,q3⟩=>?_)) hm
 subst e
 cases r3
 refine wpAny_truthy_bool ?_
 cases k with
 |false=>exact ite_ff ⟨.bl false,H3,I3,rfl,q3⟩
 |true=>exact ite_tt (chain_last (thn (hc pins s3 σ H3 _ I3 q3) fun w' s4 ⟨z',H4,I4,r4,q4⟩=>ho' pins s4 σ H4 y z' u w' Q I4 r2 r4 q4))
theorem ir{op op':CmpOp}{r r':R2}(ho:OpR X (compareOp op) r)(ho':OpR X (compareOp op') r')(ha:PE X a ta)(hb:PE X b tb)(hc:PE X c tc)
 (hm:lastMarks [op,op'] [b,c]=false:=by with_unfolding_all rfl):PT X (.Compare a [op,op'] [b,c] pos) (d4 (gN r r' ta tb tc)):=by
 intro pins s σ H Q I h
 refine isTrue_chain (thn (ha pins s σ H _ I h) fun v s1 ⟨x,H1,I1,r1,q1⟩=>test_link (thn (hb pins s1 σ H1 _ I1 q1) fun u s2 ⟨y,H2,I2,r2,q2⟩=>
  thn (ho pins s2 σ H2 x y v u _ I2 r1 r2 q2) fun d s3 ⟨z,H3,I3,r3,k,e,q3⟩=>?_)) hm
 subst e
 cases r3
 refine wpAny_truthy_bool ?_
 cases k with
 |false=>
  obtain⟨k',e',q'⟩:=q3
  cases e'
  exact ite_ff ⟨H3,I3,q'⟩
 |true=>
  refine ite_tt (test_last (thn (hc pins s3 σ H3 _ I3 q3) fun w' s4 ⟨z',H4,I4,r4,q4⟩=>thn (ho' pins s4 σ H4 y z' u w' _ I4 r2 r4 q4) fun d' s5 ⟨z2,H5,I5,r5,k2,e2,q5⟩=>?_))
  subst e2
  cases r5
  exact wpAny_truthy_bool ⟨H5,I5,q5⟩
def gj(K:PySem.W.Frag)(x:V)(H:Hp)(k:Bool):Prop:=
 match x with
 |.non=>k=false
 |.bl b=>k=b
 |.int i=>k=(i != 0)
 |.str y=>y.length≤sizeLine∧k=((y.length:Int) != 0)
 |.byt y=>y.size≤sizeLine∧k=((y.size:Int) != 0)
 |.ref p=>(∃xs,SqL K H p xs∧k=!xs.isEmpty)∨(∃xs,SqT K H p xs∧k=!xs.isEmpty)∨∃kvs,H p=some (.dK kvs)∧k=!kvs.isEmpty
 |_=>False
theorem oZ{κ:Type}{kvs:List (κ × V)}{vs:List (κ × Value)}(r:KV kvs vs):(!vs.isEmpty)=!kvs.isEmpty:=by
 cases r<;>rfl
theorem sI{xs:List V}{its:List Value}(r:Vals xs its):(!its.toArray.isEmpty)=!xs.isEmpty:=by
 cases r<;>simp
theorem vm:(sizeLine:Nat)<2 ^ 63:=by rw[sizeLine_eq];decide
theorem gU:XJ X (fun x H Q=>∃k,gj X.K x H k∧Q k H):=by
 intro pins s σ H x v Q I rx h
 obtain⟨k,e,q⟩:=h
 have hl:=vm
 have hs:sizeLine=16777216:=sizeLine_eq
 cases x with
 |non=>
  cases rx
  have e':k=false:=e
  subst e'
  exact truthy_none ⟨H,I,q⟩
 |bl b=>
  cases rx
  have e':k=b:=e
  subst e'
  exact wpAny_truthy_bool ⟨H,I,q⟩
 |int i=>
  obtain⟨t,rfl⟩:=rx
  have e':k=(i != 0):=e
  subst e'
  exact PySem.P.truthy_int ⟨H,I,q⟩
 |str y=>
  obtain⟨t,rfl⟩:=rx
  obtain⟨hy,e'⟩:y.length≤sizeLine∧k=((y.length:Int) != 0):=e
  subst e'
  exact PySem.P.truthy_str (by omega) ⟨H,I.tok _,q⟩
 |byt y=>
  obtain⟨t,rfl⟩:=rx
  obtain⟨hy,e'⟩:y.size≤sizeLine∧k=((y.size:Int) != 0):=e
  subst e'
  exact PySem.W.truthy_bytes (by omega) ⟨H,I.tok _,q⟩
 |ref p=>
  cases rx
  have e':(∃xs,SqL X.K H p xs∧k=!xs.isEmpty)∨(∃xs,SqT X.K H p xs∧k=!xs.isEmpty)∨∃kvs,H p=some (.dK kvs)∧k=!kvs.isEmpty:=e
  rcases e' with⟨xs,hx,e'⟩|⟨xs,hx,e'⟩|⟨kvs,hx,e'⟩
  . subst e'
    obtain⟨its,r,pl,hz⟩:=I.list hx
    have hlen:=r.length
    exact wpAny_truthy_list pl.isList (by simp only[List.size_toArray];omega) ⟨H,I.tok _,by rw[sI r];exact q⟩
  . subst e'
    obtain⟨its,r,pl,hz⟩:=I.tuple hx
    have hlen:=r.length
    exact truthy_tuple pl (by simp only[List.size_toArray];omega) ⟨H,I.tok _,by rw[sI r];exact q⟩
  . subst e'
    obtain⟨hz,hS,vs,r,m⟩:kvs.length≤sizeLine∧(p == sysModules)=false∧∃vs,KV kvs vs∧s.heap.DictOf (ya X.prog X.w) p vs:=I.hok p _ hx
    have hlen:kvs.length=vs.length:=Paired.length r
    exact wpAny_truthy_dict hS m (by omega) ⟨H,I.tok _,by rw[oZ r];exact q⟩
 |_=>exact(show False from e).elim
theorem iu(ha:PE X a ta)(he:∀whole,isTrue a X.env whole=(do let v ←whole;standAt a.pos;holding [v] (truthy v))) :
 PT X a (fun σ H Q=>ta σ H fun x H'=>∃k,gj X.K x H' k∧Q k H'):=by
 intro pins s σ H Q I h
 exact isTrue_plain (thn (ha pins s σ H _ I h) fun v s1 ⟨x,H1,I1,r1,q1⟩=>gU pins s1 σ H1 x v Q I1 r1 q1) (he _)
theorem oy:OpR X (binaryOp .Add) (fun x y H Q=>∃i j,x=.str i∧y=.str j∧i.length+j.length≤sizeLine∧Q (.str (i++j)) H):=by
 intro pins s σ H x y v u Q I rx ry h
 obtain⟨i,j,rfl,rfl,hz,q⟩:=h
 obtain⟨t,rfl⟩:=rx
 obtain⟨t',rfl⟩:=ry
 exact add_str (fun t' tk=>⟨.str (i++j),H,I.tok _,⟨_,rfl⟩,q⟩) hz
theorem vals1{x:V}{us:List Value}(r:Vals [x] us):∃u,us=[u]∧RelV x u:=by
 cases r with
 |cons r1 r2=>cases r2;exact⟨_,rfl,r1⟩
theorem vals2{x y:V}{us:List Value}(r:Vals [x,y] us):∃u w',us=[u,w']∧RelV x u∧RelV y w':=by
 cases r with
 |cons r1 r2=>
  cases r2 with
  |cons r3 r4=>cases r4;exact⟨_,_,rfl,r1,r3⟩
theorem lA(hc:X.calm=true):yO X (.builtin "max") (fun xs H Q=>∃i j,xs=[.int i,.int j]∧Q (.int (if j > i then j else i)) H):=by
 intro pins s σ H xs us Q I r h
 obtain⟨i,j,rfl,q⟩:=h
 obtain⟨u,w',rfl,⟨t,rfl⟩,⟨t',rfl⟩⟩:=vals2 r
 refine max_two_ints (I.ok.hd hc) fun h' tk k=>⟨_,H,I.kept k,?_,q⟩
 by_cases hj:j > i
 . rw[if_pos hj,if_pos hj];exact⟨_,rfl⟩
 . rw[if_neg hj,if_neg hj];exact⟨_,rfl⟩
theorem lC(hc:X.calm=true):yO X (.builtin "min") (fun xs H Q=>∃i j,xs=[.int i,.int j]∧Q (.int (if j<i then j else i)) H):=by
 intro pins s σ H xs us Q I r h
 obtain⟨i,j,rfl,q⟩:=h
 obtain⟨u,w',rfl,⟨t,rfl⟩,⟨t',rfl⟩⟩:=vals2 r
 refine min_two_ints (I.ok.hd hc) fun h' tk k=>⟨_,H,I.kept k,?_,q⟩
 by_cases hj:j<i
 . rw[if_pos hj,if_pos hj];exact⟨_,rfl⟩
 . rw[if_neg hj,if_neg hj];exact⟨_,rfl⟩
theorem rR:yO X (.type "int") (fun xs H Q=>(∃i,xs=[.int i]∧Q (.int i) H)∨∃k,xs=[.bl k]∧Q (.int (if k then 1 else 0)) H):=by
 intro pins s σ H xs us Q I r h
 rcases h with⟨i,rfl,q⟩|⟨k,rfl,q⟩
 . obtain⟨u,rfl,t,rfl⟩:=vals1 r
   exact call_int_int ⟨.int i,H,I,⟨_,rfl⟩,q⟩
 . obtain⟨u,rfl,r1⟩:=vals1 r
   cases r1
   exact call_int_bool ⟨.int (if k then 1 else 0),H,I.tok _,⟨_,rfl⟩,q⟩
theorem qO:yO X (.type "str") (fun xs H Q=>∃i,xs=[.int i]∧i.natAbs.log2<1920∧Q (.str (toString i)) H):=by
 intro pins s σ H xs us Q I r h
 obtain⟨i,rfl,hz,q⟩:=h
 obtain⟨u,rfl,t,rfl⟩:=vals1 r
 exact PySem.P.str_of_int hz ⟨.str _,H,I.tok _,⟨_,rfl⟩,q⟩
end
end L2
namespace L2
open PySem PySem.Spec PyProof.Rows
structure cG(h:Heap)(x dx C:Addr)(mA:Str→Option Value):Prop where
 obj:h.get? x=some (PySem.W.instObj C dx)
 ns:h.Ns1 dx mA
 ne:dx≠x
theorem lU{h:Heap}{dx:Addr}{mA:Str→Option Value}(n:h.Ns1 dx mA):∃od,h.get? dx=some od∧∀name,PySem.W.lookIn name od=some (mA name):=by
 obtain⟨o,es,ep,ho,hd,hk,_,hm⟩:=n
 refine⟨o,ho,fun name=>?_⟩
 have e:=hm name
 unfold nsFind findBy at e
 rw[←Array.find?_toList]at e
 unfold PySem.W.lookIn
 rw[hd]
 dsimp only
 split
 . rename_i y q
   rw[q]at e
   exact congrArg some e
 . rename_i q
   rw[q]at e
   have a:es.toList.any (·.refKey)=false:=by
    rw[List.any_eq_false]
    intro y hy
    obtain⟨z,t,hkey⟩:=hk y (Array.mem_toList_iff.mp hy)
    simp[DictEntry.refKey,hkey]
   have a':¬es.toList.any (·.refKey)=true:=by rw[a];exact Bool.false_ne_true
   rw[if_neg a']
   exact congrArg some e
theorem cG.look{h:Heap}{x dx C:Addr}{mA:Str→Option Value}(I:cG h x dx C mA):∃od,PySem.W.InstAt h x (PySem.W.instObj C dx) C (some od)∧∀name,PySem.W.lookIn name od=some (mA name):=
 let ⟨od,ho,hl⟩:=lU I.ns
 ⟨od,⟨I.obj,rfl,rfl,ho⟩,hl⟩
theorem tZ.some_of{v:V}{o:Option Value}(r:tZ (some v) o):∃u,o=some u∧RelV v u:=by
 cases o with
 |none=>exact(show False from r).elim
 |some u=>exact⟨u,rfl,r⟩
section
variable {P:Program}{w:World}{H H':Hp}{h h':Heap}{a C dx:Addr}{fs fs':List (Str × V)}
theorem g8(hok:HOk P w H h)(e:H a=some (.ins C dx fs)):∃mA,cG h a dx C mA∧(∀f,tZ (fs.lookup f) (mA f))∧PySem.Within mA (fs.map (·.1))∧fs.length≤1000∧H dx=some (.own a):=by
 obtain⟨d,z,ne,ob,mA,n,r,q⟩:=(show zl P w H h a (.ins C dx fs) from hok a _ e)
 exact⟨mA,⟨ob,n,ne⟩,r,q,z,d⟩
end
structure Cls(K:PySem.W.Frag)(C:Addr):Prop where
 pg:PySem.W.plainGet K C Str.empty=true
 hd:PySem.W.hasDictIn K C=true
 po:PySem.W.plainOver K C=true
 sa:PySem.W.findIn K (.ref C) "__setattr__"=some (some (.builtin "object.__setattr__"))
theorem Cls.get{K:PySem.W.Frag}{C:Addr}(c:Cls K C)(f:Str):PySem.W.plainGet K C f=true:=c.pg
section
variable {X:Cx}{pins:List (Addr × Obj)}{σ:St}{H:Hp}{s:Shared}{A:Around}{E:Value→Shared→Prop}{Q:Value→Shared→Prop}{c:Value}{b:Bool}
inductive vv(K:PySem.W.Frag)(H:Hp):V→Value→Prop where
 |non:vv K H .non (.type "NoneType")
 |bl (x:Bool):vv K H (.bl x) (.type "bool")
 |int (i:Int):vv K H (.int i) (.type "int")
 |str (x:Str):vv K H (.str x) (.type "str")
 |flt (x:UInt64):vv K H (.flt x) (.type "float")
 |lst {a:Addr} {xs:List V} (e:H a=some (.lst xs)):vv K H (.ref a) (.type "list")
 |frz {a:Addr} {o:Obj} {xs:List V} (e:H a=some (.frz o (.lst xs))):vv K H (.ref a) (.type "list")
 |tup {a:Addr} {xs:List V} (e:H a=some (.tup xs)):vv K H (.ref a) (.type "tuple")
 |dK {a:Addr} {kvs:List (Key × V)} (e:H a=some (.dK kvs)):vv K H (.ref a) (.type "dict")
 |dT {a:Addr} {kvs:List (List Key × V)} (e:H a=some (.dT kvs)):vv K H (.ref a) (.type "dict")
 |ins {a C dx:Addr} {fs:List (Str × V)} (e:H a=some (.ins C dx fs)) (cl:Cls K C) (ha:PySem.W.findIn K (.ref C) "__class__"=some (some (.builtin "object.__class__")))
  (hn:PySem.W.specialIn K (.builtin "object.__class__") "__get__"=some (some (.builtin "getset_descriptor.__get__"))) (htk:PySem.W.takesIn K (.builtin "object.__class__")=some true)
  (hm:PySem.W.mroIn K C (.type "object")=some true):vv K H (.ref a) (.ref C)
theorem lL{x:V}{u t:Value}(I:Inv X pins σ H s)(rx:RelV x u)(ty:vv X.K H x t)(e:PySem.W.kitOne X.K t c=some b)(h:∀tk,Q (.bool b) {s with toks:=tk}) :
 wpAny (model X.prog X.w) A (call (.builtin "isinstance") [u,c]) Q E s:=by
 cases ty with
 |non=>cases (show u=Value.none from rx);exact PySem.W.kia_one PySem.W.kitx_none I.kIn True.intro e (fun z=>nomatch z) h
 |bl y=>cases (show u=Value.bool y from rx);exact PySem.W.kia_one PySem.W.kitx_bool I.kIn True.intro e (fun z=>nomatch z) h
 |int i=>obtain⟨t,q⟩:=(show ∃t,u=Value.int i t from rx);cases q;exact PySem.W.kia_one PySem.W.kitx_int I.kIn True.intro e (fun z=>nomatch z) h
 |str y=>obtain⟨t,q⟩:=(show ∃t,u=Value.str y t from rx);cases q;exact PySem.W.kia_one PySem.W.kitx_str I.kIn True.intro e (fun z=>nomatch z) h
 |flt y=>obtain⟨t,q⟩:=(show ∃t,u=Value.float y t from rx);cases q;exact PySem.W.kia_one PySem.W.kitx_float I.kIn True.intro e (fun z=>nomatch z) h
 |@lst a xs ea=>
  cases (show u=Value.ref a from rx)
  obtain⟨_,_,n,_,h1⟩:=(show zl X.prog X.w H s.heap a (.lst xs) from I.hok a _ ea)
  exact PySem.W.kia_one PySem.W.kitx_list I.kIn ⟨_,h1,rfl⟩ e (fun z=>nomatch z) h
 |@frz a ob xs ea=>
  cases (show u=Value.ref a from rx)
  obtain⟨_,_,_,n,_,h1⟩:=(show zl X.prog X.w H s.heap a (.frz ob (.lst xs)) from I.hok a _ ea)
  exact PySem.W.kia_one PySem.W.kitx_list I.kIn ⟨_,h1,rfl⟩ e (fun z=>nomatch z) h
 |@tup a xs ea=>
  cases (show u=Value.ref a from rx)
  obtain⟨_,_,_,p⟩:=(show zl X.prog X.w H s.heap a (.tup xs) from I.hok a _ ea)
  obtain⟨o,h1,h2,_⟩:=p
  exact PySem.W.kia_one PySem.W.kitx_tuple I.kIn ⟨o,h1,h2⟩ e (fun z=>nomatch z) h
 |@dK a kvs ea=>
  cases (show u=Value.ref a from rx)
  obtain⟨_,_,vs,_,p⟩:=(show zl X.prog X.w H s.heap a (.dK kvs) from I.hok a _ ea)
  obtain⟨o,es,ep,h1,h2,_⟩:=p
  exact PySem.W.kia_one PySem.W.kitx_dict I.kIn ⟨o,h1,h2.1⟩ e (fun z=>nomatch z) h
 |@dT a kvs ea=>
  cases (show u=Value.ref a from rx)
  obtain⟨_,_,xs,_,o,es,ep,h1,h2,_⟩:=(show zl X.prog X.w H s.heap a (.dT kvs) from I.hok a _ ea)
  exact PySem.W.kia_one PySem.W.kitx_dict I.kIn ⟨o,h1,h2.1⟩ e (fun z=>nomatch z) h
 |@ins a C dx fs ea cl ha hn htk hm=>
  cases (show u=Value.ref a from rx)
  obtain⟨mA,O,_⟩:=g8 I.hok ea
  obtain⟨od,J,_⟩:=O.look
  exact PySem.W.kia_one (PySem.W.kitx_own (cl.get _) cl.hd ha hn htk hm) I.kIn J e (fun z=>nomatch z) h
end
end L2
namespace L2
open PySem PySem.Spec PyProof.Rows
structure yv(k:Nat)(A:Around):Prop where
 hd:A.handled=none
 dp:A.depth+3*k+5<recursionLimit
 un:A.units+16*k+200<cLine
 gd:A.guards=some []
theorem yv.deeper{k:Nat}{A:Around}(r:yv (k+1) A)(env:Env):yv k (A.deeper env):=
 ⟨r.hd,by have:=r.dp;show A.depth+1+3*k+5<_;omega,by have:=r.un;show A.units+3+16*k+200<_;omega,r.gd⟩
theorem yv.depth{k:Nat}{A:Around}(r:yv k A):A.depth<recursionLimit:=by have:=r.dp;omega
noncomputable def oH:TA:=fun _ H Q=>Q [] H
noncomputable def u0(ta:TE)(tr:TA):TA:=fun σ H Q=>ta σ H fun x H1=>tr σ H1 fun xs H2=>Q (x::xs) H2
section
variable {X:Cx}{e:Expr}{es:List Expr}{te:TE}{t:TA}{pos:Pos}
theorem wA:PA X [] oH:=fun _ _ _ _ H Q I h=>Calls.spliced_nil ⟨[],H,I,.nil,h⟩
theorem f6(ha:PE X e te)(hr:PA X es t)(hs:starEach (e::es) X.env=(false,eval e X.env)::starEach es X.env:=by rfl):PA X (e::es) (u0 te t):=by
 intro pos pins s σ H Q I h
 rw[hs]
 show wpAny _ _ (spliced ((false,eval e X.env)::backTo pos (starEach es X.env))) _ _ s
 refine Calls.spliced_cons (thn (ha pins s σ H _ I h) fun u s1 ⟨x,H1,I1,r1,q1⟩=>?_)
 exact thn (hr pos pins s1 σ H1 _ I1 q1) fun us s2 ⟨xs,H2,I2,r2,q2⟩=>⟨x::xs,H2,I2,.cons r1 r2,q2⟩
noncomputable def Xs(t:TA):TE:=fun σ H Q=>t σ H fun xs H1=>xs.length≤sizeLine∧∀p,H1 p=none→Q (.ref p) (upd H1 p (.tup xs))
noncomputable def Xn(t:TA):TE:=fun σ H Q=>t σ H fun xs H1=>xs.length≤sizeLine∧∀p,H1 p=none→Q (.ref p) (upd H1 p (.lst xs))
theorem ak{x1}(h:PA X es t):PE X (.Tuple es x1 pos) (Xs t):=by
 intro pins s σ H Q I hq
 refine wpAny_Tuple_spliced (thn (h pos pins s σ H _ I hq) fun us s1 ⟨xs,H1,I1,r,z,q⟩=>⟨by rw[←r.length];exact z,?_⟩)
 have hf:H1 s1.heap.objs.size=none:=I1.hok.fresh (Nat.le_refl _)
 refine⟨.ref s1.heap.objs.size,upd H1 s1.heap.objs.size (.tup xs),I1.laid (t':=s1.toks) (fun b u e=>Heap.get?_push_of_some _ e) (Nat.le_refl _) ?_,rfl,q _ hf⟩
 exact⟨z,us,r,⟨_,Heap.get?_push_size _ rfl,rfl,_,rfl,rfl⟩⟩
theorem af(h:PA X es t):PE X (.List es pos) (Xn t):=by
 intro pins s σ H Q I hq
 refine wpAny_List_spliced (thn (h pos pins s σ H _ I hq) fun us s1 ⟨xs,H1,I1,r,z,q⟩=>⟨by rw[←r.length];exact z,?_⟩)
 have hf:H1 s1.heap.objs.size=none:=I1.hok.fresh (Nat.le_refl _)
 refine⟨.ref s1.heap.objs.size,upd H1 s1.heap.objs.size (.lst xs),I1.laid (t':=s1.toks) (fun b u e=>Heap.get?_push_of_some _ e) (Nat.le_refl _) ?_,rfl,q _ hf⟩
 exact⟨z,us,0,r,Heap.get?_push_size _ rfl⟩
end
noncomputable abbrev Sp:=List V→Hp→VK→XK→Prop
noncomputable abbrev CXT:=List Env→Hp→Shared→XK→Value→Shared→Prop
structure gi(P:Program)(w:World)(K:PySem.W.Frag)(mg:Str→Option Value)(base:Heap)(A:Around)(outer:List Env)(s:Shared)(H:Hp):Prop where
 frames:A.frames=some outer
 mod:Mod K mg base
 bs:∀b o,base.get? b=some o→s.heap.get? b=some o∧H b=none
 bsz:base.objs.size≤s.heap.objs.size
 sC:s.heap.FunFrames base outer
 frf:∀b∈frs outer,H b=none
 hok:HOk P w H s.heap
 bare:AllBare s.gens
def CE(outer:List Env)(P:Program)(w:World)(H:Hp)(s:Shared)(Q:VK)(u:Value)(s':Shared):Prop:=
 ∃v H',s'.os=s.os∧AllBare s'.gens∧Un (frs outer) [] H H' s.heap s'.heap∧HOk P w H' s'.heap∧RelV v u∧Q v H'
def CR(CX:CXT)(outer:List Env)(P:Program)(w:World)(H:Hp)(s:Shared)(Q:VK)(E:XK)(r:Result)(s':Shared):Prop:=
 match r with
 |.ok (.ret u)=>CE outer P w H s Q u s'
 |.ok _=>False
 |.error e=>CX outer H s E e s'
structure u7(P:Program)(w:World)(K:PySem.W.Frag)(mg:Str→Option Value)(base:Heap)(CX:CXT)(k:Nat)(f:Addr)(fd:FuncData)(ps:List Str)(sp:Sp):Prop where
 len:∀vs H Q E,sp vs H Q E→vs.length=ps.length
 run:∀(A:Around) (outer:List Env) (s:Shared) (H:Hp) (args:Args) (us:List Value) (vs:List V) (Q:VK) (E:XK),yv k A→gi P w K mg base A outer s H→BindsTo s fd args (ps.zip us)→Vals vs us→sp vs H Q E →
  codeAny (model P w) A (.call (.ref f) args) (CR CX outer P w H s Q E) s
theorem u7.imp{P:Program}{w:World}{K:PySem.W.Frag}{mg:Str→Option Value}{base:Heap}{CX:CXT}{k:Nat}{f:Addr}{fd:FuncData}{ps:List Str}{sp sp':Sp}(F:u7 P w K mg base CX k f fd ps sp)
 (h:∀vs H Q E,sp' vs H Q E→sp vs H Q E):u7 P w K mg base CX k f fd ps sp':=
 ⟨fun vs H Q E q=>F.len vs H Q E (h _ _ _ _ q),fun A outer s H args us vs Q E hr he hb hv hs=>F.run A outer s H args us vs Q E hr he hb hv (h _ _ _ _ hs)⟩
section
variable {X:Cx}{pins:List (Addr × Obj)}{σ:St}{H:Hp}{s s':Shared}
theorem Inv.XR(I:Inv X pins σ H s):gi X.prog X.w X.K X.mg X.base X.A X.stack s H:=
 ⟨I.ok.frames,I.ok.mod,I.bs,Nat.le_trans I.ok.bsz I.sz,I.stack,I.mw,I.hok,I.bare⟩
theorem Inv.after{Q:VK}{u:Value}(I:Inv X pins σ H s)(h:CE X.stack X.prog X.w H s Q u s'):EP X pins σ Q u s':=by
 obtain⟨v,H',os,bare,un,hok,r,q⟩:=h
 obtain⟨hh,g,d,t,os'⟩:=s'
 obtain rfl:os'=s.os:=os
 exact⟨v,H',I.call (h':=hh) (g':=g) (d':=d) (t':=t) (ch:=[]) un hok bare (fun b z=>absurd z (by simp)),r,q⟩
end
noncomputable def dz(sp:Sp)(dvs:List V)(E:XK)(t:TA):TE:=fun σ H Q=>t σ H fun vs H1=>sp (vs++dvs) H1 Q E
def Binds(K:PySem.W.Frag)(fd:FuncData)(ps:List Str)(ds:List Value):Prop:=
 ∀(s:Shared) (us:List Value),K.In s.heap→(us++ds).length=ps.length→BindsTo s fd ⟨us,[]⟩ (ps.zip (us++ds))
theorem Binds.all{K:PySem.W.Frag}{fd:FuncData}{ps:List Str}(h:∀us:List Value,us.length=ps.length→bindArgs fd ⟨us,[]⟩=pure (ps.zip us)):Binds K fd ps []:=fun s us _ hl=>by
 rw[List.append_nil]at hl ⊢
 exact .of_eq (h us hl)
def Passes(CX:CXT)(X:Cx)(E:XK):Prop:=∀(pins:List (Addr × Obj)) (σ:St) (H:Hp) (s:Shared) (e:Value) (s':Shared),Inv X pins σ H s→CX X.stack H s E e s'→X.xe e s'
section
variable {X:Cx}{CX:CXT}{k:Nat}{f C:Addr}{fd:FuncData}{ps:List Str}{sp:Sp}{dvs:List V}{ds:List Value}{E:XK}{x m:Str}{p pos apos:Pos}{e o:Expr}{es:List Expr}{ta:TE}{t:TA}
theorem gA{pins:List (Addr × Obj)}{σ:St}{H:Hp}{s:Shared}{Q:VK}{us:List Value}{vs:List V}(F:u7 X.prog X.w X.K X.mg X.base CX k f fd ps sp)(hr:yv k X.A)(hb:Binds X.K fd ps ds)(hd:Vals dvs ds)(hx:Passes CX X E)
 (I:Inv X pins σ H s) (r:Vals vs us) (h:sp (vs++dvs) H Q E):wpAny (model X.prog X.w) X.A (call (.ref f) us) (EP X pins σ Q) X.xe s:=by
 have r2:Vals (vs++dvs) (us++ds):=r.append hd
 have hl:(us++ds).length=ps.length:=by rw[←r2.length];exact F.len _ _ _ _ h
 refine wpAny_call (codeAny_mono (F.run X.A X.stack s H ⟨us,[]⟩ (us++ds) (vs++dvs) Q E hr I.XR (hb s us I.kIn hl) r2 h) fun r s' hq=>?_)
 cases r with
 |error e=>exact hx pins σ H s e s' I hq
 |ok fl=>
  cases fl with
  |ret u=>exact I.after hq
  |next=>exact False.elim hq
  |brk=>exact False.elim hq
  |cont=>exact False.elim hq
theorem eB(F:u7 X.prog X.w X.K X.mg X.base CX k f fd ps sp)(hr:yv k X.A)(hg:Gl X x)(hm:X.mg x=some (.ref f))(hk:PySem.W.keepIn X.K (.ref f)=true)(hb:Binds X.K fd ps ds)(hd:Vals dvs ds)(hx:Passes CX X E)
 (ha:PA X (e::es) t) (hdb:(x == ("__debug__":Str))=false:=by decide) (he:starEach (e::es) X.env=(false,eval e X.env)::starEach es X.env:=by rfl) (hpl:(backTo pos (starEach es X.env)).any (·.1)=false:=by rfl) :
 PE X (.Call (.Name x p) (e::es) [] pos) (dz sp dvs E t):=by
 intro pins s σ H Q I h
 refine wpAny_Call_Name_kw (qZ I hg hm ?_ hdb)
 refine PySem.W.callWith_K (h₀:=X.base) I.ok.mod.kin hk (thn (ha pos pins s σ H _ I h) fun us s1 ⟨vs,H1,I1,r,q⟩=>⟨I1.kIn,?_⟩) he hpl
 exact gA F hr hb hd hx I1 r q
theorem iR(F:u7 X.prog X.w X.K X.mg X.base CX k f fd ps sp)(hr:yv k X.A)(hg:Gl X x)(hm:X.mg x=some (.ref f))(hk:PySem.W.keepIn X.K (.ref f)=true)(hb:Binds X.K fd ps ds)(hd:Vals dvs ds)(hx:Passes CX X E)
 (hdb:(x == ("__debug__":Str))=false:=by decide):PE X (.Call (.Name x p) [] [] pos) (dz sp dvs E oH):=by
 intro pins s σ H Q I h
 refine wpAny_Call_Name_kw (qZ I hg hm ?_ hdb)
 exact PySem.W.callWith_K0 I.kIn hk (gA (us:=[]) F hr hb hd hx I .nil h)
end
structure tL(N P:List Str)(sc:Scope):Prop where
 kind:sc.kind=.function
 co:sc.isCoroutine=false
 gen:sc.isGenerator=false
 nd:N.Nodup
 pre:N.take P.length=P
 par:∀x∈P,sc.names.lookup x=some .local∨sc.names.lookup x=some .cell
 nofree:∀y∈sc.names,y.2≠.free
theorem rQ{kindOf:Str→Option NameKind}{x:Str}:∀{binds:List (Str × Value)} {m:Str→Option Value},(∀v,(x,v) ∉ binds)→bindL kindOf binds m x=m x
 |[],_,_=>rfl
 |(n,v)::r,m,h=>by
  unfold bindL
  rw[rQ fun w hw=>h w (List.mem_cons_of_mem _ hw)]
  split
  . have:x≠n:=by rintro rfl;exact h v List.mem_cons_self
    simp[this]
  . rfl
theorem rO{kindOf:Str→Option NameKind}{x:Str}:∀{binds:List (Str × Value)} {m:Str→Option Value},(∀v,(x,v) ∉ binds)→bindC kindOf binds m x=m x
 |[],_,_=>rfl
 |(n,v)::r,m,h=>by
  unfold bindC
  rw[rO fun w hw=>h w (List.mem_cons_of_mem _ hw)]
  split
  . rfl
  . have:x≠n:=by rintro rfl;exact h v List.mem_cons_self
    simp[this]
theorem rP{kindOf:Str→Option NameKind}{x:Str}{v:Value}:∀{P:List Str} {vs:List Value} {i:Nat} {m:Str→Option Value},P.Nodup→P[i]?=some x→vs[i]?=some v→kindOf x=some .local →
 bindL kindOf (P.zip vs) m x=some v
 |[],_,_,_,_,h,_,_=>by simp at h
 |_::_,[],_,_,_,_,h,_=>by simp at h
 |p::P,w::vs,0,m,nd,h1,h2,hk=>by
  simp at h1 h2;subst h1;subst h2
  show bindL kindOf ((p,w)::P.zip vs) m p=_
  unfold bindL
  rw[rQ fun v hv=>(List.nodup_cons.mp nd).1 (List.of_mem_zip hv).1,if_pos hk]
  simp
 |p::P,w::vs,i+1,m,nd,h1,h2,hk=>by
  show bindL kindOf ((p,w)::P.zip vs) m x=_
  unfold bindL
  exact rP (i:=i) (List.nodup_cons.mp nd).2 (by simpa using h1) (by simpa using h2) hk
theorem rN{kindOf:Str→Option NameKind}{x:Str}{v:Value}:∀{P:List Str} {vs:List Value} {i:Nat} {m:Str→Option Value},P.Nodup→P[i]?=some x→vs[i]?=some v→kindOf x≠some .local →
 bindC kindOf (P.zip vs) m x=some v
 |[],_,_,_,_,h,_,_=>by simp at h
 |_::_,[],_,_,_,_,h,_=>by simp at h
 |p::P,w::vs,0,m,nd,h1,h2,hk=>by
  simp at h1 h2;subst h1;subst h2
  show bindC kindOf ((p,w)::P.zip vs) m p=_
  unfold bindC
  rw[rO fun v hv=>(List.nodup_cons.mp nd).1 (List.of_mem_zip hv).1,if_neg hk]
  simp
 |p::P,w::vs,i+1,m,nd,h1,h2,hk=>by
  show bindC kindOf ((p,w)::P.zip vs) m x=_
  unfold bindC
  exact rN (i:=i) (List.nodup_cons.mp nd).2 (by simpa using h1) (by simpa using h2) hk
noncomputable def start(N:List Str)(vs:List V):St:=vs.map some++List.replicate (N.length-vs.length) none
noncomputable def oW(CX:CXT)(P:Program)(w:World)(K:PySem.W.Frag)(mg:Str→Option Value)(base:Heap)(N:List Str)(qual:Str)(scope:Scope)(f:Addr)(cd:Value)(A:Around)(outer:List Env)(s:Shared)(H:Hp)(E:XK):Cx where
 prog:=P
 w:=w
 K:=K
 mg:=mg
 base:=base
 A:=A.deeper (envOfC qual scope s.heap.objs.size f cd)
 N:=N
 s₀:=s
 H₀:=H
 env:=envOfC qual scope s.heap.objs.size f cd
 outer:=outer
 stack:=envOfC qual scope s.heap.objs.size f cd::outer
 ex:=[]
 calm:=true
 fn:=fun _=>true
 pn:=[]
 xe:=fun e s'=>wpAny (model P w) (A.deeper (envOfC qual scope s.heap.objs.size f cd)) (leaving (envOfC qual scope s.heap.objs.size f cd) e) (fun _ s''=>CX outer H s E e s'') (fun e' s''=>CX outer H s E e' s'') s'
theorem qu{sc:Scope}{n:Nat}{x:Str}(h:sc.names.lookup x=some .cell):∃c,(cellsFrom n sc.names []).lookup x=some c:=by
 have q:=PySem.W.cellsFrom_some sc.names n [] (.inl h)
 exact Option.isSome_iff_exists.mp q
theorem lJ{CX:CXT}{P:Program}{w:World}{K:PySem.W.Frag}{mg:Str→Option Value}{base:Heap}{N ps:List Str}{qual:Str}{scope:Scope}{f:Addr}{cd:Value}{A:Around}{outer:List Env}{s s1:Shared}{H:Hp}{E:XK}{us:List Value}{vs:List V}
 (S:tL N ps scope) (hd:A.handled=none) (e0:gi P w K mg base A outer s H) (hl:vs.length=ps.length) (r:Vals vs us)
 (x:InCallC s s.heap.objs.size (bindL (envOfC qual scope s.heap.objs.size f cd).kindOf (ps.zip us) fun _=>none) (cellsFrom (s.heap.objs.size+1) scope.names []) (bindC (envOfC qual scope s.heap.objs.size f cd).kindOf (ps.zip us) fun _=>none) s1) :
 Inv (oW CX P w K mg base N qual scope f cd A outer s H E) [] (start N vs) H s1:=by
 have hpl:ps.length≤N.length:=by have:=congrArg List.length S.pre;rw[List.length_take]at this;omega
 obtain⟨h1,tk,rfl,hk⟩:=x.done
 have noA:∀b:Addr,b ∉ (oW CX P w K mg base N qual scope f cd A outer s H E).ex:=fun b z=>absurd (show b∈([]:List Addr) from z) (by simp)
 refine⟨⟨e0.mod,S.kind,rfl,rfl,Nat.le_refl _,fun y z c h1 h2=>?_,fun y hy=>?_,fun y c _ h=>?_,fun _=>hd,Around.frames_deeper e0.frames,.inr ⟨rfl,rfl⟩,fun b z=>absurd z (noA b),e0.bs,e0.bsz,fun b _ _=>noA b,fun b z=>absurd z (noA b),e0.sC,e0.frf⟩,
  rfl,e0.bare,Un.kept hk,⟨_,x.toInCall.ns,fun i y v h1 h2 h3=>?_⟩,fun y c h=>⟨_,x.cell y c h⟩,e0.hok.fresh (Nat.le_refl _),fun y c h=>?_,fun p hp=>absurd (show p∈([]:List (Addr × Obj)) from hp) (by simp),e0.hok.kept hk,?_⟩
 . exact name_of_addr x.apart (PySem.mem_of_lookup h1) (PySem.mem_of_lookup h2)
 . have hy:scope.names.lookup y=some .cell∨scope.names.lookup y=some .free:=hy
   rcases hy with hy|hy
   . exact qu hy
   . exact absurd rfl (S.nofree _ (PySem.mem_of_lookup hy))
 . exact Nat.le_of_lt (x.above y c (PySem.mem_of_lookup h))
 . have hi:i<vs.length:=by
    unfold start at h2
    by_cases hi:i<vs.length
    . exact hi
    . rw[List.getElem?_append_right (by simpa using hi)]at h2
      rw[List.getElem?_replicate]at h2
      split at h2<;>cases h2
   have ha:vs[i]?=some v:=by
    unfold start at h2
    rw[List.getElem?_append_left (by simpa using hi),List.getElem?_map]at h2
    cases e:vs[i]? with
    |none=>rw[e]at h2;cases h2
    |some a=>rw[e]at h2;cases h2;rfl
   obtain⟨u,hu,rv⟩:=r.get ha
   have hp:ps[i]?=some y:=by
    rw[←S.pre,List.getElem?_take_of_lt (by omega)];exact h1
   have ndP:ps.Nodup:=by rw[←S.pre];exact S.nd.sublist (List.take_sublist _ _)
   refine⟨u,rv,?_⟩
   rcases S.par y (List.mem_of_getElem? hp) with k|k
   . exact .inl ⟨k,rP ndP hp hu k⟩
   . obtain⟨c,e⟩:=qu (n:=s.heap.objs.size+1) k
     refine .inr ⟨.inl k,c,e,?_⟩
     have q:=x.cell y c e
     rw[rN ndP hp hu (by show scope.names.lookup y≠_;rw[k];decide)]at q
     exact q
 . exact e0.hok.fresh (Nat.le_of_lt (x.above y c (PySem.mem_of_lookup h)))
 . unfold start
   show _=N.length
   rw[List.length_append,List.length_map,List.length_replicate]
   omega
theorem Zi{CX:CXT}{P:Program}{w:World}{K:PySem.W.Frag}{mg:Str→Option Value}{base:Heap}{k:Nat}{f:Addr}{name qual:Str}{params:Arguments}{body:List Stmt}{scope:Scope}{dV kV doc pm cdv ct oc:Value}{an od:Option Addr}
 {osl:Array (Option Value)} {N ps:List Str} {sp:Sp} (lk:K.lookup f=some ⟨oc,od,.func (PySem.W.fnOf name qual params body scope dV kV doc pm an cdv ct),osl⟩) (hcd:PySem.W.codeIn K cdv qual=true) (S:tL N ps scope)
 (len:∀vs H Q E,sp vs H Q E→vs.length=ps.length)
 (hbody:∀(A:Around) (outer:List Env) (s:Shared) (H:Hp) (vs:List V) (Q:VK) (E:XK),yv k (A.deeper (envOfC qual scope s.heap.objs.size f cdv))→sp vs H Q E →
  ∃t,PSs (oW CX P w K mg base N qual scope f cdv A outer s H E) body t∧t {nx:=fun _ H'=>Q .non H',rt:=Q} (start N vs) H) :
 u7 P w K mg base CX (k+1) f (PySem.W.fnOf name qual params body scope dV kV doc pm an cdv ct) ps sp:=by
 refine⟨len,fun A outer s H args us vs Q E hr e0 hb r hsp=>?_⟩
 have hl:=len _ _ _ _ hsp
 have KX:K.In s.heap:=e0.mod.kin.keeps fun b o e=>(e0.bs b o e).1
 have lim:s.heap.NoLimit:=e0.mod.nolimit.keeps fun b o e=>(e0.bs b o e).1
 have hkind:∀y∈ps.zip us,scope.names.lookup y.1=some .local∨(scope.names.lookup y.1=some .cell∧((cellsFrom (s.heap.objs.size+1) scope.names []).lookup y.1).isSome=true):=fun⟨n,v⟩ hy=>by
  rcases S.par n (List.of_mem_zip hy).1 with q|q
  . exact .inl q
  . exact .inr ⟨q,PySem.W.cellsFrom_some _ _ _ (.inl q)⟩
 refine codeAny_call_function hr.depth (KX _ _ lk) rfl S.co S.gen rfl (PySem.W.codeRec_of KX hcd) (hb _ _ _ _ ?_)
 refine wpAny_newFunctionEnv_cells S.kind hkind fun env he s1 x=>?_
 subst he
 refine⟨lim.keeps x.toInCall.keep,codeAny_func ?_⟩
 obtain⟨t,ht,hq⟩:=hbody A outer s H vs Q E (hr.deeper _) hsp
 have I:Inv (oW CX P w K mg base N qual scope f cdv A outer s H E) [] (start N vs) H s1:=lJ S hr.hd e0 hl r x
 refine wpAny_mono (ht [] s1 (start N vs) H _ I hq) (fun fl s' hs=>?_) fun e s' hs=>hs
 have fin:∀{σ':St} {H':Hp} {v:V} {u:Value},Inv (oW CX P w K mg base N qual scope f cdv A outer s H E) [] σ' H' s'→RelV v u→Q v H'→CE outer P w H s Q u s':=
  fun{σ' H' v u} J rv q=>⟨v,H',J.os,J.bare,J.base,J.hok,rv,q⟩
 cases fl with
 |ret u=>
  obtain⟨v,σ',H',J,rv,q⟩:=hs
  exact fin J rv q
 |next=>
  obtain⟨σ',H',J,q⟩:=hs
  exact fin (v:=V.non) (u:=Value.none) J rfl q
 |brk=>
  obtain⟨_,_,_,q⟩:=hs
  exact False.elim q
 |cont=>
  obtain⟨_,_,_,q⟩:=hs
  exact False.elim q
end L2
namespace L2
open PySem PySem.Spec PyProof.Rows
section
variable {X:Cx}{x:Str}{p pos:Pos}{e:Expr}{es:List Expr}{t:TA}{id T:String}{r:List V→Hp→VK→Prop}
noncomputable def tCB(r:List V→Hp→VK→Prop)(t:TA):TE:=fun σ H Q=>t σ H fun vs H1=>r vs H1 Q
theorem iS(hc:yO X (.builtin id) r)(hg:Gl X x)(hm:X.mg x=none)(hv:bootBuiltins x=some (.builtin id))(ha:PA X (e::es) t)(hn:x≠"__name__":=by decide)(hdb:(x == ("__debug__":Str))=false:=by decide)
 (he:starEach (e::es) X.env=(false,eval e X.env)::starEach es X.env:=by rfl) (hpl:(backTo pos (starEach es X.env)).any (·.1)=false:=by rfl):PE X (.Call (.Name x p) (e::es) [] pos) (tCB r t):=by
 intro pins s σ H Q I h
 refine wpAny_Call_Name_kw (uZ I hg hm hv ?_ hn hdb)
 exact PyProof.Rows.callWith_builtin1 (thn (ha pos pins s σ H _ I h) fun us s1 ⟨vs,H1,I1,r1,q1⟩=>hc pins s1 σ H1 vs us Q I1 r1 q1) he hpl
theorem vR(hc:yO X (.type T) r)(hg:Gl X x)(hm:X.mg x=none)(hv:bootBuiltins x=some (.type T))(ha:PA X (e::es) t)(hn:x≠"__name__":=by decide)(hdb:(x == ("__debug__":Str))=false:=by decide)
 (he:starEach (e::es) X.env=(false,eval e X.env)::starEach es X.env:=by rfl) (hpl:(backTo pos (starEach es X.env)).any (·.1)=false:=by rfl):PE X (.Call (.Name x p) (e::es) [] pos) (tCB r t):=by
 intro pins s σ H Q I h
 refine wpAny_Call_Name_kw (uZ I hg hm hv ?_ hn hdb)
 exact PyProof.Rows.callWith_type1 (thn (ha pos pins s σ H _ I h) fun us s1 ⟨vs,H1,I1,r1,q1⟩=>hc pins s1 σ H1 vs us Q I1 r1 q1) he hpl
end
end L2
namespace HT
open PySem PyProof.Rows
section
variable {prog:Program}{w:World}{A:Around}{E:Value→Shared→Prop}{s:Shared}
theorem gq{t b:Addr}{vs ws:List Value}{Q:Value→Shared→Prop}(ht:IsTup s.heap t vs.toArray)(hb:IsTup s.heap b ws.toArray)(hv:vs≠[])
 (h1:ws=[]→Q (.ref t) s) (h2:ws≠[]→Q (.ref s.heap.objs.size) {s with heap:=s.heap.push {cls:=.type "tuple",data:=.seq (vs++ws).toArray}})
 (hsz:vs.length+ws.length≤sizeLine):wpAny (model prog w) A (binaryOp .Add (.ref t) (.ref b)) Q E s:=by
 obtain⟨⟨cls,dd,data,sl⟩,ho,hc,n,hd⟩:=id ht
 obtain⟨⟨cls2,dd2,data2,sl2⟩,ho2,hc2,n2,hd2⟩:=id hb
 simp only at hc hd hc2 hd2
 subst hc hd hc2 hd2
 have e:vs.toArray++ws.toArray=(vs++ws).toArray:=by simp
 by_cases hw:ws=[]
 . exact concat_meets ⟨_,ho,rfl⟩ ⟨_,ho2,rfl⟩ noFill_tuple_add seq_tuple_add PySem.F.slot_tuple_add PySem.F.entry_tuple_add (PySem.F.args_tuple_add_2 _ _)
    (tuple_addW1 t b vs.toArray ws.toArray n n2 dd dd2 sl sl2 (by simpa using hv) (by simp[hw])) ⟨ho,ho2,h1 hw⟩
 . refine concat_meets ⟨_,ho,rfl⟩ ⟨_,ho2,rfl⟩ noFill_tuple_add seq_tuple_add PySem.F.slot_tuple_add PySem.F.entry_tuple_add (PySem.F.args_tuple_add_2 _ _)
    (tuple_addW2 t b vs.toArray ws.toArray n n2 dd dd2 sl sl2 (by simpa using hv) (by simpa using hw) (by rw[List.size_toArray,List.size_toArray];exact hsz)) ⟨ho,ho2,?_⟩
   rw[e]
   exact h2 hw
noncomputable def sIx(n d:Nat):Option Int→Nat
 |none=>d
 |some v=>if v<0 then (v+(n:Int)).toNat else min v.toNat n
theorem mq(n d k:Nat):sIx n d (some (k:Int))=min k n:=by
 show (if (k:Int)<0 then ((k:Int)+(n:Int)).toNat else min (k:Int).toNat n)=min k n
 rw[if_neg (by omega),Int.toNat_natCast]
theorem a9(n d:Nat)(hd:d≤n)(o:Option Int):sIx n d o≤n:=by
 cases o with
 |none=>exact hd
 |some v=>
  show (if v<0 then (v+(n:Int)).toNat else min v.toNat n)≤n
  by_cases hv:v<0
  . rw[if_pos hv];omega
  . rw[if_neg hv];exact Nat.min_le_right _ _
theorem mI(v:Int)(n d:Nat):(if v<0 then max (v+(n:Int)) 0 else min v (n:Int))=((sIx n d (some v):Nat):Int):=by
 show (if v<0 then max (v+(n:Int)) 0 else min v (n:Int))=(((if v<0 then (v+(n:Int)).toNat else min v.toNat n):Nat):Int)
 by_cases hv:v<0
 . simp only[if_pos hv];omega
 . simp only[if_neg hv];omega
theorem oQ(lo hi:Option Int)(n:Nat):Builtin.Slice.sliceAdjust lo hi 1 (n:Int)=(((sIx n 0 lo:Nat):Int),((sIx n n hi:Nat):Int)):=by
 have h1:¬((1:Int)<0):=by omega
 unfold Builtin.Slice.sliceAdjust
 simp only[h1,if_false]
 refine Prod.ext ?_ ?_
 . cases lo with
   |none=>rfl
   |some v=>exact mI v n 0
 . cases hi with
   |none=>rfl
   |some v=>exact mI v n n
theorem nL(i j:Nat):Builtin.Slice.slicePlaces (i:Int) (j:Int) 1=j-i:=by
 unfold Builtin.Slice.slicePlaces
 have h1:(1:Int) > 0:=by omega
 simp only[h1,if_true,Int.ediv_one]
 split<;>omega
theorem xj{v:Value}{o:Option Int}{Q:Option Int→Shared→Prop}(p:IsPart v o)(h:Q o s):wpAny (model prog w) A (Builtin.Slice.slicePartIndex v) Q E s:=by
 cases p with
 |none=>exact slicePart_none h
 |int i t=>exact slicePart_int h
theorem wN{sl:Addr}{vl vu:Value}{lo hi:Option Int}{n:Nat}{Q:Int × Int × Nat→Shared→Prop}(hs:s.heap.IsSliceOf sl vl vu .none)(pl:IsPart vl lo)(pu:IsPart vu hi)
 (h:Q (((sIx n 0 lo:Nat):Int),1,sIx n n hi-sIx n 0 lo) s):wpAny (model prog w) A (Builtin.Slice.sliceApplied (.ref sl) (pure (n:Int))) Q E s:=by
 obtain⟨os,hos,hcs,hds⟩:=id hs
 unfold Builtin.Slice.sliceApplied Builtin.Slice.sliceFields
 refine wpAny_bind (wpAny_bind (wpAny_field hos hds (x:=vl) rfl (wpAny_bind (wpAny_field hos hds (x:=vu) rfl (wpAny_bind (wpAny_field hos hds (x:=.none) rfl (wpAny_pure ?_)))))))
 refine wpAny_bind (slicePart_none ?_)
 show wpAny _ _ (if ((1:Int) == 0)=true then _ else _) _ _ s
 rw[if_neg (by decide)]
 refine wpAny_bind (xj pl (wpAny_bind (xj pu (wpAny_bind (wpAny_pure ?_)))))
 show wpAny _ _ (match Builtin.Slice.sliceAdjust lo hi 1 (n:Int) with|(lo,hi)=>pure (lo,(1:Int),Builtin.Slice.slicePlaces lo hi 1)) _ _ s
 rw[oQ lo hi n]
 show wpAny _ _ (pure (((sIx n 0 lo:Nat):Int),(1:Int),Builtin.Slice.slicePlaces ((sIx n 0 lo:Nat):Int) ((sIx n n hi:Nat):Int) 1)) _ _ s
 rw[nL]
 exact wpAny_pure h
theorem ic(xs:Array Value)(i k:Nat):((List.range k).filterMap fun(m:Nat)=>xs[((i:Int)+(m:Int)*1).toNat]?).toArray=((xs.toList.drop i).take k).toArray:=by
 have e:(fun(m:Nat)=>xs[((i:Int)+(m:Int)*1).toNat]?)=fun m=>xs[i+m]?:=by
  funext m
  have:((i:Int)+(m:Int)*1).toNat=i+m:=by omega
  rw[this]
 rw[e]
 have:=pick_run xs i k
 rw[List.filterMap_map]at this
 have e2:((fun x=>xs[x]?)∘fun x=>i+x)=fun m=>xs[i+m]?:=rfl
 rw[e2]at this
 rw[this]
theorem v8{t sl:Addr}{items:Array Value}{vl vu:Value}{lo hi:Option Int}{Q:Value→Shared→Prop}(ht:IsTup s.heap t items)(hs:s.heap.IsSliceOf sl vl vu .none)(pl:IsPart vl lo)(pu:IsPart vu hi)
 (hw:¬(sIx items.size 0 lo=0∧sIx items.size items.size hi=items.size))
 (h:Q (.ref s.heap.objs.size) {s with heap:=s.heap.push {cls:=.type "tuple",data:=.seq ((items.toList.drop (sIx items.size 0 lo)).take (sIx items.size items.size hi-sIx items.size 0 lo)).toArray}})
 (hsz:items.size≤sizeLine):wpAny (model prog w) A (getItem (.ref t) (.ref sl)) Q E s:=by
 have htake:sizeOk (.seq ((items.toList.drop (sIx items.size 0 lo)).take (sIx items.size items.size hi-sIx items.size 0 lo)).toArray):=by
  show ((items.toList.drop (sIx items.size 0 lo)).take (sIx items.size items.size hi-sIx items.size 0 lo)).toArray.size≤sizeLine
  rw[List.size_toArray,List.length_take,List.length_drop,Array.length_toList]
  omega
 have hj:sIx items.size items.size hi≤items.size:=a9 _ _ (Nat.le_refl _) hi
 obtain⟨os,hos,hcs,hds⟩:=id hs
 have hTs:s.TypeIs (.ref sl) "slice":=⟨os,hos,hcs⟩
 unfold getItem
 try with_reducible refine wpAny_holding ?_
 first|refine wpAny_bind (wpAny_pure ?_)|skip
 refine wpAny_bind (wpAny_sequenceKey ht.typeIs (by decide) ?_)
 refine wpAny_bind (wpAny_callSpecial?_slot (name:=Str.ofString "__getitem__") ht.typeIs PyProof.Rows.slot_tuple_getitem
  (wpAny_call_entry PyProof.Rows.slot_tuple_getitem ht.typeIs entry_tuple_getitem ?_ (args_tuple_getitem _ _)))
 show wpAny _ _ (Builtin.Tuple.tupleItemsOf (.ref t) >>= _) _ _ s
 refine wpAny_bind (tupleItemsOf_ ht ?_)
 refine wpAny_bind (wpAny_typeOf hTs ?_)
 rw[if_pos (by decide)]
 refine wpAny_bind (wN hs pl pu ?_)
 have hno:¬((((sIx items.size 0 lo:Nat):Int) == 0&&(1:Int) == 1&&(sIx items.size items.size hi-sIx items.size 0 lo) == items.size)=true):=by
  intro q
  rw[Bool.and_eq_true,Bool.and_eq_true]at q
  have q1:((sIx items.size 0 lo:Nat):Int)=0:=eq_of_beq q.1.1
  have q2:sIx items.size items.size hi-sIx items.size 0 lo=items.size:=eq_of_beq q.2
  exact hw ⟨by omega,by omega⟩
 show wpAny _ _ (if (((sIx items.size 0 lo:Nat):Int) == 0&&(1:Int) == 1&&(sIx items.size items.size hi-sIx items.size 0 lo) == items.size)=true then _ else _) _ _ s
 rw[if_neg hno,ic]
 first
  |exact wpAny_bind (m:=Builtin.Tuple.tupleExact _) (wpAny_newObj_type (wpAny_pure ⟨_,rfl,wpAny_pure h⟩) htake)
  |exact wpAny_bind (m:=Builtin.Tuple.tupleExact _) (wpAny_newObj_type (wpAny_bind (wpAny_pure (wpAny_pure ⟨_,rfl,wpAny_pure h⟩))) htake)
  |exact wpAny_bind (wpAny_bind (m:=Builtin.Tuple.tupleExact _) (wpAny_newObj_type (wpAny_pure (wpAny_pure ⟨_,rfl,wpAny_pure h⟩)) htake))
  |exact wpAny_bind (wpAny_bind (m:=Builtin.Tuple.tupleExact _) (wpAny_newObj_type (wpAny_pure ⟨_,rfl,wpAny_pure h⟩) htake))
end
end HT
namespace L2
open PySem PySem.Spec PyProof.Rows
noncomputable abbrev TO:=St→Hp→(Option Int→Hp→Prop)→Prop
def PO(X:Cx)(e:Option Expr)(t:TO):Prop:=
 ∀(pins:List (Addr × Obj)) (s:Shared) (σ:St) (H:Hp) (Q:Option Int→Hp→Prop),Inv X pins σ H s→t σ H Q →
  wpAny (model X.prog X.w) X.A (evalPart e X.env) (fun u s'=>∃o H',Inv X pins σ H' s'∧IsPart u o∧Q o H') X.xe s
noncomputable def dA:TO:=fun _ H Q=>Q none H
noncomputable def Y9(t:TE):TO:=fun σ H Q=>t σ H fun x H1=>∃i,x=.int i∧Q (some i) H1
section
variable {X:Cx}{e:Expr}{te:TE}{lo hi:Option Expr}{tl th:TO}{pos p2:Pos}
theorem eM:PO X none dA:=by
 intro pins s σ H Q I h
 rw[evalPart_none]
 exact wpAny_pure ⟨none,H,I,.none,h⟩
theorem eN(h:PE X e te):PO X (some e) (Y9 te):=by
 intro pins s σ H Q I hw
 rw[evalPart_some]
 refine thn (h pins s σ H _ I hw) fun u s1 ⟨x,H1,I1,r1,q1⟩=>?_
 obtain⟨i,rfl,q⟩:=q1
 obtain⟨t,rfl⟩:=r1
 exact⟨some i,H1,I1,.int i t,q⟩
def SlR(X:Cx)(r:V→Option Int→Option Int→Hp→VK→Prop):Prop:=
 ∀(pins:List (Addr × Obj)) (s:Shared) (σ:St) (H:Hp) (x:V) (v vl vu:Value) (lo hi:Option Int) (sl:Addr) (Q:VK),Inv X pins σ H s→RelV x v→s.heap.IsSliceOf sl vl vu .none→IsPart vl lo→IsPart vu hi→r x lo hi H Q →
  ∃T id,typeLookup (.type T) "__getitem__"=pure (some (.builtin id))∧s.TypeIs v T∧wpAny (model X.prog X.w) X.A (getItem v (.ref sl)) (EP X pins σ Q) X.xe s
noncomputable def tSl(r:V→Option Int→Option Int→Hp→VK→Prop)(te:TE)(tl th:TO):TE:=fun σ H Q=>te σ H fun x H1=>tl σ H1 fun l H2=>th σ H2 fun u H3=>r x l u H3 Q
theorem iX{r:V→Option Int→Option Int→Hp→VK→Prop}(hr:SlR X r)(he:PE X e te)(hl:PO X lo tl)(hu:PO X hi th):PE X (.Subscript e (.Slice lo hi none p2) pos) (tSl r te tl th):=by
 intro pins s σ H Q I h
 refine Subscript_ (thn (he pins s σ H _ I h) fun v s1 ⟨x,H1,I1,r1,q1⟩=>?_)
 refine wpAny_Slice (thn (hl pins s1 σ H1 _ I1 q1) fun vl s2 ⟨l,H2,I2,pl,q2⟩=>thn (hu pins s2 σ H2 _ I2 q2) fun vu s3 ⟨u,H3,I3,pu,q3⟩=>?_)
 rw[evalPart_none]
 refine wpAny_pure ?_
 have I4:Inv X pins σ H3 {s3 with heap:=s3.heap.push {cls:=.type "slice",data:=.fields #[vl,vu,.none]}}:=I3.kept (t':=s3.toks) fun b ob q=>Heap.get?_push_of_some _ q
 obtain⟨T,id,hT,ht,hg⟩:=hr pins {s3 with heap:=s3.heap.push {cls:=.type "slice",data:=.fields #[vl,vu,.none]}} σ H3 x v vl vu l u s3.heap.objs.size Q I4 r1 (Heap.IsSliceOf.new ..) pl pu q3
 show wpAny (model X.prog X.w) X.A (subscriptTail e (.Slice lo hi none p2) v (.ref s3.heap.objs.size)) (EP X pins σ Q) X.xe {s3 with heap:=s3.heap.push {cls:=.type "slice",data:=.fields #[vl,vu,.none]}}
 exact tail_any (ops:=[.ref s3.heap.objs.size,v]) ht hT hg (by with_unfolding_all rfl)
noncomputable def sv(xs:List V)(lo hi:Option Int):List V:=(xs.drop (HT.sIx xs.length 0 lo)).take (HT.sIx xs.length xs.length hi-HT.sIx xs.length 0 lo)
theorem uu(xs:List V)(lo hi:Option Int):(sv xs lo hi).length≤xs.length:=by
 unfold sv
 rw[List.length_take,List.length_drop]
 omega
noncomputable def Xh(K:PySem.W.Frag):V→Option Int→Option Int→Hp→VK→Prop:=fun x lo hi H Q=>∃a xs,x=.ref a∧SqT K H a xs ∧
 ¬(HT.sIx xs.length 0 lo=0∧HT.sIx xs.length xs.length hi=xs.length)∧∀p,H p=none→Q (.ref p) (upd H p (.tup (sv xs lo hi)))
theorem ZD:SlR X (Xh X.K):=by
 intro pins s σ H x v vl vu lo hi sl Q I rx hs pl pu h
 obtain⟨a,xs,rfl,hx,hw,q⟩:=h
 cases rx
 obtain⟨its,r,ht,hz⟩:=I.tuple hx
 have hlen:its.toArray.size=xs.length:=by rw[List.size_toArray];exact r.length.symm
 refine⟨"tuple",_,PyProof.Rows.slot_tuple_getitem.lookup,ht.typeIs,?_⟩
 refine HT.v8 ht hs pl pu (by rw[hlen];exact hw) ?_ (by rw[hlen];exact hz)
 rw[hlen]
 refine⟨.ref s.heap.objs.size,_,I.laid (t':=s.toks) (o:=.tup (sv xs lo hi)) (fun b ob q=>Heap.get?_push_of_some _ q) (Nat.le_refl _) ?_,rfl,q _ (I.hok.fresh (Nat.le_refl _))⟩
 exact⟨Nat.le_trans (uu xs lo hi) hz,_,(r.drop (HT.sIx xs.length 0 lo)).take (HT.sIx xs.length xs.length hi-HT.sIx xs.length 0 lo),vt.new _ _⟩
noncomputable def Yp(K:PySem.W.Frag):R2:=fun x y H Q=>∃a b xs ys,x=.ref a∧y=.ref b∧SqT K H a xs∧SqT K H b ys∧xs≠[]∧xs.length+ys.length≤sizeLine ∧
 (ys=[]→Q (.ref a) H)∧(ys≠[]→∀p,H p=none→Q (.ref p) (upd H p (.tup (xs++ys))))
theorem Vals.xp{xs:List V}{us:List Value}(r:Vals xs us):us=[]↔xs=[]:=by
 cases r with
 |nil=>simp
 |cons _ _=>simp
theorem fk:OpR X (binaryOp .Add) (Yp X.K):=by
 intro pins s σ H x y v u Q I rx ry h
 obtain⟨a,b,xs,ys,rfl,rfl,ha,hb,hx,hz,q1,q2⟩:=h
 cases rx
 cases ry
 obtain⟨its,r1,p1,_⟩:=I.tuple ha
 obtain⟨its2,r2,p2,_⟩:=I.tuple hb
 refine HT.gq p1 p2 (fun z=>hx (r1.xp.mp z)) (fun z=>⟨.ref a,H,I,rfl,q1 (r2.xp.mp z)⟩) (fun z=>?_) (by rw[←r1.length,←r2.length];exact hz)
 refine⟨.ref s.heap.objs.size,_,I.laid (t':=s.toks) (o:=.tup (xs++ys)) (fun b ob q=>Heap.get?_push_of_some _ q) (Nat.le_refl _) ?_,rfl,q2 (fun w=>z (r2.xp.mpr w)) _ (I.hok.fresh (Nat.le_refl _))⟩
 exact⟨by rw[List.length_append];exact hz,_,r1.append r2,vt.new _ _⟩
end
end L2
namespace L2
open PySem PySem.Spec PyProof.Rows
noncomputable def ixN(n:Nat)(i:Int):Option Nat:=if 0≤i then (if i<n then some i.toNat else none) else if -(n:Int)≤i then some (i+n).toNat else none
noncomputable def atI{α:Type}(xs:List α)(i:Int):Option α:=(ixN xs.length i).bind fun j=>xs[j]?
theorem mW{n:Nat}{i:Int}{j:Nat}(h:ixN n i=some j):seqIndex? i n=some j∧j<n∧-(n:Int)≤i∧i<n:=by
 unfold ixN at h
 by_cases h0:0≤i
 . rw[if_pos h0]at h
   by_cases h1:i<n
   . rw[if_pos h1]at h
     have e:i.toNat=j:=Option.some.inj h
     exact⟨by rw[seqIndex_of h0 h1,e],by omega,by omega,h1⟩
   . rw[if_neg h1]at h;cases h
 . rw[if_neg h0]at h
   by_cases h1:-(n:Int)≤i
   . rw[if_pos h1]at h
     have e:(i+n).toNat=j:=Option.some.inj h
     exact⟨by rw[seqIndex_neg (by omega) h1,e],by omega,h1,by omega⟩
   . rw[if_neg h1]at h;cases h
theorem qK{α:Type}{xs:List α}{i:Int}{v:α}(h:atI xs i=some v):∃j,seqIndex? i xs.length=some j∧xs[j]?=some v∧j<xs.length∧-(xs.length:Int)≤i∧i<xs.length:=by
 unfold atI at h
 cases e:ixN xs.length i with
 |none=>rw[e]at h;cases h
 |some j=>
  rw[e]at h
  obtain⟨h1,h2,h3,h4⟩:=mW e
  exact⟨j,h1,h,h2,h3,h4⟩
theorem qL{α:Type}{xs:List α}{j:Nat}{v:α}(h:xs[j]?=some v):atI xs (j:Int)=some v:=by
 have hj:j<xs.length:=(List.getElem?_eq_some_iff.mp h).1
 have e:ixN xs.length (j:Int)=some j:=by
  unfold ixN
  rw[if_pos (by omega),if_pos (by omega)];simp
 unfold atI;rw[e];exact h
theorem ki{α:Type}(xs:List α)(v:α):atI (xs++[v]) (-1)=some v:=by
 have hl:(xs++[v]).length=xs.length+1:=by simp
 have e:ixN (xs++[v]).length (-1)=some xs.length:=by
  unfold ixN
  rw[hl,if_neg (by decide),if_pos (by omega)]
  congr 1
  omega
 unfold atI
 rw[e]
 show (xs++[v])[xs.length]?=some v
 simp
def mF(b:Expr):Prop:=∀o i,subscripted b false o i=operate [o,i] (getItem o i)
def IxR(X:Cx)(r:R2):Prop:=
 ∀(value slice:Expr) (pins:List (Addr × Obj)) (s:Shared) (σ:St) (H:Hp) (x y:V) (v u:Value) (Q:VK),Inv X pins σ H s→RelV x v→RelV y u→r x y H Q →
  subscripted slice false v u=operate [v,u] (getItem v u)→wpAny (model X.prog X.w) X.A (subscriptTail value slice v u) (EP X pins σ Q) X.xe s
def MtR(X:Cx)(id:String)(r:V→List V→Hp→VK→Prop):Prop:=
 ∀(pins:List (Addr × Obj)) (s:Shared) (σ:St) (H:Hp) (x:V) (xs:List V) (v:Value) (us:List Value) (Q:VK),Inv X pins σ H s→RelV x v→Vals xs us→r x xs H Q →
  wpAny (model X.prog X.w) X.A (call (.builtin id) (v::us)) (EP X pins σ Q) X.xe s
section
variable {X:Cx}{a b:Expr}{ta tb:TE}{pos:Pos}
theorem IxR.or{r r':R2}(h:IxR X r)(h':IxR X r'):IxR X (fun x y H Q=>r x y H Q∨r' x y H Q):=by
 intro value slice pins s σ H x y v u Q I rx ry q hs
 rcases q with q|q
 . exact h value slice pins s σ H x y v u Q I rx ry q hs
 . exact h' value slice pins s σ H x y v u Q I rx ry q hs
theorem Yb{r:R2}(hr:IxR X r)(ha:PE X a ta)(hb:PE X b tb)(hs:mF b):PE X (.Subscript a b pos) (tOp r ta tb):=by
 intro pins s σ H Q I h
 exact Subscript_ (cX ha hb I h fun v u s2 x y H2 I2 rx ry q=>hr a b pins s2 σ H2 x y v u Q I2 rx ry q (hs _ _))
noncomputable def Yq(K:PySem.W.Frag):R2:=fun x y H Q=>∃p xs i v,x=.ref p∧y=.int i∧SqL K H p xs∧atI xs i=some v∧Q v H
noncomputable def Ys(K:PySem.W.Frag):R2:=fun x y H Q=>∃p xs i v,x=.ref p∧y=.int i∧SqT K H p xs∧atI xs i=some v∧Q v H
noncomputable def Yr:R2:=fun x y H Q=>∃z i c,x=.str z∧y=.int i∧z.length≤sizeLine∧atI z.cps.toList i=some c∧Q (.str ⟨#[c]⟩) H
theorem fE:IxR X (Yq X.K):=by
 intro value slice pins s σ H x y v u Q I rx ry h hs
 obtain⟨p,xs,i,z,rfl,rfl,hq,he,q⟩:=h
 cases rx
 obtain⟨t,rfl⟩:=ry
 obtain⟨its,r,pl,hz⟩:=I.list hq
 obtain⟨j,h1,h2,h3,h4,h5⟩:=qK he
 obtain⟨w,ew,rw'⟩:=r.get h2
 have hl:=r.length
 have hn:=vm
 have fin:EP X pins σ Q w s:=⟨z,H,I,rw',q⟩
 by_cases h0:0≤i
 . have hj:i.toNat=j:=by
    rw[seqIndex_of h0 h5]at h1
    exact Option.some.inj h1
   exact item_listR pl.isList h0 (by omega) (by rw[hj];simpa using ew) fin hs
 . have hj:(i+(its.toArray.size:Int)).toNat=j:=by
    rw[seqIndex_neg (by omega) h4]at h1
    rw[List.size_toArray,←hl]
    exact Option.some.inj h1
   exact subscriptTail_builtinR (x:=w) pl.isList.typeIs slot_list_getitem.lookup
    (wpAny_getItem_list_neg (Q:=fun r s'=>r=w∧EP X pins σ Q r s') pl.isList (by omega) (by rw[List.size_toArray]<;>omega) (by omega) (by rw[hj];simpa using ew) ⟨rfl,fin⟩) hs
theorem bE:IxR X (Ys X.K):=by
 intro value slice pins s σ H x y v u Q I rx ry h hs
 obtain⟨p,xs,i,z,rfl,rfl,hq,he,q⟩:=h
 cases rx
 obtain⟨t,rfl⟩:=ry
 obtain⟨its,r,pl,hz⟩:=I.tuple hq
 obtain⟨j,h1,h2,h3,h4,h5⟩:=qK he
 obtain⟨w,ew,rw'⟩:=r.get h2
 have hl:=r.length
 have hn:=vm
 have fin:EP X pins σ Q w s:=⟨z,H,I,rw',q⟩
 exact subscriptTail_builtinR (x:=w) pl.typeIs slot_tuple_getitem.lookup
  (getItem_tuple (j:=j) (Q:=fun r s'=>r=w∧EP X pins σ Q r s') pl (by omega) (by omega) (by rw[List.size_toArray,←hl];exact h1) (by simpa using ew) ⟨rfl,fin⟩) hs
theorem bD:IxR X Yr:=by
 intro value slice pins s σ H x y v u Q I rx ry h hs
 obtain⟨z,i,c,rfl,rfl,hz,he,q⟩:=h
 obtain⟨t,rfl⟩:=rx
 obtain⟨t',rfl⟩:=ry
 obtain⟨j,h1,h2,h3,h4,h5⟩:=qK he
 have hl:z.cps.toList.length=z.length:=by simp[Str.length]
 rw[hl]at h1 h4 h5
 have hn:=vm
 exact tail_any (typeIs_str s z t) slot_str_getitem.lookup (getItem_str (c:=c) (by
  have e1:decide (i < -(2 ^ 63:Int))=false:=decide_eq_false (by omega)
  have e2:decide (i ≥ 2 ^ 63)=false:=decide_eq_false (by omega)
  rw[e1,e2,Bool.or_false]) (by rw[h1];simpa using h2) ⟨.str ⟨#[c]⟩,H,I.tok _,⟨_,rfl⟩,q⟩) hs
noncomputable def rIx(K:PySem.W.Frag):R2:=fun x y H Q=>Yq K x y H Q∨Ys K x y H Q∨Yr x y H Q
theorem bC:IxR X (rIx X.K):=fE.or (bE.or bD)
theorem oq(its:List Value)(n j:Nat)(u:Value):Obj.mapSeq (·.setIfInBounds j u) {cls:=.type "list",data:=.seq its.toArray n}={cls:=.type "list",data:=.seq (its.set j u).toArray n}:=by
 simp[Obj.mapSeq]
theorem Inv.lst{pins:List (Addr × Obj)}{σ:St}{H:Hp}{s:Shared}{p:Addr}{xs:List V}(I:Inv X pins σ H s)(h:H p=some (.lst xs)) :
 ∃(its:List Value) (n:Nat),Vals xs its∧s.heap.get? p=some {cls:=.type "list",data:=.seq its.toArray n}∧xs.length≤sizeLine:=by
 obtain⟨z,its,n,r,e⟩:=I.hok p _ h
 exact⟨its,n,r,e,z⟩
theorem Inv.b9{pins:List (Addr × Obj)}{σ:St}{H:Hp}{s:Shared}{p:Addr}{xs ys:List V}{its its':List Value}{n n':Nat}{f:Obj→Obj}(I:Inv X pins σ H s)(h:H p=some (.lst xs))
 (ho:s.heap.get? p=some {cls:=.type "list",data:=.seq its.toArray n}) (hf:f {cls:=.type "list",data:=.seq its.toArray n}={cls:=.type "list",data:=.seq its'.toArray n'}) (r:Vals ys its') (hz:ys.length≤sizeLine) (t:Nat) :
 Inv X pins σ (upd H p (.lst ys)) {s with heap:=s.heap.update p f,toks:=t}:=by
 have e:(s.heap.update p f).get? p=some {cls:=.type "list",data:=.seq its'.toArray n'}:=by
  rw[Heap.get?_update_self f ho (by rw[hf]<;>rfl),hf]
 refine I.write (x:=p) (e:=p) (by rw[h];trivial) (.inl rfl) (fun b u hb q=>(Heap.get?_update_other _ _ (Ne.symm hb)).trans q) ⟨_,e⟩ ?_
 exact⟨hz,its',n',r,e⟩
noncomputable def dr:V→V→V→Hp→(Hp→Prop)→Prop:=fun o i v H Q=>∃p xs k j,o=.ref p∧i=.int k∧H p=some (.lst xs)∧ixN xs.length k=some j∧Q (upd H p (.lst (xs.set j v)))
theorem set_list:ZY X dr:=by
 intro pins s σ H o i v ov iv u Q I ro ri rv h
 obtain⟨p,xs,k,j,rfl,rfl,hp,hj,q⟩:=h
 cases ro
 obtain⟨t,rfl⟩:=ri
 obtain⟨its,n,r,ho,hz⟩:=I.lst hp
 obtain⟨h1,h2,h3,h4⟩:=mW hj
 have hl:=r.length
 have hn:=vm
 have I':Inv X pins σ (upd H p (.lst (xs.set j v))) {s with heap:=s.heap.update p (Obj.mapSeq (·.setIfInBounds j u))}:=
  I.b9 hp ho (oq its n j u) (r.set rv j) (by rw[List.length_set];exact hz) s.toks
 by_cases h0:0≤k
 . have hk:k.toNat=j:=by
    rw[seqIndex_of h0 h4]at h1
    exact Option.some.inj h1
   exact PySem.W.ki_setAt ho h0 (by omega) (by rw[List.size_toArray,←hl];exact h4) (by rw[hk];exact⟨_,I',q⟩)
 . have hk:(k+(its.toArray.size:Int)).toNat=j:=by
    rw[seqIndex_neg (by omega) h3]at h1
    rw[List.size_toArray,←hl]
    exact Option.some.inj h1
   exact PySem.W.ki_setBack ho (by omega) (by rw[List.size_toArray,←hl];exact h3) (by omega) (by rw[hk];exact⟨_,I',q⟩)
theorem ql(lo hi:Option Int)(n:Nat):(sliceBounds lo hi none n).1=((HT.sIx n 0 lo:Nat):Int)∧(sliceBounds lo hi none n).2.1=((HT.sIx n n hi:Nat):Int)∧(sliceBounds lo hi none n).2.2=1:=by
 refine⟨?_,?_,rfl⟩
 . cases lo with
   |none=>simp[sliceBounds,HT.sIx]
   |some i=>
    simp only[sliceBounds,HT.sIx,Option.getD_none,show (1:Int) > 0 by decide,if_true]
    by_cases h:i<0
    . simp only[h,if_true]<;>omega
    . simp only[h,if_false]<;>omega
 . cases hi with
   |none=>simp[sliceBounds,HT.sIx]
   |some i=>
    simp only[sliceBounds,HT.sIx,Option.getD_none,show (1:Int) > 0 by decide,if_true]
    by_cases h:i<0
    . simp only[h,if_true]<;>omega
    . simp only[h,if_false]<;>omega
theorem rF(its:List Value)(lo hi:Option Int):slicePick its.toArray lo hi none=((its.drop (HT.sIx its.length 0 lo)).take (HT.sIx its.length its.length hi-HT.sIx its.length 0 lo)).toArray:=by
 obtain⟨h1,h2,h3⟩:=ql lo hi its.toArray.size
 unfold slicePick
 rw[h1,h2,h3]
 simp only[sliceRange_one,pick_run,List.size_toArray]<;>rfl
noncomputable def Xg(K:PySem.W.Frag):V→Option Int→Option Int→Hp→VK→Prop:=fun x lo hi H Q=>∃a xs,x=.ref a∧SqL K H a xs∧∀p,H p=none→Q (.ref p) (upd H p (.lst (sv xs lo hi)))
theorem ef:SlR X (Xg X.K):=by
 intro pins s σ H x v vl vu lo hi sl Q I rx hs pl pu h
 obtain⟨a,xs,rfl,hx,q⟩:=h
 cases rx
 obtain⟨its,r,ht,hz⟩:=I.list hx
 have hlen:=r.length
 refine⟨"list",_,slot_list_getitem.lookup,ht.isList.typeIs,?_⟩
 refine wpAny_getItem_list_slice ht.isList hs pl pu .none (by simp) ?_ (by rw[List.size_toArray]<;>omega)
 rw[rF,←hlen]
 refine⟨.ref s.heap.objs.size,_,I.laid (t':=s.toks) (o:=.lst (sv xs lo hi)) (fun b ob q=>Heap.get?_push_of_some _ q) (Nat.le_refl _) ?_,rfl,q _ (I.hok.fresh (Nat.le_refl _))⟩
 exact⟨Nat.le_trans (uu xs lo hi) hz,_,0,(r.drop (HT.sIx xs.length 0 lo)).take (HT.sIx xs.length xs.length hi-HT.sIx xs.length 0 lo),Heap.get?_push_size _ rfl⟩
noncomputable def xm:V→Bool
 |.non=>true
 |.bl _=>true
 |.int _=>true
 |.str _=>true
 |_=>false
noncomputable def eqV:V→V→Bool
 |.non,.non=>true
 |.bl a,.bl b=>a == b
 |.bl a,.int b=>(if a then 1 else 0) == b
 |.int a,.bl b=>a == (if b then 1 else 0)
 |.int a,.int b=>a == b
 |.str a,.str b=>a == b
 |_,_=>false
theorem cn{A:Around}{s:Shared}{y x:V}{u v:Value}(ry:RelV y u)(rx:RelV x v)(fy:xm y=true)(fx:xm x=true):SeqAt.EqAt A s u v (eqV y x):=by
 cases y with
 |non=>
  cases ry
  cases x with
  |non=>cases rx;exact SeqAt.EqAt.same _
  |bl b=>cases rx;exact SeqAt.EqAt.none_bool b
  |int b=>obtain⟨t,rfl⟩:=rx;exact SeqAt.EqAt.none_int b t
  |str b=>obtain⟨t,rfl⟩:=rx;exact SeqAt.EqAt.none_str b t
  |_=>exact absurd (show false=true from fx) Bool.false_ne_true
 |bl a=>
  cases ry
  cases x with
  |non=>cases rx;exact SeqAt.EqAt.bool_none a
  |bl b=>cases rx;exact SeqAt.EqAt.bool_bool a b
  |int b=>obtain⟨t,rfl⟩:=rx;exact SeqAt.EqAt.bool_int a b t
  |str b=>obtain⟨t,rfl⟩:=rx;exact SeqAt.EqAt.bool_str a b t
  |_=>exact absurd (show false=true from fx) Bool.false_ne_true
 |int a=>
  obtain⟨t',rfl⟩:=ry
  cases x with
  |non=>cases rx;exact SeqAt.EqAt.int_none a t'
  |bl b=>cases rx;exact SeqAt.EqAt.int_bool a t' b
  |int b=>obtain⟨t,rfl⟩:=rx;exact SeqAt.EqAt.int_int a t' b t
  |str b=>obtain⟨t,rfl⟩:=rx;exact SeqAt.EqAt.int_str a t' b t
  |_=>exact absurd (show false=true from fx) Bool.false_ne_true
 |str a=>
  obtain⟨t',rfl⟩:=ry
  cases x with
  |non=>cases rx;exact SeqAt.EqAt.str_none a t'
  |bl b=>cases rx;exact SeqAt.EqAt.str_bool a t' b
  |int b=>obtain⟨t,rfl⟩:=rx;exact SeqAt.EqAt.str_int a t' b t
  |str b=>obtain⟨t,rfl⟩:=rx;exact SeqAt.EqAt.str_str a t' b t
  |_=>exact absurd (show false=true from fx) Bool.false_ne_true
 |_=>exact absurd (show false=true from fy) Bool.false_ne_true
noncomputable def eqU(x:V)(u:Value):Bool:=match u with
 |.none=>eqV .non x
 |.bool b=>eqV (.bl b) x
 |.int i _=>eqV (.int i) x
 |.str z _=>eqV (.str z) x
 |_=>false
theorem oX{x y:V}{u:Value}(r:RelV y u)(f:xm y=true):eqU x u=eqV y x:=by
 cases y with
 |non=>cases r;rfl
 |bl b=>cases r;rfl
 |int i=>obtain⟨t,rfl⟩:=r;rfl
 |str z=>obtain⟨t,rfl⟩:=r;rfl
 |_=>exact absurd (show false=true from f) Bool.false_ne_true
theorem qJ{x:V}:∀{xs:List V} {us:List Value},Vals xs us→xs.all xm=true→us.any (eqU x)=xs.any fun y=>eqV y x
 |_,_,.nil,_=>rfl
 |y::xs,u::us,.cons r t,f=>by
  rw[List.all_cons,Bool.and_eq_true]at f
  rw[List.any_cons,List.any_cons,oX r f.1,qJ t f.2]
theorem vA{A:Around}{s:Shared}{x:V}{v:Value}(rx:RelV x v)(fx:xm x=true):∀{xs:List V} {us:List Value},Vals xs us→xs.all xm=true→∀u∈us,SeqAt.EqAt A s u v (eqU x u)
 |_,_,.nil,_=>fun u hu=>by cases hu
 |y::xs,u::us,.cons r t,f=>fun u' hu=>by
  rw[List.all_cons,Bool.and_eq_true]at f
  rcases List.mem_cons.mp hu with rfl|hu
  . rw[oX r f.1];exact cn r rx f.1 fx
  . exact vA rx fx t f.2 u' hu
noncomputable def inV(x:V)(xs:List V):Bool:=xs.any fun y=>eqV y x
noncomputable def rIn(K:PySem.W.Frag)(neg:Bool):R2:=fun x y H Q=>∃p xs,y=.ref p∧(SqL K H p xs∨SqT K H p xs)∧xm x=true∧xs.all xm=true∧Q (.bl (if neg then !inV x xs else inV x xs)) H
theorem lz:OpR X (compareOp .In) (rIn X.K false):=by
 intro pins s σ H x y v u Q I rx ry h
 obtain⟨p,xs,rfl,hq,fx,fs,q⟩:=h
 cases ry
 rcases hq with hq|hq
 . obtain⟨its,r,pl,hz⟩:=I.list hq
   refine SeqAt.in_listAt (eqU x) pl.isList (fun w hw=>vA rx fx r fs w (by simpa using hw)) ⟨.bl _,H,I,rfl,?_⟩
   rw[show its.toArray.any (eqU x)=its.any (eqU x) by simp,qJ r fs]
   exact q
 . obtain⟨its,r,pl,hz⟩:=I.tuple hq
   refine SeqAt.in_tupleAt (eqU x) pl (fun w hw=>vA rx fx r fs w (by simpa using hw)) ⟨.bl _,H,I,rfl,?_⟩
   rw[show its.toArray.any (eqU x)=its.any (eqU x) by simp,qJ r fs]
   exact q
theorem qM:yO X (.builtin "len") (fun xs H Q=>∃p ys,xs=[.ref p]∧(SqL X.K H p ys∨SqT X.K H p ys)∧Q (.int ys.length) H):=by
 intro pins s σ H xs us Q I r h
 obtain⟨p,ys,rfl,hq,q⟩:=h
 obtain⟨u,rfl,rx⟩:=vals1 r
 cases rx
 have hn:=vm
 rcases hq with hq|hq
 . obtain⟨its,r',pl,hz⟩:=I.list hq
   have hlen:=r'.length
   exact Calls.call_len_list pl.isList (by simp only[List.size_toArray]<;>omega) ⟨.int ys.length,H,I.tok _,⟨s.toks+1,by rw[List.size_toArray,hlen]⟩,q⟩
 . obtain⟨its,r',pl,hz⟩:=I.tuple hq
   have hlen:=r'.length
   exact len_tuple pl (by simp only[List.size_toArray]<;>omega) ⟨.int ys.length,H,I.tok _,⟨s.toks+1,by rw[List.size_toArray,hlen]⟩,q⟩
theorem qN:yO X (.builtin "len") (fun xs H Q=>∃z,xs=[.str z]∧z.length≤sizeLine∧Q (.int z.length) H):=by
 intro pins s σ H xs us Q I r h
 obtain⟨z,rfl,hz,q⟩:=h
 obtain⟨u,rfl,t,rfl⟩:=vals1 r
 have hn:=vm
 exact len_str (by omega) ⟨.int z.length,H,I.tok _,⟨_,rfl⟩,q⟩
theorem vU:yO X (.type "tuple") (fun xs H Q=>∃p ys,xs=[.ref p]∧((SqL X.K H p ys∧∀l,H l=none→Q (.ref l) (upd H l (.tup ys)))∨(SqT X.K H p ys∧Q (.ref p) H))):=by
 intro pins s σ H xs us Q I r h
 obtain⟨p,ys,rfl,h⟩:=h
 obtain⟨u,rfl,rx⟩:=vals1 r
 cases rx
 rcases h with⟨hq,q⟩|⟨hq,q⟩
 . obtain⟨its,r',pl,hz⟩:=I.list hq
   have hlen:=r'.length
   refine call_tuple_list pl.isList (fun h' kp=>?_) (by simp only[List.size_toArray]<;>omega)
   have I1:Inv X pins σ H {s with heap:=h'}:=I.kept (t':=s.toks) kp
   have I2:Inv X pins σ (upd H h'.objs.size (.tup ys)) {s with heap:=h'.push {cls:=.type "tuple",data:=.seq its.toArray}}:=
    I1.laid (t':=s.toks) (fun b o e=>Heap.get?_push_of_some _ e) (Nat.le_refl _) (show zl X.prog X.w _ _ _ (.tup ys) from ⟨hz,its,r',vt.new _ _⟩)
   exact⟨.ref h'.objs.size,_,I2,rfl,q _ (I1.hok.fresh (Nat.le_refl _))⟩
 . obtain⟨its,r',pl,hz⟩:=I.tuple hq
   exact call_tuple_same pl ⟨.ref p,H,I,rfl,q⟩
def tyV(K:PySem.W.Frag)(T:String)(x:V)(H:Hp):Prop:=match x with
 |.str _=>T="str"
 |.int _=>T="int"
 |.ref p=>(T="list"∧∃xs,SqL K H p xs)∨(T="tuple"∧∃o,K.lookup p=some o∧o.cls=.type "tuple"∧o.dict=none) ∨
  (T="dict"∧((∃kvs,H p=some (.dK kvs))∨∃kvs,H p=some (.dT kvs)))∨(T="set"∧∃S n,H p=some (.set S n))
 |_=>False
theorem ZQ{pins:List (Addr × Obj)}{σ:St}{H:Hp}{s:Shared}{T:String}{x:V}{v:Value}(I:Inv X pins σ H s)(r:RelV x v)(ty:tyV X.K T x H) :
 s.TypeIs v T∧∀a,v=.ref a→∃ob,s.heap.get? a=some ob∧ob.dict=none:=by
 cases x with
 |str z=>
  obtain⟨t,rfl⟩:=r
  cases (show T="str" from ty)
  exact⟨typeIs_str s z t,fun _ e=>nomatch e⟩
 |int i=>
  obtain⟨t,rfl⟩:=r
  cases (show T="int" from ty)
  exact⟨typeIs_int s i t,fun _ e=>nomatch e⟩
 |ref p=>
  cases r
  rcases ty with⟨rfl,xs,hq⟩|⟨rfl,o,hk,hc,hd⟩|⟨rfl,hk⟩|⟨rfl,S,n,hk⟩
  . obtain⟨its,_,pl,_⟩:=I.list hq
    refine⟨pl.isList.typeIs,fun a e=>?_⟩
    cases e
    obtain⟨o,n,e,c,hd,_⟩:=pl
    exact⟨o,e,hd⟩
  . refine⟨⟨o,I.kIn p o hk,hc⟩,fun a e=>?_⟩
    cases e
    exact⟨o,I.kIn _ o hk,hd⟩
  . have z:∃o,s.heap.get? p=some o∧o.ExactDict:=by
     rcases hk with⟨kvs,hk⟩|⟨kvs,hk⟩
     . obtain⟨_,_,_,_,o,_,_,e,ex,_⟩:=I.hok p _ hk
       exact⟨o,e,ex⟩
     . obtain⟨_,_,_,_,o,_,_,e,ex,_⟩:=I.hok p _ hk
       exact⟨o,e,ex⟩
    obtain⟨o,e,ex⟩:=z
    refine⟨⟨o,e,ex.1⟩,fun a e2=>?_⟩
    cases e2
    exact⟨o,e,ex.2.1⟩
  . obtain⟨o,_,_,_,e,ex,_⟩:=I.hok p _ hk
    refine⟨⟨o,e,ex.1⟩,fun a e2=>?_⟩
    cases e2
    exact⟨o,e,ex.2.1⟩
 |_=>exact False.elim ty
noncomputable def tBM(K:PySem.W.Frag)(T:String)(r:V→List V→Hp→VK→Prop)(to:TE)(t:TA):TE:=fun σ H Q=>to σ H fun x H1=>tyV K T x H1∧t σ H1 fun xs H2=>r x xs H2 Q
variable {o e:Expr}{es:List Expr}{to:TE}{t:TA}{name:Str}{apos cpos:Pos}{T id:String}{r:V→List V→Hp→VK→Prop}
theorem pj(pa:PlainAttrs T)(slot:Slot T name id)(hty:typeOf (.builtin id)=pure (.type "method_descriptor"))(hm:MtR X id r)(ho:PE X o to)(ha:PA X (e::es) t)
 (hbase:attributeBase o name X.env (eval o X.env)=eval o X.env:=by rfl)
 (hfew:((backTo cpos (starEach (e::es) X.env)).all (fun x=>!x.1)&&(backToKw cpos (keywordEach [] X.env)).all (fun x=>x.1.isSome)
  && decide ((e::es).length+([]:List Keyword).length+(if ([]:List Keyword).isEmpty then 0 else 1)<30))=true:=by rfl)
 (hline:(apos.endLine == cpos.line)=true:=by rfl) (hs:starEach (e::es) X.env=(false,eval e X.env)::starEach es X.env:=by rfl) (hplain:(backTo cpos (starEach es X.env)).any (·.1)=false:=by rfl) :
 PE X (.Call (.Attribute o name apos) (e::es) [] cpos) (tBM X.K T r to t):=by
 intro pins s σ H Q I h
 refine wpAny_Call_method_late hbase hfew hline rfl (thn (ho pins s σ H _ I h) fun v s1 ⟨x,H1,I1,r1,ty,q1⟩=>?_)
 obtain⟨h1,h2⟩:=ZQ I1 r1 ty
 refine⟨T,id,pa,slot,hty,h1,h2,?_⟩
 have hA:=ha cpos pins s1 σ H1 _ I1 q1
 rw[hs]at hA ⊢
 refine Calls.callWith_builtin (by show (false||(backTo cpos (starEach es X.env)).any (·.1))=false;rw[hplain]<;>rfl) (Calls.evalArgs_plain ?_)
 exact thn hA fun us s2 ⟨vs,H2,I2,r2,q2⟩=>hm pins s2 σ H2 x vs v us Q I2 r1 r2 q2
/- xs.append(e),list.index on a module's tuple .. are MtR facts of 06m -/
end
end L2
namespace L2
open PySem PySem.Spec PyProof.Rows
def MtM(X:Cx)(id:String)(r:V→List V→Hp→VK→Prop):Prop:=
 ∀(pins:List (Addr × Obj)) (s:Shared) (σ:St) (H:Hp) (x:V) (xs:List V) (v:Value) (us:List Value) (Q:VK),Inv X pins σ H s→RelV x v→Vals xs us→r x xs H Q →
  wpAny (model X.prog X.w) X.A (call (.builtin id) (v::us)) (EP X pins σ Q) X.xe s
theorem Vals.one:∀{x:V} {us:List Value},Vals [x] us→∃u,us=[u]∧RelV x u
 |_,_,.cons r .nil=>⟨_,rfl,r⟩
theorem Vals.eraseIdx:∀{xs:List V} {us:List Value} (i:Nat),Vals xs us→Vals (xs.eraseIdx i) (us.eraseIdx i)
 |_,_,_,.nil=>.nil
 |_,_,0,.cons _ t=>t
 |_,_,i+1,.cons r t=>.cons r (Vals.eraseIdx i t)
theorem Vals.rep{xs:List V}{us:List Value}(h:Vals xs us):∀k:Nat,Vals (List.replicate k xs).flatten (List.replicate k us).flatten
 |0=>.nil
 |k+1=>by
  rw[List.replicate_succ,List.replicate_succ,List.flatten_cons,List.flatten_cons]
  exact Vals.append h (Vals.rep h k)
theorem rg{α:Type}:∀(l:List α) (i:Nat),(l.eraseIdx i).length≤l.length
 |[],_=>Nat.le_refl _
 |_::_,0=>Nat.le_succ _
 |_::r,i+1=>Nat.succ_le_succ (rg r i)
theorem foldl_rep(its:List Value):∀(k:Nat) (acc:List Value),
 List.foldl (fun x1 x2=>x1++x2) acc.toArray (List.replicate k its.toArray)=(acc++(List.replicate k its).flatten).toArray
 |0,acc=>by simp
 |k+1,acc=>by
  have e:acc.toArray++its.toArray=(acc++its).toArray:=by simp
  have e2:(acc++its)++(List.replicate k its).flatten=acc++(List.replicate (k+1) its).flatten:=by
   rw[List.replicate_succ,List.flatten_cons,List.append_assoc]
  rw[←e2,←foldl_rep its k (acc++its),←e,List.replicate_succ,List.foldl_cons]
section
variable {X:Cx}{pins:List (Addr × Obj)}{σ:St}{H:Hp}{s:Shared}{l b:Addr}{xs ys zs:List V}
theorem Inv.b8{its its':List Value}{n:Nat}{f:Array Value→Array Value}{t':Nat}(I:Inv X pins σ H s)(hH:H l=some (.lst xs))
 (e:s.heap.get? l=some {cls:=.type "list",data:=.seq its.toArray n}) (hf:f its.toArray=its'.toArray) (hv:Vals ys its') (hz:ys.length≤sizeLine) :
 Inv X pins σ (upd H l (.lst ys)) {s with heap:=s.heap.update l (Obj.mapSeq f),toks:=t'}:=by
 have q:=PySem.IsL.update e f
 rw[hf]at q
 refine I.write (x:=l) (e:=l) (by rw[hH];exact trivial) (.inl rfl) (fun b' u hb hu=>(Heap.get?_update_other s.heap (Obj.mapSeq f) (Ne.symm hb)).trans hu) ⟨_,q⟩ ?_
 exact⟨hz,its',_,hv,q⟩
theorem Inv.YC{its:List Value}{t':Nat}(I:Inv X pins σ H s)(hv:Vals ys its)(hz:ys.length≤sizeLine) :
 Inv X pins σ (upd H s.heap.objs.size (.lst ys)) {s with heap:=s.heap.push {cls:=.type "list",data:=.seq its.toArray},toks:=t'}:=
 I.laid (fun _ _ q=>Heap.get?_push_of_some _ q) (Nat.le_refl _) ⟨hz,its,0,hv,Heap.get?_push_size _ rfl⟩
theorem Inv.fresh(I:Inv X pins σ H s):H s.heap.objs.size=none:=I.hok.fresh (Nat.le_refl _)
theorem Inv.oo(I:Inv X pins σ H s)(hH:H l=some (.lst xs)):xs.length≤sizeLine∧∃(its:List Value) (n:Nat),Vals xs its∧xs.length=its.length∧s.heap.get? l=some {cls:=.type "list",data:=.seq its.toArray n}:=by
 obtain⟨z,its,n,r,e⟩:=I.hok l _ hH
 exact⟨z,its,n,r,r.length,e⟩
theorem pW{n:Nat}(h:n≤sizeLine):Builtin.List.listTooLong n=false:=by
 unfold Builtin.List.listTooLong
 exact decide_eq_false (by omega)
end
section
variable {X:Cx}
noncomputable def mm:V→List V→Hp→VK→Prop:=fun x vs H Q=>∃l xs y,x=.ref l∧vs=[y]∧H l=some (.lst xs)∧xs.length<sizeLine∧Q .non (upd H l (.lst (xs++[y])))
theorem rk:MtM X "list.append" mm:=by
 intro pins s σ H x vs v us Q I rx rv h
 obtain⟨l,xs,y,rfl,rfl,hH,hz,q⟩:=h
 cases rx
 obtain⟨u,rfl,ru⟩:=rv.one
 obtain⟨z,its,n,r,hl,e⟩:=I.oo hH
 refine call_meets F.slot_list_append ⟨_,e,rfl⟩ F.entry_list_append (F.args_list_append_2 _ _) (PySem.list_append l its.toArray n u (by rw[List.size_toArray];omega)) ⟨e,?_⟩
 refine⟨.non,_,I.b8 (its':=its++[u]) hH e (by simp) (r.append (.cons ru .nil)) ?_,rfl,q⟩
 rw[List.length_append,List.length_singleton]
 omega
noncomputable def mn:V→List V→Hp→VK→Prop:=fun x vs H Q=>∃l b xs zs,x=.ref l∧vs=[.ref b]∧H l=some (.lst xs)∧H b=some (.lst zs)∧xs.length+zs.length≤sizeLine∧Q .non (upd H l (.lst (xs++zs)))
theorem lZ:MtM X "list.extend" mn:=by
 intro pins s σ H x vs v us Q I rx rv h
 obtain⟨l,b,xs,zs,rfl,rfl,hH,hB,hz,q⟩:=h
 cases rx
 obtain⟨u,rfl,ru⟩:=rv.one
 cases ru
 obtain⟨z,its,n,r,hl,e⟩:=I.oo hH
 obtain⟨z2,its2,n2,r2,hl2,e2⟩:=I.oo hB
 have hsz:its.toArray.size+its2.toArray.size≤sizeLine:=by rw[List.size_toArray,List.size_toArray];omega
 have hlong:¬(!its.toArray.isEmpty&&Builtin.List.listTooLong (its.toArray.size+its2.toArray.size))=true:=by
  rw[pW hsz,Bool.and_false]
  exact Bool.false_ne_true
 refine call_meets F.slot_list_extend ⟨_,e,rfl⟩ F.entry_list_extend (F.args_list_extend_2 _ _)
  (AutoSeq1.list_extend_list_list_0 l its.toArray n b its2.toArray n2 hlong (by rw[List.size_toArray];omega) (by omega)) ⟨e,e2,?_⟩
 refine⟨.non,_,I.b8 (its':=its++its2) hH e (by simp) (r.append r2) ?_,rfl,q⟩
 rw[List.length_append]
 omega
noncomputable def iz:V→List V→Hp→VK→Prop:=fun x vs H Q=>∃l xs i k y,x=.ref l∧vs=[.int i]∧H l=some (.lst xs)∧-(2 ^ 63)≤i∧i<2 ^ 63∧seqIndex? i xs.length=some k∧xs[k]?=some y∧Q y (upd H l (.lst (xs.eraseIdx k)))
theorem j9:MtM X "list.pop" iz:=by
 intro pins s σ H x vs v us Q I rx rv h
 obtain⟨l,xs,i,k,y,rfl,rfl,hH,h1,h2,hk,hy,q⟩:=h
 cases rx
 obtain⟨u,rfl,ru⟩:=rv.one
 obtain⟨t,rfl⟩:=ru
 obtain⟨z,its,n,r,hl,e⟩:=I.oo hH
 obtain⟨w,hw,rw'⟩:=r.get hy
 refine call_meets F.slot_list_pop ⟨_,e,rfl⟩ F.entry_list_pop (F.args_list_pop_2 _ _)
  (MeetsSeq.list_pop_at l its.toArray n i t k w (fitsIndex_both h1 h2) (by rw[List.size_toArray,←hl];exact hk) (by rw[←Array.getElem?_toList];exact hw) (by rw[List.size_toArray];omega)) ⟨e,?_⟩
 refine⟨y,_,I.b8 (its':=its.eraseIdx k) hH e ?_ (r.eraseIdx k) ?_,rw',q⟩
 . show its.toArray.eraseIdxIfInBounds k=(its.eraseIdx k).toArray
   rw[List.eraseIdxIfInBounds_toArray]
 . have:=rg xs k
   omega
noncomputable def Xc:R2:=fun x y H Q=>∃l b xs zs,x=.ref l∧y=.ref b∧H l=some (.lst xs)∧H b=some (.lst zs)∧xs.length+zs.length≤sizeLine∧∀p,H p=none→Q (.ref p) (upd H p (.lst (xs++zs)))
theorem aI:OpR X (binaryOp .Add) Xc:=by
 intro pins s σ H x y v u Q I rx ry h
 obtain⟨l,b,xs,zs,rfl,rfl,hH,hB,hz,q⟩:=h
 cases rx
 cases ry
 obtain⟨z,its,n,r,hl,e⟩:=I.oo hH
 obtain⟨z2,its2,n2,r2,hl2,e2⟩:=I.oo hB
 refine PySem.P.add_list e e2 ?_ (by rw[List.size_toArray,List.size_toArray];omega)
 have ea:its.toArray++its2.toArray=(its++its2).toArray:=by simp
 rw[ea]
 exact⟨.ref _,_,I.YC (t':=s.toks) (r.append r2) (by rw[List.length_append];omega),rfl,q _ I.fresh⟩
noncomputable def Xd:R2:=fun x y H Q=>∃l k xs,x=.ref l∧y=.int k∧H l=some (.lst xs)∧-(2 ^ 63)≤k∧k<2 ^ 63∧xs.length*k.toNat≤sizeLine ∧
 ∀p,H p=none→Q (.ref p) (upd H p (.lst (List.replicate k.toNat xs).flatten))
theorem len_rep{α:Type}(xs:List α)(k:Nat):(List.replicate k xs).flatten.length=k*xs.length:=by
 induction k with
 |zero=>simp
 |succ k ih=>rw[List.replicate_succ,List.flatten_cons,List.length_append,ih,Nat.succ_mul,Nat.add_comm]
theorem aM:OpR X (binaryOp .Mult) Xd:=by
 intro pins s σ H x y v u Q I rx ry h
 obtain⟨l,k,xs,rfl,rfl,hH,h1,h2,hz,q⟩:=h
 cases rx
 obtain⟨t,rfl⟩:=ry
 obtain⟨z,its,n,r,hl,e⟩:=I.oo hH
 have hlen:its.toArray.size*k.toNat≤sizeLine:=by rw[List.size_toArray,←hl];exact hz
 have hcap:¬its.toArray.size*k.toNat > (2 ^ 63-1)/8:=by
  have:(sizeLine:Nat)≤(2 ^ 63-1)/8:=by decide
  omega
 have hfit:¬(!Builtin.List.listFitsIndex k)=true:=by
  rw[fitsIndex_both h1 h2]
  exact Bool.false_ne_true
 have hlong:¬Builtin.List.listTooLong (its.toArray.size*k.toNat)=true:=by
  rw[pW hlen]
  exact Bool.false_ne_true
 have hnew:List.foldl (fun x1 x2=>x1++x2) #[] (List.replicate (if its.toArray.isEmpty=true then 0 else k.toNat) its.toArray)=(List.replicate k.toNat its).flatten.toArray:=by
  have f0:∀m:Nat,List.foldl (fun x1 x2=>x1++x2) #[] (List.replicate m its.toArray)=(List.replicate m its).flatten.toArray:=fun m=>by
   have:=foldl_rep its m []
   rw[List.nil_append]at this
   exact this
  rw[f0]
  cases its with
  |nil=>simp
  |cons a r'=>rw[if_neg (by simp)]
 refine wpAny_binaryOp_repeat_ref (T:="list") (U:="int") (by decide) ⟨_,e,rfl⟩ (fun s'=>typeIs_int s' k t) noFill_list_mul F.fills_int_mul F.slot_int_rmul repeat_list F.slot_int_index.lookup
  (call_meets F.slot_int_rmul (typeIs_int s k t) F.entry_int_rmul (F.args_int_rmul_2 _ _) (int___rmul___int_list k t l its.toArray n)
   ⟨e,rfl,⟨_,e,rfl⟩,call_meets F.slot_list_mul ⟨_,e,rfl⟩ F.entry_list_mul (F.args_list_mul_2 _ _) (AutoListH.list___mul___list_int_3 l its.toArray n k t hfit hcap hlong) ⟨e,?_⟩⟩)
 rw[hnew]
 exact⟨.ref _,_,I.YC (t':=s.toks) (r.rep k.toNat) (by rw[len_rep,Nat.mul_comm];exact hz),rfl,q _ I.fresh⟩
end
end L2
namespace Att
open PySem PySem.W PySem.Calls PyProof.Rows
theorem tE{P:Params}{h:Heap}:∀(ns:List Int) (vs:List Value),WellAll P h vs (ns.map WData.int)→IntsAre vs ns:=by
 intro ns
 induction ns with
 |nil=>
  intro vs w
  rw[List.map_nil]at w
  cases w
  exact .nil
 |cons n ns ih=>
  intro vs w
  rw[List.map_cons]at w
  cases w with
  |cons a b=>
   cases a
   exact .cons _ _ (ih _ b)
theorem kM{l:OpenLaw}{n:Nat}(hn:l.most=some n){P:Params}{h:Heap}{args:List WData}{vals:List Value}
 (hpre:l.row.toRowW.claim.pre args=true) (hwl:WellAll P h vals args) :
 ∃a vs ns,vals=[Value.ref a]∧args=[WData.list (ns.map WData.int)]∧h.get? a=some {cls:=.type "list",data:=.seq vs.toArray}∧IntsAre vs ns∧ns.length≤n:=by
 have hsh:WShape.hasAll [] args [.list .int]=true:=(pre_splitW hpre).1
 have hc:l.pre.holds [] {args:=args}=true:=(pre_splitW hpre).2
 obtain⟨d,r,rfl,h1,h2⟩:=hasAllW_cons hsh
 obtain rfl:=hasAllW_nil h2
 obtain⟨xs,rfl,h3⟩:=hasW_list h1
 obtain⟨ns,rfl⟩:=items_int h3
 have hlen:ns.length≤n:=by
  unfold OpenLaw.pre at hc
  have h4:(WTm.not (.lt (.lit (.int (n:Int))) (.len (.arg 0)))).holds [] {args:=[.list (ns.map .int)]}=true:=by
   have h4:=(holds_andW hc).1
   rw[hn]at h4
   exact h4
  have h5:=condW_of h4 (w_not (w_lt w_lit (w_len_list (w_arg rfl))))
  rw[List.length_map]at h5
  refine Nat.le_of_not_lt fun q=>?_
  have q':(n:Int)<((ns.length:Nat):Int):=by omega
  first
   |(rw[decide_eq_true q']at h5;exact absurd h5 (by decide))
   |(simp at h5;omega)
 cases hwl with
 |cons w1 w2=>
  cases w2
  cases w1 with
  |list ho hall=>exact⟨_,_,ns,rfl,rfl,ho,tE ns _ hall,hlen⟩
theorem kB(l:OpenLaw)(args:List WData):l.row.toRowW.claim.post args (.bool true) args=true:=
 postW_of (r:=l.row.toRowW) (X:=(true == true))
  (show WShape.has [] (.bool true) .bool=true by first|rfl|decide|simp[WShape.has,WShape.arms,WShape.armsAll])
  (show (WTm.eq .res (.lit (.bool true))).value [] {args:=args,res:=some (.bool true),after:=args}=some (.bool (true == true)) from w_eq_bool (w_res rfl) w_lit) rfl
theorem qq{l:OpenLaw}{n:Nat}{q:Program}{loose:List Str}{XP:(Str→Option Value)→Heap→Prop}{YP:World→Heap→Prop}{d:DefRec}
 (hn:l.most=some n) (hdf:d.params.defaults=[])
 (call:∀(w:World) (s₀ s₁:Shared) (mg mb:Str→Option Value) (fa:Addr) (o:Obj) (pm cd doc:Value) (a:Addr) (vs:List Value) (ns:List Int),
  Ground q loose [] XP w s₀ mg mb s₁.heap→YP w s₁.heap →
  s₁.heap.get? fa=some o→o.data=.func (docDef d.name d.params d.body d.scope pm cd doc)→s₁.heap.CodeRec cd d.name→mg d.name=some (.ref fa) →
  s₁.heap.get? a=some {cls:=.type "list",data:=.seq vs.toArray}→IntsAre vs ns→ns.length≤n→s₁.gens=#[] →
  codeAny (model l.prog w) callerA (.call (.ref fa) ⟨[.ref a],[]⟩) (fun r s'=>r=.ok (.ret (.bool true))∧OldK s₁.heap s'.heap∧s'.os=s₁.os∧AllBare s'.gens) s₁) :
 WalkO q loose XP YP l.row.toRowW d [] (fun f vs=>PySem.call f vs):=by
 intro w s₀ s₁ mg mb G Y fa o pm cd doc dV kV ho hd hcd hD hmg hg args vals as hpre hlay hrd hwl hlo
 obtain rfl:dV=.none:=Dflts.none hD hdf
 obtain rfl:kV=.none:=Dflts.noKw hD
 obtain⟨a,vs,ns,rfl,rfl,hobj,hints,hlen⟩:=kM hn hpre hwl
 refine enter_call (codeAny_mono (call w s₀ s₁ mg mb fa o pm cd doc a vs ns G Y ho (fd_plain hd) hcd hmg hobj hints hlen hg) fun r s' hq=>?_)
 obtain⟨rfl,h2,h3,h4⟩:=hq
 exact⟨.inl ⟨.bool true,.bool true,[],rfl,fun _=>rfl,.bool true,kB l _,fun _=>⟨List.Pairwise.nil,fun _ hm=>(nomatch hm)⟩⟩,h2,h3,h4⟩
end Att
namespace L2
open PySem PySem.Spec PyProof.Rows
theorem qB:∀{vs:List Value} {ns:List Int},IntsAre vs ns→Vals (ns.map V.int) vs
 |_,_,.nil=>.nil
 |_,_,.cons n t h=>.cons ⟨t,rfl⟩ (qB h)
def cJ(H:Hp):Prop:=∀b,H b=none∨∃o xs,H b=some (.frz o (.lst xs))
theorem j4{P:Program}{w:World}{K:PySem.W.Frag}{mg mb:Str→Option Value}{CX:CXT}{k:Nat}{fa a:Addr}{fd:FuncData}{x:Str}{sp:Sp}{s₁:Shared}{vs:List Value}{ns:List Int}
 (KX:K.In s₁.heap) (hns:s₁.heap.Ns mainGlobals mg) (hb:s₁.heap.Ns builtinsNs mb) (hbb:∀x:Str,x≠"__name__"→mb x=bootBuiltins x) (hlim:s₁.heap.NoLimit) (hg:s₁.gens=#[])
 (ha:s₁.heap.get? a=some {cls:=.type "list",data:=.seq vs.toArray}) (hi:IntsAre vs ns) (hl:ns.length≤sizeLine) (hr:yv k callerA)
 (F:∀base:Heap,K.In base→base.Ns mainGlobals mg→u7 P w K mg base CX k fa fd [x] sp) (hbind:∀(s:Shared) (u:Value),BindsTo s fd ⟨[u],[]⟩ [(x,u)])
 (hsp:∀H:Hp,cJ H→SqL K H a (ns.map V.int)→sp [.ref a] H (fun v _=>v=.bl true) fun _ _ _=>False)
 (hCX:∀H e s',CX [] H s₁ (fun _ _ _=>False) e s'→False) :
 codeAny (model P w) callerA (.call (.ref fa) ⟨[.ref a],[]⟩) (fun r s'=>r=.ok (.ret (.bool true))∧OldK s₁.heap s'.heap∧s'.os=s₁.os∧AllBare s'.gens) s₁:=by
 have rv:=qB hi
 have lenV:=hi.length
 -- from an abstract heap in which nothing but the script may be tracked
 have core:∀H:Hp,cJ H→SqL K H a (ns.map V.int)→HOk P w H s₁.heap→(∀b,H b≠none→b=a)→(H a≠none→K.lookup a=none) →
  codeAny (model P w) callerA (.call (.ref fa) ⟨[.ref a],[]⟩) (fun r s'=>r=.ok (.ret (.bool true))∧OldK s₁.heap s'.heap∧s'.os=s₁.os∧AllBare s'.gens) s₁:=by
  intro H hO hS hok hA hK
  have xX:∀{b:Addr} {o:Obj},s₁.heap.get? b=some o→H b=none→(qV s₁.heap H).get? b=some o:=fun e n=>jU e n
  have noA:∀{b:Addr} {o:Obj} {es:Array DictEntry} {ep:Nat},s₁.heap.get? b=some o→o.data=.dict es ep→H b=none:=fun{b o es ep} e d=>by
   cases q:H b with
   |none=>rfl
   |some u=>
    have e':b=a:=hA b (by rw[q];simp)
    subst e'
    rw[ha]at e;cases e
    have d':Data.seq vs.toArray _=Data.dict es ep:=d
    cases d'
  have nsK:∀{b:Addr} {m:Str→Option Value},s₁.heap.Ns b m→(qV s₁.heap H).Ns b m:=fun{b m} ⟨o,es,ep,e,d,r⟩=>⟨o,es,ep,xX e (noA e d),d,r⟩
  have hKb:K.In (qV s₁.heap H):=fun b o e=>xX (KX b o e) (by
   cases q:H b with
   |none=>rfl
   |some u=>
    have e':b=a:=hA b (by rw[q];simp)
    subst e'
    rw[hK (by rw[q];simp)]at e;cases e)
  have hM:Mod K mg (qV s₁.heap H):=⟨hKb,nsK hns,⟨mb,nsK hb,hbb⟩,let ⟨mc,h1,h2⟩:=hlim;⟨mc,nsK h1,h2⟩⟩
  have e0:gi P w K mg (qV s₁.heap H) callerA [] s₁ H:=⟨rfl,hM,fun b o e=>ff e,Nat.le_of_eq (lI _ _),trivial,fun b hb=>absurd (show b∈([]:List Addr) from hb) (by simp),hok,.of_eq hg⟩
  refine codeAny_mono ((F _ hKb (nsK hns)).run callerA [] s₁ H ⟨[.ref a],[]⟩ [.ref a] [.ref a] _ _ hr e0 (hbind s₁ (.ref a)) (.cons rfl .nil) (hsp H hO hS)) fun r s' h=>?_
  cases r with
  |error e=>exact(hCX H e s' h).elim
  |ok fl=>
   cases fl with
   |next=>exact False.elim h
   |brk=>exact False.elim h
   |cont=>exact False.elim h
   |ret u=>
    obtain⟨v,H',os,bare,un,hok',r',q⟩:=h
    have q':v=.bl true:=q
    subst q'
    obtain rfl:u=Value.bool true:=r'
    refine⟨rfl,OldK.of_keep fun b o e=>?_,os,bare⟩
    cases q:H b with
    |none=>exact un.keep b o e q (by intro z;exact absurd (show b∈([]:List Addr) from z) (by simp)) (by simp)
    |some u=>
     rcases hO b with z|⟨ob,xs,z⟩
     . rw[q]at z;cases z
     . have z2:=un.frzs b ob _ z
       obtain⟨e1,_⟩:=hok b _ z
       obtain⟨e2,_⟩:=hok' b _ z2
       rw[e]at e1;cases e1
       exact e2
 cases hk:K.lookup a with
 |some o=>
  -- the script is one of the module's own objects
  have e:=KX a o hk
  rw[ha]at e
  cases e
  refine core (fun _=>none) (fun _=>.inl rfl) (.inr ⟨_,vs.toArray,_,hk,rfl,rfl,rfl,by rw[List.size_toArray,lenV];exact hl,by simpa using rv⟩) (fun b u z=>by have z':(none:Option HO)=some u:=z;cases z') (fun b z=>absurd rfl z) fun z=>absurd rfl z
 |none=>
  refine core (fun b=>if b=a then some (.frz {cls:=.type "list",data:=.seq vs.toArray} (.lst (ns.map V.int))) else none) (fun b=>?_) (.inl (.inr ⟨{cls:=.type "list",data:=.seq vs.toArray},if_pos rfl⟩)) (fun b u z=>?_) (fun b z=>?_) fun _=>hk
  . by_cases hb:b=a
    . exact .inr ⟨_,_,if_pos hb⟩
    . exact .inl (if_neg hb)
  . by_cases hb:b=a
    . have z':=(if_pos hb).symm.trans z
      cases z'
      subst hb
      exact⟨ha,by rw[List.length_map];exact hl,vs,_,rv,ha⟩
    . have z':=(if_neg hb).symm.trans z
      cases z'
  . by_cases hb:b=a
    . exact hb
    . exact absurd (if_neg hb) z
end L2
namespace L2
open PySem PySem.Spec PyProof.Rows
theorem dI{l:PySem.W.OpenLaw}{n k:Nat}{q:Program}{loose:List Str}{XP:(Str→Option Value)→Heap→Prop}{YP:World→Heap→Prop}{d:DefRec}{K:Params→PySem.W.Frag}{CX:World→CXT}{sp:World→Sp}{x:Str}
 (hn:l.most=some n) (hn2:n≤sizeLine) (hdf:d.params.defaults=[]) (hr:yv k callerA)
 (hY:∀(w:World) (h:Heap),YP w h→(K w.params).In h)
 (F:∀(w:World) (mg:Str→Option Value) (fa:Addr) (h:Heap),(K w.params).In h→h.Ns mainGlobals mg→mg d.name=some (.ref fa) →
  ∃fd:FuncData,(∀(s:Shared) (u:Value),BindsTo s fd ⟨[u],[]⟩ [(x,u)]) ∧
   ∀base:Heap,(K w.params).In base→base.Ns mainGlobals mg→u7 l.prog w (K w.params) mg base (CX w) k fa fd [x] (sp w))
 (hsp:∀(w:World) (H:Hp) (a:Addr) (ns:List Int),ns.length≤n→cJ H→SqL (K w.params) H a (ns.map V.int)→sp w [.ref a] H (fun v _=>v=.bl true) fun _ _ _=>False)
 (hCX:∀(w:World) (H:Hp) (s:Shared) (e:Value) (s':Shared),CX w [] H s (fun _ _ _=>False) e s'→False) :
 PySem.W.WalkO q loose XP YP l.row.toRowW d [] (fun f vs=>PySem.call f vs):=by
 refine Att.qq hn hdf fun w s₀ s₁ mg mb fa o pm cd doc a vs ns G Y ho hd hcd hmg hobj hints hlen hg=>?_
 have KX:=hY w _ Y
 obtain⟨fd,hb,hF⟩:=F w mg fa _ KX G.T.g hmg
 exact j4 KX G.T.g G.T.b G.T.builtins G.T.nolimit hg hobj hints (Nat.le_trans hlen hn2) hr hF hb (fun H hO hS=>hsp w H a ns hlen hO hS) fun H e s'=>hCX w H s₁ e s'
end L2
/- THE LAST THEOREM (shape;LID,My.* are yours):
   My.Adr: a structure of the addresses that your layer names (classes,functions);My.Txt K t: a structure (Prop) of the equations over K;
   My.txt_mk:{K} {implicit addresses ..} (e1:nsIn K mainGlobals "law"=some (some (.ref f))) (e2:K.lookup f=some ⟨oc,od,.func (fnOf "law" "law" params body scope dV kV doc pm an cdv ct),sl⟩) (e3:codeIn K cdv "law"=true) ..:∃t,My.Txt K t
(the tactic k_is has no namespace: write k_is) -/
namespace L2
open PySem PySem.Spec PyProof.Rows
noncomputable def wU(s:Stmt):Arguments:=match s with
 |.FunctionDef _ a _ _ _ _ _ _ _ _=>a
 |_=>{posonlyargs:=[],args:=[],vararg:=none,kwonlyargs:=[],kw_defaults:=[],kwarg:=none,defaults:=[]}
noncomputable def xP(s:Stmt):List Stmt:=match s with
 |.FunctionDef _ _ b _ _ _ _ _ _ _=>b
 |_=>[]
noncomputable def zm(s:Stmt):Scope:=match s with
 |.FunctionDef _ _ _ _ _ _ sc _ _ _=>sc
 |_=>{kind:=.function,names:=[],isGenerator:=false,isCoroutine:=false}
noncomputable abbrev CX0:CXT:=fun _ _ _ _ _ _=>False
noncomputable abbrev E0:XK:=fun _ _ _=>False
theorem dm{X:Cx}:Passes CX0 X E0:=fun _ _ _ _ _ _ _ h=>h.elim
structure Fun(K:PySem.W.Frag)(x qual:Str)(st:Stmt)(f:Addr)(fd:FuncData):Prop where
 ex:∃(oc:Value) (od:Option Addr) (kV doc pm:Value) (an:Option Addr) (cdv ct:Value) (osl:Array (Option Value)),
  fd=PySem.W.fnOf x qual (wU st) (xP st) (zm st) .none kV doc pm an cdv ct∧K.lookup f=some ⟨oc,od,.func fd,osl⟩∧PySem.W.codeIn K cdv qual=true
 kp:PySem.W.keepIn K (.ref f)=true
section
variable {P:Program}{w:World}{K:PySem.W.Frag}{mg:Str→Option Value}{base:Heap}
theorem Fun.ok{x qual:Str}{st:Stmt}{f:Addr}{fd:FuncData}{N ps:List Str}{k:Nat}{sp:Sp}(F:Fun K x qual st f fd)(S:tL N ps (zm st))(len:∀vs H Q E,sp vs H Q E→vs.length=ps.length)
 (hbody:∀(cdv:Value) (A:Around) (outer:List Env) (s:Shared) (H:Hp) (vs:List V) (Q:VK) (E:XK),yv k (A.deeper (envOfC qual (zm st) s.heap.objs.size f cdv))→sp vs H Q E →
  ∃t,PSs (oW CX0 P w K mg base N qual (zm st) f cdv A outer s H E).nox (xP st) t∧t {nx:=fun _ H'=>Q .non H',rt:=Q} (start N vs) H):u7 P w K mg base CX0 (k+1) f fd ps sp:=by
 obtain⟨oc,od,kV,doc,pm,an,cdv,ct,osl,rfl,lk,hcd⟩:=F.ex
 refine Zi lk hcd S len fun A outer s H vs Q E hr hsp=>?_
 obtain⟨t,h,q⟩:=hbody cdv A outer s H vs Q E hr hsp
 exact⟨t,h.nox,q⟩
theorem Fun.binds{x qual:Str}{st:Stmt}{f:Addr}{fd:FuncData}{ps:List Str}(F:Fun K x qual st f fd)
 (h:∀(kV doc pm:Value) (an:Option Addr) (cdv ct:Value) (us:List Value),us.length=ps.length→bindArgs (PySem.W.fnOf x qual (wU st) (xP st) (zm st) .none kV doc pm an cdv ct) ⟨us,[]⟩=pure (ps.zip us)):Binds K fd ps []:=by
 obtain⟨oc,od,kV,doc,pm,an,cdv,ct,osl,rfl,lk,hcd⟩:=F.ex
 exact .all (h kV doc pm an cdv ct)
theorem cx{x qual:Str}{st:Stmt}{f:Addr}{oc:Value}{od an:Option Addr}{osl:Array (Option Value)}{kV doc pm cdv ct:Value}(l:K.lookup f=some ⟨oc,od,.func (PySem.W.fnOf x qual (wU st) (xP st) (zm st) .none kV doc pm an cdv ct),osl⟩)
 (c:PySem.W.codeIn K cdv qual=true) (k:PySem.W.keepIn K (.ref f)=true):Fun K x qual st f (PySem.W.fnOf x qual (wU st) (xP st) (zm st) .none kV doc pm an cdv ct):=⟨⟨oc,od,kV,doc,pm,an,cdv,ct,osl,rfl,l,c⟩,k⟩
end
theorem sx{A B:Prop}(h:B):if false=true then A else B:=by
 rw[if_neg Bool.false_ne_true]
 exact h
theorem sy{A B:Prop}(h:A):if true=true then A else B:=by
 rw[if_pos rfl]
 exact h
def uU(H H':Hp):Prop:=∀b o,H b=some o→H' b=some o
theorem uU.refl(H:Hp):uU H H:=fun _ _ h=>h
end L2
end
section
namespace L2
open PySem PySem.Spec PyProof.Rows
noncomputable def ve(cells:List (Str × Addr)):List (Str × NameKind)→List (Str × Addr)→List (Str × Addr)
 |[],acc=>acc
 |(n,k)::r,acc=>if k == .free then (match cells.lookup n with|some c=>ve cells r ((n,c)::acc)|none=>ve cells r acc) else ve cells r acc
theorem vf{env:Env}:∀(names:List (Str × NameKind)) (acc:List (Str × Addr)),(∀x∈names,x.2=.free→∃c,env.cells.lookup x.1=some c) →
 (forIn names acc fun(x:Str × NameKind) (cs:List (Str × Addr))=>(if x.2 == .free then do let a ←cellOf env x.1;pure (ForInStep.yield ((x.1,a)::cs)) else pure (ForInStep.yield cs):Sem (ForInStep (List (Str × Addr)))))=pure (ve env.cells names acc)
 |[],acc,_=>rfl
 |(n,k)::r,acc,h=>by
  rw[List.forIn_cons]
  dsimp only
  unfold ve
  by_cases hk:(k == NameKind.free)=true
  . have hk':k=.free:=by simpa using hk
    obtain⟨c,hc⟩:=h (n,k) List.mem_cons_self hk'
    have hc':env.cells.lookup n=some c:=hc
    have hcell:cellOf env n=pure c:=by unfold cellOf;rw[hc']
    rw[if_pos hk,if_pos hk,hcell,hc',pure_bind,pure_bind]
    exact vf r _ fun x hx=>h x (List.mem_cons_of_mem _ hx)
  . rw[if_neg hk,if_neg hk,pure_bind]
    exact vf r _ fun x hx=>h x (List.mem_cons_of_mem _ hx)
theorem vV{scope:Scope}{env:Env}(h:∀x∈scope.names,x.2=.free→∃c,env.cells.lookup x.1=some c):closureFor scope env=pure (ve env.cells scope.names []):=by
 have e:=vf (env:=env) scope.names [] h
 show (do let cs ←forIn scope.names [] _;pure cs)=_
 refine Eq.trans ?_ e
 refine Eq.trans (bind_pure _) ?_
 congr 1
theorem wx{cells:List (Str × Addr)}:∀(names:List (Str × NameKind)) (acc:List (Str × Addr)),(∀x c,acc.lookup x=some c→cells.lookup x=some c)→∀x c,(ve cells names acc).lookup x=some c→cells.lookup x=some c
 |[],acc,h,x,c,e=>h x c e
 |(n,k)::r,acc,h,x,c,e=>by
  unfold ve at e
  by_cases hk:(k == NameKind.free)=true
  . rw[if_pos hk]at e
    cases hc:cells.lookup n with
    |none=>rw[hc]at e;exact wx r acc h x c e
    |some d=>
     rw[hc]at e
     refine wx r _ (fun y z q=>?_) x c e
     rw[List.lookup_cons]at q
     cases hy:(y == n) with
     |true=>rw[hy]at q;have hy':y=n:=by simpa using hy
            cases q;rw[hy'];exact hc
     |false=>rw[hy]at q;exact h y z q
  . rw[if_neg hk]at e;exact wx r acc h x c e
theorem wG{cells:List (Str × Addr)}:∀(names:List (Str × NameKind)) (acc:List (Str × Addr)) (x:Str) (c:Addr),cells.lookup x=some c→(acc.lookup x=some c∨(x,NameKind.free)∈names)→(∀y d,acc.lookup y=some d→cells.lookup y=some d)→(ve cells names acc).lookup x=some c
 |[],acc,x,c,_,h,_=>by
  rcases h with h|h
  . exact h
  . cases h
 |(n,k)::r,acc,x,c,hc,h,ha=>by
  unfold ve
  by_cases hk:(k == NameKind.free)=true
  . rw[if_pos hk]
    cases hn:cells.lookup n with
    |none=>
     refine wG r acc x c hc ?_ ha
     rcases h with h|h
     . exact .inl h
     . rcases List.mem_cons.mp h with e|e
       . cases e;rw[hn]at hc;cases hc
       . exact .inr e
    |some d=>
     have ha':∀y z,((n,d)::acc).lookup y=some z→cells.lookup y=some z:=fun y z q=>by
      rw[List.lookup_cons]at q
      cases hy:(y == n) with
      |true=>rw[hy]at q;have hy':y=n:=by simpa using hy
             cases q;rw[hy'];exact hn
      |false=>rw[hy]at q;exact ha y z q
     by_cases hx:x=n
     . subst hx
       refine wG r _ x c hc (.inl ?_) ha'
       rw[hn]at hc;cases hc
       simp[List.lookup_cons]
     . refine wG r _ x c hc ?_ ha'
       rcases h with h|h
       . refine .inl ?_
         have:(x == n)=false:=by simpa using hx
         rw[List.lookup_cons,this];exact h
       . rcases List.mem_cons.mp h with e|e
         . cases e;exact absurd rfl hx
         . exact .inr e
  . rw[if_neg hk]
    refine wG r acc x c hc ?_ ha
    rcases h with h|h
    . exact .inl h
    . rcases List.mem_cons.mp h with e|e
      . cases e;exact absurd (by decide) hk
      . exact .inr e
noncomputable abbrev Cx.comp(X:Cx)(N:List Str)(sc:Scope)(C:Addr)(s:Shared)(H:Hp)(ex:List Addr):Cx:=
 {X with N:=N,s₀:=s,H₀:=H,env:=compEnvC sc (ve X.env.cells sc.names []) C X.env,outer:=X.stack,ex:=ex,fn:=fun _=>false,pn:=[],xe:=fun _ _=>False}
structure zp(X:Cx)(N:List Str)(sc:Scope)(fr:List (Option Nat)):Prop where
 kind:sc.kind=.function
 nocell:∀x∈sc.names,x.2≠.cell
 locals:∀x∈sc.names,x.2=.local→sc.names.lookup x.1=some .local
 free:∀x∈sc.names,x.2=.free→X.env.kindOf x.1=some .cell∨X.env.kindOf x.1=some .free
 len:fr.length=N.length
 from_:∀(i j:Nat) (x:Str),N[i]?=some x→fr[i]?=some (some j)→X.N[j]?=some x∧(x,NameKind.free)∈sc.names
 one:∀x,sc.names.lookup x=some .local→(x,NameKind.free)∈sc.names→False
noncomputable def zZ(fr:List (Option Nat))(σ:St):St:=fr.map fun o=>match o with|some j=>(σ[j]?).join|none=>none
theorem qk{sc:Scope}{env:Env}{x:Str}(hn:∀y∈sc.names,y.2≠.cell)(h:(relabel sc env).names.lookup x=some .cell∨(relabel sc env).names.lookup x=some .free):(x,NameKind.free)∈sc.names:=by
 have key:∀(names:List (Str × NameKind)),(∀y∈names,y.2≠.cell)→((names.map fun(n,k)=>if (k == NameKind.free&&env.scope.kind == .function&&env.kindOf n == some .cell) then (n,NameKind.cell) else (n,k)).lookup x=some .cell ∨
  (names.map fun(n,k)=>if (k == NameKind.free&&env.scope.kind == .function&&env.kindOf n == some .cell) then (n,NameKind.cell) else (n,k)).lookup x=some .free)→(x,NameKind.free)∈names:=by
  intro names
  induction names with
  |nil=>intro _ h;simp at h
  |cons p r ih=>
   obtain⟨n,k⟩:=p
   intro hn h
   have hr:=fun y hy=>hn y (List.mem_cons_of_mem _ hy)
   have hk:=hn (n,k) List.mem_cons_self
   rw[List.map_cons]at h
   dsimp only at h
   by_cases hx:x=n
   . subst hx
     by_cases hf:k=.free
     . subst hf;exact List.mem_cons_self
     . have hf':(k == NameKind.free)=false:=by simpa using hf
       rw[hf']at h
       simp only[Bool.false_and,Bool.false_eq_true,if_false,List.lookup_cons,beq_self_eq_true]at h
       rcases h with h|h
       . cases h;exact absurd rfl hk
       . cases h;exact absurd rfl hf
   . refine List.mem_cons_of_mem _ (ih hr ?_)
     have hx':(x == n)=false:=by simpa using hx
     split at h<;>simpa only[List.lookup_cons,hx'] using h
 exact key sc.names hn h
theorem uK{sc:Scope}{env:Env}{x:Str}(hl:∀y∈sc.names,y.2=.local→sc.names.lookup y.1=some .local)(h:sc.names.lookup x=some .free) :
 (relabel sc env).names.lookup x=some .cell∨(relabel sc env).names.lookup x=some .free:=by
 have key:∀(names:List (Str × NameKind)),names.lookup x=some .free→((names.map fun(n,k)=>if (k == NameKind.free&&env.scope.kind == .function&&env.kindOf n == some .cell) then (n,NameKind.cell) else (n,k)).lookup x=some .cell ∨
  (names.map fun(n,k)=>if (k == NameKind.free&&env.scope.kind == .function&&env.kindOf n == some .cell) then (n,NameKind.cell) else (n,k)).lookup x=some .free):=by
  intro names
  induction names with
  |nil=>intro h;simp at h
  |cons p r ih=>
   obtain⟨n,k⟩:=p
   intro h
   rw[List.map_cons]
   dsimp only
   cases hx:(x == n) with
   |true=>
    rw[List.lookup_cons,hx]at h
    cases h
    split
    . left;simp only[List.lookup_cons,hx]
    . right;simp only[List.lookup_cons,hx]
   |false=>
    rw[List.lookup_cons,hx]at h
    have:=ih h
    split<;>simpa only[List.lookup_cons,hx] using this
 exact key sc.names h
section
variable {X:Cx}{pins:List (Addr × Obj)}{σ:St}{H:Hp}{s:Shared}{N:List Str}{sc:Scope}{fr:List (Option Nat)}{fp:List Addr}
theorem zp.cells(S:zp X N sc fr)(ok:X.Ok):∀x∈sc.names,x.2=.free→∃c,X.env.cells.lookup x.1=some c:=fun x hx hk=>ok.has x.1 (S.free x hx hk)
theorem gr(I:Inv X pins σ H s)(S:zp X N sc fr)(hf:∀b∈fp,vS X pins H b)(hlt:∀b∈fp,b<s.heap.objs.size):(X.comp N sc s.heap.objs.size s H fp).Ok:=by
 have sub:∀x c,(ve X.env.cells sc.names []).lookup x=some c→X.env.cells.lookup x=some c:=wx sc.names [] (fun x c e=>by simp at e)
 refine⟨I.ok.mod,S.kind,I.ok.glob,I.ok.blt,Nat.le_refl _,fun x y c e1 e2=>I.ok.inj x y c (sub x c e1) (sub y c e2),fun x h=>?_,fun x c h=>(nomatch h),I.ok.hd,I.ok.frames,.inl rfl,fun b hb=>?_,fun b o e=>I.bs b o e,?_,fun b o e hb=>?_,fun b hb z=>?_,I.stack,I.mw⟩
 . have m:(x,NameKind.free)∈sc.names:=qk S.nocell h
   obtain⟨c,hc⟩:=S.cells I.ok (x,.free) m rfl
   exact⟨c,wG sc.names [] x c hc (.inr m) (fun y d e=>by simp at e)⟩
 . obtain⟨f0,f1,f2,f3,f4,f5⟩:=hf b hb
   exact⟨Nat.ne_of_lt (hlt b hb),fun x c e=>f4 x c (sub x c e)⟩
 . exact Nat.le_trans I.ok.bsz I.sz
 . obtain⟨f0,f1,f2,f3,f4,f5⟩:=hf b hb
   rcases f3 with f3|f3
   . exact I.ok.noex b o e f3
   . exact absurd (Nat.lt_of_lt_of_le (Heap.lt_size e) (Nat.le_trans I.ok.bsz f3)) (Nat.lt_irrefl _)
 . obtain⟨f0,f1,f2,f3,f4,f5⟩:=hf b hb
   rcases List.mem_cons.mp (I.nY b z) with e|e
   . exact f1 e
   . exact f2 e
theorem oV{h':Heap}{tk:Nat}(I:Inv X pins σ H s)(S:zp X N sc fr)(hf:∀b∈fp,vS X pins H b)(hlt:∀b∈fp,b<s.heap.objs.size)
 (hns:h'.Ns s.heap.objs.size (fun _=>none)) (k:∀b o,s.heap.get? b=some o→h'.get? b=some o):Inv (X.comp N sc s.heap.objs.size s H fp) [] (zZ fr σ) H {s with heap:=h',toks:=tk}:=by
 have sub:∀x c,(ve X.env.cells sc.names []).lookup x=some c→X.env.cells.lookup x=some c:=wx sc.names [] (fun x c e=>by simp at e)
 refine⟨gr I S hf hlt,rfl,I.bare,Un.kept k,⟨_,hns,fun i x v e1 e2 e3=>?_⟩,fun x c e=>?_,I.hok.fresh (Nat.le_refl _),fun x c e=>I.freeC x c (sub x c e),fun p hp=>(by simp at hp),I.hok.kept k,?_⟩
 . have e2':(fr.map fun o=>match o with|some j=>(σ[j]?).join|none=>none)[i]?=some (some v):=e2
   rw[List.getElem?_map]at e2'
   cases hfi:fr[i]? with
   |none=>rw[hfi]at e2';cases e2'
   |some o=>
    rw[hfi]at e2'
    cases o with
    |none=>cases e2'
    |some j=>
     obtain⟨n1,n2⟩:=S.from_ i j x e1 hfi
     have e3':σ[j]?=some (some v):=by
      have q:(σ[j]?).join=some v:=Option.some.inj e2'
      cases hσ:σ[j]? with
      |none=>rw[hσ]at q;cases q
      |some w=>rw[hσ]at q;cases w with
       |none=>cases q
       |some w'=>have:w'=v:=Option.some.inj q
                 rw[this]
     have hk:=S.free (x,.free) n2 rfl
     obtain⟨m,hn,hl⟩:=I.loc
     obtain⟨u,r,l⟩:=hl j x v n1 e3' (hk.elim (fun z=>.inr (.inl z)) fun z=>.inr (.inr z))
     refine⟨u,r,?_⟩
     rcases l with⟨hk',_⟩|⟨_,c,hc,z⟩
     . rcases hk with hk|hk<;>(rw[hk]at hk';cases hk')
     . refine .inr ⟨?_,c,wG sc.names [] x c hc (.inr n2) (fun y d e=>by simp at e),?_⟩
       . rcases e3 with e3|e3|e3
         . -- a local of that name: cannot be,the name is free in the block
           exfalso
           have hloc:sc.names.lookup x=some .local:=by
            have key:∀(names:List (Str × NameKind)),(names.map fun(n,k)=>if (k == NameKind.free&&X.env.scope.kind == .function&&X.env.kindOf n == some .cell) then (n,NameKind.cell) else (n,k)).lookup x=some .local→names.lookup x=some .local:=by
             intro names
             induction names with
             |nil=>intro h;simp at h
             |cons p r ih=>
              obtain⟨n,kk⟩:=p
              intro h
              rw[List.map_cons]at h
              dsimp only at h
              cases hx:(x == n) with
              |true=>
               split at h
               . simp only[List.lookup_cons,hx]at h;cases h
               . simp only[List.lookup_cons,hx]at h ⊢;exact h
              |false=>
               rw[List.lookup_cons,hx]
               refine ih ?_
               split at h<;>simpa only[List.lookup_cons,hx] using h
            exact key sc.names e3
           exact S.one x hloc n2
         . exact .inl e3
         . exact .inr e3
       . obtain⟨o,ho,hd⟩:=z
         exact⟨o,k _ _ ho,hd⟩
 . obtain⟨v,o,ho,hd⟩:=I.cell x c (sub x c e)
   exact⟨v,o,k _ _ ho,hd⟩
 . show (fr.map _).length=N.length
   rw[List.length_map];exact S.len
end
end L2
end
section
namespace L2
open PySem PySem.Spec PyProof.Rows
noncomputable def qm:List TT→TT
 |[]=>fun _ H Q=>Q true H
 |t::ts=>fun σ H Q=>t σ H fun c H1=>if c=true then qm ts σ H1 Q else Q false H1
inductive PTs(X:Cx):List Expr→List TT→Prop
 |nil:PTs X [] []
 |cons {c:Expr} {cs:List Expr} {t:TT} {ts:List TT}:PT X c t→PTs X cs ts→PTs X (c::cs) (t::ts)
theorem u4{X:Cx}{Q:Bool→Shared→Prop}{E:Value→Shared→Prop}{s:Shared}(h:Q false s):∀cs:List Expr,
 wpAny (model X.prog X.w) X.A (forIn cs false fun c r=>if r=true then do let ok ←isTrue c X.env (eval c X.env);pure (ForInStep.yield ok) else pure (ForInStep.yield r)) Q E s
 |[]=>wpAny_pure h
 |c::cs=>by
  rw[List.forIn_cons]
  exact wpAny_bind (wpAny_pure (u4 h cs))
theorem PTs.run{X:Cx}:∀{cs:List Expr} {ts:List TT},PTs X cs ts→∀{pins:List (Addr × Obj)} {s:Shared} {σ:St} {H:Hp} {Q:Bool→Hp→Prop},Inv X pins σ H s→qm ts σ H Q →
 wpAny (model X.prog X.w) X.A (forIn cs true fun c r=>if r=true then do let ok ←isTrue c X.env (eval c X.env);pure (ForInStep.yield ok) else pure (ForInStep.yield r)) (TP X pins σ Q) X.xe s
 |_,_,.nil,pins,s,σ,H,Q,I,h=>wpAny_pure ⟨H,I,h⟩
 |_,_,.cons hc hs,pins,s,σ,H,Q,I,h=>by
  rw[List.forIn_cons]
  refine wpAny_bind (wpAny_bind (thn (hc pins s σ H _ I h) fun c s1 ⟨H1,I1,q1⟩=>wpAny_pure ?_))
  cases c with
  |true=>exact hs.run I1 q1
  |false=>exact u4 ⟨H1,I1,q1⟩ _
noncomputable abbrev TB:=(St→Hp→Prop)→St→Hp→Prop
def PB(X:Cx)(B:Sem PUnit)(tb:TB):Prop:=
 ∀(pins:List (Addr × Obj)) (s:Shared) (σ:St) (H:Hp) (Nx:St→Hp→Prop),Inv X pins σ H s→tb Nx σ H→wpAny (model X.prog X.w) X.A B (fun _ s'=>∃σ' H',Inv X pins σ' H' s'∧Nx σ' H') X.xe s
noncomputable def tTB(ts:List TT)(tb:TB):TS:=fun D σ H=>qm ts σ H fun c H1=>if c=true then tb D.nx σ H1 else D.nx σ H1
def rq(J:It)(g:TG)(tb:TS)(D:Ends)(σ:St)(H:Hp):Prop:=∃W:Nat→Nat→St→Hp→Prop,(∃m,W 0 m σ H)∧∀i m σ H,W i m σ H →
 (J.stop i H∧D.nx σ H)∨(J.go i H∧∃N:St→Hp→Prop,(∀σ' H',N σ' H'→∃m',m'<m∧W (i+1) m' σ' H')∧∀x H',J.yld i H x H'→g x σ H' fun σ2 H2=>tb {D with nx:=N,ct:=N,bk:=D.nx} σ2 H2)
theorem wH{X:Cx}{elt:Expr}{gens:List Comprehension}{csc:Scope}{cpos:Pos}{d:Nat}{tg:Expr}{p:Pos}{ifs:List Expr}{B:Sem PUnit}{acc:Value}{it:Addr}{fp:List Addr}{tn:Nat→Heap→Prop}{J:It}{g:TG}{ts:List TT}{tb:TB}{D:Ends}
 {pins:List (Addr × Obj)} {σ:St} {H:Hp} {s:Shared} {R:Result→Shared→Prop}
 (heq:compTurn (.ListComp elt gens csc cpos) d (.ref it) acc X.env=(do
  standAt p
  match ←pyNext (.ref it) with
  |none=>pure (.done .next)
  |some v=>
   letOwnedTupleGo tg (.ref it) v
   assign tg X.env v
   let mut ok:=true
   for c in ifs do
    if ok then ok ←isTrue c X.env (eval c X.env)
   if ok then B
   again (.compLoop (.ListComp elt gens csc cpos) d (.ref it) acc X.env)))
 (hx:X.xe=fun _ _=>False) (hc:X.calm=true) (T:Turn X.prog X.w X.K tg J fp it tn) (hg:PG X tg g) (ht:PTs X ifs ts) (hb:PB X B tb)
 (I:Inv X pins σ H s) (st:tn 0 s.heap) (f:∀b∈fp,vS X pins H b) (h:rq J g (tTB ts tb) D σ H)
 (hR:∀σ' H' s',Inv X pins σ' H' s'→D.nx σ' H'→(∀b∈fp,H' b=none)→R (.ok .next) s') :
 codeAny (model X.prog X.w) X.A (.compLoop (.ListComp elt gens csc cpos) d (.ref it) acc X.env) R s:=by
 obtain⟨W,⟨m0,w0⟩,turn⟩:=h
 have stat:∀{H':Hp},(∀b∈fp,H' b=none)→∀b∈fp,vS X pins H' b:=fun hn b hb=>⟨hn b hb,(f b hb).2⟩
 have no:∀{α:Type} {t:Sem α} {Q:α→Shared→Prop} {E':Value→Shared→Prop} {s:Shared},wpAny (model X.prog X.w) X.A t Q X.xe s→wpAny (model X.prog X.w) X.A t Q E' s:=fun h=>wpAny_mono h (fun _ _ q=>q) fun _ _ z=>by rw[hx]at z;exact z.elim
 refine codeAny_loop rfl (fun n s'=>∃i σ' H',Inv X pins σ' H' s'∧tn i s'.heap∧(∀b∈fp,H' b=none)∧W i n σ' H') (fun n s3 hI=>?_) m0 ⟨0,σ,H,I,st,fun b hb=>(f b hb).1,w0⟩
 obtain⟨i,σ3,H3,I3,st3,fr3,w3⟩:=hI
 show wpAny _ _ ((compTurn (.ListComp elt gens csc cpos) d (.ref it) acc X.env).onRaise (fun x=>do noteFrame x X.env;theTreesLotGoes x)) _ _ s3
 refine wpAny_noted ?_
 rw[heq]
 refine wpAny_bind (wpAny_standAt (wpAny_bind ?_))
 rcases turn i n σ3 H3 w3 with⟨stop,qn⟩|⟨go,N,hN,step⟩
 . refine no (thn (T.done X rfl rfl rfl hc i pins s3 σ3 H3 X.xe I3 (stat fr3) st3 stop) fun r s4 ⟨hr,I4⟩=>?_)
   subst hr
   exact wpAny_pure (hR σ3 H3 s4 I4 qn fr3)
 . refine no (thn (T.item X rfl rfl rfl hc i pins s3 σ3 H3 X.xe I3 (stat fr3) st3 go) fun r s4 ⟨u,hr,h4⟩=>?_)
   subst hr
   refine wpAny_bind (no (thn h4 fun _ s5 ⟨x,H5,I5,r5,y5,st5,fr5⟩=>?_))
   have I5':=I5.pinned (stat fr5) (T.obj _ _ st5)
   refine wpAny_bind (no (thn (hg _ s5 σ3 H5 x u _ I5' r5 (step x H5 y5)) fun _ s6 ⟨σ6,H6,I6,q6⟩=>?_))
   refine wpAny_bind (no (thn (ht.run I6 q6) fun ok s7 ⟨H7,I7,q7⟩=>?_))
   have again':∀{σ7:St} {H7:Hp} {s7:Shared},Inv X (pins++sW fp s5.heap) σ7 H7 s7→N σ7 H7→∃m,m<n∧∃i σ' H',Inv X pins σ' H' s7∧tn i s7.heap∧(∀b∈fp,H' b=none)∧W i m σ' H':=fun{σ7 H7 s7} I7 n7=>by
    obtain⟨m',hm,w7⟩:=hN σ7 H7 n7
    refine⟨m',hm,i+1,σ7,H7,I7.uN,T.keep _ _ _ st5 fun b hb o e=>(I7.pin (b,o) (List.mem_append_right _ (List.mem_append_right _ (wZ hb e)))).1,fun b hb=>?_,w7⟩
    obtain⟨o,e,d⟩:=T.obj _ _ st5 b hb
    exact(I7.pin (b,o) (List.mem_append_right _ (List.mem_append_right _ (wZ hb e)))).2.1
   cases ok with
   |false=>exact wpAny_pure ⟨rfl,again' I7 q7⟩
   |true=>exact wpAny_bind (no (thn (hb _ s7 σ6 H7 N I7 q7) fun _ s8 ⟨σ8,H8,I8,n8⟩=>wpAny_pure ⟨rfl,again' I8 n8⟩))
noncomputable def vY(acc:Addr)(te:TE):TB:=fun Nx σ H=>te σ H fun y H1=>∃ys,H1 acc=some (.lst ys)∧ys.length<sizeLine∧Nx σ (upd H1 acc (.lst (ys++[y])))
theorem tW{X:Cx}{acc:Addr}{elt:Expr}{te:TE}(he:PE X elt te):PB X (do let _ ←call (.builtin "list.append") [.ref acc,←eval elt X.env]) (vY acc te):=by
 intro pins s σ H Nx I h
 refine wpAny_bind (thn (he pins s σ H _ I h) fun u s1 ⟨y,H1,I1,r1,ys,hl,hz,q⟩=>?_)
 refine wpAny_bind (thn (rk pins s1 σ H1 (.ref acc) [y] (.ref acc) [u] (fun _ H'=>Nx σ H') I1 rfl (.cons r1 .nil) ⟨acc,ys,y,rfl,rfl,hl,hz,q⟩) fun _ s2 ⟨_,H2,I2,_,q2⟩=>?_)
 exact wpAny_pure ⟨σ,H2,I2,q2⟩
end L2
end
section
namespace L2
open PySem PySem.Spec PyProof.Rows
def vD(fr:List (Option Nat))(wi:TI)(g:TG)(ts:List TT)(tb:Addr→TB)(σ:St)(H:Hp)(Q:VK):Prop:=
 wi σ H fun J H1=>∀acc,H1 acc=none→rq J g (tTB ts (tb acc)) ⟨fun _ H'=>Q (.ref acc) H',fun _ _=>False,fun _ _=>False,fun _ _=>False⟩ (zZ fr σ) (upd H1 acc (.lst []))
section
variable {X:Cx}{pins:List (Addr × Obj)}{σ:St}{H:Hp}{s:Shared}{N:List Str}{csc:Scope}{fr:List (Option Nat)}{elt tg iter:Expr}{ifs:List Expr}{rest:List Comprehension}{cpos:Pos}{wi:TI}{g:TG}{ts:List TT}{tb:Addr→TB}
theorem rT{use:Option (Value→Sem Unit)}{QQ:Value→Shared→Prop}{Qv:VK}{B:Value→Env→Sem PUnit}{E:Value→Shared→Prop}(hE:E=X.xe)(hc:X.calm=true)(S:zp X N csc fr)(hi:PI X tg iter wi)
 (hturn:∀(it:Addr) (acc:Value) (env:Env),compTurn (.ListComp elt (⟨tg,iter,ifs,0⟩::rest) csc cpos) 0 (.ref it) acc env=(do
  standAt iter.pos
  match ←pyNext (.ref it) with
  |none=>pure (.done .next)
  |some v=>
   letOwnedTupleGo tg (.ref it) v
   assign tg env v
   let mut ok:=true
   for c in ifs do
    if ok then ok ←isTrue c env (eval c env)
   if ok then B acc env
   again (.compLoop (.ListComp elt (⟨tg,iter,ifs,0⟩::rest) csc cpos) 0 (.ref it) acc env)))
 (hg:∀C s0 H0 ex,PG (X.comp N csc C s0 H0 ex) tg g) (ht:∀C s0 H0 ex,PTs (X.comp N csc C s0 H0 ex) ifs ts)
 (hb:∀C s0 H0 ex acc,PB (X.comp N csc C s0 H0 ex) (B (.ref acc) (X.comp N csc C s0 H0 ex).env) (tb acc))
 (I:Inv X pins σ H s) (h:vD fr wi g ts tb σ H Qv)
 (hfin:∀acc C H' s',Inv X pins σ H' s'→Qv (.ref acc) H'→(∃m,s'.heap.Ns C m)→H' C=none→C≠X.env.locals→X.s₀.heap.objs.size≤C→(∀x c,X.env.cells.lookup x=some c→c≠C)→(∀p∈X.pn++pins,p.1≠C) →
  compPost (model X.prog X.w) X.A X.xe use QQ (.ref acc) C (.ok .next) s') :
 wpAny (model X.prog X.w) X.A (eval iter X.env) (fun x s₁=>wpAny (model X.prog X.w) X.A (pyIter x) (fun it s₂=>wpAny (model X.prog X.w) X.A (newList []) (fun acc s₃=>
  wpAny (model X.prog X.w) X.A (newFunctionEnv csc X.env.globals (ve X.env.cells csc.names []) [] X.env.qual none .none (some X.env)) (fun cenv s₄=>
   codeAny (model X.prog X.w) X.A (.compStart (.ListComp elt (⟨tg,iter,ifs,0⟩::rest) csc cpos) 0 it acc {cenv with scope:=relabel csc X.env}) (compPost (model X.prog X.w) X.A E use QQ acc cenv.locals) s₄) E s₃) E s₂) E s₁) E s:=by
 subst hE
 refine thn (hi pins s σ H _ I h) fun v s1 h1=>thn h1 fun itv s2 h2=>?_
 obtain⟨it,fp,tn,J,H2,e,I2,T,st2,f2,q2⟩:=h2
 subst e
 refine wpAny_newObj_type ?_
 have hfr:H2 s2.heap.objs.size=none:=I2.hok.fresh (Nat.le_refl _)
 have q3:=q2 s2.heap.objs.size hfr
 generalize hs3:({s2 with heap:=s2.heap.push {cls:=.type "list",dict:=none,data:=.seq ([]:List Value).toArray}}:Shared)=s3
 have k23:∀b u,s2.heap.get? b=some u→s3.heap.get? b=some u:=fun b u e=>by rw[←hs3];exact Heap.get?_push_of_some _ e
 have new3:s3.heap.get? s2.heap.objs.size=some {cls:=.type "list",dict:=none,data:=.seq ([]:List Value).toArray}:=by rw[←hs3];exact Heap.get?_push_size _ rfl
 have I3:Inv X pins σ (upd H2 s2.heap.objs.size (.lst [])) s3:=by
  rw[←hs3]
  exact I2.laid (t':=s2.toks) (fun b u e=>Heap.get?_push_of_some _ e) (Nat.le_refl _) ⟨Nat.zero_le _,[],0,.nil,Heap.get?_push_size _ rfl⟩
 have lt2:∀b∈fp,b<s2.heap.objs.size:=fun b hb=>by obtain⟨o,e,_⟩:=T.obj _ _ st2 b hb;exact Heap.lt_size e
 have hsz:s3.heap.objs.size=s2.heap.objs.size+1:=by rw[←hs3];exact Heap.size_push ..
 have f3:∀b∈fp,vS X pins (upd H2 s2.heap.objs.size (.lst [])) b:=fun b hb=>⟨by rw[zQ (Nat.ne_of_lt (lt2 b hb))];exact(f2 b hb).1,(f2 b hb).2⟩
 have lt3:∀b∈fp,b<s3.heap.objs.size:=fun b hb=>by rw[hsz];exact Nat.lt_succ_of_lt (lt2 b hb)
 refine wpAny_newFunctionEnv S.nocell (by intro y hy;simp at hy) (fun h4 hns4 hsb4=>?_) S.kind
 have k34:∀b o,s3.heap.get? b=some o→h4.get? b=some o:=fun b o e=>hsb4.extBut b o (Nat.ne_of_lt (Heap.lt_size e)) (Heap.get?_push_of_some _ e)
 have hns4':h4.Ns s3.heap.objs.size (fun _=>none):=by simpa using hns4
 have I4:=oV (tk:=s3.toks+([]:List (Str × Value)).length) I3 S f3 lt3 hns4' k34
 have st4:tn 0 h4:=T.keep _ _ _ st2 fun b hb o e=>k34 b o (k23 b o e)
 have f4:∀b∈fp,vS (X.comp N csc s3.heap.objs.size s3 (upd H2 s2.heap.objs.size (.lst [])) fp) [] (upd H2 s2.heap.objs.size (.lst [])) b:=fun b hb=>by
  have ok:=I4.ok
  obtain⟨g1,g2⟩:=ok.exf b hb
  exact⟨(f3 b hb).1,g1,ok.exfs b hb,.inl hb,g2,fun p hp=>by simp at hp⟩
 have fin:∀σ' H' s',Inv (X.comp N csc s3.heap.objs.size s3 (upd H2 s2.heap.objs.size (.lst [])) fp) [] σ' H' s'→Qv (.ref s2.heap.objs.size) H'→(∀b∈fp,H' b=none) →
  compPost (model X.prog X.w) X.A X.xe use QQ (.ref s2.heap.objs.size) s3.heap.objs.size (.ok .next) s':=fun σ' H' s' I' q' _=>by
  have IX:Inv X pins σ H' s':=I3.Ze I'.os I'.base I'.hok I'.bare fun b hb=>by
   obtain⟨g0,g1,g2,g3,g4,g5⟩:=f3 b hb
   exact⟨g3,g1,g4,g5⟩
  obtain⟨m,hn,_⟩:=I'.loc
  refine hfin _ _ H' s' IX q' ⟨m,hn⟩ I'.free (Nat.ne_of_gt I3.lt) I3.sz (fun x c e=>?_) fun p hp=>?_
  . obtain⟨w',z⟩:=I3.cell x c e
    exact Nat.ne_of_lt z.lt
  . exact Nat.ne_of_lt (Heap.lt_size (I3.pin p hp).1)
 have loop:codeAny (model X.prog X.w) X.A (.compLoop (.ListComp elt (⟨tg,iter,ifs,0⟩::rest) csc cpos) 0 (.ref it) (.ref s2.heap.objs.size) (compEnvC csc (ve X.env.cells csc.names []) s3.heap.objs.size X.env))
  (compPost (model X.prog X.w) X.A X.xe use QQ (.ref s2.heap.objs.size) s3.heap.objs.size) {s3 with heap:=h4,toks:=s3.toks+([]:List (Str × Value)).length}:=
  wH (X:=X.comp N csc s3.heap.objs.size s3 (upd H2 s2.heap.objs.size (.lst [])) fp) (hturn it _ _) rfl hc T (hg _ _ _ _) (ht _ _ _ _) (hb _ _ _ _ _) I4 st4 f4 q3 fin
 exact codeAny_compStart_list loop (T.self X.A 0 _ _ _ st4 loop)
theorem pq{B:Value→Env→Sem PUnit}(hc:X.calm=true)(S:zp X N csc fr)(hi:PI X tg iter wi)
 (hturn:∀(it:Addr) (acc:Value) (env:Env),compTurn (.ListComp elt (⟨tg,iter,ifs,0⟩::rest) csc cpos) 0 (.ref it) acc env=(do
  standAt iter.pos
  match ←pyNext (.ref it) with
  |none=>pure (.done .next)
  |some v=>
   letOwnedTupleGo tg (.ref it) v
   assign tg env v
   let mut ok:=true
   for c in ifs do
    if ok then ok ←isTrue c env (eval c env)
   if ok then B acc env
   again (.compLoop (.ListComp elt (⟨tg,iter,ifs,0⟩::rest) csc cpos) 0 (.ref it) acc env)))
 (hg:∀C s0 H0 ex,PG (X.comp N csc C s0 H0 ex) tg g) (ht:∀C s0 H0 ex,PTs (X.comp N csc C s0 H0 ex) ifs ts)
 (hb:∀C s0 H0 ex acc,PB (X.comp N csc C s0 H0 ex) (B (.ref acc) (X.comp N csc C s0 H0 ex).env) (tb acc))
 (hs:∀x,foldedSetIterable iter X.env x=pure x:=by intro _;rfl) :
 PE X (.ListComp elt (⟨tg,iter,ifs,0⟩::rest) csc cpos) (vD fr wi g ts tb):=by
 intro pins s σ H Q I h
 rw[eval_ListComp]
 refine wpAny_comprehension_free (use:=none) rfl hs (vV (S.cells I.ok)) S.kind S.locals ?_
 refine rT (use:=none) rfl hc S hi hturn hg ht hb I h fun acc C H' s' I' q' hn hC hL h0 hcl hpn=>?_
 obtain⟨m,hn⟩:=hn
 refine⟨m,hn,fun h' sb=>⟨.ref acc,H',?_,rfl,q'⟩⟩
 exact I'.turned (t':=s'.toks) (fun b o hb e=>(sb.2 b hb).trans e) hC (Ne.symm (Ne.symm hL)) (.inr h0) hcl hpn
theorem p6{B:Value→Env→Sem PUnit}{y:Str}{py spos:Pos}{i:Nat}(hc:X.calm=true)(S:zp X N csc fr)(hi:PI X tg iter wi)
 (hturn:∀(it:Addr) (acc:Value) (env:Env),compTurn (.ListComp elt (⟨tg,iter,ifs,0⟩::rest) csc cpos) 0 (.ref it) acc env=(do
  standAt iter.pos
  match ←pyNext (.ref it) with
  |none=>pure (.done .next)
  |some v=>
   letOwnedTupleGo tg (.ref it) v
   assign tg env v
   let mut ok:=true
   for c in ifs do
    if ok then ok ←isTrue c env (eval c env)
   if ok then B acc env
   again (.compLoop (.ListComp elt (⟨tg,iter,ifs,0⟩::rest) csc cpos) 0 (.ref it) acc env)))
 (hg:∀C s0 H0 ex,PG (X.comp N csc C s0 H0 ex) tg g) (ht:∀C s0 H0 ex,PTs (X.comp N csc C s0 H0 ex) ifs ts)
 (hb:∀C s0 H0 ex acc,PB (X.comp N csc C s0 H0 ex) (B (.ref acc) (X.comp N csc C s0 H0 ex).env) (tb acc))
 (hN:X.N.Nodup) (hy:X.N[i]?=some y) (hx:Loc X.env.scope y)
 (hsw:swapsWith (.ListComp elt (⟨tg,iter,ifs,0⟩::rest) csc cpos) (some (.Name y py)) spos.line X.env=pure true:=by rfl)
 (hf:X.fn y=true∨X.env.scope.names.lookup y=some .local:=by first|exact .inl rfl|exact .inr rfl|assumption)
 (hs:∀x,foldedSetIterable iter X.env x=pure x:=by intro _;rfl) :
 PS X (.Assign [.Name y py] (.ListComp elt (⟨tg,iter,ifs,0⟩::rest) csc cpos) spos) (rH (vD fr wi g ts tb) (w4 i)):=by
 intro pins s σ H D I h
 rw[exec_Assign_Name_used _ _ _ _ hsw]
 refine wpAny_bind (wpAny_standAt (wpAny_bind ?_))
 show wpAny _ X.A (do let _ ←comprehension (.ListComp elt (⟨tg,iter,ifs,0⟩::rest) csc cpos) csc X.env _ (newList []) false (eval iter X.env) (some (assign (.Name y py) X.env))) _ _ s
 refine wpAny_bind (wpAny_mono (wpAny_comprehension_free (use:=some (assign (.Name y py) X.env)) (Q:=fun _ s'=>SP X pins D .next s') rfl hs (vV (S.cells I.ok)) S.kind S.locals ?_) (fun _ s' hq=>wpAny_pure (wpAny_pure hq)) fun _ _ e=>e)
 refine rT (use:=some (assign (.Name y py) X.env)) rfl hc S hi hturn hg ht hb I h fun acc C H' s' I' q' hn hC hL h0 hcl hpn=>?_
 obtain⟨m,hn⟩:=hn
 show wpAny _ X.A (assign (.Name y py) X.env (.ref acc)) _ _ _
 refine wpAny_assign_Name (r8 I' hN hy hx (show RelV (.ref acc) (.ref acc) from rfl) (fun s2 I2 ⟨a,sb,ha⟩=>?_) hf)
 have haC:C≠a:=by
  rcases ha with ha|ha
  . rw[ha];exact hL
  . exact Ne.symm (hcl y a ha)
 refine⟨m,hn.sameBut sb haC,fun h' sb'=>⟨_,H',?_,q'⟩⟩
 exact I2.turned (t':=s2.toks) (fun b o hb e=>(sb'.2 b hb).trans e) hC hL (.inr h0) hcl hpn
theorem d7(elt tg iter:Expr)(ifs:List Expr)(csc:Scope)(cpos:Pos)(it:Addr)(acc:Value)(env:Env) :
 compTurn (.ListComp elt [⟨tg,iter,ifs,0⟩] csc cpos) 0 (.ref it) acc env=(do
  standAt iter.pos
  match ←pyNext (.ref it) with
  |none=>pure (.done .next)
  |some v=>
   letOwnedTupleGo tg (.ref it) v
   assign tg env v
   let mut ok:=true
   for c in ifs do
    if ok then ok ←isTrue c env (eval c env)
   if ok then (do let _ ←call (.builtin "list.append") [acc,←eval elt env])
   again (.compLoop (.ListComp elt [⟨tg,iter,ifs,0⟩] csc cpos) 0 (.ref it) acc env)):=by rfl
theorem d8(elt tg iter:Expr)(ifs:List Expr)(tg2 iter2:Expr)(ifs2:List Expr)(csc:Scope)(cpos:Pos)(it:Addr)(acc:Value)(env:Env) :
 compTurn (.ListComp elt [⟨tg,iter,ifs,0⟩,⟨tg2,iter2,ifs2,0⟩] csc cpos) 0 (.ref it) acc env=(do
  standAt iter.pos
  match ←pyNext (.ref it) with
  |none=>pure (.done .next)
  |some v=>
   letOwnedTupleGo tg (.ref it) v
   assign tg env v
   let mut ok:=true
   for c in ifs do
    if ok then ok ←isTrue c env (eval c env)
   if ok then (do
    let x ←eval iter2 env
    standAt iter2.pos
    let x ←foldedSetIterable iter2 env x
    let _ ←runOwn (.compStart (.ListComp elt [⟨tg,iter,ifs,0⟩,⟨tg2,iter2,ifs2,0⟩] csc cpos) 1 (←holding [x] (pyIter x)) acc env) env)
   again (.compLoop (.ListComp elt [⟨tg,iter,ifs,0⟩,⟨tg2,iter2,ifs2,0⟩] csc cpos) 0 (.ref it) acc env)):=by
 have e:compTurn (.ListComp elt [⟨tg,iter,ifs,0⟩,⟨tg2,iter2,ifs2,0⟩] csc cpos) 0 (.ref it) acc env=(do
  standAt iter.pos
  match ←pyNext (.ref it) with
  |none=>pure (.done .next)
  |some v=>
   letOwnedTupleGo tg (.ref it) v
   assign tg env v
   let mut ok:=true
   for c in ifs do
    if ok then ok ←isTrue c env (eval c env)
   if ok then
    let x ←eval iter2 env
    standAt iter2.pos
    let x ←foldedSetIterable iter2 env x
    let _ ←runOwn (.compStart (.ListComp elt [⟨tg,iter,ifs,0⟩,⟨tg2,iter2,ifs2,0⟩] csc cpos) 1 (←holding [x] (pyIter x)) acc env) env
   again (.compLoop (.ListComp elt [⟨tg,iter,ifs,0⟩,⟨tg2,iter2,ifs2,0⟩] csc cpos) 0 (.ref it) acc env)):=by rfl
 rw[e]
 simp only[bind_assoc,pure_bind]
theorem ZP(elt tg iter:Expr)(ifs:List Expr)(tg2 iter2:Expr)(ifs2:List Expr)(csc:Scope)(cpos:Pos)(it:Addr)(acc:Value)(env:Env) :
 compTurn (.ListComp elt [⟨tg,iter,ifs,0⟩,⟨tg2,iter2,ifs2,0⟩] csc cpos) 1 (.ref it) acc env=(do
  standAt iter2.pos
  match ←pyNext (.ref it) with
  |none=>pure (.done .next)
  |some v=>
   letOwnedTupleGo tg2 (.ref it) v
   assign tg2 env v
   let mut ok:=true
   for c in ifs2 do
    if ok then ok ←isTrue c env (eval c env)
   if ok then (do let _ ←call (.builtin "list.append") [acc,←eval elt env])
   again (.compLoop (.ListComp elt [⟨tg,iter,ifs,0⟩,⟨tg2,iter2,ifs2,0⟩] csc cpos) 1 (.ref it) acc env)):=by rfl
end
end L2
end
section
namespace L2
open PySem PySem.Spec PyProof.Rows
theorem oU{prog:Program}{w:World}{A:Around}{R:Result→Shared→Prop}{s:Shared}{elt tg iter tg2 iter2:Expr}{ifs ifs2:List Expr}{csc:Scope}{cpos:Pos}{it acc:Value}{env:Env}
 (h0:codeAny (model prog w) A (.compLoop (.ListComp elt [⟨tg,iter,ifs,0⟩,⟨tg2,iter2,ifs2,0⟩] csc cpos) 1 it acc env) R s)
 (h:wpAny (model prog w) A (pyIter it) (fun it' s'=>codeAny (model prog w) A (.compLoop (.ListComp elt [⟨tg,iter,ifs,0⟩,⟨tg2,iter2,ifs2,0⟩] csc cpos) 1 it' acc env) R s')
  (notedBy (model prog w) A env fun x s'=>R (.error x) s') s) :
 codeAny (model prog w) A (.compStart (.ListComp elt [⟨tg,iter,ifs,0⟩,⟨tg2,iter2,ifs2,0⟩] csc cpos) 1 it acc env) R s:=by
 refine codeAny_of_tree ?_
 show wpAny _ _ ((compStart (.ListComp elt [⟨tg,iter,ifs,0⟩,⟨tg2,iter2,ifs2,0⟩] csc cpos) 1 it acc env).onRaise (fun x=>do noteFrame x env;standAt theWindowsPlace)) _ _ s
 refine wpAny_notedAt ?_
 unfold compStart
 show wpAny _ _ (ask >>= _) _ _ s
 refine wpAny_bind (wpAny_askSetting (wpAny_ite ?_))
 split
 . first
    |exact wpAny_bind (wpAny_pure (wpAny_pure (And.intro rfl h0)))
    |exact wpAny_pure (And.intro rfl h0)
 . first
    |exact wpAny_bind (wpAny_rule (wpAny_bind (wpAny_standAt (wpAny_bind (wpAny_mono h (fun it' s' h'=>wpAny_pure (And.intro rfl h')) fun _ _ x=>x)))))
    |(refine wpAny_bind (wpAny_rule ?_);show wpAny _ _ (standAt iter2.pos >>= _) _ _ s;exact wpAny_bind (wpAny_standAt (wpAny_bind (wpAny_mono h (fun it' s' h'=>wpAny_pure (And.intro rfl h')) fun _ _ x=>x))))
noncomputable def se(wi:TI)(g:TG)(ts:List TT)(tb:TB):TB:=fun Nx σ H=>wi σ H fun J H1=>rq J g (tTB ts tb) ⟨Nx,fun _ _=>False,fun _ _=>False,fun _ _=>False⟩ σ H1
theorem ph{X:Cx}{acc:Addr}{elt tg iter tg2 iter2:Expr}{ifs ifs2:List Expr}{csc:Scope}{cpos:Pos}{wi:TI}{g:TG}{ts:List TT}{tb:TB}
 (hx:X.xe=fun _ _=>False) (hc:X.calm=true) (hi:PI X tg2 iter2 wi) (hg:PG X tg2 g) (ht:PTs X ifs2 ts) (hb:PB X (do let _ ←call (.builtin "list.append") [.ref acc,←eval elt X.env]) tb)
 (hs:∀x,foldedSetIterable iter2 X.env x=pure x:=by intro _;rfl) :
 PB X (do
       let x ←eval iter2 X.env
       standAt iter2.pos
       let x ←foldedSetIterable iter2 X.env x
       let _ ←runOwn (.compStart (.ListComp elt [⟨tg,iter,ifs,0⟩,⟨tg2,iter2,ifs2,0⟩] csc cpos) 1 (←holding [x] (pyIter x)) (.ref acc) X.env) X.env) (se wi g ts tb):=by
 intro pins s σ H Nx I h
 refine wpAny_bind (thn (hi pins s σ H _ I h) fun v s1 h1=>wpAny_bind (wpAny_standAt (wpAny_bind (wpAny_of_eq (hs v) (wpAny_bind (wpAny_holding (thn h1 fun itv s2 h2=>?_)))))))
 obtain⟨it,fp,tn,J,H2,e,I2,T,st2,f2,q2⟩:=h2
 subst e
 refine wpAny_bind (wpAny_runOwn ?_)
 have loop:codeAny (model X.prog X.w) X.A (.compLoop (.ListComp elt [⟨tg,iter,ifs,0⟩,⟨tg2,iter2,ifs2,0⟩] csc cpos) 1 (.ref it) (.ref acc) X.env)
  (fun r s'=>match r with|.ok f=>wpAny (model X.prog X.w) X.A (pure PUnit.unit:Sem PUnit) (fun _ s'=>∃σ' H',Inv X pins σ' H' s'∧Nx σ' H') X.xe s'|.error e=>cameBackBy (model X.prog X.w) X.A X.env X.xe e s') s2:=
  wH (ZP ..) hx hc T hg ht hb I2 st2 f2 q2 fun σ' H' s' I' n' _=>wpAny_pure ⟨σ',H',I',n'⟩
 exact oU loop (T.self X.A 0 _ _ _ st2 loop)
section
variable {X:Cx}{N:List Str}{csc:Scope}{fr:List (Option Nat)}{elt tg iter tg2 iter2:Expr}{ifs ifs2:List Expr}{cpos:Pos}{wi wi2:TI}{g g2:TG}{ts ts2:List TT}{te:TE}
theorem mf(hc:X.calm=true)(S:zp X N csc fr)(hi:PI X tg iter wi)(hg:∀C s0 H0 ex,PG (X.comp N csc C s0 H0 ex) tg g)(ht:∀C s0 H0 ex,PTs (X.comp N csc C s0 H0 ex) ifs ts)
 (he:∀C s0 H0 ex,PE (X.comp N csc C s0 H0 ex) elt te) (hs:∀x,foldedSetIterable iter X.env x=pure x:=by intro _;rfl) :
 PE X (.ListComp elt [⟨tg,iter,ifs,0⟩] csc cpos) (vD fr wi g ts fun acc=>vY acc te):=
 pq hc S hi (B:=fun acc env=>(do let _ ←call (.builtin "list.append") [acc,←eval elt env])) (d7 elt tg iter ifs csc cpos) hg ht (fun C s0 H0 ex acc=>tW (he C s0 H0 ex)) hs
theorem eO{y:Str}{py spos:Pos}{i:Nat}(hc:X.calm=true)(S:zp X N csc fr)(hi:PI X tg iter wi)(hg:∀C s0 H0 ex,PG (X.comp N csc C s0 H0 ex) tg g)(ht:∀C s0 H0 ex,PTs (X.comp N csc C s0 H0 ex) ifs ts)
 (he:∀C s0 H0 ex,PE (X.comp N csc C s0 H0 ex) elt te) (hN:X.N.Nodup) (hy:X.N[i]?=some y) (hx:Loc X.env.scope y)
 (hsw:swapsWith (.ListComp elt [⟨tg,iter,ifs,0⟩] csc cpos) (some (.Name y py)) spos.line X.env=pure true:=by rfl)
 (hf:X.fn y=true∨X.env.scope.names.lookup y=some .local:=by first|exact .inl rfl|exact .inr rfl|assumption)
 (hs:∀x,foldedSetIterable iter X.env x=pure x:=by intro _;rfl) :
 PS X (.Assign [.Name y py] (.ListComp elt [⟨tg,iter,ifs,0⟩] csc cpos) spos) (rH (vD fr wi g ts fun acc=>vY acc te) (w4 i)):=
 p6 hc S hi (B:=fun acc env=>(do let _ ←call (.builtin "list.append") [acc,←eval elt env])) (d7 elt tg iter ifs csc cpos) hg ht (fun C s0 H0 ex acc=>tW (he C s0 H0 ex)) hN hy hx hsw hf hs
theorem pk(hc:X.calm=true)(S:zp X N csc fr)(hi:PI X tg iter wi)(hg:∀C s0 H0 ex,PG (X.comp N csc C s0 H0 ex) tg g)(ht:∀C s0 H0 ex,PTs (X.comp N csc C s0 H0 ex) ifs ts)
 (hi2:∀C s0 H0 ex,PI (X.comp N csc C s0 H0 ex) tg2 iter2 wi2) (hg2:∀C s0 H0 ex,PG (X.comp N csc C s0 H0 ex) tg2 g2) (ht2:∀C s0 H0 ex,PTs (X.comp N csc C s0 H0 ex) ifs2 ts2)
 (he:∀C s0 H0 ex,PE (X.comp N csc C s0 H0 ex) elt te) (hs:∀x,foldedSetIterable iter X.env x=pure x:=by intro _;rfl)
 (hs2:∀env x,foldedSetIterable iter2 env x=pure x:=by intro _ _;rfl) :
 PE X (.ListComp elt [⟨tg,iter,ifs,0⟩,⟨tg2,iter2,ifs2,0⟩] csc cpos) (vD fr wi g ts fun acc=>se wi2 g2 ts2 (vY acc te)):=
 pq hc S hi (B:=fun acc env=>(do
         let x ←eval iter2 env
         standAt iter2.pos
         let x ←foldedSetIterable iter2 env x
         let _ ←runOwn (.compStart (.ListComp elt [⟨tg,iter,ifs,0⟩,⟨tg2,iter2,ifs2,0⟩] csc cpos) 1 (←holding [x] (pyIter x)) acc env) env)) (d8 elt tg iter ifs tg2 iter2 ifs2 csc cpos) hg ht
  (fun C s0 H0 ex acc=>ph rfl hc (hi2 C s0 H0 ex) (hg2 C s0 H0 ex) (ht2 C s0 H0 ex) (tW (he C s0 H0 ex)) (hs2 _)) hs
end
end L2
end
section
namespace L2
open PySem PySem.Spec PyProof.Rows
section
variable {X:Cx}
theorem t5:yO X (.builtin "isinstance") (fun xs H Q=>∃x c t b,xs=[x,.ty c]∧vv X.K H x (.type t)∧PySem.W.kitOne X.K (.type t) (.type c)=some b∧Q (.bl b) H):=by
 intro pins s σ H xs us Q I r h
 obtain⟨x,c,t,b,rfl,ty,e,q⟩:=h
 obtain⟨u,w',rfl,rx,rc⟩:=vals2 r
 cases (show w'=Value.type c from rc)
 exact lL I rx ty e fun tk=>⟨.bl b,H,I.tok _,rfl,q⟩
end
inductive Kd where
 |non|bl|int|str|lst|tup|dct
 deriving DecidableEq
noncomputable def Kd.nm:Kd→String
 |.non=>"NoneType"|.bl=>"bool"|.int=>"int"|.str=>"str"|.lst=>"list"|.tup=>"tuple"|.dct=>"dict"
noncomputable def Kd.sub(a c:Kd):Bool:=decide (a=c)||(decide (a=.bl)&&decide (c=.int))
theorem b6(K:PySem.W.Frag)(a c:Kd)(hc:c≠.non):PySem.W.kitOne K (.type a.nm) (.type c.nm)=some (a.sub c):=by
 cases c with
 |non=>exact absurd rfl hc
 |bl=>cases a<;>rfl
 |int=>cases a<;>rfl
 |str=>cases a<;>rfl
 |lst=>cases a<;>rfl
 |tup=>cases a<;>rfl
 |dct=>cases a<;>rfl
section
variable {X:Cx}
theorem all_range:∀(bs:List Bool),((List.range bs.length).all fun i=>bs.getD i false)=bs.all id:=by
 intro bs
 induction bs with
 |nil=>rfl
 |cons b bs ih=>
  rw[List.length_cons,List.range_succ_eq_map,List.all_cons,List.all_cons,List.all_map]
  exact congrArg (b&&·) (Eq.trans (by congr 1) ih)
theorem Vals.bools:∀{bs:List Bool} {us:List Value},Vals (bs.map V.bl) us→us=bs.map Value.bool
 |[],us,r=>by cases r;rfl
 |b::bs,us,r=>by
  rw[List.map_cons]at r
  cases r with
  |cons r1 r2=>
   cases (show _=Value.bool b from r1)
   rw[Vals.bools r2,List.map_cons]
theorem tu(hc:X.calm=true):yO X (.builtin "all") (fun xs H Q=>∃(a:Addr) (bs:List Bool),xs=[.ref a]∧SqL X.K H a (bs.map V.bl)∧Q (.bl (bs.all id)) H):=by
 intro pins s σ H xs us Q I r h
 obtain⟨a,bs,rfl,ha,q⟩:=h
 obtain⟨u,rfl,ru⟩:=vals1 r
 cases ru
 obtain⟨its,rv,pl,hz⟩:=I.list ha
 have hits:=rv.bools
 have alt:a<s.heap.objs.size:=by obtain⟨o,ho,_⟩:=pl.isList;exact Heap.lt_size ho
 refine call_all_walk (wpAny_pyIter_list pl.isList ?_)
 refine⟨s.heap.objs.size,_,_,_,_,_,fun i=>bs.getD i false,rfl,Walks.list (A:=X.A.in1) (I.ok.hd hc) s.heap.objs.size a (Nat.ne_of_lt alt) its.toArray,⟨⟨_,Heap.get?_push_size _ rfl,rfl,rfl⟩,?_⟩,?_,fun h' tk hk=>?_⟩
 . obtain⟨o,ho,hc',n,hd⟩:=pl.isList
   exact⟨o,Heap.get?_push_of_some _ ho,hc',n,hd⟩
 . intro i v s' Q' E' hv hq
   have hv':(bs.map Value.bool)[i]?=some v:=by rw[←hits];simpa using hv
   rw[List.getElem?_map]at hv'
   cases hb:bs[i]? with
   |none=>rw[hb]at hv';cases hv'
   |some b=>
    rw[hb]at hv'
    have:v=Value.bool b:=(Option.some.inj hv').symm
    subst this
    have e:bs.getD i false=b:=by rw[List.getD_eq_getElem?_getD,hb];rfl
    have hq':Q' (bs.getD i false) s':=hq
    rw[e]at hq'
    exact wpAny_truthy_bool hq'
 . have e:(List.range its.toArray.size).all (fun i=>bs.getD i false)=bs.all id:=by
    rw[List.size_toArray,hits,List.length_map];exact all_range bs
   rw[e]
   refine⟨.bl (bs.all id),H,I.kept fun b o ho=>hk b o ?_ (Heap.get?_push_of_some _ ho),rfl,q⟩
   simpa using Nat.ne_of_lt (Heap.lt_size ho)
end
end L2
end
section
namespace L2
open PySem PySem.Spec PyProof.Rows
theorem gH{H:Hp}{p:Addr}(h:H p=none)(o:HO):uU H (upd H p o):=fun b u q=>by rw[zQ (zU q h)];exact q
def ur(H:Hp)(ys:List V)(Q:VK):Prop:=∀p H',uU H H'→H' p=some (.tup ys)→Q (.ref p) H'
theorem ur.new{H:Hp}{ys:List V}{Q:VK}(g:ur H ys Q):∀p,H p=none→Q (.ref p) (upd H p (.tup ys)):=fun p hp=>g p _ (gH hp _) zc
noncomputable def Xe:V→Option Int→Option Int→Hp→VK→Prop:=fun x lo hi H Q=>∃a xs,x=.ref a∧H a=some (.tup xs)∧ur H (sv xs lo hi) Q
noncomputable def dq:R2:=fun x y H Q=>∃a b xs ys,x=.ref a∧y=.ref b∧H a=some (.tup xs)∧H b=some (.tup ys)∧xs.length+ys.length≤sizeLine∧ur H (xs++ys) Q
noncomputable def Yt:R2:=fun x y H Q=>∃a k xs,x=.ref a∧y=.int k∧H a=some (.tup xs)∧2≤k∧k≤1000∧xs≠[]∧xs.length≤1000∧ur H (List.replicate k.toNat xs).flatten Q
section
variable {X:Cx}
theorem lF{t sl:Addr}{items:Array Value}{vl vu:Value}{lo hi:Option Int}{Q:Value→Shared→Prop}{A:Around}{E:Value→Shared→Prop}{s:Shared}{prog:Program}{w:World}(ht:IsTup s.heap t items)(hs:s.heap.IsSliceOf sl vl vu .none)(pl:IsPart vl lo)(pu:IsPart vu hi)
 (h0:HT.sIx items.size 0 lo=0) (h1:HT.sIx items.size items.size hi=items.size) (h:Q (.ref t) s):wpAny (model prog w) A (getItem (.ref t) (.ref sl)) Q E s:=by
 obtain⟨os,hos,hcs,hds⟩:=id hs
 have hTs:s.TypeIs (.ref sl) "slice":=⟨os,hos,hcs⟩
 unfold getItem
 try with_reducible refine wpAny_holding ?_
 first|refine wpAny_bind (wpAny_pure ?_)|skip
 refine wpAny_bind (wpAny_sequenceKey ht.typeIs (by decide) ?_)
 refine wpAny_bind (wpAny_callSpecial?_slot (name:=Str.ofString "__getitem__") ht.typeIs PyProof.Rows.slot_tuple_getitem
  (wpAny_call_entry PyProof.Rows.slot_tuple_getitem ht.typeIs entry_tuple_getitem ?_ (args_tuple_getitem _ _)))
 show wpAny _ _ (Builtin.Tuple.tupleItemsOf (.ref t) >>= _) _ _ s
 refine wpAny_bind (tupleItemsOf_ ht ?_)
 refine wpAny_bind (wpAny_typeOf hTs ?_)
 rw[if_pos (by decide)]
 refine wpAny_bind (HT.wN hs pl pu ?_)
 have hyes:(((HT.sIx items.size 0 lo:Nat):Int) == 0&&(1:Int) == 1&&(HT.sIx items.size items.size hi-HT.sIx items.size 0 lo) == items.size)=true:=by
  rw[h0,h1];simp
 show wpAny _ _ (if (((HT.sIx items.size 0 lo:Nat):Int) == 0&&(1:Int) == 1&&(HT.sIx items.size items.size hi-HT.sIx items.size 0 lo) == items.size)=true then _ else _) _ _ s
 rw[if_pos hyes]
 unfold Builtin.Tuple.tupleIsExact
 refine wpAny_bind (wpAny_bind (wpAny_typeOf ht.typeIs (wpAny_pure ?_)))
 rw[if_pos (by decide)]
 exact wpAny_bind (wpAny_rule (wpAny_pure ⟨_,rfl,wpAny_pure h⟩))
theorem eg:SlR X Xe:=by
 intro pins s σ H x v vl vu lo hi sl Q I rx hs pl pu h
 obtain⟨a,xs,rfl,hx,g⟩:=h
 by_cases hw:HT.sIx xs.length 0 lo=0∧HT.sIx xs.length xs.length hi=xs.length
 . cases rx
   obtain⟨its,r,ht,hz⟩:=I.tuple (.inl (.inl hx))
   have hlen:its.toArray.size=xs.length:=by rw[List.size_toArray];exact r.length.symm
   refine⟨"tuple",_,PyProof.Rows.slot_tuple_getitem.lookup,ht.typeIs,?_⟩
   refine lF ht hs pl pu (by rw[hlen];exact hw.1) (by rw[hlen];exact hw.2) ⟨.ref a,H,I,rfl,g a H (uU.refl H) ?_⟩
   rw[hx]
   unfold sv
   rw[hw.1,hw.2,List.drop_zero,Nat.sub_zero,List.take_length]
 . exact ZD pins s σ H (.ref a) v vl vu lo hi sl Q I rx hs pl pu ⟨a,xs,rfl,.inl (.inl hx),hw,g.new⟩
theorem iE:OpR X (binaryOp .Add) dq:=by
 intro pins s σ H x y v u Q I rx ry h
 obtain⟨a,b,xs,ys,rfl,rfl,ha,hb,hz,g⟩:=h
 by_cases hx:xs=[]
 . cases rx
   cases ry
   subst hx
   obtain⟨its,r1,p1,_⟩:=I.tuple (.inl (.inl ha))
   obtain⟨its2,r2,p2,_⟩:=I.tuple (.inl (.inl hb))
   cases r1
   obtain⟨⟨cls,dd,data,sl⟩,ho,hc,n,hd⟩:=id p1
   obtain⟨⟨cls2,dd2,data2,sl2⟩,ho2,hc2,n2,hd2⟩:=id p2
   simp only at hc hd hc2 hd2
   subst hc hd hc2 hd2
   exact concat_meets ⟨_,ho,rfl⟩ ⟨_,ho2,rfl⟩ noFill_tuple_add seq_tuple_add PySem.F.slot_tuple_add PySem.F.entry_tuple_add (PySem.F.args_tuple_add_2 _ _)
    (tuple_addW0 a b #[] its2.toArray n n2 dd dd2 sl sl2 rfl) ⟨ho,ho2,⟨.ref b,H,I,rfl,g b H (uU.refl H) hb⟩⟩
 . refine fk pins s σ H (.ref a) (.ref b) v u Q I rx ry ⟨a,b,xs,ys,rfl,rfl,.inl (.inl ha),.inl (.inl hb),hx,hz,fun e=>?_,fun _=>g.new⟩
   subst e
   rw[List.append_nil]at g
   exact g a H (uU.refl H) ha
theorem xJ:fillsNumberSlot (.type "tuple") "mul"=pure false:=
 PySem.fillsNumberSlot_seq (id:="tuple.__mul__") (r:=some (.builtin "tuple.__rmul__")) F.slot_tuple_mul.lookup (by decide +kernel) F.slot_tuple_rmul.lookup (by decide +kernel)
theorem wc:seqRepeat? (.type "tuple")=pure (some (.builtin "tuple.__mul__")):=by
 unfold seqRepeat?
 rw[PySem.seqSlot_of (T:="tuple") (name:="__mul__") (id:="tuple.__mul__") F.slot_tuple_mul.lookup (by decide +kernel),PySem.seqSlot_of (T:="tuple") (name:="__rmul__") (id:="tuple.__rmul__") F.slot_tuple_rmul.lookup (by decide +kernel)]
 rfl
theorem xg(a:Int)(t:Tok)(l:Addr)(items:Array Value)(n:Nat)(dd:Option Addr)(sl:Array (Option Value)) :
 Meets (Builtin.«int.__rmul__» ⟨[.int a t,.ref l],[]⟩) (fun _ R s=>s.heap.get? l=some {cls:=.type "tuple",dict:=dd,data:=.seq items n,slots:=sl}∧R (.ok (.ret Value.notImplemented)) s):=
 .of_wp fun prog w A R s h=>by obtain⟨hp,g,d,tk,os⟩:=s;obtain⟨hl,h⟩:=h;wp_walk;exact⟨_,rfl,h⟩
theorem nk(l:Addr)(items:Array Value)(n:Nat)(x:Int)(u:Tok)(dd:Option Addr)(sl:Array (Option Value))(h1:2≤x)(h2:x≤1000)(h3:¬items.isEmpty=true)(h4:items.size≤1000) :
 Meets (Builtin.«tuple.__mul__» ⟨[.ref l,.int x u],[]⟩) (fun _ R s=>s.heap.get? l=some {cls:=.type "tuple",dict:=dd,data:=.seq items n,slots:=sl} ∧
  R (.ok (.ret (Value.ref s.heap.objs.size))) {s with heap:=s.heap.push {cls:=Value.type "tuple",data:=Data.seq (List.foldl (fun x1 x2=>x1++x2) #[] (List.replicate x.toNat items))},toks:=s.toks}):=
 .of_wp fun prog w A R s h=>by
  obtain⟨hp,g,d,tk,os⟩:=s;obtain⟨hl,h⟩:=h
  have f1:=AutoSeq1.idx_int
  have c1:¬((decide (x < -(2 ^ 63))||decide (x ≥ 2 ^ 63))=true):=by simp;omega
  have c2:¬((items.isEmpty||x == 1)=true):=by simp at h3 ⊢;exact⟨h3,by omega⟩
  have c3:¬((decide (x≤0)||items.isEmpty)=true):=by simp at h3 ⊢;exact⟨by omega,h3⟩
  have hprod:(items.size:Int)*x≤1000*1000:=Int.mul_le_mul (by omega) h2 (by omega) (by omega)
  have c4:¬((items.size:Int)*x > (2 ^ 63-1)/8):=by omega
  have hL:sizeLine=16777216:=sizeLine_eq
  have c5:¬(Builtin.Tuple.tupleTooMany ((items.size:Int)*x)=true):=by
   unfold Builtin.Tuple.tupleTooMany
   rw[hL]
   simp only[decide_eq_true_eq]
   omega
  have hn:(List.foldl (fun x1 x2=>x1++x2) #[] (List.replicate x.toNat items)).size=x.toNat*items.size:=by
   have e:=foldl_rep items.toList x.toNat []
   simp only[Array.toArray_toList,List.nil_append]at e
   rw[e,List.size_toArray,len_rep,Array.length_toList]
  have htake:sizeOk (.seq (List.foldl (fun x1 x2=>x1++x2) #[] (List.replicate x.toNat items))):=by
   show (List.foldl (fun x1 x2=>x1++x2) #[] (List.replicate x.toNat items)).size≤sizeLine
   rw[hn,hL]
   have:x.toNat*items.size≤1000*1000:=Nat.mul_le_mul (by omega) h4
   omega
  wp_walk using wpAny_loadPart' hl
  rw[if_neg c1]
  refine wpAny_bind (tupleItemsOf_ (items:=items) ⟨_,hl,rfl,n,rfl⟩ ?_)
  rw[if_neg c2]
  show wpAny _ _ (if (decide (x≤0)||items.isEmpty)=true then _ else _) _ _ _
  rw[if_neg c3]
  show wpAny _ _ (if (items.size:Int)*x > (2 ^ 63-1)/8 then _ else _) _ _ _
  rw[if_neg c4]
  show wpAny _ _ (if Builtin.Tuple.tupleTooMany ((items.size:Int)*x)=true then _ else _) _ _ _
  rw[if_neg c5]
  exact wpAny_bind (m:=Builtin.Tuple.tupleExact _) (wpAny_newObj_type (wpAny_pure ⟨_,rfl,h⟩) htake)
theorem ft:OpR X (binaryOp .Mult) Yt:=by
 intro pins s σ H x y v u Q I rx ry h
 obtain⟨a,k,xs,rfl,rfl,ha,h1,h2,h3,h4,g⟩:=h
 cases rx
 obtain⟨t,rfl⟩:=ry
 obtain⟨its,r,p1,_⟩:=I.tuple (.inl (.inl ha))
 obtain⟨⟨cls,dd,data,sl⟩,ho,hc,n,hd⟩:=id p1
 simp only at hc hd
 subst hc hd
 have hl:=r.length
 have hne:¬its.toArray.isEmpty=true:=by
  simp
  intro e
  exact h3 (r.xp.mp e)
 refine wpAny_binaryOp_repeat_ref (T:="tuple") (U:="int") (by decide) ⟨_,ho,rfl⟩ (fun s'=>typeIs_int s' k t) xJ F.fills_int_mul F.slot_int_rmul wc F.slot_int_index.lookup
  (call_meets F.slot_int_rmul (typeIs_int s k t) F.entry_int_rmul (F.args_int_rmul_2 _ _) (xg k t a its.toArray n dd sl)
   ⟨ho,rfl,⟨_,ho,rfl⟩,call_meets F.slot_tuple_mul ⟨_,ho,rfl⟩ F.entry_tuple_mul (F.args_tuple_mul_2 _ _) (nk a its.toArray n k t dd sl h1 h2 hne (by rw[List.size_toArray,←hl];exact h4)) ⟨ho,?_⟩⟩)
 have e:=foldl_rep its k.toNat []
 rw[List.nil_append]at e
 have hz:(List.replicate k.toNat xs).flatten.length≤sizeLine:=by
  rw[len_rep,sizeLine_eq]
  have:k.toNat*xs.length≤1000*1000:=Nat.mul_le_mul (by omega) h4
  omega
 refine⟨.ref s.heap.objs.size,_,I.laid (t':=s.toks) (o:=.tup (List.replicate k.toNat xs).flatten) (fun b ob q=>Heap.get?_push_of_some _ q) (Nat.le_refl _) ⟨hz,(List.replicate k.toNat its).flatten,r.rep k.toNat,?_⟩,rfl,g.new _ (I.hok.fresh (Nat.le_refl _))⟩
 rw[show (#[]:Array Value)=([]:List Value).toArray from rfl,e]
 exact vt.new _ _
end
end L2
end
section
namespace L2
open PySem PySem.Spec PyProof.Rows
section
variable {X:Cx}{pos:Pos}
noncomputable def d2(i j k:Nat)(ta:TA):TS:=fun D σ H=>ta σ H fun vs H1=>∃v w z,vs=[v,w,z]∧D.nx (((σ.set i (some v)).set j (some w)).set k (some z)) H1
theorem vals3{x y z:V}{us:List Value}(r:Vals [x,y,z] us):∃u1 u2 u3,us=[u1,u2,u3]∧RelV x u1∧RelV y u2∧RelV z u3:=by
 cases r with
 |cons r1 r2=>
  cases r2 with
  |cons r3 r4=>
   cases r4 with
   |cons r5 r6=>cases r6;exact⟨_,_,_,rfl,r1,r3,r5⟩
theorem eR{i j k:Nat}{x y z:Str}{a b c:Expr}{ta:TA}{px py pz pt:Pos}{kt k2 pt2}(hc:X.calm=true)(hN:X.N.Nodup)(hi:X.N[i]?=some x)(hj:X.N[j]?=some y)(hk:X.N[k]?=some z)(hij:i≠j)(hik:i≠k)(hjk:j≠k)
 (hx:X.env.scope.names.lookup x=some .local) (hy:X.env.scope.names.lookup y=some .local) (hz:X.env.scope.names.lookup z=some .local) (ha:PA X [a,b,c] ta)
 (hw:swappedStores [.Tuple [.Name x px,.Name y py,.Name z pz] kt pt] (.Tuple [a,b,c] k2 pt2) X.env=pure (some [x,y,z]))
 (hs:swapsWithSole [.Tuple [.Name x px,.Name y py,.Name z pz] kt pt] (.Tuple [a,b,c] k2 pt2) pos.line X.env=pure false:=by rfl) :
 PS X (.Assign [.Tuple [.Name x px,.Name y py,.Name z pz] kt pt] (.Tuple [a,b,c] k2 pt2) pos) (d2 i j k ta):=by
 intro pins s σ H D I h
 rw[exec_Assign_arm]
 refine wpAny_bind (wpAny_standAt ?_)
 rw[hs]
 refine wpAny_bind (wpAny_pure ?_)
 rw[if_neg (by decide)]
 refine wpAny_bind (Tuple_ (thn (ha _ pins s σ H _ I h) fun us s1 ⟨vs,H1,I1,r1,q1⟩=>?_))
 obtain⟨v,w,zz,e1,q1⟩:=q1
 subst e1
 obtain⟨u1,u2,u3,rfl,rv,rw',rz⟩:=vals3 r1
 refine wpAny_newObj_type ?_ (by show 3≤sizeLine;decide)
 have I2:Inv X pins σ H1 {s1 with heap:=s1.heap.push {cls:=.type "tuple",data:=.seq [u1,u2,u3].toArray}}:=I1.kept (t':=s1.toks) fun b o e=>Heap.get?_push_of_some _ e
 rw[hw]
 refine wpAny_bind (wpAny_pure ?_)
 show wpAny (model X.prog X.w) X.A (do rule "assign.swapped-stores";let items ←unpackItems (.ref s1.heap.objs.size) 3 none;assignInOrder [fun v=>bindName X.env z v,fun v=>bindName X.env y v,fun v=>bindName X.env x v] items.reverse;pure Flow.next) _ _ _
 refine wpAny_bind (wpAny_rule (wpAny_bind (unpackItems_tuple (items:=#[u1,u2,u3]) (I.ok.hd hc) (IsTup.new s1.heap _) fun h' hx'=>?_)))
 have I3:=I2.kept (h':=h') (t':=s1.toks) fun b o e=>hx' b o (Nat.ne_of_lt (Heap.lt_size e)) e
 show wpAny _ _ (assignInOrder [fun v=>bindName X.env z v,fun v=>bindName X.env y v,fun v=>bindName X.env x v] [u3,u2,u1] >>= fun _=>pure Flow.next) _ _ _
 refine wpAny_bind (assignInOrder_cons (wpAny_bindName (xT I3 hN hk (.inl hz) rz (fun s2 I4=>?_) (.inr hz))))
 refine assignInOrder_cons (wpAny_bindName (xT I4 hN hj (.inl hy) rw' (fun s3 I5=>?_) (.inr hy)))
 refine assignInOrder_cons (wpAny_bindName (xT I5 hN hi (.inl hx) rv (fun s4 I6=>assignInOrder_nil (wpAny_pure ?_)) (.inr hx)))
 refine⟨_,H1,?_,q1⟩
 have e:((σ.set k (some zz)).set j (some w)).set i (some v)=((σ.set i (some v)).set j (some w)).set k (some zz):=by
  rw[List.set_comm _ _ (Ne.symm hij),List.set_comm _ _ (Ne.symm hik),List.set_comm _ _ (Ne.symm hjk)]
 rw[←e]
 exact I6
end
end L2
namespace L2
open PySem PySem.Spec PyProof.Rows
mutual
inductive DD(H:Hp)(p:Addr):V→PyData→Prop
 |non:DD H p .non .none
 |bl (b:Bool):DD H p (.bl b) (.bool b)
 |int (i:Int):DD H p (.int i) (.int i)
 |str (x:Str):DD H p (.str x) (.str x)
 |lst {a:Addr} {xs:List V} {ds:List PyData}:H a=some (.lst xs)→a≠p→DDs H p xs ds→DD H p (.ref a) (.list ds)
 |tup {a:Addr} {xs:List V} {ds:List PyData}:H a=some (.tup xs)→a≠p→DDs H p xs ds→DD H p (.ref a) (.tuple ds)
 |dct {a:Addr}:H a=some (.dK [])→a≠p→DD H p (.ref a) (.dict [])
inductive DDs(H:Hp)(p:Addr):List V→List PyData→Prop
 |nil:DDs H p [] []
 |cons {x:V} {xs:List V} {d:PyData} {ds:List PyData}:DD H p x d→DDs H p xs ds→DDs H p (x::xs) (d::ds)
end
theorem DDs.length{H:Hp}{p:Addr}:∀{vs:List V} {ds:List PyData},DDs H p vs ds→vs.length=ds.length
 |_,_,.nil=>rfl
 |_,_,.cons _ rs=>by rw[List.length_cons,List.length_cons,rs.length]
theorem DDs.append{H:Hp}{p:Addr}:∀{vs ws:List V} {ds es:List PyData},DDs H p vs ds→DDs H p ws es→DDs H p (vs++ws) (ds++es)
 |_,_,_,_,.nil,r=>r
 |_,_,_,_,.cons r rs,q=>.cons r (rs.append q)
mutual
noncomputable def xA:PyData→Bool
 |.none|.bool _|.int _|.str _=>false
 |.list _=>true
 |.tuple xs=>xH xs
 |.dict _=>false
noncomputable def xH:List PyData→Bool
 |[]=>false
 |x::xs=>xA x||xH xs
end
structure dR(d:PyData):Prop where
 sh:d.showable=true
 mix:d.hasDict=true→xA d=false
 dp:d.depth≤50
 ln:d.shown.length≤sizeLine
end L2
end
section
namespace L2
open PySem PySem.Spec PyProof.Rows
structure oP(k w:Nat)(d:PyData):Prop where
 sh:d.showable=true
 lf:d.leavesShort 40=true
 dp:d.depth≤k
 wt:d.weight≤w
theorem j6{i:Int}(h1:-(10 ^ 30)<i)(h2:i<10 ^ 30):oP 0 100 (.int i):=by
 have hn:i.natAbs<10 ^ 30:=by omega
 have h100:i.natAbs<2 ^ 100:=Nat.lt_trans hn (by decide)
 have hlog:i.natAbs≠0→i.natAbs.log2<100:=fun z=>(Nat.log2_lt z).mpr h100
 refine⟨?_,?_,Nat.zero_le _,?_⟩
 . show decide (i.natAbs.log2<1920)=true
   by_cases z:i.natAbs=0
   . rw[z];decide
   . exact decide_eq_true (Nat.lt_trans (hlog z) (by decide))
 . show decide ((PyData.shown (.int i)).length≤40)=true
   refine decide_eq_true ?_
   show (Str.ofString (toString i)).length≤40
   by_cases z:0≤i
   . exact Nat.le_trans (toString_length_le z (k:=30) (by decide) h2) (by decide)
   . have e:=len_text_negI (n:=i) (by omega)
     have e2:=toString_length_le (v:=0-i) (k:=30) (by omega) (by decide) (by omega)
     omega
 . show (if i == 0 then 0 else i.natAbs.log2+1)≤100
   split
   . exact Nat.zero_le _
   . rename_i z
     have z':i≠0:=by simpa using z
     exact hlog (by omega)
theorem vw:∀{ds:List PyData},(∀d∈ds,d.showable=true)→PyData.showableAll ds=true
 |[],_=>rfl
 |d::ds,h=>by rw[PyData.showableAll,h d List.mem_cons_self,vw fun x hx=>h x (List.mem_cons_of_mem _ hx)];rfl
theorem rM:∀{ds:List PyData},(∀d∈ds,d.leavesShort 40=true)→PyData.leavesShortAll 40 ds=true
 |[],_=>rfl
 |d::ds,h=>by rw[PyData.leavesShortAll,h d List.mem_cons_self,rM fun x hx=>h x (List.mem_cons_of_mem _ hx)];rfl
theorem rL{k:Nat}:∀{ds:List PyData},(∀d∈ds,d.depth≤k)→PyData.depthAll ds≤k
 |[],_=>Nat.zero_le _
 |d::ds,h=>by rw[PyData.depthAll];exact Nat.max_le.mpr ⟨h d List.mem_cons_self,rL fun x hx=>h x (List.mem_cons_of_mem _ hx)⟩
theorem tj{w:Nat}:∀{ds:List PyData},(∀d∈ds,d.weight≤w)→PyData.weightAll ds≤ds.length*(w+1)
 |[],_=>by simp[PyData.weightAll]
 |d::ds,h=>by
  rw[PyData.weightAll,List.length_cons,Nat.succ_mul]
  have h1:=h d List.mem_cons_self
  have h2:=tj fun x hx=>h x (List.mem_cons_of_mem _ hx)
  omega
theorem oi{k w n:Nat}{ds:List PyData}(h:∀d∈ds,oP k w d)(hn:ds.length≤n):oP (k+1) (n*(w+1)) (.tuple ds):=by
 refine⟨vw fun d hd=>(h d hd).sh,rM fun d hd=>(h d hd).lf,Nat.succ_le_succ (rL fun d hd=>(h d hd).dp),?_⟩
 exact Nat.le_trans (tj fun d hd=>(h d hd).wt) (Nat.mul_le_mul_right _ hn)
theorem oP.Yy{k w:Nat}{d:PyData}(h:oP k w d)(hk:k≤50)(hw:w≤300000)(mix:d.hasDict=true→xA d=false):dR d:=by
 refine⟨h.sh,mix,Nat.le_trans h.dp hk,?_⟩
 have e:=PyData.shown_le 40 (by decide) d h.lf
 have e2:=h.wt
 rw[sizeLine_eq]
 have:(40+2)*d.weight≤42*300000:=Nat.mul_le_mul_left _ (Nat.le_trans e2 hw)
 omega
theorem rm:∀{ds:List PyData},(∀d∈ds,d.hasDict=false)→PyData.hasDictAll ds=false
 |[],_=>rfl
 |d::ds,h=>by rw[PyData.hasDictAll,h d List.mem_cons_self,rm fun x hx=>h x (List.mem_cons_of_mem _ hx)];rfl
end L2
end
section
namespace L2
open PySem PySem.Spec PyProof.Rows
section
variable {X:Cx}{pos:Pos}
theorem Ye{x:Str}{n:String}(hg:Gl X x)(hm:X.mg x=none)(hv:bootBuiltins x=some (.type n))(hn:x≠"__name__":=by decide)(hd:(x == ("__debug__":Str))=false:=by decide):PE X (.Name x pos) (tC (.ty n)):=
 f9 hg hm hv (show RelV (.ty n) (.type n) from rfl) hn hd
noncomputable def noStar:Expr→Bool
 |.Starred ..=>false
 |_=>true
theorem zt{e:Expr}{es:List Expr}{env:Env}(h:noStar e=true):starEach (e::es) env=(false,eval e env)::starEach es env:=by
 cases e<;>first|rfl|cases h
theorem pac{X:Cx}{e:Expr}{es:List Expr}{te:TE}{t:TA}(ha:PE X e te)(hr:PA X es t)(hs:noStar e=true:=by rfl):PA X (e::es) (u0 te t):=f6 ha hr (zt hs)
noncomputable def qQ(sc0:Scope)(N0 N:List Str)(csc:Scope)(fr:List (Option Nat)):Bool:=
 decide (csc.kind=.function)&&csc.names.all (fun x=>decide (x.2≠.cell))&&csc.names.all (fun x=>decide (x.2≠.local)||decide (csc.names.lookup x.1=some .local)) &&
 csc.names.all (fun x=>decide (x.2≠.free)||(decide (sc0.names.lookup x.1=some .cell)||decide (sc0.names.lookup x.1=some .free)))&&decide (fr.length=N.length) &&
 (List.range N.length).all (fun i=>match fr[i]?,N[i]? with|some (some j),some x=>decide (N0[j]?=some x)&&csc.names.any (fun y=>decide (y.1=x)&&decide (y.2=.free))|_,_=>true) &&
 csc.names.all (fun x=>decide (x.2≠.free)||decide (csc.names.lookup x.1≠some .local))
end
end L2
end
section
namespace L2
open PySem PySem.Spec PyProof.Rows
noncomputable def zo{α:Type}(xs:List α)(lo st:Int)(n:Nat):List α:=(List.range n).filterMap fun(k:Nat)=>xs[(lo+(k:Int)*st).toNat]?
theorem Vals.pick{xs:List V}{us:List Value}(r:Vals xs us):∀(is:List Nat),Vals (is.filterMap fun i=>xs[i]?) (is.filterMap fun i=>us[i]?)
 |[]=>.nil
 |i::is=>by
  rw[List.filterMap_cons,List.filterMap_cons]
  cases hx:xs[i]? with
  |none=>rw[r.none_of hx];exact Vals.pick r is
  |some x=>
   obtain⟨u,hu,ru⟩:=r.get hx
   rw[hu]
   exact .cons ru (Vals.pick r is)
theorem Vals.zo{xs:List V}{us:List Value}(r:Vals xs us)(lo st:Int)(n:Nat):Vals (zo xs lo st n) (L2.zo us lo st n):=by
 have h:=r.pick ((List.range n).map fun(k:Nat)=>(lo+(k:Int)*st).toNat)
 rw[List.filterMap_map,List.filterMap_map]at h
 exact h
theorem pv{α:Type}(xs:List α)(lo st:Int)(n:Nat):(zo xs lo st n).length≤n:=by
 have:=List.length_filterMap_le (fun(k:Nat)=>xs[(lo+(k:Int)*st).toNat]?) (List.range n)
 rw[List.length_range]at this
 exact this
noncomputable def yn(n:Nat)(lo hi:Option Int)(st:Int):Int × Nat:=((Builtin.Slice.sliceAdjust lo hi st (n:Int)).1,Builtin.Slice.slicePlaces (Builtin.Slice.sliceAdjust lo hi st (n:Int)).1 (Builtin.Slice.sliceAdjust lo hi st (n:Int)).2 st)
section
variable {prog:Program}{w:World}{A:Around}{E:Value→Shared→Prop}{s:Shared}
theorem rE{sl:Addr}{vl vu vc:Value}{lo hi:Option Int}{st:Int}{n:Nat}{Q:Int × Int × Nat→Shared→Prop}(hs:s.heap.IsSliceOf sl vl vu vc)(pl:IsPart vl lo)(pu:IsPart vu hi)(pc:IsPart vc (some st))(h0:st≠0)
 (h:Q ((yn n lo hi st).1,st,(yn n lo hi st).2) s):wpAny (model prog w) A (Builtin.Slice.sliceApplied (.ref sl) (pure (n:Int))) Q E s:=by
 obtain⟨os,hos,hcs,hds⟩:=id hs
 unfold Builtin.Slice.sliceApplied Builtin.Slice.sliceFields
 refine wpAny_bind (wpAny_bind (wpAny_field hos hds (x:=vl) rfl (wpAny_bind (wpAny_field hos hds (x:=vu) rfl (wpAny_bind (wpAny_field hos hds (x:=vc) rfl (wpAny_pure ?_)))))))
 refine wpAny_bind (HT.xj pc ?_)
 show wpAny _ _ (if (st == 0)=true then _ else _) _ _ s
 rw[if_neg (by simpa using h0)]
 exact wpAny_bind (HT.xj pl (wpAny_bind (HT.xj pu (wpAny_bind (wpAny_pure (wpAny_pure h))))))
theorem gV{t sl:Addr}{items:Array Value}{vl vu vc:Value}{lo hi:Option Int}{st:Int}{Q:Value→Shared→Prop}(ht:IsTup s.heap t items)(hs:s.heap.IsSliceOf sl vl vu vc)(pl:IsPart vl lo)(pu:IsPart vu hi)(pc:IsPart vc (some st))(h0:st≠0)
 (hq1:(yn items.size lo hi st).1=0→st=1→(yn items.size lo hi st).2=items.size→Q (.ref t) s)
 (hq2:Q (.ref s.heap.objs.size) {s with heap:=s.heap.push {cls:=.type "tuple",data:=.seq (zo items.toList (yn items.size lo hi st).1 st (yn items.size lo hi st).2).toArray}})
 (hsz:(yn items.size lo hi st).2≤sizeLine):wpAny (model prog w) A (getItem (.ref t) (.ref sl)) Q E s:=by
 obtain⟨os,hos,hcs,hds⟩:=id hs
 have hTs:s.TypeIs (.ref sl) "slice":=⟨os,hos,hcs⟩
 have htake:sizeOk (.seq (zo items.toList (yn items.size lo hi st).1 st (yn items.size lo hi st).2).toArray):=by
  show (zo items.toList (yn items.size lo hi st).1 st (yn items.size lo hi st).2).toArray.size≤sizeLine
  rw[List.size_toArray]
  exact Nat.le_trans (pv _ _ _ _) hsz
 have epick:((List.range (yn items.size lo hi st).2).filterMap fun(k:Nat)=>items[((yn items.size lo hi st).1+(k:Int)*st).toNat]?).toArray=(zo items.toList (yn items.size lo hi st).1 st (yn items.size lo hi st).2).toArray:=by
  unfold zo
  simp only[Array.getElem?_toList]
 unfold getItem
 try with_reducible refine wpAny_holding ?_
 first|refine wpAny_bind (wpAny_pure ?_)|skip
 refine wpAny_bind (wpAny_sequenceKey ht.typeIs (by decide) ?_)
 refine wpAny_bind (wpAny_callSpecial?_slot (name:=Str.ofString "__getitem__") ht.typeIs PyProof.Rows.slot_tuple_getitem
  (wpAny_call_entry PyProof.Rows.slot_tuple_getitem ht.typeIs entry_tuple_getitem ?_ (args_tuple_getitem _ _)))
 show wpAny _ _ (Builtin.Tuple.tupleItemsOf (.ref t) >>= _) _ _ s
 refine wpAny_bind (tupleItemsOf_ ht ?_)
 refine wpAny_bind (wpAny_typeOf hTs ?_)
 rw[if_pos (by decide)]
 refine wpAny_bind (rE (n:=items.size) hs pl pu pc h0 ?_)
 by_cases hw:((yn items.size lo hi st).1 == 0&&st == 1&&(yn items.size lo hi st).2 == items.size)=true
 . show wpAny _ _ (if ((yn items.size lo hi st).1 == 0&&st == 1&&(yn items.size lo hi st).2 == items.size)=true then _ else _) _ _ s
   rw[if_pos hw]
   simp only[Bool.and_eq_true,beq_iff_eq]at hw
   unfold Builtin.Tuple.tupleIsExact
   refine wpAny_bind (wpAny_bind (wpAny_typeOf ht.typeIs (wpAny_pure ?_)))
   rw[if_pos (by decide)]
   exact wpAny_bind (wpAny_rule (wpAny_pure ⟨_,rfl,wpAny_pure (hq1 hw.1.1 hw.1.2 hw.2)⟩))
 . show wpAny _ _ (if ((yn items.size lo hi st).1 == 0&&st == 1&&(yn items.size lo hi st).2 == items.size)=true then _ else _) _ _ s
   rw[if_neg hw,epick]
   first
    |exact wpAny_bind (m:=Builtin.Tuple.tupleExact _) (wpAny_newObj_type (wpAny_pure ⟨_,rfl,wpAny_pure hq2⟩) htake)
    |exact wpAny_bind (wpAny_bind (m:=Builtin.Tuple.tupleExact _) (wpAny_newObj_type (wpAny_pure ⟨_,rfl,wpAny_pure hq2⟩) htake))
end
theorem pw{α:Type}:∀xs:List α,(List.range xs.length).filterMap (fun k=>xs[k]?)=xs
 |[]=>rfl
 |x::xs=>by
  rw[List.length_cons,List.range_succ_eq_map,List.filterMap_cons,List.filterMap_map]
  show x::_=_
  refine congrArg (x::·) (Eq.trans ?_ (pw xs))
  congr 1
theorem nK{α:Type}(xs:List α):zo xs 0 1 xs.length=xs:=by
 unfold zo
 have e:(fun(k:Nat)=>xs[(0+(k:Int)*1).toNat]?)=fun k=>xs[k]?:=by
  funext k
  rw[show (0+(k:Int)*1).toNat=k by omega]
 rw[e]
 exact pw xs
noncomputable def Xf:V→Option Int→Option Int→Option Int→Hp→VK→Prop:=fun x lo hi st H Q=>∃a xs c,x=.ref a∧H a=some (.tup xs)∧st=some c∧c≠0∧(yn xs.length lo hi c).2≤sizeLine∧ur H (zo xs (yn xs.length lo hi c).1 c (yn xs.length lo hi c).2) Q
noncomputable def XA(r:V→Option Int→Option Int→Option Int→Hp→VK→Prop)(te:TE)(tl th tc:TO):TE:=fun σ H Q=>te σ H fun x H1=>tl σ H1 fun l H2=>th σ H2 fun u H3=>tc σ H3 fun c H4=>r x l u c H4 Q
theorem l7{X:Cx}{e:Expr}{te:TE}{lo hi:Option Expr}{st:Expr}{tl th tc:TO}{pos p2:Pos}(he:PE X e te)(hl:PO X lo tl)(hu:PO X hi th)(hc:PO X (some st) tc):PE X (.Subscript e (.Slice lo hi (some st) p2) pos) (XA Xf te tl th tc):=by
 intro pins s σ H Q I h
 refine Subscript_ (thn (he pins s σ H _ I h) fun v s1 ⟨x,H1,I1,r1,q1⟩=>?_)
 refine wpAny_Slice (thn (hl pins s1 σ H1 _ I1 q1) fun vl s2 ⟨l,H2,I2,pl,q2⟩=>thn (hu pins s2 σ H2 _ I2 q2) fun vu s3 ⟨u,H3,I3,pu,q3⟩=>thn (hc pins s3 σ H3 _ I3 q3) fun vc s4 ⟨c,H4,I4,pc,q4⟩=>?_)
 obtain⟨a,xs,cc,rfl,hx,ec,h0,hsz,g⟩:=q4
 subst ec
 cases r1
 have I5:Inv X pins σ H4 {s4 with heap:=s4.heap.push {cls:=.type "slice",data:=.fields #[vl,vu,vc]}}:=I4.kept (t':=s4.toks) fun b ob q=>Heap.get?_push_of_some _ q
 obtain⟨its,r,ht,hz⟩:=I5.tuple (.inl (.inl hx))
 have hlen:its.toArray.size=xs.length:=by rw[List.size_toArray];exact r.length.symm
 show wpAny (model X.prog X.w) X.A (subscriptTail e (.Slice lo hi (some st) p2) (.ref a) (.ref s4.heap.objs.size)) (EP X pins σ Q) X.xe {s4 with heap:=s4.heap.push {cls:=.type "slice",data:=.fields #[vl,vu,vc]}}
 refine tail_any (ops:=[.ref a,.ref s4.heap.objs.size]) ht.typeIs PyProof.Rows.slot_tuple_getitem.lookup (gV ht (Heap.IsSliceOf.new ..) pl pu pc h0 (fun z1 z2 z3=>?_) ?_ (by rw[hlen];exact hsz)) (by with_unfolding_all rfl)
 . refine⟨.ref a,H4,I5,rfl,g a H4 (uU.refl H4) ?_⟩
   rw[hlen]at z1 z3
   rw[hx,z1,z3,z2,nK]
 . rw[hlen]
   refine⟨.ref _,_,I5.laid (t':=s4.toks) (o:=.tup (zo xs (yn xs.length l u cc).1 cc (yn xs.length l u cc).2)) (fun b ob q=>Heap.get?_push_of_some _ q) (Nat.le_refl _) ?_,rfl,g.new _ (I5.hok.fresh (Nat.le_refl _))⟩
   refine⟨Nat.le_trans (pv _ _ _ _) hsz,_,r.zo _ _ _,?_⟩
   exact vt.new _ _
end L2
end
section
namespace L2
open PySem PyProof.Rows
section
variable {X:Cx}
noncomputable def ux(d:Int):List Int→Int
 |[]=>d
 |n::ns=>ns.foldl (fun a b=>if b > a then b else a) n
theorem t7:∀(ns:List Int) (a:Int),a≤ns.foldl (fun a b=>if b > a then b else a) a∧(∀x∈ns,x≤ns.foldl (fun a b=>if b > a then b else a) a)∧(ns.foldl (fun a b=>if b > a then b else a) a=a∨ns.foldl (fun a b=>if b > a then b else a) a∈ns)
 |[],a=>⟨Int.le_refl _,fun _ h=>(nomatch h),.inl rfl⟩
 |n::ns,a=>by
  obtain⟨h1,h2,h3⟩:=t7 ns (if n > a then n else a)
  show a≤ns.foldl _ (if n > a then n else a)∧_
  have hc:a≤(if n > a then n else a)∧n≤(if n > a then n else a):=by split<;>omega
  refine⟨Int.le_trans hc.1 h1,fun x hx=>?_,?_⟩
  . rcases List.mem_cons.mp hx with e|hx
    . rw[e];exact Int.le_trans hc.2 h1
    . exact h2 x hx
  . rcases h3 with h3|h3
    . show ns.foldl _ (if n > a then n else a)=a∨ns.foldl _ (if n > a then n else a)∈n::ns
      rw[h3]
      split
      . exact .inr (List.mem_cons_self ..)
      . exact .inl rfl
    . exact .inr (List.mem_cons_of_mem _ h3)
theorem ot{d:Int}{ns:List Int}(h:ns≠[]):ux d ns∈ns∧∀x∈ns,x≤ux d ns:=by
 cases ns with
 |nil=>exact absurd rfl h
 |cons n ns=>
  obtain⟨h1,h2,h3⟩:=t7 ns n
  refine⟨?_,fun x hx=>?_⟩
  . rcases h3 with h3|h3
    . show ns.foldl _ n∈_;rw[h3];exact List.mem_cons_self ..
    . exact List.mem_cons_of_mem _ h3
  . rcases List.mem_cons.mp hx with e|hx
    . rw[e];exact h1
    . exact h2 x hx
theorem j7{d M:Int}{ns:List Int}(h1:M∈ns)(h2:∀x∈ns,x≤M):ux d ns=M:=by
 have hne:ns≠[]:=fun e=>by rw[e]at h1;exact nomatch h1
 obtain⟨a,b⟩:=ot (d:=d) hne
 exact Int.le_antisymm (h2 _ a) (b _ h1)
theorem Vals.ints:∀{ns:List Int} {us:List Value},Vals (ns.map V.int) us→∀{i:Nat} {v:Value},us[i]?=some v→∃t,v=.int (ns.getD i 0) t
 |[],_,.nil,_,_,h=>by cases h
 |n::ns,_,.cons r rs,0,v,h=>by
  obtain⟨t,e⟩:=r
  have:v=.int n t:=(Option.some.inj h).symm.trans e
  exact⟨t,this⟩
 |n::ns,_,.cons r rs,i+1,v,h=>by
  have:=Vals.ints rs (i:=i) (v:=v) h
  exact this
end
end L2
end
section
namespace L2
open PySem PyProof PyProof.Rows
section
variable {X:Cx}
theorem nj(l:Addr)(items:Array Value)(n:Nat)(u:Tok)(dd:Option Addr)(sl:Array (Option Value)) :
 Meets (Builtin.«tuple.__mul__» ⟨[.ref l,.int 1 u],[]⟩) (fun _ R s=>s.heap.get? l=some {cls:=.type "tuple",dict:=dd,data:=.seq items n,slots:=sl}∧R (.ok (.ret (Value.ref l))) s):=
 .of_wp fun prog w A R s h=>by
  obtain⟨hp,g,d,tk,os⟩:=s;obtain⟨hl,h⟩:=h
  have f1:=AutoSeq1.idx_int
  have c1:¬((decide ((1:Int) < -(2 ^ 63))||decide ((1:Int) ≥ 2 ^ 63))=true):=by decide
  have c2:((items.isEmpty||((1:Int) == 1))=true):=by simp
  wp_walk using wpAny_loadPart' hl
  exact⟨_,rfl,h⟩
theorem ni(l:Addr)(items:Array Value)(n:Nat)(x:Int)(u:Tok)(dd:Option Addr)(sl:Array (Option Value))(h1:x≤0)(h2:-1000≤x)(h3:¬items.isEmpty=true) :
 Meets (Builtin.«tuple.__mul__» ⟨[.ref l,.int x u],[]⟩) (fun _ R s=>s.heap.get? l=some {cls:=.type "tuple",dict:=dd,data:=.seq items n,slots:=sl} ∧
  R (.ok (.ret (Value.ref s.heap.objs.size))) {s with heap:=s.heap.push {cls:=Value.type "tuple",data:=Data.seq #[]},toks:=s.toks}):=
 .of_wp fun prog w A R s h=>by
  obtain⟨hp,g,d,tk,os⟩:=s;obtain⟨hl,h⟩:=h
  have f1:=AutoSeq1.idx_int
  have c1:¬((decide (x < -(2 ^ 63))||decide (x ≥ 2 ^ 63))=true):=by simp;omega
  have c2:¬((items.isEmpty||x == 1)=true):=by simp at h3 ⊢;exact⟨h3,by omega⟩
  have c3:((decide (x≤0)||items.isEmpty)=true):=by simp;exact .inl h1
  wp_walk using wpAny_loadPart' hl
  rw[if_neg c1]
  refine wpAny_bind (tupleItemsOf_ (items:=items) ⟨_,hl,rfl,n,rfl⟩ ?_)
  rw[if_neg c2]
  show wpAny _ _ (if (decide (x≤0)||items.isEmpty)=true then _ else _) _ _ _
  rw[if_pos c3]
  exact wpAny_bind (m:=Builtin.Tuple.tupleExact _) (wpAny_newObj_type (wpAny_pure ⟨_,rfl,h⟩))
noncomputable def Yu:R2:=fun x y H Q=>∃a k xs,x=.ref a∧y=.int k∧H a=some (.tup xs)∧-1000≤k∧k≤1000∧xs≠[]∧xs.length≤1000∧ur H (List.replicate k.toNat xs).flatten Q
theorem fq:OpR X (binaryOp .Mult) Yu:=by
 intro pins s σ H x y v u Q I rx ry h
 obtain⟨a,k,xs,rfl,rfl,ha,h1,h2,h3,h4,g⟩:=h
 by_cases hk2:2≤k
 . exact ft pins s σ H _ _ v u Q I rx ry ⟨a,k,xs,rfl,rfl,ha,hk2,h2,h3,h4,g⟩
 cases rx
 obtain⟨t,rfl⟩:=ry
 obtain⟨its,r,p1,_⟩:=I.tuple (.inl (.inl ha))
 obtain⟨⟨cls,dd,data,sl⟩,ho,hc,n,hd⟩:=id p1
 simp only at hc hd
 subst hc hd
 by_cases hk1:k=1
 . subst hk1
   refine wpAny_binaryOp_repeat_ref (T:="tuple") (U:="int") (by decide) ⟨_,ho,rfl⟩ (fun s'=>typeIs_int s' 1 t) xJ F.fills_int_mul F.slot_int_rmul wc F.slot_int_index.lookup
    (call_meets F.slot_int_rmul (typeIs_int s 1 t) F.entry_int_rmul (F.args_int_rmul_2 _ _) (xg 1 t a its.toArray n dd sl)
     ⟨ho,rfl,⟨_,ho,rfl⟩,call_meets F.slot_tuple_mul ⟨_,ho,rfl⟩ F.entry_tuple_mul (F.args_tuple_mul_2 _ _) (nj a its.toArray n t dd sl) ⟨ho,?_⟩⟩)
   refine⟨.ref a,H,I,rfl,g a H (uU.refl H) ?_⟩
   rw[ha];simp
 . have hne:¬its.toArray.isEmpty=true:=by
    simp
    intro e
    exact h3 (r.xp.mp e)
   have e0:k.toNat=0:=by omega
   refine wpAny_binaryOp_repeat_ref (T:="tuple") (U:="int") (by decide) ⟨_,ho,rfl⟩ (fun s'=>typeIs_int s' k t) xJ F.fills_int_mul F.slot_int_rmul wc F.slot_int_index.lookup
    (call_meets F.slot_int_rmul (typeIs_int s k t) F.entry_int_rmul (F.args_int_rmul_2 _ _) (xg k t a its.toArray n dd sl)
     ⟨ho,rfl,⟨_,ho,rfl⟩,call_meets F.slot_tuple_mul ⟨_,ho,rfl⟩ F.entry_tuple_mul (F.args_tuple_mul_2 _ _) (ni a its.toArray n k t dd sl (by omega) h1 hne) ⟨ho,?_⟩⟩)
   rw[e0]at g
   refine⟨.ref s.heap.objs.size,_,I.laid (t':=s.toks) (o:=.tup []) (fun b ob q=>Heap.get?_push_of_some _ q) (Nat.le_refl _) ⟨Nat.zero_le _,[],.nil,vt.new _ _⟩,rfl,g.new _ (I.hok.fresh (Nat.le_refl _))⟩
noncomputable def ay(a b c:Int):List Int:=(List.range (Builtin.Range.rangeSize a b c).toNat).map fun(i:Nat)=>a+(i:Int)*c
end
end L2
end
section
namespace L2
open PySem PyProof PyProof.Rows
section
variable {X:Cx}
theorem uW{x:V}:∀{xs:List V} {us:List Value},Vals xs us→xs.all xm=true→us.countP (eqU x)=xs.countP fun y=>eqV y x
 |_,_,.nil,_=>rfl
 |y::ys,u::us,.cons r rs,h=>by
  rw[List.all_cons,Bool.and_eq_true]at h
  rw[List.countP_cons,List.countP_cons,uW rs h.2,oX r h.1]
noncomputable def qj(K:PySem.W.Frag)(tup:Bool):V→List V→Hp→VK→Prop:=fun x vs H Q=>∃t xs y,x=.ref t∧vs=[y]∧(if tup=true then SqT K H t xs else SqL K H t xs)∧xm y=true∧xs.all xm=true∧Q (.int (xs.countP fun z=>eqV z y:Nat)) H
theorem lY:MtR X "tuple.count" (qj X.K true):=by
 intro pins s σ H x xs v us Q I rx rs h
 obtain⟨t,ys,y,rfl,rfl,ht,fy,fs,q⟩:=h
 cases rx
 obtain⟨u,rfl,ru⟩:=vals1 rs
 obtain⟨its,r,p1,_⟩:=I.tuple ht
 obtain⟨⟨cls,dd,data,sl⟩,ho,hc,n,hd⟩:=id p1
 simp only at hc hd
 subst hc hd
 refine call_meets F.slot_tuple_count ⟨_,ho,rfl⟩ F.entry_tuple_count (F.args_tuple_count_2 _ _) (SeqAt.tuple_countAt t its.toArray n dd sl u (eqU y)) ⟨ho,fun w hw=>vA ru fy r fs w (by simpa using hw),?_⟩
 rw[show its.toArray.toList=its from rfl,uW r fs]
 exact⟨.int _,H,I.tok _,⟨s.toks,rfl⟩,q⟩
theorem lX:MtR X "list.count" (qj X.K false):=by
 intro pins s σ H x xs v us Q I rx rs h
 obtain⟨t,ys,y,rfl,rfl,ht,fy,fs,q⟩:=h
 cases rx
 obtain⟨u,rfl,ru⟩:=vals1 rs
 obtain⟨its,r,p1,_⟩:=I.list ht
 obtain⟨⟨cls,dd,data,sl⟩,ho,hc,n,hd⟩:=id p1.isList
 simp only at hc hd
 subst hc hd
 refine call_meets F.slot_list_count ⟨_,ho,rfl⟩ F.entry_list_count (F.args_list_count_2 _ _) (SeqAt.list_countAt t its.toArray n dd sl u (eqU y)) ⟨ho,fun w hw=>vA ru fy r fs w (by simpa using hw),?_⟩
 rw[show its.toArray.toList=its from rfl,uW r fs]
 exact⟨.int _,H,I.tok _,⟨s.toks,rfl⟩,q⟩
theorem vg(h:Int):∀ns:List Int,((ns.map V.int).countP fun z=>eqV z (.int h))=ns.count h
 |[]=>rfl
 |n::ns=>by
  rw[List.map_cons,List.countP_cons,vg h ns,List.count_cons]
  rfl
theorem vM:∀ns:List Int,(ns.map V.int).all xm=true
 |[]=>rfl
 |n::ns=>by rw[List.map_cons,List.all_cons,vM ns];rfl
noncomputable def sP(d:Int):List Int→Int
 |[]=>d
 |n::ns=>ns.foldl (fun a b=>if b<a then b else a) n
theorem t8:∀(ns:List Int) (a:Int),ns.foldl (fun a b=>if b<a then b else a) a≤a∧(∀x∈ns,ns.foldl (fun a b=>if b<a then b else a) a≤x)∧(ns.foldl (fun a b=>if b<a then b else a) a=a∨ns.foldl (fun a b=>if b<a then b else a) a∈ns)
 |[],a=>⟨Int.le_refl _,fun _ h=>(nomatch h),.inl rfl⟩
 |n::ns,a=>by
  obtain⟨h1,h2,h3⟩:=t8 ns (if n<a then n else a)
  show ns.foldl _ (if n<a then n else a)≤a∧_
  have hc:(if n<a then n else a)≤a∧(if n<a then n else a)≤n:=by split<;>omega
  refine⟨Int.le_trans h1 hc.1,fun x hx=>?_,?_⟩
  . rcases List.mem_cons.mp hx with e|hx
    . rw[e];exact Int.le_trans h1 hc.2
    . exact h2 x hx
  . rcases h3 with h3|h3
    . show ns.foldl _ (if n<a then n else a)=a∨ns.foldl _ (if n<a then n else a)∈n::ns
      rw[h3]
      split
      . exact .inr (List.mem_cons_self ..)
      . exact .inl rfl
    . exact .inr (List.mem_cons_of_mem _ h3)
theorem ou{d:Int}{ns:List Int}(h:ns≠[]):sP d ns∈ns∧∀x∈ns,sP d ns≤x:=by
 cases ns with
 |nil=>exact absurd rfl h
 |cons n ns=>
  obtain⟨h1,h2,h3⟩:=t8 ns n
  refine⟨?_,fun x hx=>?_⟩
  . rcases h3 with h3|h3
    . show ns.foldl _ n∈_;rw[h3];exact List.mem_cons_self ..
    . exact List.mem_cons_of_mem _ h3
  . rcases List.mem_cons.mp hx with e|hx
    . rw[e];exact h1
    . exact h2 x hx
theorem j8{d M:Int}{ns:List Int}(h1:M∈ns)(h2:∀x∈ns,M≤x):sP d ns=M:=by
 have hne:ns≠[]:=fun e=>by rw[e]at h1;exact nomatch h1
 obtain⟨a,b⟩:=ou (d:=d) hne
 exact Int.le_antisymm (b _ h1) (h2 _ a)
noncomputable def dn(K:PySem.W.Frag)(g:List Int→Int):List V→Hp→VK→Prop:=fun xs H Q=>∃(a:Addr) (ns:List Int),xs=[.ref a]∧SqL K H a (ns.map V.int)∧ns≠[]∧Q (.int (g ns)) H
theorem lB(hc:X.calm=true):yO X (.builtin "max") (dn X.K (ux 0)):=by
 intro pins s σ H xs us Q I r h
 obtain⟨a,ns,rfl,ha,hne,q⟩:=h
 obtain⟨u,rfl,ru⟩:=vals1 r
 cases ru
 obtain⟨its,rv,pl,hz⟩:=I.list ha
 have hlen:=rv.length
 have alt:a<s.heap.objs.size:=by obtain⟨o,ho,_⟩:=pl.isList;exact Heap.lt_size ho
 have hl:its.toArray.size=ns.length:=by rw[List.size_toArray,←hlen,List.length_map]
 have hpos:0<ns.length:=List.length_pos_iff.mpr hne
 have hat:∀(i:Nat) (v:Value),its.toArray[i]?=some v→∃t,v=.int (ns.getD i 0) t:=fun i v hv=>rv.ints (by simpa using hv)
 refine call_max_walk (wpAny_pyIter_list pl.isList ?_)
 refine⟨s.heap.objs.size,_,_,_,_,_,_,rfl,Walks.list (A:=X.A.in1) (I.ok.hd hc) s.heap.objs.size a (Nat.ne_of_lt alt) its.toArray,⟨⟨_,Heap.get?_push_size _ rfl,rfl,rfl⟩,?_⟩,fun b hb=>?_,by omega,CmpOf.ints_gt (fun i=>ns.getD i 0) hat,fun v h' tk hP hk=>?_⟩
 . obtain⟨o,ho,hc',n,hd⟩:=pl.isList
   exact⟨o,Heap.get?_push_of_some _ ho,hc',n,hd⟩
 . rw[Heap.size_push]
   simp only[List.mem_cons,List.not_mem_nil,or_false]at hb
   rcases hb with e|e
   . rw[e];exact Nat.lt_succ_self _
   . rw[e];exact Nat.lt_succ_of_lt alt
 . obtain⟨t,rfl⟩:=hat _ _ hP
   obtain⟨b1,b2⟩:=argBest_gt (fun i=>ns.getD i 0) (its.toArray.size-1)
   have e:ux 0 ns=ns.getD (argBest (fun i j=>decide (ns.getD i 0 > ns.getD j 0)) (its.toArray.size-1)) 0:=by
    refine j7 ?_ fun x hx=>?_
    . have:argBest (fun i j=>decide (ns.getD i 0 > ns.getD j 0)) (its.toArray.size-1)<ns.length:=by omega
      rw[List.getD_eq_getElem?_getD,List.getElem?_eq_getElem this];exact List.getElem_mem this
    . obtain⟨i,hi,rfl⟩:=List.getElem_of_mem hx
      have:=b2 i (by omega)
      simpa [List.getD_eq_getElem?_getD,List.getElem?_eq_getElem hi] using this
   refine⟨.int (ux 0 ns),H,I.kept fun b o ho=>hk b o ?_ (Heap.get?_push_of_some _ ho),⟨t,by rw[e]⟩,q⟩
   simpa using Nat.ne_of_lt (Heap.lt_size ho)
theorem lD(hc:X.calm=true):yO X (.builtin "min") (dn X.K (sP 0)):=by
 intro pins s σ H xs us Q I r h
 obtain⟨a,ns,rfl,ha,hne,q⟩:=h
 obtain⟨u,rfl,ru⟩:=vals1 r
 cases ru
 obtain⟨its,rv,pl,hz⟩:=I.list ha
 have hlen:=rv.length
 have alt:a<s.heap.objs.size:=by obtain⟨o,ho,_⟩:=pl.isList;exact Heap.lt_size ho
 have hl:its.toArray.size=ns.length:=by rw[List.size_toArray,←hlen,List.length_map]
 have hpos:0<ns.length:=List.length_pos_iff.mpr hne
 have hat:∀(i:Nat) (v:Value),its.toArray[i]?=some v→∃t,v=.int (ns.getD i 0) t:=fun i v hv=>rv.ints (by simpa using hv)
 refine call_min_walk (wpAny_pyIter_list pl.isList ?_)
 refine⟨s.heap.objs.size,_,_,_,_,_,_,rfl,Walks.list (A:=X.A.in1) (I.ok.hd hc) s.heap.objs.size a (Nat.ne_of_lt alt) its.toArray,⟨⟨_,Heap.get?_push_size _ rfl,rfl,rfl⟩,?_⟩,fun b hb=>?_,by omega,CmpOf.ints_lt (fun i=>ns.getD i 0) hat,fun v h' tk hP hk=>?_⟩
 . obtain⟨o,ho,hc',n,hd⟩:=pl.isList
   exact⟨o,Heap.get?_push_of_some _ ho,hc',n,hd⟩
 . rw[Heap.size_push]
   simp only[List.mem_cons,List.not_mem_nil,or_false]at hb
   rcases hb with e|e
   . rw[e];exact Nat.lt_succ_self _
   . rw[e];exact Nat.lt_succ_of_lt alt
 . obtain⟨t,rfl⟩:=hat _ _ hP
   obtain⟨b1,b2⟩:=argBest_lt (fun i=>ns.getD i 0) (its.toArray.size-1)
   have e:sP 0 ns=ns.getD (argBest (fun i j=>decide (ns.getD i 0<ns.getD j 0)) (its.toArray.size-1)) 0:=by
    refine j8 ?_ fun x hx=>?_
    . have:argBest (fun i j=>decide (ns.getD i 0<ns.getD j 0)) (its.toArray.size-1)<ns.length:=by omega
      rw[List.getD_eq_getElem?_getD,List.getElem?_eq_getElem this];exact List.getElem_mem this
    . obtain⟨i,hi,rfl⟩:=List.getElem_of_mem hx
      have:=b2 i (by omega)
      simpa [List.getD_eq_getElem?_getD,List.getElem?_eq_getElem hi] using this
   refine⟨.int (sP 0 ns),H,I.kept fun b o ho=>hk b o ?_ (Heap.get?_push_of_some _ ho),⟨t,by rw[e]⟩,q⟩
   simpa using Nat.ne_of_lt (Heap.lt_size ho)
theorem l0{o e:Expr}{to te:TE}{apos cpos:Pos}{es:List Expr}(ho:PE X o to)(he:PE X e te)(hbase:attributeBase o "append" X.env (eval o X.env)=eval o X.env:=by rfl)(hst:noStar e=true:=by rfl)(hline:(apos.endLine == cpos.line)=true:=by rfl) :
 PE X (.Call (.Attribute o "append" apos) [e] [] cpos) (tBM X.K "list" mm to (u0 te oH)):=by
 have hs1:starEach [e] X.env=(false,eval e X.env)::starEach [] X.env:=zt hst
 refine pj PySem.F.plainAttrs_list PySem.F.slot_list_append PySem.F.type_list_append rk ho (pac he wA hst) hbase ?_ hline hs1 rfl
 rw[hs1];rfl
theorem l5{o e:Expr}{to te:TE}{apos cpos:Pos}(ho:PE X o to)(he:PE X e te)(hbase:attributeBase o "count" X.env (eval o X.env)=eval o X.env:=by rfl)(hst:noStar e=true:=by rfl)(hline:(apos.endLine == cpos.line)=true:=by rfl) :
 PE X (.Call (.Attribute o "count" apos) [e] [] cpos) (tBM X.K "list" (qj X.K false) to (u0 te oH)):=by
 have hs1:starEach [e] X.env=(false,eval e X.env)::starEach [] X.env:=zt hst
 refine pj PySem.F.plainAttrs_list PySem.F.slot_list_count PySem.F.type_list_count lX ho (pac he wA hst) hbase ?_ hline hs1 rfl
 rw[hs1];rfl
noncomputable def Xk(r:V→List V→Hp→VK→Prop)(to:TE)(t:TA):TE:=fun σ H Q=>to σ H fun x H1=>(∃a xs,x=.ref a∧H1 a=some (.tup xs))∧t σ H1 fun xs H2=>r x xs H2 Q
theorem l6{o e:Expr}{to te:TE}{apos cpos:Pos}(ho:PE X o to)(he:PE X e te)(hbase:attributeBase o "count" X.env (eval o X.env)=eval o X.env:=by rfl)(hst:noStar e=true:=by rfl)(hline:(apos.endLine == cpos.line)=true:=by rfl) :
 PE X (.Call (.Attribute o "count" apos) [e] [] cpos) (Xk (qj X.K true) to (u0 te oH)):=by
 have hs1:starEach [e] X.env=(false,eval e X.env)::starEach [] X.env:=zt hst
 intro pins s σ H Q I h
 refine wpAny_Call_method_late hbase (by rw[hs1];rfl) hline rfl (thn (ho pins s σ H _ I h) fun v s1 ⟨x,H1,I1,r1,ty,q1⟩=>?_)
 obtain⟨a,xs,rfl,hx⟩:=ty
 cases r1
 obtain⟨z,its,rv,ob,e1,c1,n,d1,nd⟩:=(show zl X.prog X.w H1 s1.heap a (.tup xs) from I1.hok a _ hx)
 refine⟨"tuple",_,PySem.F.plainAttrs_tuple,PySem.F.slot_tuple_count,PySem.F.type_tuple_count,⟨ob,e1,c1⟩,fun b hb=>?_,?_⟩
 . cases hb;exact⟨ob,e1,nd⟩
 have hA:=(pac he wA hst:PA X [e] _) cpos pins s1 σ H1 _ I1 q1
 rw[hs1]at hA ⊢
 refine Calls.callWith_builtin rfl (Calls.evalArgs_plain ?_)
 exact thn hA fun us s2 ⟨vs,H2,I2,r2,q2⟩=>lY pins s2 σ H2 (.ref a) vs _ us Q I2 rfl r2 q2
end
end L2
namespace L2
open PySem
end L2
namespace L2
open PySem
end L2
end
section
namespace L2
open PySem PySem.W PySem.Calls PyProof PyProof.Rows
noncomputable def dW(z:Int × Int):Int:=z.1*1000+z.2
end L2
end
section
namespace L2.Tim
open PySem PySem.W PySem.Calls PyProof PyProof.Rows
section
variable {prog:Program}{w:World}{A:Around}{E:Value→Shared→Prop}{s:Shared}{κ:SortKind}{a₀:Array Keyed}{key:Keyed→Int}
theorem dh{i j:Nat}(h:¬(i == j)=true):i≠j:=fun e=>h (beq_iff_eq.mpr e)
end
end L2.Tim
end
section
namespace L2
open PySem PySem.W PySem.Calls PyProof PyProof.Rows
noncomputable def YB:List Int→List Int→Bool
 |x::xs,y::ys=>if x=y then YB xs ys else decide (x<y)
 |[],_::_=>true
 |_,[]=>false
noncomputable def Zv(z:List Int):List (List Int)→List (List Int)
 |[]=>[z]
 |y::ys=>if YB y z then y::Zv z ys else z::y::ys
noncomputable def dw:List (List Int)→List (List Int)
 |[]=>[]
 |z::zs=>Zv z (dw zs)
end L2
end
section
namespace L2
open PySem PyProof.Rows
section
variable {X:Cx}{N:List Str}{csc:Scope}{fr:List (Option Nat)}{elt tg iter tg2 iter2:Expr}{ifs ifs2:List Expr}{cpos:Pos}{wi wi2:TI}{g g2:TG}{ts ts2:List TT}{te:TE}
theorem il{y:Str}{py spos:Pos}{i:Nat}(hc:X.calm=true)(S:zp X N csc fr)(hi:PI X tg iter wi)(hg:∀C s0 H0 ex,PG (X.comp N csc C s0 H0 ex) tg g)(ht:∀C s0 H0 ex,PTs (X.comp N csc C s0 H0 ex) ifs ts)
 (hi2:∀C s0 H0 ex,PI (X.comp N csc C s0 H0 ex) tg2 iter2 wi2) (hg2:∀C s0 H0 ex,PG (X.comp N csc C s0 H0 ex) tg2 g2) (ht2:∀C s0 H0 ex,PTs (X.comp N csc C s0 H0 ex) ifs2 ts2)
 (he:∀C s0 H0 ex,PE (X.comp N csc C s0 H0 ex) elt te) (hN:X.N.Nodup) (hy:X.N[i]?=some y) (hx:Loc X.env.scope y)
 (hsw:swapsWith (.ListComp elt [⟨tg,iter,ifs,0⟩,⟨tg2,iter2,ifs2,0⟩] csc cpos) (some (.Name y py)) spos.line X.env=pure true:=by rfl)
 (hf:X.fn y=true∨X.env.scope.names.lookup y=some .local:=by first|exact .inl rfl|exact .inr rfl|assumption)
 (hs:∀x,foldedSetIterable iter X.env x=pure x:=by intro _;rfl)
 (hs2:∀env x,foldedSetIterable iter2 env x=pure x:=by intro _ _;rfl) :
 PS X (.Assign [.Name y py] (.ListComp elt [⟨tg,iter,ifs,0⟩,⟨tg2,iter2,ifs2,0⟩] csc cpos) spos) (rH (vD fr wi g ts fun acc=>se wi2 g2 ts2 (vY acc te)) (w4 i)):=
 p6 hc S hi (B:=fun acc env=>(do
         let x ←eval iter2 env
         standAt iter2.pos
         let x ←foldedSetIterable iter2 env x
         let _ ←runOwn (.compStart (.ListComp elt [⟨tg,iter,ifs,0⟩,⟨tg2,iter2,ifs2,0⟩] csc cpos) 1 (←holding [x] (pyIter x)) acc env) env)) (d8 elt tg iter ifs tg2 iter2 ifs2 csc cpos) hg ht
  (fun C s0 H0 ex acc=>ph rfl hc (hi2 C s0 H0 ex) (hg2 C s0 H0 ex) (ht2 C s0 H0 ex) (tW (he C s0 H0 ex)) (hs2 _)) hN hy hx hsw hf hs
end
end L2
end
section
namespace L2
open PySem PySem.Calls PyProof PyProof.Rows
open AutoSeq1 (wpAny_loadPart')
section
variable {prog:Program}{w:World}{A:Around}{E:Value→Shared→Prop}{s:Shared}
theorem tG{it t:Addr}{i:Nat}{items:Array Value}{x:Value}{Q:Value→Shared→Prop}(hit:s.heap.IsTupleIter it t i)(ht:s.heap.IsTuple t items)(hx:items[i]?=some x)
 (hQ:∀h',h'.IsTupleIter it t (i+1)→Heap.SameBut it s.heap h'→Q x {s with heap:=h'}):wpAny (model prog w) A (Builtin.SmallTypes.nextOf (.ref it)) Q E s:=by
 obtain⟨o,ho,hc,hd⟩:=id hit
 obtain⟨ol,hol,_,nl,hdl⟩:=ht
 unfold Builtin.SmallTypes.nextOf
 refine wpAny_bind (wpAny_callSpecial?_slot (name:=Str.ofString "__next__") hit.typeIs F.slot_tuple_iterator_next
  (wpAny_call_entry F.slot_tuple_iterator_next hit.typeIs F.entry_tuple_iterator_next ?_ (F.args_tuple_iterator_next_1 _)))
 show wpAny _ _ (field (.ref it) 0 >>= _) _ _ s
 refine wpAny_bind (wpAny_field ho hd (x:=.ref t) rfl ?_)
 show wpAny _ _ (if (Value.ref t == Value.none)=true then _ else _) _ _ s
 rw[if_neg (show ¬((Value.ref t == Value.none)=true) from Bool.false_ne_true)]
 show wpAny _ _ (field (.ref it) 1 >>= _) _ _ s
 refine wpAny_bind (wpAny_field ho hd (x:=.int i 0) rfl ?_)
 show wpAny _ _ (seqItems? (.ref t) >>= _) _ _ s
 refine wpAny_bind (wpAny_seqItems hol hdl ?_)
 simp only[Int.toNat_natCast,hx]
 refine wpAny_bind (wpAny_setField ho hd (by simp) (wpAny_pure ⟨x,rfl,wpAny_pure (hQ _ ?_ (Heap.SameBut.update ..))⟩))
 exact⟨_,Heap.get?_update_self _ ho (Obj.isFreed_of_fields (Obj.data_mapFields hd _)),(Obj.cls_mapFields ..).trans hc,by
  rw[Obj.data_mapFields hd];simp[rawInt]⟩
theorem sQ{it t:Addr}{i:Nat}{items:Array Value}{Q:Value→Shared→Prop}(hh:A.handled=none)(hit:s.heap.IsTupleIter it t i)(ht:s.heap.IsTuple t items)(hx:items[i]?=none)
 (hE:∀h' e,Heap.ExtBut it s.heap h'→(∃o,h'.get? e=some o∧o.cls=.type "StopIteration")→E (.ref e) {s with heap:=h'}):wpAny (model prog w) A (Builtin.SmallTypes.nextOf (.ref it)) Q E s:=by
 obtain⟨o,ho,hc,hd⟩:=id hit
 obtain⟨ol,hol,_,nl,hdl⟩:=ht
 unfold Builtin.SmallTypes.nextOf
 refine wpAny_bind (wpAny_callSpecial?_slot (name:=Str.ofString "__next__") hit.typeIs F.slot_tuple_iterator_next
  (wpAny_call_entry F.slot_tuple_iterator_next hit.typeIs F.entry_tuple_iterator_next ?_ (F.args_tuple_iterator_next_1 _)))
 show wpAny _ _ (field (.ref it) 0 >>= _) _ _ s
 refine wpAny_bind (wpAny_field ho hd (x:=.ref t) rfl ?_)
 show wpAny _ _ (if (Value.ref t == Value.none)=true then _ else _) _ _ s
 rw[if_neg (show ¬((Value.ref t == Value.none)=true) from Bool.false_ne_true)]
 show wpAny _ _ (field (.ref it) 1 >>= _) _ _ s
 refine wpAny_bind (wpAny_field ho hd (x:=.int i 0) rfl ?_)
 show wpAny _ _ (seqItems? (.ref t) >>= _) _ _ s
 refine wpAny_bind (wpAny_seqItems hol hdl ?_)
 simp only[Int.toNat_natCast,hx]
 first
  |refine wpAny_bind (wpAny_rule (wpAny_bind (wpAny_setField ho hd (by simp) ?_)))
  |refine wpAny_bind (wpAny_setField ho hd (by simp) ?_)
 first
  |show wpAny _ _ (newExc (.type "StopIteration") [] >>= _) _ _ _
  |(refine wpAny_bind (wpAny_letGo ?_);show wpAny _ _ (newExc (.type "StopIteration") [] >>= _) _ _ _)
 refine wpAny_bind ?_
 simp only[newExc,newTuple]
 refine wpAny_bind (wpAny_newObj_type ?_ (by size_fits))
 refine wpAny_bind (m:=firstArgMember _ _) (wpAny_of_eq (a:=Value.none) (by first|rfl|(simp only[firstArgMember];rfl)) ?_)
 refine wpAny_newObj_type ?_ (by size_fits)
 simp only[raiseNew]
 refine wpAny_bind (wpAny_handled ?_)
 first|rw[show A.in1.handled=none from hh]|rw[hh]
 refine wpAny_bind (wpAny_pure (wpAny_throw ?_))
 exact hE _ _ (((Heap.SameBut.update ..).extBut.push _).push _) ⟨_,Heap.get?_push_size _ rfl,rfl⟩
end
theorem rV{prog:Program}{w:World}{A:Around}(hh:A.handled=none)(it t:Addr)(hne:t≠it)(items:Array Value) :
 Draws prog w A it [it,t] items.size (fun i v=>items[i]?=some v) (fun i h=>h.IsTupleIter it t i∧h.IsTuple t items) where
 live:=fun _ _ st=>let ⟨o,ho,_⟩:=st.1;⟨o,ho⟩
 frame:=fun _ _ _ st hk=>⟨st.1.at fun o e=>hk it (by simp) o e,let ⟨o,ho,r⟩:=st.2;⟨o,hk t (by simp) o ho,r⟩⟩
 item:=fun i s Q E hi st hQ=>by
  refine tG st.1 st.2 (x:=items[i]) (by simp[hi]) fun h' hit' hs'=>?_
  exact hQ _ h' s.toks (by simp[hi]) ⟨hit',let ⟨o,ho,r⟩:=st.2;⟨o,hs'.extBut t o hne ho,r⟩⟩ hs'
 done:=fun s Q E st hE=>sQ hh st.1 st.2 (by simp) hE
theorem sM(l:Addr)(items:Array Value)(n:Nat)(dct:Option Addr)(sl:Array (Option Value)) :
 Meets (Builtin.«enumerate.__new__» ⟨[.type "enumerate",.ref l],[]⟩) (fun _ R s=>s.heap.get? l=some {cls:=.type "tuple",dict:=dct,data:=.seq items n,slots:=sl} ∧
  R (.ok (.ret (.ref (s.heap.push {cls:=.type "tuple_iterator",data:=.fields #[.ref l,.int 0 0]}).objs.size)))
    {s with heap:=(s.heap.push {cls:=.type "tuple_iterator",data:=.fields #[.ref l,.int 0 0]}).push {cls:=.type "enumerate",data:=.fields #[.none,.bool false,.ref s.heap.objs.size,rawInt 0,.none,.none]}}):=
 .of_wp fun prog w A R s h=>by
  obtain⟨hp,g,d,tk,os⟩:=s;obtain⟨hl,h⟩:=h
  have hsub:=sub_enumerate
  have hL:Heap.IsTuple (Shared.heap ⟨hp,g,d,tk,os⟩) l items:=⟨_,hl,rfl,n,rfl⟩
  wp_walk using wpAny_loadPart' hl
  refine wpAny_stack_any fun st=>wpAny_pure ?_
  split
  . rename_i c _ _ _ _ _
    cases (c == Value.type "enumerate")
    . wp_walk using wpAny_loadPart' hl,wpAny_pyIter_tuple hL
      exact⟨_,rfl,h⟩
    . wp_walk using wpAny_loadPart' hl,wpAny_pyIter_tuple hL
      exact⟨_,rfl,h⟩
  . wp_walk using wpAny_loadPart' hl,wpAny_pyIter_tuple hL
    exact⟨_,rfl,h⟩
section
variable {prog:Program}{w:World}{A:Around}{E:Value→Shared→Prop}{s:Shared}
theorem sr{l:Addr}{items:Array Value}{Q:Value→Shared→Prop}(hL:s.heap.IsTuple l items)
 (h:∀h',IsEnum h' (s.heap.objs.size+1) s.heap.objs.size 0 .none→h'.IsTupleIter s.heap.objs.size l 0→h'.objs.size=s.heap.objs.size+2 →
  (∀b o,s.heap.get? b=some o→h'.get? b=some o)→Q (.ref (s.heap.objs.size+1)) {s with heap:=h'}) :
 wpAny (model prog w) A (call (.type "enumerate") [.ref l]) Q E s:=by
 obtain⟨⟨c,dct,dt,sl⟩,hl,hc,n,hd⟩:=hL
 replace hc:c=.type "tuple":=hc
 replace hd:dt=.seq items n:=hd
 subst hc hd
 refine callType_new F.called_enumerate (by decide) (F.typeCall_enumerate_1 _) (F.newCall_enumerate_1 _) (fun obj=>F.args_object_init_2 obj _) F.entry_enumerate_new
  (sM l items n dct sl) ⟨hl,?_⟩
 have hz:(s.heap.push {cls:=.type "tuple_iterator",data:=.fields #[.ref l,.int 0 0]}).objs.size=s.heap.objs.size+1:=Heap.size_push ..
 show _∧_
 rw[hz]
 have he:IsEnum ((s.heap.push {cls:=.type "tuple_iterator",data:=.fields #[.ref l,.int 0 0]}).push
  {cls:=.type "enumerate",data:=.fields #[.none,.bool false,.ref s.heap.objs.size,rawInt 0,.none,.none]}) (s.heap.objs.size+1) s.heap.objs.size 0 .none:=by
  have:=Heap.get?_push_size (s.heap.push {cls:=.type "tuple_iterator",data:=.fields #[.ref l,.int 0 0]})
   (o:={cls:=.type "enumerate",data:=.fields #[.none,.bool false,.ref s.heap.objs.size,rawInt 0,.none,.none]}) rfl
  rw[hz]at this;exact this
 refine⟨⟨_,he,rfl⟩,h _ he ⟨_,Heap.get?_push_of_some _ (Heap.get?_push_size _ rfl),rfl,rfl⟩ (by rw[Heap.size_push,hz]) fun b o x=>Heap.get?_push_of_some _ (Heap.get?_push_of_some _ x)⟩
end
end L2
end
section
namespace L2
open PySem PySem.Calls PyProof PyProof.Rows
noncomputable def Ite(K:PySem.W.Frag)(a:Addr):It:=
 ⟨fun i H=>∃xs x,SqT K H a xs∧xs[i]?=some x,fun i H x H'=>∃t y,H t=none∧x=.ref t∧(∀xs,SqT K H a xs→xs[i]?=some y)∧H'=upd H t (.tup [.int (i:Nat),y]),fun i H=>∃xs,SqT K H a xs∧xs.length=i⟩
theorem Inv.m3{X:Cx}{pins:List (Addr × Obj)}{σ:St}{H:Hp}{s:Shared}{h':Heap}{t':Nat}{e it T:Addr}{ys:List V}{its:List Value}{n:Nat}(I:Inv X pins σ H s)(fe:vS X pins H e)(fi:vS X pins H it)
 (k:∀b o,b≠e→b≠it→s.heap.get? b=some o→h'.get? b=some o) (hT:s.heap.objs.size≤T) (hz:ys.length≤sizeLine) (r:Vals ys its) (ho:h'.get? T=some {cls:=.type "tuple",data:=.seq its.toArray n}) :
 Inv X pins σ (upd H T (.tup ys)) {s with heap:=h',toks:=t'}:=by
 obtain⟨e0,e1,e2,e3,e4,e5⟩:=fe
 obtain⟨i0,i1,i2,i3,i4,i5⟩:=fi
 have hn:H T=none:=I.hok.fresh hT
 have neT:∀b u,H b=some u→b≠T:=fun b u q z=>by rw[z,hn]at q;cases q
 have nee:∀b u,H b=some u→b≠e:=fun b u q z=>by rw[z,e0]at q;cases q
 have nei:∀b u,H b=some u→b≠it:=fun b u q z=>by rw[z,i0]at q;cases q
 have neoT:∀b o,s.heap.get? b=some o→b≠T:=fun b o q z=>absurd (Nat.lt_of_lt_of_le (Heap.lt_size q) hT) (by rw[z];exact Nat.lt_irrefl _)
 refine I.step (g':=s.gens) (d':=s.drawn) (ch:=[e,it]) (fun b hb=>?_) (fun b o _ _ hc q _=>k b o (fun z=>hc (by simp[z])) (fun z=>hc (by simp[z])) q) (fun b o _ _ hc q _=>⟨o.slots,k b o (fun z=>hc (by simp[z])) (fun z=>hc (by simp[z])) q⟩)
  (fun b o _ q m=>by rw[zQ (neoT b o q)];exact m) (fun b o hc q=>⟨o,k b o (fun z=>hc (by simp[z])) (fun z=>hc (by simp[z])) q⟩) (fun b xs q=>by rw[zQ (neT b _ q)];exact q) (fun b o u q=>by rw[zQ (neT b _ q)];exact q)
  (fun b ps q=>⟨#[],by rw[zQ (neT b _ q),q];simp⟩) (fun m hm=>?_) (fun b u q=>?_) I.bare
 . rcases List.mem_cons.mp hb with z|hb
   . subst z;exact⟨e3,e1,e4,e5⟩
   . have z:=List.mem_singleton.mp hb
     subst z;exact⟨i3,i1,i4,i5⟩
 . obtain⟨o,es,ep,ho,r⟩:=hm
   exact⟨o,es,ep,k _ o (Ne.symm e1) (Ne.symm i1) ho,r⟩
 . by_cases hb:b=T
   . subst hb
     rw[zc]at q
     cases q
     exact⟨hz,its,r,_,ho,rfl,n,rfl,rfl⟩
   . rw[zQ hb]at q
     refine(I.hok b u q).kO (fun c v hc w=>k c v ?_ ?_ w) (fun c hc=>by rw[zQ (neT c _ hc)];exact hc) fun c xs hc=>by rw[zQ (neT c _ hc)];exact hc
     . rcases hc with z|z
       . rw[z];exact nee b u q
       . exact nee c _ z
     . rcases hc with z|z
       . rw[z];exact nei b u q
       . exact nei c _ z
theorem Inv.mz{X:Cx}{pins:List (Addr × Obj)}{σ:St}{H:Hp}{s:Shared}{h':Heap}{t':Nat}{it:Addr}(I:Inv X pins σ H s)(fi:vS X pins H it)(k:∀b o,b≠it→s.heap.get? b=some o→h'.get? b=some o):Inv X pins σ H {s with heap:=h',toks:=t'}:=by
 obtain⟨i0,i1,i2,i3,i4,i5⟩:=fi
 exact I.turned k i0 i1 i3 i4 i5
theorem kQ{P:Program}{w:World}{K:PySem.W.Frag}{elts:List Expr}{x1:Nat}{pos:Pos}(a e it:Addr)(hei:e≠it):Turn P w K (.Tuple elts x1 pos) (Ite K a) [e,it] e (fun i h=>(∃old,IsEnum h e it (i:Nat) old)∧h.IsTupleIter it a i) where
 mem:=by simp
 obj:=fun i h st b hb=>by
  rcases List.mem_cons.mp hb with z|hb
  . subst z
    obtain⟨old,he⟩:=st.1
    exact⟨_,he,fun v z=>by cases (show Data.fields _=Data.cell v from z)⟩
  . have z:=List.mem_singleton.mp hb
    subst z
    obtain⟨o,q,c,d⟩:=st.2
    exact⟨o,q,fun v z=>by rw[d]at z;cases z⟩
 keep:=fun i h h' st k=>⟨let ⟨old,he⟩:=st.1;⟨old,k e (by simp) _ he⟩,st.2.at fun o q=>k it (by simp) o q⟩
 item:=by
  intro X hP hw hK hc i pins s σ H E I hf st hg
  subst hP hw hK
  obtain⟨xs,x,hq,hx⟩:=hg
  obtain⟨⟨old,he⟩,hit⟩:=st
  obtain⟨its,rv,p,hz⟩:=I.tuple hq
  obtain⟨u,hu,ru⟩:=rv.get hx
  have hlen:=rv.length
  have hi:i<xs.length:=(List.getElem?_eq_some_iff.mp hx).1
  have hai:a≠it:=fun z=>by
   obtain⟨o1,q1,c1,_⟩:=id p
   obtain⟨o2,q2,c2,_⟩:=id hit
   rw[z,q2]at q1;cases q1
   rw[c2]at c1;exact absurd (Value.type.inj c1) (by decide)
  have hae:a≠e:=fun z=>by
   obtain⟨o1,q1,c1,_⟩:=id p
   have he':s.heap.get? e=_:=he
   rw[z,he']at q1;cases q1
   exact absurd (Value.type.inj c1) (by decide)
  have D:=rV (prog:=X.prog) (w:=X.w) (A:=X.A.in1) (I.ok.hd hc) it a hai its.toArray
  refine wpAny_pyNext_enum_itemD D he ⟨hit,p⟩ (by rw[List.size_toArray];omega) hei (fun m=>?_) fun v h1 tk hP ho hs1 hT hsz hk=>?_
  . rcases List.mem_cons.mp m with z|m
    . exact hei z
    . exact hae (List.mem_singleton.mp m).symm
  . have hP:its.toArray[i]?=some v:=hP
    have ev:v=u:=by
     rw[List.getElem?_toArray,hu]at hP
     exact(Option.some.inj hP).symm
    subst ev
    refine⟨_,rfl,wpAny_letOwnedTupleGo_enum (s:={s with heap:=h1,toks:=tk+1}) ho fun h2 he2 sb=>?_⟩
    have sz:s.heap.objs.size≠e:=Nat.ne_of_gt (Heap.lt_size he)
    refine⟨.ref s.heap.objs.size,_,Inv.m3 (s:=s) (h':=h2) (t':=tk+1) (T:=s.heap.objs.size) (ys:=[.int (i:Nat),x]) (its:=[.int (i:Nat) tk,v]) (n:=0) I (hf e (by simp)) (hf it (by simp)) (fun b o h1' h2' q=>(sb.2 b h1').trans (hk b o h1' h2' q)) (Nat.le_refl _) (by rw[sizeLine_eq];show 2≤_;decide) (.cons ⟨tk,rfl⟩ (.cons ru .nil)) ((sb.2 _ sz).trans hT),rfl,
     ⟨s.heap.objs.size,x,I.hok.fresh (Nat.le_refl _),rfl,fun ys hy=>by rw[I.r9 hy hq];exact hx,rfl⟩,⟨⟨v,by simpa using he2⟩,hs1.1.at fun o q=>(sb.2 it (Ne.symm hei)).trans q⟩,fun b hb=>?_⟩
    rw[zQ (fun z=>?_)]
    . exact(hf b hb).1
    . have hlt:b<s.heap.objs.size:=by
       rcases List.mem_cons.mp hb with y|hb
       . rw[y];exact Heap.lt_size he
       . rw[List.mem_singleton.mp hb];obtain⟨o,q,_⟩:=hit;exact Heap.lt_size q
      exact absurd z (Nat.ne_of_lt hlt)
 done:=by
  intro X hP hw hK hc i pins s σ H E I hf st hg
  subst hP hw hK
  obtain⟨xs,hq,hx⟩:=hg
  obtain⟨⟨old,he⟩,hit⟩:=st
  obtain⟨its,rv,p,hz⟩:=I.tuple hq
  have hlen:=rv.length
  have hai:a≠it:=fun z=>by
   obtain⟨o1,q1,c1,_⟩:=id p
   obtain⟨o2,q2,c2,_⟩:=id hit
   rw[z,q2]at q1;cases q1
   rw[c2]at c1;exact absurd (Value.type.inj c1) (by decide)
  have D:=rV (prog:=X.prog) (w:=X.w) (A:=X.A.in1) (I.ok.hd hc) it a hai its.toArray
  have en:its.toArray.size=i:=by rw[List.size_toArray];omega
  exact wpAny_pyNext_enum_endD D he ⟨by rw[en];exact hit,p⟩ fun h' eb=>⟨rfl,I.mz (t':=s.toks) (hf it (by simp)) fun b o hb q=>eb b o hb q⟩
 self:=fun _ _ _ _ _ st h=>let ⟨old,he⟩:=st.1;wpAny_pyIter_enum he h
noncomputable def cE(K:PySem.W.Frag)(a:Addr):It:=
 ⟨fun i H=>∃xs x,SqL K H a xs∧xs[i]?=some x,fun i H x H'=>∃t y,H t=none∧x=.ref t∧(∀xs,SqL K H a xs→xs[i]?=some y)∧H'=upd H t (.tup [.int (i:Nat),y]),fun i H=>∃xs,SqL K H a xs∧xs.length=i⟩
theorem nq{P:Program}{w:World}{K:PySem.W.Frag}{elts:List Expr}{x1:Nat}{pos:Pos}(a e it:Addr)(hei:e≠it):Turn P w K (.Tuple elts x1 pos) (cE K a) [e,it] e (fun i h=>(∃old,IsEnum h e it (i:Nat) old)∧h.IsListIter it a i) where
 mem:=by simp
 obj:=fun i h st b hb=>by
  rcases List.mem_cons.mp hb with z|hb
  . subst z
    obtain⟨old,he⟩:=st.1
    exact⟨_,he,fun v z=>by cases (show Data.fields _=Data.cell v from z)⟩
  . have z:=List.mem_singleton.mp hb
    subst z
    obtain⟨o,q,c,d⟩:=st.2
    exact⟨o,q,fun v z=>by rw[d]at z;cases z⟩
 keep:=fun i h h' st k=>⟨let ⟨old,he⟩:=st.1;⟨old,k e (by simp) _ he⟩,st.2.at fun o q=>k it (by simp) o q⟩
 item:=by
  intro X hP hw hK hc i pins s σ H E I hf st hg
  subst hP hw hK
  obtain⟨xs,x,hq,hx⟩:=hg
  obtain⟨⟨old,he⟩,hit⟩:=st
  obtain⟨its,rv,p0,hz⟩:=I.list hq
  have p:=p0.isList
  obtain⟨u,hu,ru⟩:=rv.get hx
  have hlen:=rv.length
  have hi:i<xs.length:=(List.getElem?_eq_some_iff.mp hx).1
  have hai:a≠it:=fun z=>by
   obtain⟨o1,q1,c1,_⟩:=id p
   obtain⟨o2,q2,c2,_⟩:=id hit
   rw[z,q2]at q1;cases q1
   rw[c2]at c1;exact absurd (Value.type.inj c1) (by decide)
  have hae:a≠e:=fun z=>by
   obtain⟨o1,q1,c1,_⟩:=id p
   have he':s.heap.get? e=_:=he
   rw[z,he']at q1;cases q1
   exact absurd (Value.type.inj c1) (by decide)
  have D:=Draws.list (prog:=X.prog) (w:=X.w) (A:=X.A.in1) (I.ok.hd hc) it a hai its.toArray
  refine wpAny_pyNext_enum_itemD D he ⟨hit,p⟩ (by rw[List.size_toArray];omega) hei (fun m=>?_) fun v h1 tk hP ho hs1 hT hsz hk=>?_
  . rcases List.mem_cons.mp m with z|m
    . exact hei z
    . exact hae (List.mem_singleton.mp m).symm
  . have hP:its.toArray[i]?=some v:=hP
    have ev:v=u:=by
     rw[List.getElem?_toArray,hu]at hP
     exact(Option.some.inj hP).symm
    subst ev
    refine⟨_,rfl,wpAny_letOwnedTupleGo_enum (s:={s with heap:=h1,toks:=tk+1}) ho fun h2 he2 sb=>?_⟩
    have sz:s.heap.objs.size≠e:=Nat.ne_of_gt (Heap.lt_size he)
    refine⟨.ref s.heap.objs.size,_,Inv.m3 (s:=s) (h':=h2) (t':=tk+1) (T:=s.heap.objs.size) (ys:=[.int (i:Nat),x]) (its:=[.int (i:Nat) tk,v]) (n:=0) I (hf e (by simp)) (hf it (by simp)) (fun b o h1' h2' q=>(sb.2 b h1').trans (hk b o h1' h2' q)) (Nat.le_refl _) (by rw[sizeLine_eq];show 2≤_;decide) (.cons ⟨tk,rfl⟩ (.cons ru .nil)) ((sb.2 _ sz).trans hT),rfl,
     ⟨s.heap.objs.size,x,I.hok.fresh (Nat.le_refl _),rfl,fun ys hy=>by rw[I.pQ hy hq];exact hx,rfl⟩,⟨⟨v,by simpa using he2⟩,hs1.1.at fun o q=>(sb.2 it (Ne.symm hei)).trans q⟩,fun b hb=>?_⟩
    rw[zQ (fun z=>?_)]
    . exact(hf b hb).1
    . have hlt:b<s.heap.objs.size:=by
       rcases List.mem_cons.mp hb with y|hb
       . rw[y];exact Heap.lt_size he
       . rw[List.mem_singleton.mp hb];obtain⟨o,q,_⟩:=hit;exact Heap.lt_size q
      exact absurd z (Nat.ne_of_lt hlt)
 done:=by
  intro X hP hw hK hc i pins s σ H E I hf st hg
  subst hP hw hK
  obtain⟨xs,hq,hx⟩:=hg
  obtain⟨⟨old,he⟩,hit⟩:=st
  obtain⟨its,rv,p0,hz⟩:=I.list hq
  have p:=p0.isList
  have hlen:=rv.length
  have hai:a≠it:=fun z=>by
   obtain⟨o1,q1,c1,_⟩:=id p
   obtain⟨o2,q2,c2,_⟩:=id hit
   rw[z,q2]at q1;cases q1
   rw[c2]at c1;exact absurd (Value.type.inj c1) (by decide)
  have D:=Draws.list (prog:=X.prog) (w:=X.w) (A:=X.A.in1) (I.ok.hd hc) it a hai its.toArray
  have en:its.toArray.size=i:=by rw[List.size_toArray];omega
  exact wpAny_pyNext_enum_endD D he ⟨by rw[en];exact hit,p⟩ fun h' eb=>⟨rfl,I.mz (t':=s.toks) (hf it (by simp)) fun b o hb q=>eb b o hb q⟩
 self:=fun _ _ _ _ _ st h=>let ⟨old,he⟩:=st.1;wpAny_pyIter_enum he h
noncomputable def Zq(K:PySem.W.Frag)(ta:TA):TI:=fun σ H R=>ta σ H fun vs H1=>∃a,vs=[.ref a]∧(((∃xs,SqT K H1 a xs)∧R (Ite K a) H1)∨((∃xs,SqL K H1 a xs)∧R (cE K a) H1))
theorem eL{X:Cx}{elts:List Expr}{x1:Nat}{tpos:Pos}{a:Expr}{ta:TA}{p pos:Pos}(hg:Gl X "enumerate")(hm:X.mg "enumerate"=none)(ha:PA X [a] ta)(hs:starEach [a] X.env=[(false,eval a X.env)]:=by rfl):PI X (.Tuple elts x1 tpos) (.Call (.Name "enumerate" p) [a] [] pos) (Zq X.K ta):=by
 intro pins s σ H R I h
 refine Call_ (uZ I hg hm boot_enumerate (PyProof.Rows.callWith_type1 (thn (ha pos pins s σ H _ I h) fun us s1 ⟨vs,H1,I1,r1,q1⟩=>?_) hs rfl))
 obtain⟨c,e,q⟩:=q1
 subst e
 cases r1 with
 |cons r rr=>
  cases rr
  cases r
  have fp:∀b∈[s1.heap.objs.size+1,s1.heap.objs.size],vS X pins H1 b:=fun b hb=>by
   have hb':s1.heap.objs.size≤b:=by
    rcases List.mem_cons.mp hb with z|hb
    . rw[z];exact Nat.le_succ _
    . rw[List.mem_singleton.mp hb];exact Nat.le_refl _
   exact I1.g7 hb' (I1.hok.fresh hb')
  rcases q with⟨⟨xs,hq⟩,q⟩|⟨⟨xs,hq⟩,q⟩
  . obtain⟨its,rv,pt,hz⟩:=I1.tuple hq
    refine sr (show s1.heap.IsTuple c its.toArray from pt) fun h' he hit hsz hk=>wpAny_pyIter_enum he ?_
    exact⟨s1.heap.objs.size+1,[s1.heap.objs.size+1,s1.heap.objs.size],_,_,H1,rfl,I1.kept (t':=s1.toks) hk,kQ c _ _ (Nat.succ_ne_self _),⟨⟨_,he⟩,hit⟩,fp,q⟩
  . obtain⟨its,rv,pt,hz⟩:=I1.list hq
    refine call_enumerate_list pt.isList fun h' he hit hsz hk=>wpAny_pyIter_enum he ?_
    exact⟨s1.heap.objs.size+1,[s1.heap.objs.size+1,s1.heap.objs.size],_,_,H1,rfl,I1.kept (t':=s1.toks) hk,nq c _ _ (Nat.succ_ne_self _),⟨⟨_,he⟩,hit⟩,fp,q⟩
end L2
end
section
namespace L2
open PySem PyProof.Rows
noncomputable def intsOf:List Expr→Option (List Int)
 |[]=>some []
 |.Constant (.int i) _ _::es=>(intsOf es).map fun r=>i::r
 |.UnaryOp .USub (.Constant (.int i) _ _) _::es=>(intsOf es).map fun r=>-i::r
 |_=>none
end L2
end
section
namespace L2
open PySem PyProof.Rows
section
variable {X:Cx}{a b:Expr}{rest:List Expr}{ta tb:TE}{pos:Pos}
noncomputable def Xp(K:PySem.W.Frag)(ta tb:TE):TE:=fun σ H Q=>ta σ H fun x H1=>∃c,gj K x H1 c∧if c=true then Q x H1 else tb σ H1 Q
theorem ai(ha:PE X a ta)(hb:PE X (.BoolOp .Or (b::rest) pos) tb):PE X (.BoolOp .Or (a::b::rest) pos) (Xp X.K ta tb):=by
 intro pins s σ H Q I h
 refine BoolOp_or (thn (ha pins s σ H _ I h) fun v s1 ⟨x,H1,I1,r1,c,ht,q1⟩=>?_)
 refine thn (gU pins s1 σ H1 x v (fun k H2=>if k=true then Q x H2 else tb σ H2 Q) I1 r1 ⟨c,ht,q1⟩) fun k s2 ⟨H2,I2,q2⟩=>?_
 cases k with
 |false=>exact hb pins s2 σ H2 Q I2 q2
 |true=>exact⟨x,H2,I2,r1,q2⟩
end
noncomputable def wy(n:Nat)(lo hi:Option Int)(c:Int):Int × Nat:=((sliceBounds lo hi (some c) n).1,(if c > 0 then (if (sliceBounds lo hi (some c) n).1<(sliceBounds lo hi (some c) n).2.1 then ((sliceBounds lo hi (some c) n).2.1-(sliceBounds lo hi (some c) n).1+c-1)/c else 0) else (if (sliceBounds lo hi (some c) n).1 > (sliceBounds lo hi (some c) n).2.1 then ((sliceBounds lo hi (some c) n).1-(sliceBounds lo hi (some c) n).2.1-c-1)/(-c) else 0):Int).toNat)
theorem vG(its:List Value)(lo hi:Option Int)(c:Int):slicePick its.toArray lo hi (some c)=(zo its (wy its.length lo hi c).1 c (wy its.length lo hi c).2).toArray:=by
 unfold slicePick sliceRange zo wy
 rw[List.filterMap_map]
 refine congrArg List.toArray ?_
 have e:(sliceBounds lo hi (some c) its.toArray.size).2.2=c:=rfl
 rw[e]
 simp only[List.size_toArray]
 refine congrArg (fun f=>List.filterMap f _) ?_
 funext k
 show its.toArray[_]?=_
 rw[List.getElem?_toArray,Int.mul_comm]
noncomputable def Yv(K:PySem.W.Frag):V→Option Int→Option Int→Option Int→Hp→VK→Prop:=fun x lo hi st H Q=>∃a xs c,x=.ref a∧SqL K H a xs∧st=some c∧c≠0∧∀p,H p=none→Q (.ref p) (upd H p (.lst (zo xs (wy xs.length lo hi c).1 c (wy xs.length lo hi c).2)))
theorem nI{X:Cx}{e:Expr}{te:TE}{lo hi:Option Expr}{st:Expr}{tl th tc:TO}{pos p2:Pos}(he:PE X e te)(hl:PO X lo tl)(hu:PO X hi th)(hc:PO X (some st) tc):PE X (.Subscript e (.Slice lo hi (some st) p2) pos) (XA (Yv X.K) te tl th tc):=by
 intro pins s σ H Q I h
 refine Subscript_ (thn (he pins s σ H _ I h) fun v s1 ⟨x,H1,I1,r1,q1⟩=>?_)
 refine wpAny_Slice (thn (hl pins s1 σ H1 _ I1 q1) fun vl s2 ⟨l,H2,I2,pl,q2⟩=>thn (hu pins s2 σ H2 _ I2 q2) fun vu s3 ⟨u,H3,I3,pu,q3⟩=>thn (hc pins s3 σ H3 _ I3 q3) fun vc s4 ⟨c,H4,I4,pc,q4⟩=>?_)
 obtain⟨a,xs,cc,rfl,hx,ec,h0,g⟩:=q4
 subst ec
 cases r1
 have I5:Inv X pins σ H4 {s4 with heap:=s4.heap.push {cls:=.type "slice",data:=.fields #[vl,vu,vc]}}:=I4.kept (t':=s4.toks) fun b ob q=>Heap.get?_push_of_some _ q
 obtain⟨its,r,ht,hz⟩:=I5.list hx
 have hlen:=r.length
 show wpAny (model X.prog X.w) X.A (subscriptTail e (.Slice lo hi (some st) p2) (.ref a) (.ref s4.heap.objs.size)) (EP X pins σ Q) X.xe {s4 with heap:=s4.heap.push {cls:=.type "slice",data:=.fields #[vl,vu,vc]}}
 refine tail_any (ops:=[.ref a,.ref s4.heap.objs.size]) ht.isList.typeIs slot_list_getitem.lookup (wpAny_getItem_list_slice ht.isList (Heap.IsSliceOf.new ..) pl pu pc (fun z=>h0 (Option.some.inj z)) ?_ (by rw[List.size_toArray]<;>omega)) (by with_unfolding_all rfl)
 rw[vG,←hlen]
 refine⟨.ref _,_,I5.laid (t':=s4.toks) (o:=.lst (zo xs (wy xs.length l u cc).1 cc (wy xs.length l u cc).2)) (fun b ob q=>Heap.get?_push_of_some _ q) (Nat.le_refl _) ?_,rfl,g _ (I5.hok.fresh (Nat.le_refl _))⟩
 have rp:=r.zo (wy xs.length l u cc).1 cc (wy xs.length l u cc).2
 have bound:(zo xs (wy xs.length l u cc).1 cc (wy xs.length l u cc).2).length≤xs.length:=by
  have:=slicePick_size_le its.toArray l u (some cc)
  rw[vG,List.size_toArray,List.size_toArray,←hlen,←rp.length]at this
  exact this
 exact⟨Nat.le_trans bound hz,_,0,rp,Heap.get?_push_size _ rfl⟩
end L2
end
section
namespace L2
open PySem PyProof PyProof.Rows
section
variable {X:Cx}
theorem any_range:∀(bs:List Bool),((List.range bs.length).any fun i=>bs.getD i false)=bs.any id:=by
 intro bs
 induction bs with
 |nil=>rfl
 |cons b bs ih=>
  rw[List.length_cons,List.range_succ_eq_map,List.any_cons,List.any_cons,List.any_map]
  exact congrArg (b||·) (Eq.trans (by congr 1) ih)
theorem tx(hc:X.calm=true):yO X (.builtin "any") (fun xs H Q=>∃(a:Addr) (bs:List Bool),xs=[.ref a]∧SqL X.K H a (bs.map V.bl)∧Q (.bl (bs.any id)) H):=by
 intro pins s σ H xs us Q I r h
 obtain⟨a,bs,rfl,ha,q⟩:=h
 obtain⟨u,rfl,ru⟩:=vals1 r
 cases ru
 obtain⟨its,rv,pl,hz⟩:=I.list ha
 have hits:=rv.bools
 have alt:a<s.heap.objs.size:=by obtain⟨o,ho,_⟩:=pl.isList;exact Heap.lt_size ho
 refine call_any_walk (wpAny_pyIter_list pl.isList ?_)
 refine⟨s.heap.objs.size,_,_,_,_,_,fun i=>bs.getD i false,rfl,Walks.list (A:=X.A.in1) (I.ok.hd hc) s.heap.objs.size a (Nat.ne_of_lt alt) its.toArray,⟨⟨_,Heap.get?_push_size _ rfl,rfl,rfl⟩,?_⟩,?_,fun h' tk hk=>?_⟩
 . obtain⟨o,ho,hc',n,hd⟩:=pl.isList
   exact⟨o,Heap.get?_push_of_some _ ho,hc',n,hd⟩
 . intro i v s' Q' E' hv hq
   have hv':(bs.map Value.bool)[i]?=some v:=by rw[←hits];simpa using hv
   rw[List.getElem?_map]at hv'
   cases hb:bs[i]? with
   |none=>rw[hb]at hv';cases hv'
   |some b=>
    rw[hb]at hv'
    have:v=Value.bool b:=(Option.some.inj hv').symm
    subst this
    have e:bs.getD i false=b:=by rw[List.getD_eq_getElem?_getD,hb];rfl
    have hq':Q' (bs.getD i false) s':=hq
    rw[e]at hq'
    exact wpAny_truthy_bool hq'
 . have e:(List.range its.toArray.size).any (fun i=>bs.getD i false)=bs.any id:=by
    rw[List.size_toArray,hits,List.length_map];exact any_range bs
   rw[e]
   refine⟨.bl (bs.any id),H,I.kept fun b o ho=>hk b o ?_ (Heap.get?_push_of_some _ ho),rfl,q⟩
   simpa using Nat.ne_of_lt (Heap.lt_size ho)
theorem oE:∀{ys:List Str} {us:List Value},Vals (ys.map V.str) us→StrsAre us ys
 |[],us,r=>by cases r;exact .nil
 |y::ys,us,r=>by
  rw[List.map_cons]at r
  cases r with
  |cons r1 r2=>
   obtain⟨t,rfl⟩:=(show ∃t,_=Value.str y t from r1)
   exact .cons y t (oE r2)
noncomputable def pJ(z:Str)(ys:List Str):Str:=Txt.join z ys
noncomputable def rJoin(K:PySem.W.Frag):V→List V→Hp→VK→Prop:=fun x vs H Q=>∃z p ys,x=.str z∧vs=[.ref p]∧SqL K H p (ys.map V.str)∧(ys.map (·.length)).sum+ys.length*z.length≤16777216∧Q (.str (pJ z ys)) H
theorem fZ:MtR X "str.join" (rJoin X.K):=by
 intro pins s σ H x xs v us Q I rx rs h
 obtain⟨z,p,ys,rfl,rfl,hp,hl,q⟩:=h
 obtain⟨t,rfl⟩:=(show ∃t,v=Value.str z t from rx)
 obtain⟨u,rfl,ru⟩:=vals1 rs
 cases ru
 obtain⟨its,r,p1,_⟩:=I.list hp
 exact join_list p1.isList (by simpa using oE r) hl fun t' k=>⟨.str _,H,I.tok _,⟨t',rfl⟩,q⟩
theorem eG{o e:Expr}{to te:TE}{apos cpos:Pos}(ho:PE X o to)(he:PE X e te)(hbase:attributeBase o "join" X.env (eval o X.env)=eval o X.env:=by rfl)(hst:noStar e=true:=by rfl)(hline:(apos.endLine == cpos.line)=true:=by rfl) :
 PE X (.Call (.Attribute o "join" apos) [e] [] cpos) (tBM X.K "str" (rJoin X.K) to (u0 te oH)):=by
 have hs1:starEach [e] X.env=(false,eval e X.env)::starEach [] X.env:=zt hst
 refine pj PySem.F.plainAttrs_str PySem.F.slot_str_join PySem.F.type_str_join fZ ho (pac he wA hst) hbase ?_ hline hs1 rfl
 rw[hs1];rfl
end
end L2
end
section
namespace L2
open PySem PySem.Spec PyProof.Rows
theorem pU:typeLookup (.type "tuple") (dunderI "add")=(pure none:Sem (Option Value)):=rfl
section
variable {X:Cx}
theorem lK:OpR X (inplaceOp .Add) dq:=by
 intro pins s σ H x y v u Q I rx ry h
 obtain⟨a,b,xs,ys,rfl,rfl,ha,hb,hz,g⟩:=h
 cases rx
 cases ry
 obtain⟨its,r1,p1,_⟩:=I.tuple (.inl (.inl ha))
 obtain⟨its2,r2,p2,_⟩:=I.tuple (.inl (.inl hb))
 obtain⟨⟨cls,dd,data,sl⟩,ho,hc,n,hd⟩:=id p1
 obtain⟨⟨cls2,dd2,data2,sl2⟩,ho2,hc2,n2,hd2⟩:=id p2
 simp only at hc hd hc2 hd2
 subst hc hd hc2 hd2
 have e:its.toArray++its2.toArray=(its++its2).toArray:=by simp
 have tA:s.TypeIs (.ref a) "tuple":=⟨_,ho,rfl⟩
 have tB:s.TypeIs (.ref b) "tuple":=⟨_,ho2,rfl⟩
 refine inplaceOp_concat tA tB pU noFill_tuple_add seq_tuple_add ?_
 by_cases hx:xs=[]
 . subst hx
   cases r1
   exact call_meets PySem.F.slot_tuple_add tA PySem.F.entry_tuple_add (PySem.F.args_tuple_add_2 _ _) (tuple_addW0 a b #[] its2.toArray n n2 dd dd2 sl sl2 rfl) ⟨ho,ho2,⟨.ref b,H,I,rfl,g b H (uU.refl H) hb⟩⟩
 . have hv:its≠[]:=fun z=>hx (r1.xp.mp z)
   by_cases hy:ys=[]
   . have hw:its2=[]:=r2.xp.mpr hy
     subst hy
     rw[List.append_nil]at g
     exact call_meets PySem.F.slot_tuple_add tA PySem.F.entry_tuple_add (PySem.F.args_tuple_add_2 _ _) (tuple_addW1 a b its.toArray its2.toArray n n2 dd dd2 sl sl2 (by simpa using hv) (by simp[hw])) ⟨ho,ho2,⟨.ref a,H,I,rfl,g a H (uU.refl H) ha⟩⟩
   . have hw:its2≠[]:=fun z=>hy (r2.xp.mp z)
     refine call_meets PySem.F.slot_tuple_add tA PySem.F.entry_tuple_add (PySem.F.args_tuple_add_2 _ _) (tuple_addW2 a b its.toArray its2.toArray n n2 dd dd2 sl sl2 (by simpa using hv) (by simpa using hw) (by rw[List.size_toArray,List.size_toArray,←r1.length,←r2.length];exact hz)) ⟨ho,ho2,?_⟩
     rw[e]
     refine⟨.ref s.heap.objs.size,_,I.laid (t':=s.toks) (o:=.tup (xs++ys)) (fun b ob q=>Heap.get?_push_of_some _ q) (Nat.le_refl _) ?_,rfl,g.new _ (I.hok.fresh (Nat.le_refl _))⟩
     exact⟨by rw[List.length_append];exact hz,_,r1.append r2,vt.new _ _⟩
end
end L2
end
section
namespace M
open PySem
inductive Val where
 |none|bool (b:Bool)|int (i:Int)|str (x:Str)
 |tup (vs:List Val)|lst (vs:List Val)|dct0
 |ctup (ns:List Int)|scr (ns:List Int)
 |ref (i:Nat)|fn (x:Str)|ty (n:String)|dref (i:Nat)
 deriving Inhabited
inductive Cel where
 |lst (vs:List Val)
 |dS (kvs:List (Str × Val))
 |dT (kvs:List (List Int × Val))
 deriving Inhabited
noncomputable abbrev Sto:=List Cel
noncomputable abbrev Env:=List (Option Val)
inductive Out(α:Type) where
 |ok (a:α) (s:Sto)
 |exc (c:Str) (args:List Val) (s:Sto)
 |stuck
noncomputable def Out.bind{α β:Type}(o:Out α)(f:α→Sto→Out β):Out β:=
 match o with
 |.ok a s=>f a s
 |.exc c as s=>.exc c as s
 |.stuck=>.stuck
@[simp] theorem zK{α β:Type}(a:α)(s:Sto)(f:α→Sto→Out β):(Out.ok a s).bind f=f a s:=rfl
@[simp] theorem wR{α β:Type}(f:α→Sto→Out β):(Out.stuck:Out α).bind f=.stuck:=rfl
@[simp] theorem tq{α β:Type}(c:Str)(as:List Val)(s:Sto)(f:α→Sto→Out β):(Out.exc c as s:Out α).bind f=.exc c as s:=rfl
mutual
noncomputable def Val.isD:Val→Bool
 |.none|.bool _|.int _=>true
 |.str x=>PyData.strOk x
 |.tup vs=>vT vs
 |.lst vs=>vT vs
 |.dct0|.ctup _|.scr _|.ref _|.fn _|.ty _|.dref _=>false
noncomputable def vT:List Val→Bool
 |[]=>true
 |v::vs=>v.isD&&vT vs
end
mutual
noncomputable def Val.isR:Val→Bool
 |.none|.bool _|.int _|.str _|.dct0=>true
 |.tup vs=>tF vs
 |.lst vs=>tF vs
 |.ctup _|.scr _|.ref _|.fn _|.ty _|.dref _=>false
noncomputable def tF:List Val→Bool
 |[]=>true
 |v::vs=>v.isR&&tF vs
end
mutual
noncomputable def Val.d:Val→PyData
 |.none=>.none
 |.bool b=>.bool b
 |.int i=>.int i
 |.str x=>.str x
 |.tup vs=>.tuple (ds vs)
 |.lst vs=>.list (ds vs)
 |.dct0=>.dict []
 |.ctup _|.scr _|.ref _|.fn _|.ty _|.dref _=>.none
noncomputable def ds:List Val→List PyData
 |[]=>[]
 |v::vs=>v.d::ds vs
end
mutual
noncomputable def Val.noRef:Val→Bool
 |.ref _|.dref _=>false
 |.tup vs=>zj vs
 |.lst vs=>zj vs
 |.none|.bool _|.int _|.str _|.dct0|.ctup _|.scr _|.fn _|.ty _=>true
noncomputable def zj:List Val→Bool
 |[]=>true
 |v::vs=>v.noRef&&zj vs
end
noncomputable def Cel.noRef:Cel→Bool
 |.lst vs=>zj vs
 |.dS kvs=>zj (kvs.map (·.2))
 |.dT kvs=>zj (kvs.map (·.2))
mutual
noncomputable def Val.beq:Val→Val→Bool
 |.none,.none=>true
 |.bool a,.bool b=>a == b
 |.int a,.int b=>a == b
 |.str a,.str b=>a == b
 |.tup a,.tup b=>tm a b
 |.lst a,.lst b=>tm a b
 |.dct0,.dct0=>true
 |.ctup a,.ctup b=>a == b
 |.scr a,.scr b=>a == b
 |.ref a,.ref b=>a == b
 |.fn a,.fn b=>a == b
 |.ty a,.ty b=>a == b
 |.dref a,.dref b=>a == b
 |_,_=>false
noncomputable def tm:List Val→List Val→Bool
 |[],[]=>true
 |a::as,b::bs=>a.beq b&&tm as bs
 |_,_=>false
end
noncomputable def Cel.beq:Cel→Cel→Bool
 |.lst a,.lst b=>tm a b
 |.dS a,.dS b=>decide (a.map (·.1)=b.map (·.1))&&tm (a.map (·.2)) (b.map (·.2))
 |.dT a,.dT b=>decide (a.map (·.1)=b.map (·.1))&&tm (a.map (·.2)) (b.map (·.2))
 |_,_=>false
noncomputable def xV:Sto→Sto→Bool
 |[],_=>true
 |o::r,o'::r'=>(o'.noRef||o'.beq o)&&xV r r'
 |_::_,[]=>false
mutual
noncomputable def tN(n0:Nat)(s:Sto):Nat→Val→Option Val
 |_,.dref i=>if i<n0 then some (.dref i) else Option.none
 |_,.ref i=>if i<n0 then some (.ref i) else match s[i]? with
  |some (.lst vs)=>if zj vs then some (.lst vs) else Option.none
  |_=>Option.none
 |k+1,.tup vs=>(tM n0 s k vs).map .tup
 |_,v=>if v.noRef then some v else Option.none
noncomputable def tM(n0:Nat)(s:Sto):Nat→List Val→Option (List Val)
 |_,[]=>some []
 |0,_::_=>Option.none
 |k+1,v::vs=>match (if v.noRef then some v else tN n0 s k v),tM n0 s k vs with
  |some v',some vs'=>some (v'::vs')
  |_,_=>Option.none
end
noncomputable def freeze(n0:Nat)(s:Sto)(v:Val):Option Val:=if v.noRef then some v else tN n0 s 20 v
inductive Bop|add|sub|mul|fdiv|mod|pow|shl|shr|band
 deriving DecidableEq
inductive Cop|eq|ne|lt|le|gt|ge|is|isNot|in_|notIn|inD|notInD
 deriving DecidableEq
inductive Bf|len|all|any|tuple|list|sorted|repr|max|min|sum|int|isi|divmod|str
 deriving DecidableEq
inductive Mf|count|append|extend|pop|index|join
 deriving DecidableEq
inductive Tgt
 |nm (i:Nat)
 |nms (is:List Nat)
mutual
inductive Ex
 |lit (v:Val)|var (i:Nat)|gl (x:Str)|ty (x:Str) (n:String)
 |bin (m:Bool) (op:Bop) (a b:Ex)|neg (a:Ex)|not (a:Ex)
 |cmp (op:Cop) (a b:Ex)|chain (op op':Cop) (a b c:Ex)
 |andE (a:Ex) (es:Exs)|orE (a:Ex) (es:Exs)|ife (c:Cn) (a b:Ex)
 |tup (es:Exs)|lst (m:Bool) (es:Exs)|dct0
 |call (f:Str) (ver:Nat) (es:Exs)|blt (f:Bf) (m:Bool) (es:Exs)|maxD (a d:Ex)
 |z7 (f:Mf) (m:Bool) (o:Ex) (es:Exs)
 |ix (a b:Ex)|sl (m:Bool) (a:Ex) (lo hi st:OEx)
 |comp (m:Bool) (N:List Str) (fr:List (Option Nat)) (elt:Ex) (t:Tgt) (it:Itb) (ifs:Cns)
 |comp2 (m:Bool) (N:List Str) (fr:List (Option Nat)) (elt:Ex) (t:Tgt) (it:Itb) (ifs:Cns) (t2:Tgt) (it2:Itb) (ifs2:Cns)
 |listRange (m:Bool) (a b c:Ex)
 |dctN (t:Bool)|ixD (a b:Ex)
inductive Exs
 |nil|cons (e:Ex) (es:Exs)
inductive OEx
 |no|yes (e:Ex)
inductive Cn
 |val (e:Ex)|not (c:Cn)|and (c:Cn) (cs:Cns)|or (c:Cn) (cs:Cns)
inductive Cns
 |nil|cons (c:Cn) (cs:Cns)
inductive Itb
 |val (e:Ex)|range1 (a:Ex)|range2 (a b:Ex)|enum (e:Ex)|zip (a b:Ex)
end
mutual
inductive Sm
 |expr (e:Ex)|ret (e:Ex)|retN|asg (i:Nat) (e:Ex)|asgT (is:List Nat) (e:Ex)|par (is:List Nat) (es:Exs)
 |aug (i:Nat) (op:Bop) (e:Ex)|setIx (o i e:Ex)
 |ifS (c:Cn) (a b:Sms)|forS (t:Tgt) (it:Itb) (b:Sms)|whileS (c:Cn) (b:Sms)
 |pass|brk|cont|raise (e:Ex)|setD (o i e:Ex)
inductive Sms
 |nil|cons (s:Sm) (ss:Sms)
end
structure Fn where
 N:List Str
 ps:List Str
 keep:Bool
 body:Sms
noncomputable abbrev Calls:=Str→Nat→List Val→Sto→Out Val
noncomputable def zN:Nat:=16777216
noncomputable def newList(m:Bool)(vs:List Val)(s:Sto):Out Val:=if m then .ok (.ref s.length) (s++[.lst vs]) else .ok (.lst vs) s
noncomputable def wM(s:Sto):Val→Option (List Val)
 |.tup vs=>some vs
 |.lst vs=>some vs
 |.ctup ns=>some (ns.map .int)
 |.scr ns=>some (ns.map .int)
 |.ref i=>match s[i]? with
  |some (.lst vs)=>some vs
  |_=>Option.none
 |_=>Option.none
noncomputable def yf(s:Sto):Val→Option (List Val)
 |.lst vs=>some vs
 |.ref i=>match s[i]? with
  |some (.lst vs)=>some vs
  |_=>Option.none
 |_=>Option.none
noncomputable def truth(s:Sto):Val→Option Bool
 |.none=>some false
 |.bool b=>some b
 |.int i=>some (i != 0)
 |.str x=>if x.length≤zN then some ((x.length:Int) != 0) else Option.none
 |.tup vs=>some !vs.isEmpty
 |.lst vs=>some !vs.isEmpty
 |.dct0=>some false
 |.ref i=>match s[i]? with
  |some (.lst vs)=>some !vs.isEmpty
  |_=>Option.none
 |_=>Option.none
noncomputable def Out.truth(o:Out Val):Out Bool:=o.bind fun v s=>match M.truth s v with
 |some b=>.ok b s
 |Option.none=>.stuck
noncomputable def yX(s:Sto):Val→Val
 |.ref i=>match s[i]? with
  |some (.lst vs)=>.lst vs
  |_=>.ref i
 |v=>v
noncomputable def zq(s:Sto):Val→Val
 |.tup vs=>.tup (vs.map (yX s))
 |v=>yX s v
noncomputable def uc(d:PyData):Bool:=d.showable&&d.leavesShort 40&&decide (d.depth≤50)&&decide (d.weight≤300000)&&(!d.hasDict||!L2.xA d)
noncomputable def flat:Val→Bool
 |.none|.bool _|.int _|.str _=>true
 |_=>false
noncomputable def eqF:Val→Val→Bool
 |.none,.none=>true
 |.bool a,.bool b=>a == b
 |.bool a,.int b=>(if a then 1 else 0) == b
 |.int a,.bool b=>a == (if b then 1 else 0)
 |.int a,.int b=>a == b
 |.str a,.str b=>a == b
 |_,_=>false
noncomputable def qT(a b:Val):Option Bool:=if a.isD&&b.isD&&decide (b.d.depth≤60) then some (PyData.eqv a.d b.d) else Option.none
noncomputable def intsOf:List Val→Option (List Int)
 |[]=>some []
 |.int i::vs=>(intsOf vs).map (i::·)
 |_=>Option.none
noncomputable def Val.isN:Val→Bool
 |.none=>true
 |_=>false
noncomputable def inD(x:Val)(vs:List Val):Bool:=x.isD&&vT vs&&decide (x.d.depth≤60)
noncomputable def yw{κ:Type} [DecidableEq κ]:List (κ × Val)→κ→Option Val
 |[],_=>Option.none
 |p::r,k=>if p.1=k then some p.2 else yw r k
noncomputable def vi{κ:Type} [DecidableEq κ] (kvs:List (κ × Val))(k:κ)(v:Val):List (κ × Val):=
 if (yw kvs k).isSome then kvs.map (fun p=>if p.1=k then (p.1,v) else p) else kvs++[(k,v)]
noncomputable def mN(s:Sto):Val→Option (Nat × Cel)
 |.dref i=>(s[i]?).map fun c=>(i,c)
 |_=>Option.none
noncomputable def cZ:Cel→Val→Option (Option Val)
 |.dS kvs,.str k=>some (yw kvs k)
 |.dT kvs,.tup vs=>(intsOf vs).map fun k=>yw kvs k
 |_,_=>Option.none
noncomputable def ky:Cel→Val→Val→Option Cel
 |.dS kvs,.str k,v=>if kvs.length<zN then some (.dS (vi kvs k v)) else Option.none
 |.dT kvs,.tup vs,v=>(intsOf vs).bind fun k=>if kvs.length<zN then some (.dT (vi kvs k v)) else Option.none
 |_,_,_=>Option.none
noncomputable def getD(d y:Val)(s:Sto):Option (Option Val):=(mN s d).bind fun c=>cZ c.2 y
noncomputable def ixD(d y:Val)(s:Sto):Out Val:=match getD d y s with
 |some (some v)=>.ok v s
 |_=>.stuck
noncomputable def putD(d y v:Val)(s:Sto):Option Sto:=(mN s d).bind fun c=>(ky c.2 y v).map fun c'=>s.set c.1 c'
noncomputable def strsOf:List Val→Option (List Str)
 |[]=>some []
 |.str x::vs=>(strsOf vs).map (x::·)
 |_=>Option.none
noncomputable def zR(op:Cop)(x y:Val)(s:Sto):Out Val:=
 match op with
 |.eq=>match x,y with
  |.str a,.str b=>.ok (.bool (decide (a=b))) s
  |_,_=>match qT (zq s x) (zq s y) with|some b=>.ok (.bool b) s|Option.none=>.stuck
 |.ne=>match x,y with
  |.str a,.str b=>.ok (.bool !(decide (a=b))) s
  |_,_=>match qT (zq s x) (zq s y) with|some b=>.ok (.bool !b) s|Option.none=>.stuck
 |.is=>match y with|.none=>.ok (.bool x.isN) s|.bool b=>(match x with|.bool a=>.ok (.bool (decide (a=b))) s|_=>.stuck)|_=>.stuck
 |.isNot=>match y with|.none=>.ok (.bool !x.isN) s|.bool b=>(match x with|.bool a=>.ok (.bool !(decide (a=b))) s|_=>.stuck)|_=>.stuck
 |.in_=>match wM s y with
  |some vs=>if flat x&&vs.all flat then .ok (.bool (vs.any fun z=>eqF z x)) s else if inD x vs then .ok (.bool (vs.any fun z=>PyData.eqv z.d x.d)) s else .stuck
  |Option.none=>.stuck
 |.notIn=>match wM s y with
  |some vs=>if flat x&&vs.all flat then .ok (.bool !(vs.any fun z=>eqF z x)) s else if inD x vs then .ok (.bool !(vs.any fun z=>PyData.eqv z.d x.d)) s else .stuck
  |Option.none=>.stuck
 |.inD=>match getD y x s with|some o=>.ok (.bool o.isSome) s|Option.none=>.stuck
 |.notInD=>match getD y x s with|some o=>.ok (.bool !o.isSome) s|Option.none=>.stuck
 |.lt=>match x,y with|.int i,.int j=>.ok (.bool (decide (i<j))) s|_,_=>.stuck
 |.le=>match x,y with|.int i,.int j=>.ok (.bool (decide (i≤j))) s|_,_=>.stuck
 |.gt=>match x,y with|.int i,.int j=>.ok (.bool (decide (j<i))) s|_,_=>.stuck
 |.ge=>match x,y with|.int i,.int j=>.ok (.bool (decide (j≤i))) s|_,_=>.stuck
noncomputable def binOp(m:Bool)(op:Bop)(x y:Val)(s:Sto):Out Val:=
 match op with
 |.add=>match x,y with
  |.int i,.int j=>.ok (.int (i+j)) s
  |.str a,.str b=>if a.length+b.length≤zN then .ok (.str (a++b)) s else .stuck
  |.tup a,.tup b=>if a.length+b.length≤zN then .ok (.tup (a++b)) s else .stuck
  |_,_=>match yf s x,yf s y with
   |some a,some b=>if a.length+b.length≤zN then newList m (a++b) s else .stuck
   |_,_=>.stuck
 |.sub=>match x,y with|.int i,.int j=>.ok (.int (i-j)) s|_,_=>.stuck
 |.mul=>match x,y with
  |.int i,.int j=>if (-(2 ^ 64)<i∧i<2 ^ 64)∨(-(2 ^ 64)<j∧j<2 ^ 64) then .ok (.int (i*j)) s else .stuck
  |.tup a,.int k=>if -1000≤k∧k≤1000∧a≠[]∧a.length≤1000 then .ok (.tup (List.replicate k.toNat a).flatten) s else .stuck
  |_,.int k=>match yf s x with
   |some a=>if -1000≤k∧k≤1000∧a.length*k.toNat≤zN then newList m (List.replicate k.toNat a).flatten s else .stuck
   |Option.none=>.stuck
  |_,_=>.stuck
 |.fdiv=>match x,y with|.int i,.int j=>if 0<j∧j<1073741824 then .ok (.int (i/j)) s else .stuck|_,_=>.stuck
 |.mod=>match x,y with|.int i,.int j=>if 0<j then .ok (.int (i%j)) s else .stuck|_,_=>.stuck
 |.pow=>match x,y with|.int i,.int j=>if 0≤j∧j≤1000000∧i.natAbs<2 ^ 64 then .ok (.int (i ^ j.toNat)) s else .stuck|_,_=>.stuck
 |.shl=>match x,y with|.int i,.int j=>if 0≤j∧j≤1000000∧i.natAbs<2 ^ 64 then .ok (.int (i*2 ^ j.toNat)) s else .stuck|_,_=>.stuck
 |.shr=>match x,y with|.int i,.int j=>if 0≤j then .ok (.int (i/2 ^ j.toNat)) s else .stuck|_,_=>.stuck
 |.band=>match x,y with|.int i,.int j=>.ok (.int (Builtin.bitAnd i j)) s|_,_=>.stuck
noncomputable def kindOf:Val→Option L2.Kd
 |.none=>some .non
 |.bool _=>some .bl
 |.int _=>some .int
 |.str _=>some .str
 |.tup _=>some .tup
 |.lst _=>some .lst
 |.dct0=>some .dct
 |.ref _=>some .lst
 |_=>Option.none
noncomputable def uY:String→Option L2.Kd
 |"bool"=>some .bl
 |"int"=>some .int
 |"str"=>some .str
 |"list"=>some .lst
 |"tuple"=>some .tup
 |"dict"=>some .dct
 |_=>Option.none
noncomputable def boolsOf:List Val→Option (List Bool)
 |[]=>some []
 |.bool b::vs=>(boolsOf vs).map (b::·)
 |_=>Option.none
noncomputable def pairsOf:List Val→Option (List (Int × Int))
 |[]=>some []
 |.tup [.int a,.int b]::vs=>(pairsOf vs).map ((a,b)::·)
 |_=>Option.none
noncomputable def prV(z:Int × Int):Val:=.tup [.int z.1,.int z.2]
noncomputable def Zu(z:Int × Int):List (Int × Int)→List (Int × Int)
 |[]=>[z]
 |y::ys=>if L2.dW z≤L2.dW y then z::y::ys else y::Zu z ys
noncomputable def dv:List (Int × Int)→List (Int × Int)
 |[]=>[]
 |z::zs=>Zu z (dv zs)
noncomputable def gW:List Val→Option (List (List Int))
 |[]=>some []
 |.tup a::vs=>match intsOf a,gW vs with
  |some z,some zs=>some (z::zs)
  |_,_=>Option.none
 |_=>Option.none
noncomputable def tpV(z:List Int):Val:=.tup (z.map .int)
noncomputable def gK(m:Bool)(vs:List Val)(s:Sto):Out Val:=match gW vs with
 |some zs=>if zs.Nodup∧(zs.length<2∨∀z∈zs,z≠[]) then newList m ((L2.dw zs).map tpV) s else .stuck
 |Option.none=>.stuck
noncomputable def blt(f:Bf)(m:Bool)(xs:List Val)(s:Sto):Out Val:=
 match f with
 |.len=>match xs with
  |[.str x]=>if x.length≤zN then .ok (.int x.length) s else .stuck
  |[x]=>match wM s x with|some vs=>.ok (.int vs.length) s|Option.none=>.stuck
  |_=>.stuck
 |.all=>match xs with
  |[x]=>match yf s x with|some vs=>(match boolsOf vs with|some bs=>.ok (.bool (bs.all id)) s|Option.none=>.stuck)|Option.none=>.stuck
  |_=>.stuck
 |.any=>match xs with
  |[x]=>match yf s x with|some vs=>(match boolsOf vs with|some bs=>.ok (.bool (bs.any id)) s|Option.none=>.stuck)|Option.none=>.stuck
  |_=>.stuck
 |.tuple=>match xs with
  |[.tup vs]=>.ok (.tup vs) s
  |[x]=>match yf s x with|some vs=>.ok (.tup vs) s|Option.none=>.stuck
  |_=>.stuck
 |.list=>match xs with
  |[x]=>match wM s x with|some vs=>newList m vs s|Option.none=>.stuck
  |_=>.stuck
 |.repr=>match xs with
  |[x]=>if (zq s x).isR&&uc (zq s x).d then .ok (.str (zq s x).d.shown) s else .stuck
  |_=>.stuck
 |.max=>match xs with
  |[.int i,.int j]=>.ok (.int (if j > i then j else i)) s
  |[x]=>match yf s x with|some vs=>(match M.intsOf vs with|some ns=>if ns≠[] then .ok (.int (L2.ux 0 ns)) s else .stuck|Option.none=>.stuck)|Option.none=>.stuck
  |_=>.stuck
 |.min=>match xs with
  |[.int i,.int j]=>.ok (.int (if j<i then j else i)) s
  |[x]=>match yf s x with|some vs=>(match M.intsOf vs with|some ns=>if ns≠[] then .ok (.int (L2.sP 0 ns)) s else .stuck|Option.none=>.stuck)|Option.none=>.stuck
  |_=>.stuck
 |.int=>match xs with
  |[.int i]=>.ok (.int i) s
  |[.bool b]=>.ok (.int (if b then 1 else 0)) s
  |_=>.stuck
 |.isi=>match xs with
  |[x,.ty n]=>match kindOf x,uY n with|some a,some c=>.ok (.bool (a.sub c)) s|_,_=>.stuck
  |_=>.stuck
 |.divmod=>match xs with
  |[.int i,.int j]=>if 0<j∧j<1073741824 then .ok (.tup [.int (i/j),.int (i%j)]) s else .stuck
  |_=>.stuck
 |.str=>match xs with
  |[.int i]=>if i.natAbs.log2<1920 then .ok (.str (toString i)) s else .stuck
  |_=>.stuck
 |.sum=>.stuck
 |.sorted=>match xs with
  |[x]=>match yf s x with
   |some vs=>(match pairsOf vs with
    |some zs=>if zs.Nodup∧∀z∈zs,0≤z.2∧z.2<1000 then newList m ((dv zs).map prV) s else gK m vs s
    |Option.none=>gK m vs s)
   |Option.none=>.stuck
  |_=>.stuck
noncomputable def upd(s:Sto)(i:Nat)(vs:List Val):Sto:=s.set i (.lst vs)
noncomputable def z7(f:Mf)(o:Val)(xs:List Val)(s:Sto):Out Val:=
 match f with
 |.count=>match o,xs with
  |.tup vs,[y]=>if flat y&&vs.all flat then .ok (.int (vs.countP fun z=>eqF z y:Nat)) s else .stuck
  |_,[y]=>match yf s o with|some vs=>if flat y&&vs.all flat then .ok (.int (vs.countP fun z=>eqF z y:Nat)) s else .stuck|Option.none=>.stuck
  |_,_=>.stuck
 |.append=>match o,xs with
  |.ref i,[y]=>match s[i]? with|some (.lst vs)=>if vs.length<zN then .ok .none (upd s i (vs++[y])) else .stuck|_=>.stuck
  |_,_=>.stuck
 |.extend=>match o,xs with
  |.ref i,[y]=>match s[i]?,yf s y with|some (.lst vs),some ws=>if vs.length+ws.length≤zN then .ok .none (upd s i (vs++ws)) else .stuck|_,_=>.stuck
  |_,_=>.stuck
 |.pop=>match o,xs with
  |.ref i,[.int k]=>(match s[i]? with
   |some (.lst vs)=>if -(2 ^ 63)≤k∧k<2 ^ 63 then (match seqIndex? k vs.length with
    |some j=>(match vs[j]? with|some y=>.ok y (upd s i (vs.eraseIdx j))|Option.none=>.stuck)
    |Option.none=>.stuck) else .stuck
   |_=>.stuck)
  |_,_=>.stuck
 |.index=>.stuck
 |.join=>match o,xs with
  |.str z,[y]=>(match yf s y with
   |some vs=>(match strsOf vs with|some ys=>if (ys.map (·.length)).sum+ys.length*z.length≤16777216 then .ok (.str (L2.pJ z ys)) s else .stuck|Option.none=>.stuck)
   |Option.none=>.stuck)
  |_,_=>.stuck
noncomputable def x9(a b:Val)(s:Sto):Out Val:=
 match b with
 |.int i=>match wM s a with|some vs=>(match L2.atI vs i with|some v=>.ok v s|Option.none=>.stuck)|Option.none=>.stuck
 |_=>.stuck
noncomputable def wk{α:Type}(xs:List α)(lo hi:Option Int):List α:=(xs.drop (HT.sIx xs.length 0 lo)).take (HT.sIx xs.length xs.length hi-HT.sIx xs.length 0 lo)
noncomputable def ug(m:Bool)(a:Val)(lo hi st:Option Int)(s:Sto):Out Val:=
 match a,st with
 |.tup vs,Option.none=>.ok (.tup (wk vs lo hi)) s
 |.tup vs,some c=>if c≠0∧(L2.yn vs.length lo hi c).2≤zN then .ok (.tup (L2.zo vs (L2.yn vs.length lo hi c).1 c (L2.yn vs.length lo hi c).2)) s else .stuck
 |_,Option.none=>match yf s a with|some vs=>newList m (wk vs lo hi) s|Option.none=>.stuck
 |_,some c=>match yf s a with|some vs=>if c≠0 then newList m (L2.zo vs (L2.wy vs.length lo hi c).1 c (L2.wy vs.length lo hi c).2) s else .stuck|Option.none=>.stuck
noncomputable def YD(m:Bool)(x y z:Val)(s:Sto):Out Val:=match x,y,z with
 |.int i,.int j,.int k=>if -(2 ^ 30)≤i∧i≤2 ^ 30∧-(2 ^ 30)≤j∧j≤2 ^ 30∧0<k∧k≤2 ^ 29∧Builtin.Range.rangeSize i j k≤1000 then newList m ((L2.ay i j k).map .int) s else .stuck
 |_,_,_=>.stuck
noncomputable def yP(t:Tgt)(v:Val)(env:Env):Option Env:=
 match t with
 |.nm i=>some (env.set i (some v))
 |.nms is=>match v with
  |.tup vs=>if vs.length=is.length then some ((is.zip vs).foldl (fun e p=>e.set p.1 (some p.2)) env) else Option.none
  |_=>Option.none
structure Src where
 xs:List Val
 at_:Option Nat
noncomputable def Src.ok(r:Src)(s:Sto):Bool:=match r.at_ with
 |Option.none=>true
 |some i=>match s[i]? with
  |some (.lst vs)=>tm vs r.xs
  |_=>false
noncomputable def XG:List Val→List Val→List Val
 |v::vs,w::ws=>.tup [v,w]::XG vs ws
 |_,_=>[]
noncomputable def yq(n:Nat):List Val→List Val
 |[]=>[]
 |v::vs=>.tup [.int n,v]::yq (n+1) vs
noncomputable def srcOf(s:Sto):Val→Option Src
 |.tup vs=>some ⟨vs,Option.none⟩
 |.lst vs=>some ⟨vs,Option.none⟩
 |.ctup ns=>some ⟨ns.map .int,Option.none⟩
 |.ref i=>match s[i]? with
  |some (.lst vs)=>some ⟨vs,some i⟩
  |_=>Option.none
 |_=>Option.none
noncomputable def yp(lo:Int)(n:Nat):List Val:=(List.range n).map fun(k:Nat)=>Val.int (lo+k)
noncomputable def yR(r:Src)(t:Tgt)(body:Env→Sto→List Val→Out (List Val × Env)):List Val→Env→Sto→List Val→Out (List Val × Env)
 |[],env,s,acc=>if r.ok s then .ok (acc,env) s else .stuck
 |x::xs,env,s,acc=>if r.ok s then match yP t x env with
    |Option.none=>.stuck
    |some env'=>(body env' s acc).bind fun p s'=>yR r t body xs p.2 s' p.1
  else .stuck
noncomputable def zZ(fr:List (Option Nat))(env:Env):Env:=fr.map fun o=>match o with|some j=>(env[j]?).join|Option.none=>Option.none
inductive Fl
 |nx (env:Env)|bk (env:Env)|ct (env:Env)|rt (v:Val)
noncomputable def wj(r:Src)(t:Tgt)(body:Env→Sto→Out Fl):List Val→Env→Sto→Out Fl
 |[],env,s=>if r.ok s then .ok (.nx env) s else .stuck
 |x::xs,env,s=>if r.ok s then match yP t x env with
    |Option.none=>.stuck
    |some env'=>(body env' s).bind fun fl s'=>match fl with
     |.nx e=>wj r t body xs e s'
     |.ct e=>wj r t body xs e s'
     |.bk e=>.ok (.nx e) s'
     |.rt v=>.ok (.rt v) s'
  else .stuck
noncomputable def w9(c:Env→Sto→Out Bool)(body:Env→Sto→Out Fl):Nat→Env→Sto→Out Fl
 |0,_,_=>.stuck
 |n+1,env,s=>(c env s).bind fun b s1=>if b then (body env s1).bind fun fl s2=>match fl with
    |.nx e=>w9 c body n e s2
    |.ct e=>w9 c body n e s2
    |.bk e=>.ok (.nx e) s2
    |.rt v=>.ok (.rt v) s2
  else .ok (.nx env) s1
noncomputable def rK:Nat:=100000
section
variable (Φ:Calls)(G:Str→Option Val)
mutual
noncomputable def evE(env:Env):Ex→Sto→Out Val
 |.lit v,s=>.ok v s
 |.var i,s=>match env[i]? with|some (some v)=>.ok v s|_=>.stuck
 |.gl x,s=>match G x with|some v=>.ok v s|Option.none=>.stuck
 |.ty _ n,s=>.ok (.ty n) s
 |.bin m op a b,s=>(evE env a s).bind fun x s1=>(evE env b s1).bind fun y s2=>binOp m op x y s2
 |.neg a,s=>(evE env a s).bind fun x s1=>match x with|.int i=>.ok (.int (-i)) s1|_=>.stuck
 |.not a,s=>(evE env a s).bind fun x s1=>match x with|.bool b=>.ok (.bool !b) s1|_=>.stuck
 |.cmp op a b,s=>(evE env a s).bind fun x s1=>(evE env b s1).bind fun y s2=>zR op x y s2
 |.chain op op' a b c,s=>(evE env a s).bind fun x s1=>(evE env b s1).bind fun y s2=>(zR op x y s2).bind fun r s3=>match r with
  |.bool true=>(evE env c s3).bind fun z s4=>zR op' y z s4
  |.bool false=>.ok (.bool false) s3
  |_=>.stuck
 |.andE a es,s=>match es with
  |.nil=>evE env a s
  |.cons _ _=>(evE env a s).bind fun x s1=>match x with
   |.bool true=>uv env es s1
   |.bool false=>.ok (.bool false) s1
   |_=>.stuck
 |.orE a es,s=>match es with
  |.nil=>evE env a s
  |.cons _ _=>(evE env a s).bind fun x s1=>match truth s1 x with
   |some false=>pE env es s1
   |some true=>.ok x s1
   |Option.none=>.stuck
 |.ife c a b,s=>(evT env c s).bind fun t s1=>if t then evE env a s1 else evE env b s1
 |.tup es,s=>(ye env es s).bind fun vs s1=>if vs.length≤zN then .ok (.tup vs) s1 else .stuck
 |.lst m es,s=>(ye env es s).bind fun vs s1=>if vs.length≤zN then newList m vs s1 else .stuck
 |.dct0,s=>.ok .dct0 s
 |.call f ver es,s=>(ye env es s).bind fun vs s1=>Φ f ver vs s1
 |.blt f m es,s=>(ye env es s).bind fun vs s1=>blt f m vs s1
 |.maxD a d,s=>(evE env a s).bind fun x s1=>(evE env d s1).bind fun y s2=>match y with
  |.int k=>(match yf s2 x with|some vs=>(match intsOf vs with|some ns=>.ok (.int (L2.ux k ns)) s2|Option.none=>.stuck)|Option.none=>.stuck)
  |_=>.stuck
 |.z7 f _ o es,s=>(evE env o s).bind fun x s1=>(ye env es s1).bind fun vs s2=>z7 f x vs s2
 |.ix a b,s=>(evE env a s).bind fun x s1=>(evE env b s1).bind fun y s2=>x9 x y s2
 |.sl m a lo hi st,s=>(evE env a s).bind fun x s1=>(evO env lo s1).bind fun l s2=>(evO env hi s2).bind fun h s3=>(evO env st s3).bind fun c s4=>ug m x l h c s4
 |.comp m _ fr elt t it ifs,s=>(yQ env it s).bind fun r s1=>
  (yR r t (fun e s' acc=>(yo e ifs s').bind fun b s2=>if b then (evE e elt s2).bind fun v s3=>.ok (acc++[v],e) s3 else .ok (acc,e) s2) r.xs (zZ fr env) s1 []).bind fun p s2=>newList m p.1 s2
 |.comp2 m _ fr elt t it ifs t2 it2 ifs2,s=>(yQ env it s).bind fun r s1=>
  (yR r t (fun e s' acc=>(yo e ifs s').bind fun b s2=>if b then (yQ e it2 s2).bind fun r2 s3=>
      yR r2 t2 (fun e' s4 acc'=>(yo e' ifs2 s4).bind fun b' s5=>if b' then (evE e' elt s5).bind fun v s6=>.ok (acc'++[v],e') s6 else .ok (acc',e') s5) r2.xs e s3 acc
   else .ok (acc,e) s2) r.xs (zZ fr env) s1 []).bind fun p s2=>if p.1.length≤zN then newList m p.1 s2 else .stuck
 |.dctN t,s=>.ok (.dref s.length) (s++[if t then .dT [] else .dS []])
 |.ixD a b,s=>(evE env a s).bind fun x s1=>(evE env b s1).bind fun y s2=>ixD x y s2
 |.listRange m a b c,s=>(evE env a s).bind fun x s1=>(evE env b s1).bind fun y s2=>(evE env c s2).bind fun z s3=>YD m x y z s3
noncomputable def uv(env:Env):Exs→Sto→Out Val
 |.nil,_=>.stuck
 |.cons a es,s=>match es with
  |.nil=>evE env a s
  |.cons _ _=>(evE env a s).bind fun x s1=>match x with
   |.bool true=>uv env es s1
   |.bool false=>.ok (.bool false) s1
   |_=>.stuck
noncomputable def pE(env:Env):Exs→Sto→Out Val
 |.nil,_=>.stuck
 |.cons a es,s=>match es with
  |.nil=>evE env a s
  |.cons _ _=>(evE env a s).bind fun x s1=>match truth s1 x with
   |some false=>pE env es s1
   |some true=>.ok x s1
   |Option.none=>.stuck
noncomputable def ye(env:Env):Exs→Sto→Out (List Val)
 |.nil,s=>.ok [] s
 |.cons e es,s=>(evE env e s).bind fun v s1=>(ye env es s1).bind fun vs s2=>.ok (v::vs) s2
noncomputable def evO(env:Env):OEx→Sto→Out (Option Int)
 |.no,s=>.ok Option.none s
 |.yes e,s=>(evE env e s).bind fun v s1=>match v with|.int i=>.ok (some i) s1|_=>.stuck
/-- a test -/
noncomputable def evT(env:Env):Cn→Sto→Out Bool
 |.val e,s=>(evE env e s).truth
 |.not a,s=>(evT env a s).bind fun b s1=>.ok (!b) s1
 |.and a es,s=>(evT env a s).bind fun b s1=>if b then yo env es s1 else .ok false s1
 |.or a es,s=>(evT env a s).bind fun b s1=>if b then .ok true s1 else tD env es s1
noncomputable def yo(env:Env):Cns→Sto→Out Bool
 |.nil,s=>.ok true s
 |.cons a es,s=>(evT env a s).bind fun b s1=>if b then yo env es s1 else .ok false s1
noncomputable def tD(env:Env):Cns→Sto→Out Bool
 |.nil,s=>.ok false s
 |.cons a es,s=>(evT env a s).bind fun b s1=>if b then .ok true s1 else tD env es s1
noncomputable def yQ(env:Env):Itb→Sto→Out Src
 |.val e,s=>(evE env e s).bind fun v s1=>match srcOf s1 v with|some r=>.ok r s1|Option.none=>.stuck
 |.range1 a,s=>(evE env a s).bind fun x s1=>match x with
  |.int j=>if -(2 ^ 62)≤j∧j≤zN then .ok ⟨yp 0 j.toNat,Option.none⟩ s1 else .stuck
  |_=>.stuck
 |.range2 a b,s=>(evE env a s).bind fun x s1=>(evE env b s1).bind fun y s2=>match x,y with
  |.int i,.int j=>if -(2 ^ 62)≤i∧i<2 ^ 62∧-(2 ^ 62)≤j∧j<2 ^ 62∧j-i≤zN then .ok ⟨yp i (j-i).toNat,Option.none⟩ s2 else .stuck
  |_,_=>.stuck
 |.enum e,s=>(evE env e s).bind fun v s1=>match v with
  |.tup vs=>.ok ⟨yq 0 vs,Option.none⟩ s1
  |.lst vs=>.ok ⟨yq 0 vs,Option.none⟩ s1
  |_=>.stuck
 |.zip a b,s=>(evE env a s).bind fun x s1=>(evE env b s1).bind fun y s2=>match x,y with
  |.tup vs,.tup ws=>if vs.length=ws.length then .ok ⟨XG vs ws,Option.none⟩ s2 else .stuck
  |_,_=>.stuck
end
mutual
noncomputable def exS(env:Env):Sm→Sto→Out Fl
 |.expr e,s=>(evE Φ G env e s).bind fun _ s1=>.ok (.nx env) s1
 |.ret e,s=>(evE Φ G env e s).bind fun v s1=>.ok (.rt v) s1
 |.retN,s=>.ok (.rt .none) s
 |.asg i e,s=>(evE Φ G env e s).bind fun v s1=>.ok (.nx (env.set i (some v))) s1
 |.asgT is e,s=>(evE Φ G env e s).bind fun v s1=>match yP (.nms is) v env with|some env'=>.ok (.nx env') s1|Option.none=>.stuck
 |.par is es,s=>(ye Φ G env es s).bind fun vs s1=>if vs.length=is.length then .ok (.nx ((is.zip vs).foldl (fun e p=>e.set p.1 (some p.2)) env)) s1 else .stuck
 |.aug i op e,s=>match env[i]? with
  |some (some (.int x))=>(evE Φ G env e s).bind fun v s1=>match v with
   |.int y=>(binOp false op (.int x) (.int y) s1).bind fun z s2=>.ok (.nx (env.set i (some z))) s2
   |_=>.stuck
  |some (some (.tup x))=>if op=.add then (evE Φ G env e s).bind fun v s1=>match v with
   |.tup y=>(binOp false .add (.tup x) (.tup y) s1).bind fun z s2=>.ok (.nx (env.set i (some z))) s2
   |_=>.stuck
   else .stuck
  |_=>.stuck
 |.setIx o i e,s=>(evE Φ G env e s).bind fun v s1=>(evE Φ G env o s1).bind fun x s2=>(evE Φ G env i s2).bind fun y s3=>match x,y with
  |.ref r,.int k=>(match s3[r]? with
   |some (.lst vs)=>(match L2.ixN vs.length k with|some j=>.ok (.nx env) (upd s3 r (vs.set j v))|Option.none=>.stuck)
   |_=>.stuck)
  |_,_=>.stuck
 |.ifS c a b,s=>(evT Φ G env c s).bind fun t s1=>if t then zO env a s1 else zO env b s1
 |.forS t it b,s=>(yQ Φ G env it s).bind fun r s1=>wj r t (fun e s'=>zO e b s') r.xs env s1
 |.whileS c b,s=>w9 (fun e s'=>evT Φ G e c s') (fun e s'=>zO e b s') rK env s
 |.pass,s=>.ok (.nx env) s
 |.brk,s=>.ok (.bk env) s
 |.cont,s=>.ok (.ct env) s
 |.raise _,_=>.stuck
 |.setD o i e,s=>(evE Φ G env e s).bind fun v s1=>(evE Φ G env o s1).bind fun x s2=>(evE Φ G env i s2).bind fun y s3=>match putD x y v s3 with|some s4=>.ok (.nx env) s4|Option.none=>.stuck
noncomputable def zO(env:Env):Sms→Sto→Out Fl
 |.nil,s=>.ok (.nx env) s
 |.cons c cs,s=>(exS env c s).bind fun fl s1=>match fl with
  |.nx e=>zO e cs s1
  |fl=>.ok fl s1
end
end
noncomputable def yH(N:List Str)(vs:List Val):Env:=vs.map some++List.replicate (N.length-vs.length) Option.none
noncomputable def leave(F:Fn)(s0:Sto)(v:Val)(s:Sto):Out Val:=
 if F.keep then .ok v s
 else if xV s0 s then (match freeze s0.length s v with|some v'=>.ok v' (s.take s0.length)|Option.none=>.stuck) else .stuck
structure Tbl where
 fn:Str→Nat→Option Fn
 gl:Str→Option Val
noncomputable def run(T:Tbl)(Φ:Calls)(F:Fn)(vs:List Val)(s:Sto):Out Val:=
 if vs.length=F.ps.length then (zO Φ T.gl (yH F.N vs) F.body s).bind fun fl s1=>match fl with
  |.nx _=>leave F s .none s1
  |.rt v=>leave F s v s1
  |_=>.stuck
 else .stuck
noncomputable def zF(T:Tbl):Nat→Calls
 |0=>fun _ _ _ _=>.stuck
 |n+1=>fun f ver vs s=>match T.fn f ver with|some F=>run T (zF T n) F vs s|Option.none=>.stuck
end M
end
section
namespace M
open PySem
noncomputable abbrev KF:=PySem.W.Frag
structure Own where
 o:List Addr
 h:List Addr
def Own.no(ρ:Own)(a:Addr):Prop:=a ∉ ρ.o∧a ∉ ρ.h
def KT(K:KF)(a:Addr)(xs:List L2.V):Prop:=∃(o:Obj) (its:Array Value) (n:Nat),K.lookup a=some o∧o.cls=.type "tuple"∧o.data=.seq its n∧its.size≤sizeLine∧L2.Vals xs its.toList
def SC(K:KF)(ρ:Own)(H:L2.Hp)(a:Addr)(xs:List L2.V):Prop:=(ρ.no a∧L2.Rd H a (.lst xs)) ∨
 ∃(o:Obj) (its:Array Value) (n:Nat),K.lookup a=some o∧o.cls=.type "list"∧o.dict=none∧o.data=.seq its n∧its.size≤sizeLine∧L2.Vals xs its.toList
noncomputable def hk:Option L2.HO→Nat
 |some (.lst _)=>1
 |some (.dK _)=>2
 |some (.dT _)=>3
 |_=>0
mutual
inductive RD(K:KF)(mg:Str→Option Value)(ρ:Own)(H:L2.Hp):Val→L2.V→Prop
 |none:RD K mg ρ H .none .non
 |bool (b:Bool):RD K mg ρ H (.bool b) (.bl b)
 |int (i:Int):RD K mg ρ H (.int i) (.int i)
 |str (x:Str):RD K mg ρ H (.str x) (.str x)
 |tup {a:Addr} {vs:List Val} {xs:List L2.V}:ρ.no a→H a=some (.tup xs)→RDs K mg ρ H vs xs→RD K mg ρ H (.tup vs) (.ref a)
 |lst {a:Addr} {vs:List Val} {xs:List L2.V}:ρ.no a→H a=some (.lst xs)→RDs K mg ρ H vs xs→RD K mg ρ H (.lst vs) (.ref a)
 |dct0 {a:Addr}:ρ.no a→H a=some (.dK [])→RD K mg ρ H .dct0 (.ref a)
 |ctup {a:Addr} {ns:List Int}:KT K a (ns.map L2.V.int)→RD K mg ρ H (.ctup ns) (.ref a)
 |scr {a:Addr} {ns:List Int}:SC K ρ H a (ns.map L2.V.int)→RD K mg ρ H (.scr ns) (.ref a)
 |ref {a:Addr} {i:Nat}:ρ.o[i]?=some a→hk (H a)=1→RD K mg ρ H (.ref i) (.ref a)
 |dref {a:Addr} {i:Nat}:ρ.o[i]?=some a→1<hk (H a)→RD K mg ρ H (.dref i) (.ref a)
 |fn {x:Str} {f:Addr}:mg x=some (.ref f)→RD K mg ρ H (.fn x) (.ref f)
 |ty (n:String):RD K mg ρ H (.ty n) (.ty n)
inductive RDs(K:KF)(mg:Str→Option Value)(ρ:Own)(H:L2.Hp):List Val→List L2.V→Prop
 |nil:RDs K mg ρ H [] []
 |cons {v:Val} {x:L2.V} {vs:List Val} {xs:List L2.V}:RD K mg ρ H v x→RDs K mg ρ H vs xs→RDs K mg ρ H (v::vs) (x::xs)
end
noncomputable def CR(K:KF)(mg:Str→Option Value)(ρ:Own)(H:L2.Hp)(a:Addr):Cel→Prop
 |.lst vs=>∃xs,H a=some (.lst xs)∧RDs K mg ρ H vs xs
 |.dS kvs=>∃kxs,H a=some (.dK kxs)∧kxs.map (·.1)=kvs.map (fun p=>Sum.inr p.1)∧RDs K mg ρ H (kvs.map (·.2)) (kxs.map (·.2))
 |.dT kvs=>∃kxs,H a=some (.dT kxs)∧kxs.map (·.1)=kvs.map (fun p=>p.1.map Sum.inl)∧RDs K mg ρ H (kvs.map (·.2)) (kxs.map (·.2))
structure HR(K:KF)(mg:Str→Option Value)(ρ:Own)(s:Sto)(H:L2.Hp):Prop where
 len:ρ.o.length=s.length
 nd:ρ.o.Nodup
 cel:∀(i:Nat) (c:Cel),s[i]?=some c→∃a:Addr,ρ.o[i]?=some a∧CR K mg ρ H a c
 hid:∀a∈ρ.h,(∃xs,H a=some (.lst xs))∧a ∉ ρ.o
structure Ext(ρ:Own)(H:L2.Hp)(ρ':Own)(H':L2.Hp):Prop where
 pre:∃new:List Addr,ρ'.o=ρ.o++new∧∀a∈new,H a=none
 hid:ρ'.h=ρ.h
 keep:∀(a:Addr) (o:L2.HO),H a=some o→a ∉ ρ.o→H' a=some o
 kd:∀a∈ρ.o,hk (H' a)=hk (H a)
structure ER(K:KF)(mg:Str→Option Value)(ρ:Own)(H:L2.Hp)(env:Env)(σ:L2.St):Prop where
 len:env.length=σ.length
 at_:∀(i:Nat) (v:Val),env[i]?=some (some v)→∃x:L2.V,σ[i]?=some (some x)∧RD K mg ρ H v x
section
variable {K:KF}{mg:Str→Option Value}{ρ ρ' ρ'':Own}{H H' H'':L2.Hp}{s s':Sto}
theorem HR.obj(h:HR K mg ρ s H)(i:Nat)(vs:List Val)(e:s[i]?=some (Cel.lst vs)):∃(a:Addr) (xs:List L2.V),ρ.o[i]?=some a∧H a=some (.lst xs)∧RDs K mg ρ H vs xs:=by
 obtain⟨a,e1,xs,e2,r⟩:=h.cel i _ e
 exact⟨a,xs,e1,e2,r⟩
theorem CR.there{a:Addr}{c:Cel}(h:CR K mg ρ H a c):∃o,H a=some o:=by
 cases c with
 |lst vs=>obtain⟨xs,e,_⟩:=h;exact⟨_,e⟩
 |dS kvs=>obtain⟨xs,e,_⟩:=h;exact⟨_,e⟩
 |dT kvs=>obtain⟨xs,e,_⟩:=h;exact⟨_,e⟩
theorem CR.hk{a:Addr}{c:Cel}(h:CR K mg ρ H a c):0<hk (H a):=by
 cases c with
 |lst vs=>obtain⟨xs,e,_⟩:=h;rw[e];exact Nat.lt_succ_self 0
 |dS kvs=>obtain⟨xs,e,_⟩:=h;rw[e];exact Nat.lt_of_sub_eq_succ rfl
 |dT kvs=>obtain⟨xs,e,_⟩:=h;rw[e];exact Nat.lt_of_sub_eq_succ rfl
theorem HR.trk(h:HR K mg ρ s H){a:Addr}(ha:a∈ρ.o):∃o,H a=some o:=by
 obtain⟨i,hi,e⟩:=List.getElem_of_mem ha
 have hs:i<s.length:=by rw[←h.len];exact hi
 obtain⟨b,e1,e2⟩:=h.cel i _ (List.getElem?_eq_getElem hs)
 rw[List.getElem?_eq_getElem hi,e]at e1
 cases e1
 exact e2.there
theorem sD{a:Addr}(h:hk (H a)=1):∃xs,H a=some (.lst xs):=by
 cases e:H a with
 |none=>rw[e]at h;cases h
 |some o=>
  rw[e]at h
  cases o with
  |lst xs=>exact⟨xs,rfl⟩
  |_=>cases h
theorem HR.new(h:HR K mg ρ s H){p:Addr}(hp:H p=none):ρ.no p:=by
 refine⟨fun hm=>?_,fun hm=>?_⟩
 . obtain⟨xs,e⟩:=h.trk hm
   rw[hp]at e;cases e
 . obtain⟨⟨xs,e⟩,_⟩:=h.hid p hm
   rw[hp]at e;cases e
theorem Ext.refl:Ext ρ H ρ H:=⟨⟨[],by simp,fun a ha=>by cases ha⟩,rfl,fun a o e _=>e,fun _ _=>rfl⟩
theorem Ext.YF(x:Ext ρ H ρ' H'){a:Addr}{o:L2.HO}(e:H a=some o)(n:ρ.no a):ρ'.no a:=by
 obtain⟨new,e1,hn⟩:=x.pre
 refine⟨?_,by rw[x.hid];exact n.2⟩
 rw[e1]
 intro hm
 rcases List.mem_append.mp hm with hm|hm
 . exact n.1 hm
 . rw[hn a hm]at e;cases e
theorem Ext.get(x:Ext ρ H ρ' H'){i:Nat}{a:Addr}(e:ρ.o[i]?=some a):ρ'.o[i]?=some a:=by
 obtain⟨new,e1,hn⟩:=x.pre
 have hi:i<ρ.o.length:=(List.getElem?_eq_some_iff.mp e).1
 rw[e1,List.getElem?_append_left hi];exact e
theorem Ext.trans(x:Ext ρ H ρ' H')(h:HR K mg ρ' s H')(y:Ext ρ' H' ρ'' H''):Ext ρ H ρ'' H'':=by
 obtain⟨new,e1,hn⟩:=x.pre
 obtain⟨new2,e2,hn2⟩:=y.pre
 refine⟨⟨new++new2,by rw[e2,e1,List.append_assoc],fun a ha=>?_⟩,y.hid.trans x.hid,fun a o e n=>y.keep a o (x.keep a o e n) ?_,fun a ha=>(y.kd a (by rw[e1];exact List.mem_append_left _ ha)).trans (x.kd a ha)⟩
 . rcases List.mem_append.mp ha with ha|ha
   . exact hn a ha
   . cases q:H a with
     |none=>rfl
     |some o=>
      by_cases hm:a∈ρ.o
      . obtain⟨xs,e⟩:=h.trk (a:=a) (by rw[e1];exact List.mem_append_left _ hm)
        rw[hn2 a ha]at e;cases e
      . have:=x.keep a o q hm
        rw[hn2 a ha]at this;cases this
 . rw[e1]
   intro hm
   rcases List.mem_append.mp hm with hm|hm
   . exact n hm
   . rw[hn a hm]at e;cases e
theorem SC.sql{a:Addr}{xs:List L2.V}(h:SC K ρ H a xs):L2.SqL K H a xs:=by
 rcases h with⟨_,h⟩|h
 . exact .inl h
 . exact .inr h
theorem KT.sqt{a:Addr}{xs:List L2.V}(h:KT K a xs):L2.SqT K H a xs:=.inr h
structure Mv(ρ:Own)(H:L2.Hp)(ρ':Own)(H':L2.Hp):Prop where
 keep:∀(a:Addr) (o:L2.HO),H a=some o→ρ.no a→H' a=some o∧ρ'.no a
 get:∀(i:Nat) (a:Addr),ρ.o[i]?=some a→ρ'.o[i]?=some a
 kd:∀a∈ρ.o,hk (H' a)=hk (H a)
theorem Ext.mv(x:Ext ρ H ρ' H'):Mv ρ H ρ' H':=⟨fun a o e n=>⟨x.keep a o e n.1,x.YF e n⟩,fun i a e=>x.get e,x.kd⟩
theorem SC.mv{a:Addr}{xs:List L2.V}(x:Mv ρ H ρ' H')(h:SC K ρ H a xs):SC K ρ' H' a xs:=by
 rcases h with⟨n,h|⟨o,h⟩⟩|h
 . exact .inl ⟨(x.keep _ _ h n).2,.inl (x.keep _ _ h n).1⟩
 . exact .inl ⟨(x.keep _ _ h n).2,.inr ⟨o,(x.keep _ _ h n).1⟩⟩
 . exact .inr h
end
mutual
theorem RD.mv{K:KF}{mg:Str→Option Value}{ρ ρ':Own}{H H':L2.Hp}(x:Mv ρ H ρ' H'):∀{v:Val} {u:L2.V},RD K mg ρ H v u→RD K mg ρ' H' v u
 |_,_,.none=>.none
 |_,_,.bool b=>.bool b
 |_,_,.int i=>.int i
 |_,_,.str t=>.str t
 |_,_,.tup n e r=>.tup (x.keep _ _ e n).2 (x.keep _ _ e n).1 (RDs.mv x r)
 |_,_,.lst n e r=>.lst (x.keep _ _ e n).2 (x.keep _ _ e n).1 (RDs.mv x r)
 |_,_,.dct0 n e=>.dct0 (x.keep _ _ e n).2 (x.keep _ _ e n).1
 |_,_,.ctup h=>.ctup h
 |_,_,.scr h=>.scr (h.mv x)
 |_,_,.ref e k=>.ref (x.get _ _ e) ((x.kd _ (List.mem_of_getElem? e)).trans k)
 |_,_,.dref e k=>.dref (x.get _ _ e) (by rw[x.kd _ (List.mem_of_getElem? e)];exact k)
 |_,_,.fn e=>.fn e
 |_,_,.ty n=>.ty n
theorem RDs.mv{K:KF}{mg:Str→Option Value}{ρ ρ':Own}{H H':L2.Hp}(x:Mv ρ H ρ' H'):∀{vs:List Val} {us:List L2.V},RDs K mg ρ H vs us→RDs K mg ρ' H' vs us
 |_,_,.nil=>.nil
 |_,_,.cons r rs=>.cons (RD.mv x r) (RDs.mv x rs)
end
theorem CR.mv{K:KF}{mg:Str→Option Value}{ρ ρ':Own}{H H':L2.Hp}{a:Addr}{c:Cel}(x:Mv ρ H ρ' H')(e:H' a=H a)(h:CR K mg ρ H a c):CR K mg ρ' H' a c:=by
 cases c with
 |lst vs=>obtain⟨xs,e1,r⟩:=h;exact⟨xs,e.trans e1,RDs.mv x r⟩
 |dS kvs=>obtain⟨xs,e1,k,r⟩:=h;exact⟨xs,e.trans e1,k,RDs.mv x r⟩
 |dT kvs=>obtain⟨xs,e1,k,r⟩:=h;exact⟨xs,e.trans e1,k,RDs.mv x r⟩
theorem RD.mono{K:KF}{mg:Str→Option Value}{ρ ρ':Own}{H H':L2.Hp}{v:Val}{u:L2.V}(r:RD K mg ρ H v u)(x:Ext ρ H ρ' H'):RD K mg ρ' H' v u:=RD.mv x.mv r
theorem RDs.mono{K:KF}{mg:Str→Option Value}{ρ ρ':Own}{H H':L2.Hp}{v:List Val}{u:List L2.V}(r:RDs K mg ρ H v u)(x:Ext ρ H ρ' H'):RDs K mg ρ' H' v u:=RDs.mv x.mv r
end M
end
section
namespace M
open PySem
section
variable {K:KF}{mg:Str→Option Value}{ρ ρ' ρ'':Own}{H H' H'':L2.Hp}{s s':Sto}
theorem RDs.length:∀{vs:List Val} {xs:List L2.V},RDs K mg ρ H vs xs→vs.length=xs.length
 |_,_,.nil=>rfl
 |_,_,.cons _ r=>by rw[List.length_cons,List.length_cons,r.length]
theorem RDs.get:∀{vs:List Val} {xs:List L2.V} {i:Nat} {v:Val},RDs K mg ρ H vs xs→vs[i]?=some v→∃x,xs[i]?=some x∧RD K mg ρ H v x
 |_,_,_,_,.nil,e=>by simp at e
 |_,_,0,_,.cons r _,e=>by simp at e;subst e;exact⟨_,rfl,r⟩
 |_,_,i+1,v,.cons _ rs,e=>by
  obtain⟨x,h1,h2⟩:=RDs.get (i:=i) (v:=v) rs (by simpa using e)
  exact⟨x,by simpa using h1,h2⟩
theorem RDs.Zo:∀{vs:List Val} {xs:List L2.V} {i:Nat} {x:L2.V},RDs K mg ρ H vs xs→xs[i]?=some x→∃v,vs[i]?=some v∧RD K mg ρ H v x
 |_,_,_,_,.nil,e=>by simp at e
 |_,_,0,_,.cons r _,e=>by simp at e;subst e;exact⟨_,rfl,r⟩
 |_,_,i+1,v,.cons _ rs,e=>by
  obtain⟨x,h1,h2⟩:=RDs.Zo (i:=i) (x:=v) rs (by simpa using e)
  exact⟨x,by simpa using h1,h2⟩
theorem RDs.append:∀{vs ws:List Val} {xs ys:List L2.V},RDs K mg ρ H vs xs→RDs K mg ρ H ws ys→RDs K mg ρ H (vs++ws) (xs++ys)
 |_,_,_,_,.nil,r=>r
 |_,_,_,_,.cons r rs,q=>.cons r (rs.append q)
theorem RDs.take:∀{vs:List Val} {xs:List L2.V} (n:Nat),RDs K mg ρ H vs xs→RDs K mg ρ H (vs.take n) (xs.take n)
 |_,_,0,_=>.nil
 |_,_,_+1,.nil=>.nil
 |_,_,n+1,.cons r rs=>.cons r (rs.take n)
theorem RDs.drop:∀{vs:List Val} {xs:List L2.V} (n:Nat),RDs K mg ρ H vs xs→RDs K mg ρ H (vs.drop n) (xs.drop n)
 |_,_,0,r=>r
 |_,_,_+1,.nil=>.nil
 |_,_,n+1,.cons _ rs=>rs.drop n
theorem RDs.set{v:Val}{x:L2.V}(r:RD K mg ρ H v x):∀{vs:List Val} {xs:List L2.V} (i:Nat),RDs K mg ρ H vs xs→RDs K mg ρ H (vs.set i v) (xs.set i x)
 |_,_,_,.nil=>.nil
 |_,_,0,.cons _ t=>.cons r t
 |_,_,i+1,.cons q t=>.cons q (RDs.set r i t)
theorem RDs.rep{vs:List Val}{xs:List L2.V}(r:RDs K mg ρ H vs xs):∀k:Nat,RDs K mg ρ H (List.replicate k vs).flatten (List.replicate k xs).flatten
 |0=>.nil
 |k+1=>by
  rw[List.replicate_succ,List.replicate_succ,List.flatten_cons,List.flatten_cons]
  exact r.append (RDs.rep r k)
theorem RDs.pick{vs:List Val}{xs:List L2.V}(r:RDs K mg ρ H vs xs):∀(is:List Nat),RDs K mg ρ H (is.filterMap fun i=>vs[i]?) (is.filterMap fun i=>xs[i]?)
 |[]=>.nil
 |i::is=>by
  rw[List.filterMap_cons,List.filterMap_cons]
  cases hx:vs[i]? with
  |none=>
   have:xs[i]?=none:=by
    have h2:vs.length≤i:=List.getElem?_eq_none_iff.mp hx
    exact List.getElem?_eq_none_iff.mpr (by rw[←r.length];exact h2)
   rw[this];exact RDs.pick r is
  |some v=>
   obtain⟨u,hu,ru⟩:=r.get hx
   rw[hu]
   exact .cons ru (RDs.pick r is)
theorem RDs.zo{vs:List Val}{xs:List L2.V}(r:RDs K mg ρ H vs xs)(lo st:Int)(n:Nat):RDs K mg ρ H (L2.zo vs lo st n) (L2.zo xs lo st n):=by
 have h:=r.pick ((List.range n).map fun(k:Nat)=>(lo+(k:Int)*st).toNat)
 rw[List.filterMap_map,List.filterMap_map]at h
 exact h
theorem RDs.ints:∀(ns:List Int),RDs K mg ρ H (ns.map .int) (ns.map .int)
 |[]=>.nil
 |n::ns=>.cons (.int n) (RDs.ints ns)
theorem RDs.cut{vs:List Val}{xs:List L2.V}(r:RDs K mg ρ H vs xs)(lo hi:Option Int):RDs K mg ρ H (wk vs lo hi) (L2.sv xs lo hi):=by
 unfold wk L2.sv
 rw[r.length]
 exact(r.drop _).take _
theorem iA{α:Type}:∀{l:List α} {i j:Nat} {x:α},l.Nodup→l[i]?=some x→l[j]?=some x→i=j
 |[],_,_,_,_,e,_=>by simp at e
 |a::l,0,0,_,_,_,_=>rfl
 |a::l,0,j+1,x,nd,e1,e2=>by
  simp at e1 e2;subst e1
  exact absurd (List.mem_of_getElem? e2) (List.nodup_cons.mp nd).1
 |a::l,i+1,0,x,nd,e1,e2=>by
  simp at e1 e2;subst e2
  exact absurd (List.mem_of_getElem? e1) (List.nodup_cons.mp nd).1
 |a::l,i+1,j+1,x,nd,e1,e2=>by
  simp at e1 e2
  rw[iA (List.nodup_cons.mp nd).2 e1 e2]
theorem Ext.new(h:HR K mg ρ s H){p:Addr}(hp:H p=none)(o:L2.HO):Ext ρ H ρ (L2.upd H p o):=
 ⟨⟨[],by simp,fun a ha=>by cases ha⟩,rfl,fun a u e _=>by rw[L2.zQ (L2.zU e hp)];exact e,fun a ha=>by rw[L2.zQ fun z=>(h.new hp).1 (by rw[←z];exact ha)]⟩
theorem HR.more(h:HR K mg ρ s H){p:Addr}(hp:H p=none)(o:L2.HO):HR K mg ρ s (L2.upd H p o):=by
 refine⟨h.len,h.nd,fun i c e=>?_,fun a ha=>?_⟩
 . obtain⟨a,e1,r⟩:=h.cel i c e
   obtain⟨u,e2⟩:=r.there
   exact⟨a,e1,r.mv (Ext.new h hp o).mv (L2.zQ (L2.zU e2 hp))⟩
 . obtain⟨⟨xs,e⟩,n⟩:=h.hid a ha
   exact⟨⟨xs,by rw[L2.zQ (L2.zU e hp)];exact e⟩,n⟩
noncomputable def Own.more(ρ:Own)(p:Addr):Own:=⟨ρ.o++[p],ρ.h⟩
theorem Ext.own(h:HR K mg ρ s H){p:Addr}(hp:H p=none)(o:L2.HO):Ext ρ H (ρ.more p) (L2.upd H p o):=
 ⟨⟨[p],rfl,fun a ha=>by rw[List.mem_singleton.mp ha];exact hp⟩,rfl,fun a u e _=>by rw[L2.zQ (L2.zU e hp)];exact e,fun a ha=>by rw[L2.zQ fun z=>(h.new hp).1 (by rw[←z];exact ha)]⟩
theorem tU(h:HR K mg ρ s H)(p:Addr):(ρ.more p).o[s.length]?=some p:=by
 show (ρ.o++[p])[s.length]?=some p
 rw[←h.len,List.getElem?_append_right (Nat.le_refl _)];simp
theorem HR.aO(h:HR K mg ρ s H){p:Addr}(hp:H p=none){c:Cel}{o:L2.HO}(r:CR K mg (ρ.more p) (L2.upd H p o) p c):HR K mg (ρ.more p) (s++[c]) (L2.upd H p o):=by
 have X:=Ext.own h hp o
 refine⟨by show (ρ.o++[p]).length=_;rw[List.length_append,List.length_append,h.len];rfl,?_,fun i ws q=>?_,fun a ha=>?_⟩
 . show (ρ.o++[p]).Nodup
   rw[List.nodup_append]
   exact⟨h.nd,by simp,fun a ha b hb=>by rw[List.mem_singleton.mp hb];intro z;subst z;exact(h.new hp).1 ha⟩
 . by_cases hi:i<s.length
   . rw[List.getElem?_append_left hi]at q
     obtain⟨a,e1,t⟩:=h.cel i ws q
     obtain⟨u,e2⟩:=t.there
     exact⟨a,X.get e1,t.mv X.mv (L2.zQ (L2.zU e2 hp))⟩
   . have hi':i=s.length:=by
      have:=(List.getElem?_eq_some_iff.mp q).1
      rw[List.length_append]at this
      simp at this;omega
     subst hi'
     rw[List.getElem?_append_right (Nat.le_refl _)]at q
     simp at q
     subst q
     exact⟨p,tU h p,r⟩
 . obtain⟨⟨ys,q⟩,n⟩:=h.hid a ha
   refine⟨⟨ys,by rw[L2.zQ (L2.zU q hp)];exact q⟩,fun hm=>?_⟩
   rcases List.mem_append.mp hm with hm|hm
   . exact n hm
   . rw[List.mem_singleton.mp hm,hp]at q;cases q
theorem HR.own(h:HR K mg ρ s H){p:Addr}(hp:H p=none){vs:List Val}{xs:List L2.V}(r:RDs K mg ρ H vs xs):HR K mg (ρ.more p) (s++[.lst vs]) (L2.upd H p (.lst xs)):=h.aO hp ⟨xs,L2.zc,r.mono (Ext.own h hp _)⟩
theorem Ext.vJ(h:HR K mg ρ s H){i:Nat}{a:Addr}(e:ρ.o[i]?=some a){o:L2.HO}(k:hk (some o)=hk (H a)):Ext ρ H ρ (L2.upd H a o):=
 ⟨⟨[],by simp,fun a ha=>by cases ha⟩,rfl,fun b u q n=>by rw[L2.zQ (fun z=>n (by rw[z];exact List.mem_of_getElem? e))];exact q,fun b hb=>by
   by_cases z:b=a
   . subst z;rw[L2.zc];exact k
   . rw[L2.zQ z]⟩
theorem Ext.write(h:HR K mg ρ s H){i:Nat}{a:Addr}(e:ρ.o[i]?=some a){ys:List L2.V}(k:H a=some (.lst ys))(xs:List L2.V):Ext ρ H ρ (L2.upd H a (.lst xs)):=Ext.vJ h e (by rw[k];rfl)
theorem HR.vJ(h:HR K mg ρ s H){i:Nat}{a:Addr}(e:ρ.o[i]?=some a){c:Cel}{o:L2.HO}(k:hk (some o)=hk (H a))(r:CR K mg ρ (L2.upd H a o) a c):HR K mg ρ (s.set i c) (L2.upd H a o):=by
 have X:=Ext.vJ h e k
 refine⟨by rw[List.length_set];exact h.len,h.nd,fun j ws q=>?_,fun b hb=>?_⟩
 . skip
   by_cases hij:i=j
   . subst hij
     have hi:i<s.length:=by rw[←h.len];exact(List.getElem?_eq_some_iff.mp e).1
     rw[List.getElem?_set_self hi]at q
     cases q
     exact⟨a,e,r⟩
   . rw[List.getElem?_set_ne hij]at q
     obtain⟨b,e1,t⟩:=h.cel j ws q
     refine⟨b,e1,t.mv X.mv ?_⟩
     have hb:b≠a:=by
      intro z
      subst z
      exact hij (iA h.nd e e1)
     rw[L2.zQ hb]
 . obtain⟨⟨ys,q⟩,n⟩:=h.hid b hb
   exact⟨⟨ys,by rw[L2.zQ (fun z=>n (by rw[z];exact List.mem_of_getElem? e))];exact q⟩,n⟩
theorem HR.write(h:HR K mg ρ s H){i:Nat}{a:Addr}(e:ρ.o[i]?=some a){ys:List L2.V}(k:H a=some (.lst ys)){vs:List Val}{xs:List L2.V}(r:RDs K mg ρ H vs xs):HR K mg ρ (upd s i vs) (L2.upd H a (.lst xs)):=
 h.vJ e (by rw[k];rfl) ⟨xs,L2.zc,r.mono (Ext.write h e k xs)⟩
theorem ER.mono{env:Env}{σ:L2.St}(x:Ext ρ H ρ' H')(h:ER K mg ρ H env σ):ER K mg ρ' H' env σ:=⟨h.len,fun i v e=>by
 obtain⟨u,h1,h2⟩:=h.at_ i v e
 exact⟨u,h1,h2.mono x⟩⟩
theorem ER.set{env:Env}{σ:L2.St}(h:ER K mg ρ H env σ)(i:Nat){v:Val}{x:L2.V}(r:RD K mg ρ H v x):ER K mg ρ H (env.set i (some v)) (σ.set i (some x)):=by
 refine⟨by rw[List.length_set,List.length_set,h.len],fun j w e=>?_⟩
 by_cases hij:i=j
 . subst hij
   by_cases hi:i<env.length
   . rw[List.getElem?_set_self hi]at e
     cases e
     exact⟨x,by rw[List.getElem?_set_self (by rw[←h.len];exact hi)],r⟩
   . rw[List.getElem?_eq_none (by rw[List.length_set];omega)]at e
     cases e
 . rw[List.getElem?_set_ne hij]at e
   rw[List.getElem?_set_ne hij]
   exact h.at_ j w e
end
section
variable (K:KF)(mg:Str→Option Value)
def yW{α β:Type}(R:Own→L2.Hp→α→β→Prop)(ρ:Own)(H:L2.Hp)(o:Out α)(Q:β→L2.Hp→Prop):Prop:=
 match o with
 |.ok v s'=>∀ρ' x H',Ext ρ H ρ' H'→HR K mg ρ' s' H'→R ρ' H' v x→Q x H'
 |_=>False
noncomputable def tV(env:Env)(s:Sto)(o:Out Val):L2.TE:=fun σ H Q=>∃ρ,HR K mg ρ s H∧ER K mg ρ H env σ∧yW K mg (RD K mg) ρ H o Q
noncomputable def tVs(env:Env)(s:Sto)(o:Out (List Val)):L2.TA:=fun σ H Q=>∃ρ,HR K mg ρ s H∧ER K mg ρ H env σ∧yW K mg (RDs K mg) ρ H o Q
noncomputable def tT(env:Env)(s:Sto)(o:Out Bool):L2.TT:=fun σ H Q=>∃ρ,HR K mg ρ s H∧ER K mg ρ H env σ∧yW K mg (fun _ _ a b=>a=b) ρ H o Q
noncomputable def tO(env:Env)(s:Sto)(o:Out (Option Int)):L2.TO:=fun σ H Q=>∃ρ,HR K mg ρ s H∧ER K mg ρ H env σ∧yW K mg (fun _ _ a b=>a=b) ρ H o Q
end
section
variable {X:L2.Cx}{e:Expr}
theorem zd{t t':L2.TE}(h:L2.PE X e t)(i:∀σ H Q,t' σ H Q→t σ H Q):L2.PE X e t':=fun pins s σ H Q I q=>h pins s σ H Q I (i σ H Q q)
theorem qi{t t':L2.TT}(h:L2.PT X e t)(i:∀σ H Q,t' σ H Q→t σ H Q):L2.PT X e t':=fun pins s σ H Q I q=>h pins s σ H Q I (i σ H Q q)
theorem iQ{es:List Expr}{t t':L2.TA}(h:L2.PA X es t)(i:∀σ H Q,t' σ H Q→t σ H Q):L2.PA X es t':=fun pos pins s σ H Q I q=>h pos pins s σ H Q I (i σ H Q q)
theorem xM{st:Stmt}{t t':L2.TS}(h:L2.PS X st t)(i:∀D σ H,t' D σ H→t D σ H):L2.PS X st t':=fun pins s σ H D I q=>h pins s σ H D I (i D σ H q)
theorem ml{st:List Stmt}{t t':L2.TS}(h:L2.PSs X st t)(i:∀D σ H,t' D σ H→t D σ H):L2.PSs X st t':=fun pins s σ H D I q=>h pins s σ H D I (i D σ H q)
theorem Yc{t:L2.TE}(h:∀σ H Q,¬t σ H Q):L2.PE X e t:=fun pins s σ H Q I q=>(h σ H Q q).elim
theorem Yl{t:L2.TT}(h:∀σ H Q,¬t σ H Q):L2.PT X e t:=fun pins s σ H Q I q=>(h σ H Q q).elim
theorem Yo{t:L2.TT}(h:∀σ H Q,¬t σ H Q):L2.PW X e t:=fun wh pins s σ H Q I q=>(h σ H Q q).elim
theorem YZ{es:List Expr}{t:L2.TA}(h:∀σ H Q,¬t σ H Q):L2.PA X es t:=fun pos pins s σ H Q I q=>(h σ H Q q).elim
end
section
variable {K:KF}{mg:Str→Option Value}{env:Env}{s:Sto}
theorem XB{o:Out Val}(h:∀v s',o≠.ok v s'){σ:L2.St}{H:L2.Hp}{Q:L2.VK}:¬tV K mg env s o σ H Q:=by
 rintro ⟨ρ,_,_,w⟩
 cases o with
 |ok v s'=>exact h v s' rfl
 |_=>exact w
theorem ZJ{o:Out (List Val)}(h:∀v s',o≠.ok v s'){σ:L2.St}{H:L2.Hp}{Q:List L2.V→L2.Hp→Prop}:¬tVs K mg env s o σ H Q:=by
 rintro ⟨ρ,_,_,w⟩
 cases o with
 |ok v s'=>exact h v s' rfl
 |_=>exact w
theorem d3{o:Out Bool}(h:∀v s',o≠.ok v s'){σ:L2.St}{H:L2.Hp}{Q:Bool→L2.Hp→Prop}:¬tT K mg env s o σ H Q:=by
 rintro ⟨ρ,_,_,w⟩
 cases o with
 |ok v s'=>exact h v s' rfl
 |_=>exact w
end
end M
end
section
namespace M
open PySem
theorem yC:zN=sizeLine:=by rw[sizeLine_eq];rfl
section
variable {K:KF}{mg:Str→Option Value}{ρ ρ':Own}{H H':L2.Hp}{s s':Sto}
theorem xI(hr:HR K mg ρ s H){v:Val}{x:L2.V}{vs:List Val}(r:RD K mg ρ H v x)(e:yf s v=some vs):∃a xs,x=.ref a∧H a=some (.lst xs)∧RDs K mg ρ H vs xs:=by
 cases r with
 |lst n h q=>cases e;exact⟨_,_,rfl,h,q⟩
 |@ref a i h _=>
  simp only[yf]at e
  split at e
  . rename_i ws hw
    cases e
    obtain⟨b,xs,e1,e2,q⟩:=hr.obj i _ hw
    rw[h]at e1;cases e1
    exact⟨_,_,rfl,e2,q⟩
  . cases e
 |_=>cases e
theorem nX(hr:HR K mg ρ s H){v:Val}{x:L2.V}{vs:List Val}(r:RD K mg ρ H v x)(e:wM s v=some vs):∃a xs,x=.ref a∧(L2.SqL K H a xs∨L2.SqT K H a xs)∧RDs K mg ρ H vs xs:=by
 cases r with
 |lst n h q=>cases e;exact⟨_,_,rfl,.inl (.of h),q⟩
 |tup n h q=>cases e;exact⟨_,_,rfl,.inr (.of h),q⟩
 |ctup h=>cases e;exact⟨_,_,rfl,.inr h.sqt,RDs.ints _⟩
 |scr h=>cases e;exact⟨_,_,rfl,.inl h.sql,RDs.ints _⟩
 |@ref a i h _=>
  simp only[wM]at e
  split at e
  . rename_i ws hw
    cases e
    obtain⟨b,xs,e1,e2,q⟩:=hr.obj i _ hw
    rw[h]at e1;cases e1
    exact⟨_,_,rfl,.inl (.of e2),q⟩
  . cases e
 |_=>cases e
mutual
theorem RD.reads{P:Program}{w:World}{h:Heap}(ok:L2.HOk P w H h):∀{v:Val} {x:L2.V} {u:Value},RD K mg ρ H v x→v.isR=true→L2.RelV x u→∃as,Reads h u v.d as∧(L2.xA v.d=false→sysModules ∉ as)
 |_,_,u,.none,_,r=>by cases (show u=Value.none from r);exact⟨[],.none,fun _=>by simp⟩
 |_,_,u,.bool b,_,r=>by cases (show u=Value.bool b from r);exact⟨[],.bool b,fun _=>by simp⟩
 |_,_,u,.int i,_,r=>by obtain⟨t,q⟩:=(show ∃t,u=Value.int i t from r);cases q;exact⟨[],.int i t,fun _=>by simp⟩
 |_,_,u,.str x,_,r=>by obtain⟨t,q⟩:=(show ∃t,u=Value.str x t from r);cases q;exact⟨[],.str x t,fun _=>by simp⟩
 |_,.ref a,u,.lst (xs:=xs) n ha rs,hv,r=>by
  cases (show u=Value.ref a from r)
  obtain⟨z,its,n,rv,e⟩:=(show L2.zl P w H h a (.lst xs) from ok a _ ha)
  obtain⟨as,q,_⟩:=RDs.reads ok rs (by simpa only[Val.isR] using hv) rv
  exact⟨a::as,.list e rfl rfl (by simpa using q),fun z=>by simp[Val.d,L2.xA]at z⟩
 |_,.ref a,u,.tup (xs:=xs) n ha rs,hv,r=>by
  cases (show u=Value.ref a from r)
  obtain⟨z,its,rv,o,e,c,n,dd⟩:=(show L2.zl P w H h a (.tup xs) from ok a _ ha)
  obtain⟨as,q,q2⟩:=RDs.reads ok rs (by simpa only[Val.isR] using hv) rv
  exact⟨as,.tuple e c dd.1 (by simpa using q),fun z=>q2 (by simpa [Val.d,L2.xA] using z)⟩
 |_,.ref a,u,.dct0 n ha,_,r=>by
  cases (show u=Value.ref a from r)
  obtain⟨z,y,vs,rv,o,es,ep,e,c,dd,k⟩:=(show L2.zl P w H h a (.dK []) from ok a _ ha)
  cases rv
  have hes:es=#[]:=by
   have h2:=k.2.1
   cases hl:es.toList with
   |nil=>simpa using hl
   |cons a r=>rw[hl]at h2;cases h2
  subst hes
  refine⟨[a]++[],Reads.dict (as:=[]) (bs:=[]) e c.1 dd .nil .nil,fun _=>?_⟩
  have:a≠sysModules:=by simpa using y
  simpa using Ne.symm this
 |_,_,_,.ctup _,hv,_=>by cases hv
 |_,_,_,.scr _,hv,_=>by cases hv
 |_,_,_,.ref _ _,hv,_=>by cases hv
 |_,_,_,.dref _ _,hv,_=>by cases hv
 |_,_,_,.fn _,hv,_=>by cases hv
 |_,_,_,.ty _,hv,_=>by cases hv
theorem RDs.reads{P:Program}{w:World}{h:Heap}(ok:L2.HOk P w H h):∀{vs:List Val} {xs:List L2.V} {us:List Value},RDs K mg ρ H vs xs→tF vs=true→L2.Vals xs us→∃as,ReadsAll h us (ds vs) as∧(L2.xH (ds vs)=false→sysModules ∉ as)
 |_,_,_,.nil,_,r=>by cases r;exact⟨[],.nil,fun _=>by simp⟩
 |_,_,_,.cons r rs,hv,q=>by
  cases q with
  |cons q1 q2=>
   rw[tF,Bool.and_eq_true]at hv
   obtain⟨as,h1,h2⟩:=RD.reads ok r hv.1 q1
   obtain⟨bs,h3,h4⟩:=RDs.reads ok rs hv.2 q2
   refine⟨as++bs,.cons h1 h3,fun z=>?_⟩
   rw[ds,L2.xH,Bool.or_eq_false_iff]at z
   intro hm
   rcases List.mem_append.mp hm with hm|hm
   . exact h2 z.1 hm
   . exact h4 z.2 hm
end
theorem vz{P:Program}{w:World}{h:Heap}(ok:L2.HOk P w H h)(hr:HR K mg ρ s H){v:Val}{x:L2.V}{u:Value}(hv:(yX s v).isR=true)(r:RD K mg ρ H v x)(ru:L2.RelV x u) :
 ∃as,Reads h u (yX s v).d as∧(L2.xA (yX s v).d=false→sysModules ∉ as):=by
 cases v with
 |ref i=>
  cases r with
  |@ref a _ e0=>
  simp only[yX]at hv ⊢
  split at hv
  . rename_i ws hw
    obtain⟨b,xs,e1,e2,q⟩:=hr.obj i _ hw
    rw[e0]at e1;cases e1
    cases (show u=Value.ref a from ru)
    obtain⟨z,its,n,rv,e⟩:=(show L2.zl P w H h a (.lst xs) from ok a _ e2)
    obtain⟨as,q,_⟩:=RDs.reads ok q (by simpa only[Val.isR] using hv) rv
    exact⟨a::as,.list e rfl rfl (by simpa using q),fun z=>by simp[Val.d,L2.xA]at z⟩
  . cases hv
 |_=>exact RD.reads ok r hv ru
theorem RDs.i7{P:Program}{w:World}{h:Heap}(ok:L2.HOk P w H h)(hr:HR K mg ρ s H):∀{vs:List Val} {xs:List L2.V} {us:List Value},RDs K mg ρ H vs xs→tF (vs.map (yX s))=true→L2.Vals xs us→∃as,ReadsAll h us (ds (vs.map (yX s))) as∧(L2.xH (ds (vs.map (yX s)))=false→sysModules ∉ as)
 |_,_,_,.nil,_,r=>by cases r;exact⟨[],.nil,fun _=>by simp⟩
 |_,_,_,.cons r rs,hv,q=>by
  cases q with
  |cons q1 q2=>
   rw[List.map_cons,tF,Bool.and_eq_true]at hv
   obtain⟨as,h1,h2⟩:=vz ok hr hv.1 r q1
   obtain⟨bs,h3,h4⟩:=RDs.i7 ok hr rs hv.2 q2
   rw[List.map_cons]
   refine⟨as++bs,.cons h1 h3,fun z=>?_⟩
   rw[ds,L2.xH,Bool.or_eq_false_iff]at z
   intro hm
   rcases List.mem_append.mp hm with hm|hm
   . exact h2 z.1 hm
   . exact h4 z.2 hm
theorem jG{v:Val}(h:∀vs,v≠.tup vs):zq s v=yX s v:=by
 cases v<;>first|rfl|exact absurd rfl (h _)
theorem xR{P:Program}{w:World}{h:Heap}(ok:L2.HOk P w H h)(hr:HR K mg ρ s H){v:Val}{x:L2.V}{u:Value}(hv:(zq s v).isR=true)(r:RD K mg ρ H v x)(ru:L2.RelV x u) :
 ∃as,Reads h u (zq s v).d as∧(L2.xA (zq s v).d=false→sysModules ∉ as):=by
 cases v with
 |tup vs=>
  cases r with
  |@tup a _ xs n ha rs=>
   cases (show u=Value.ref a from ru)
   obtain⟨z,its,rv,o,e,c,n,dd⟩:=(show L2.zl P w H h a (.tup xs) from ok a _ ha)
   obtain⟨as,q,q2⟩:=RDs.i7 ok hr rs (by simpa only[zq,Val.isR] using hv) rv
   exact⟨as,.tuple e c dd.1 (by simpa using q),fun z=>q2 (by simpa [zq,Val.d,L2.xA] using z)⟩
 |_=>exact(show _ from by rw[jG (fun _ h=>by cases h)]at hv ⊢;exact vz ok hr hv r ru)
mutual
theorem yx:∀{v:Val},v.isD=true→v.isR=true
 |.none,_=>rfl
 |.bool _,_=>rfl
 |.int _,_=>rfl
 |.str _,_=>rfl
 |.tup vs,h=>by rw[Val.isR];exact wW (by simpa only[Val.isD] using h)
 |.lst vs,h=>by rw[Val.isR];exact wW (by simpa only[Val.isD] using h)
 |.dct0,h=>by cases h
 |.ctup _,h=>by cases h
 |.scr _,h=>by cases h
 |.ref _,h=>by cases h
 |.fn _,h=>by cases h
 |.ty _,h=>by cases h
theorem wW:∀{vs:List Val},vT vs=true→tF vs=true
 |[],_=>rfl
 |v::vs,h=>by
  rw[vT,Bool.and_eq_true]at h
  rw[tF,yx h.1,wW h.2];rfl
end
mutual
theorem yF:∀{v:Val},v.isD=true→v.d.canLay0=true
 |.none,_=>rfl
 |.bool _,_=>rfl
 |.int _,_=>rfl
 |.str _,h=>by simpa only[Val.isD,Val.d,PyData.canLay0] using h
 |.tup vs,h=>by rw[Val.d,PyData.canLay0];exact xU (by simpa only[Val.isD] using h)
 |.lst vs,h=>by rw[Val.d,PyData.canLay0];exact xU (by simpa only[Val.isD] using h)
 |.dct0,h=>by cases h
 |.ctup _,h=>by cases h
 |.scr _,h=>by cases h
 |.ref _,h=>by cases h
 |.fn _,h=>by cases h
 |.ty _,h=>by cases h
theorem xU:∀{vs:List Val},vT vs=true→PyData.canLayAll0 (ds vs)=true
 |[],_=>rfl
 |v::vs,h=>by
  rw[vT,Bool.and_eq_true]at h
  rw[ds,PyData.canLayAll0,yF h.1,xU h.2];rfl
end
theorem uB(hr:HR K mg ρ s H){m:Bool}{vs:List Val}{xs:List L2.V}(r:RDs K mg ρ H vs xs){Q:L2.VK}(w:yW K mg (RD K mg) ρ H (newList m vs s) Q):∀p,H p=none→Q (.ref p) (L2.upd H p (.lst xs)):=fun p hp=>by
 cases m with
 |true=>exact w _ _ _ (Ext.own hr hp _) (hr.own hp r) (.ref (tU hr p) (by rw[L2.zc];rfl))
 |false=>exact w _ _ _ (Ext.new hr hp _) (hr.more hp _) (.lst (hr.new hp) L2.zc (r.mono (Ext.new hr hp _)))
theorem mY(hr:HR K mg ρ s H){vs:List Val}{xs:List L2.V}(r:RDs K mg ρ H vs xs){Q:L2.VK}(w:yW K mg (RD K mg) ρ H (.ok (.tup vs) s) Q):∀p,H p=none→Q (.ref p) (L2.upd H p (.tup xs)):=fun p hp=>
 w _ _ _ (Ext.new hr hp _) (hr.more hp _) (.tup (hr.new hp) L2.zc (r.mono (Ext.new hr hp _)))
theorem Ext.same(hr:HR K mg ρ s H)(e:L2.uU H H'):Ext ρ H ρ H':=⟨⟨[],by simp,fun a ha=>by cases ha⟩,rfl,fun a o h _=>e a o h,fun a ha=>by
 obtain⟨o,q⟩:=hr.trk ha
 rw[q,e a o q]⟩
theorem HR.same(hr:HR K mg ρ s H)(e:L2.uU H H'):HR K mg ρ s H':=⟨hr.len,hr.nd,fun i c q=>by
 obtain⟨a,e1,r⟩:=hr.cel i c q
 obtain⟨o,e2⟩:=r.there
 exact⟨a,e1,r.mv (Ext.same hr e).mv ((e a _ e2).trans e2.symm)⟩,fun a ha=>by
 obtain⟨⟨ys,q⟩,n⟩:=hr.hid a ha
 exact⟨⟨ys,e a _ q⟩,n⟩⟩
theorem w5(hr:HR K mg ρ s H){vs:List Val}{xs:List L2.V}(r:RDs K mg ρ H vs xs){Q:L2.VK}(w:yW K mg (RD K mg) ρ H (.ok (.tup vs) s) Q):L2.ur H xs Q:=fun p H' e h=>by
 have hr':=hr.same e
 refine w _ _ _ (Ext.same hr e) hr' (.tup ⟨fun hm=>?_,fun hm=>?_⟩ h (r.mono (Ext.same hr e)))
 . obtain⟨i,hi,q⟩:=List.getElem_of_mem hm
   have hs:i<s.length:=by rw[←hr'.len];exact hi
   obtain⟨b,e1,e2⟩:=hr'.cel i _ (List.getElem?_eq_getElem hs)
   rw[List.getElem?_eq_getElem hi,q]at e1
   cases e1
   have:=e2.hk
   rw[h]at this
   exact absurd this (Nat.lt_irrefl 0)
 . obtain⟨⟨ys,q⟩,_⟩:=hr'.hid _ hm
   rw[h]at q;cases q
end
section
variable (K:KF)(mg:Str→Option Value)
noncomputable def rM2(g:Val→Val→Sto→Out Val):L2.R2:=fun x y H Q=>∃ρ s v w,HR K mg ρ s H∧RD K mg ρ H v x∧RD K mg ρ H w y∧yW K mg (RD K mg) ρ H (g v w s) Q
noncomputable def rMc(g:List Val→Sto→Out Val):List L2.V→L2.Hp→L2.VK→Prop:=fun xs H Q=>∃ρ s vs,HR K mg ρ s H∧RDs K mg ρ H vs xs∧yW K mg (RD K mg) ρ H (g vs s) Q
end
section
variable {X:L2.Cx}{k:Nat}
theorem zL{K:KF}{mg:Str→Option Value}{ρ:Own}{H:L2.Hp}{s:Sto}(hr:HR K mg ρ s H){v:Val}{x:L2.V}(r:RD K mg ρ H v x){Q:L2.VK}(w:yW K mg (RD K mg) ρ H (.ok v s) Q):Q x H:=w _ _ _ Ext.refl hr r
theorem oz(m:Bool):L2.OpR X (binaryOp .Add) (rM2 X.K X.mg (binOp m .add)):=by
 intro pins s σ H x y v u Q I rx ry h
 obtain⟨ρ,t,a,b,hr,ra,rb,w⟩:=h
 simp only[binOp]at w
 split at w
 . cases ra;cases rb
   exact L2.aG pins s σ H _ _ v u Q I rx ry ⟨_,_,rfl,rfl,zL hr (.int _) w⟩
 . split at w
   . rename_i hz
     cases ra;cases rb
     exact L2.oy pins s σ H _ _ v u Q I rx ry ⟨_,_,rfl,rfl,by rw[←yC];exact hz,zL hr (.str _) w⟩
   . exact w.elim
 . split at w
   . rename_i hz
     cases ra with
     |tup n1 h1 q1=>
      cases rb with
      |tup n2 h2 q2=>
       refine L2.iE pins s σ H _ _ v u Q I rx ry ⟨_,_,_,_,rfl,rfl,h1,h2,?_,w5 hr (q1.append q2) w⟩
       rw[←q1.length,←q2.length,←yC];exact hz
   . exact w.elim
 . split at w
   . rename_i ea eb
     split at w
     . rename_i hz
       obtain⟨p1,xs,rfl,h1,q1⟩:=xI hr ra ea
       obtain⟨p2,ys,rfl,h2,q2⟩:=xI hr rb eb
       refine L2.aI pins s σ H _ _ v u Q I rx ry ⟨_,_,_,_,rfl,rfl,h1,h2,?_,uB hr (q1.append q2) w⟩
       rw[←q1.length,←q2.length,←yC];exact hz
     . exact w.elim
   . exact w.elim
theorem nD(m:Bool):L2.OpR X (binaryOp .Sub) (rM2 X.K X.mg (binOp m .sub)):=by
 intro pins s σ H x y v u Q I rx ry h
 obtain⟨ρ,t,a,b,hr,ra,rb,w⟩:=h
 simp only[binOp]at w
 split at w
 . cases ra;cases rb
   exact L2.aN pins s σ H _ _ v u Q I rx ry ⟨_,_,rfl,rfl,zL hr (.int _) w⟩
 . exact w.elim
theorem nB(m:Bool):L2.OpR X (binaryOp .Mult) (rM2 X.K X.mg (binOp m .mul)):=by
 intro pins s σ H x y v u Q I rx ry h
 obtain⟨ρ,t,a,b,hr,ra,rb,w⟩:=h
 simp only[binOp]at w
 split at w
 . split at w
   . rename_i hz
     cases ra;cases rb
     exact L2.aK pins s σ H _ _ v u Q I rx ry ⟨_,_,rfl,rfl,hz,zL hr (.int _) w⟩
   . exact w.elim
 . split at w
   . rename_i hz
     obtain⟨z1,z2,z3,z4⟩:=hz
     cases ra with
     |tup n1 h1 q1=>
      cases rb
      refine L2.fq pins s σ H _ _ v u Q I rx ry ⟨_,_,_,rfl,rfl,h1,z1,z2,?_,?_,w5 hr (q1.rep _) w⟩
      . intro e;subst e;cases q1;exact z3 rfl
      . rw[←q1.length];exact z4
   . exact w.elim
 . split at w
   . rename_i ea
     split at w
     . rename_i hz
       obtain⟨z1,z2,z3⟩:=hz
       obtain⟨p1,xs,rfl,h1,q1⟩:=xI hr ra ea
       cases rb
       refine L2.aM pins s σ H _ _ v u Q I rx ry ⟨_,_,_,rfl,rfl,h1,by omega,by omega,?_,uB hr (q1.rep _) w⟩
       rw[←q1.length,←yC];exact z3
     . exact w.elim
   . exact w.elim
 . exact w.elim
theorem pY(m:Bool):L2.OpR X (binaryOp .FloorDiv) (rM2 X.K X.mg (binOp m .fdiv)):=by
 intro pins s σ H x y v u Q I rx ry h
 obtain⟨ρ,t,a,b,hr,ra,rb,w⟩:=h
 simp only[binOp]at w
 split at w
 . split at w
   . rename_i hz
     cases ra;cases rb
     exact L2.fm pins s σ H _ _ v u Q I rx ry ⟨_,_,rfl,rfl,hz,zL hr (.int _) w⟩
   . exact w.elim
 . exact w.elim
theorem nA(m:Bool):L2.OpR X (binaryOp .Mod) (rM2 X.K X.mg (binOp m .mod)):=by
 intro pins s σ H x y v u Q I rx ry h
 obtain⟨ρ,t,a,b,hr,ra,rb,w⟩:=h
 simp only[binOp]at w
 split at w
 . split at w
   . rename_i hz
     cases ra;cases rb
     exact L2.aJ pins s σ H _ _ v u Q I rx ry ⟨_,_,rfl,rfl,hz,zL hr (.int _) w⟩
   . exact w.elim
 . exact w.elim
theorem nC(m:Bool):L2.OpR X (binaryOp .Pow) (rM2 X.K X.mg (binOp m .pow)):=by
 intro pins s σ H x y v u Q I rx ry h
 obtain⟨ρ,t,a,b,hr,ra,rb,w⟩:=h
 simp only[binOp]at w
 split at w
 . split at w
   . rename_i hz
     cases ra;cases rb
     exact L2.aL pins s σ H _ _ v u Q I rx ry ⟨_,_,rfl,rfl,hz,zL hr (.int _) w⟩
   . exact w.elim
 . exact w.elim
end
end M
end
section
namespace L2
open PySem PyProof PyProof.Rows
section
variable {κ:Type} [DecidableEq κ]
noncomputable def um(kvs:List (κ × V))(k:κ):Option V:=(kvs.find? fun kv=>decide (kv.1=k)).map (·.2)
noncomputable def putK(kvs:List (κ × V))(k:κ)(v:V):List (κ × V):=
 if (kvs.any fun kv=>decide (kv.1=k))=true then kvs.map (fun kv=>if kv.1=k then (kv.1,v) else kv) else kvs++[(k,v)]
theorem uP{p:κ × V}{r:List (κ × V)}{k:κ}(e:p.1=k):um (p::r) k=some p.2:=by simp[um,List.find?_cons,e]
theorem uO{p:κ × V}{r:List (κ × V)}{k:κ}(e:¬p.1=k):um (p::r) k=um r k:=by simp[um,List.find?_cons,e]
theorem sm(k:κ):∀kvs:List (κ × V),(kvs.any fun kv=>decide (kv.1=k))=(um kvs k).isSome
 |[]=>rfl
 |p::r=>by
  rw[List.any_cons]
  by_cases e:p.1=k
  . simp only[uP e,decide_eq_true e,Bool.true_or,Option.isSome_some]
  . rw[uO e,decide_eq_false e,Bool.false_or];exact sm k r
theorem uw(kvs:List (κ × V))(k:κ)(v:V):(putK kvs k v).length≤kvs.length+1:=by
 unfold putK
 split
 . rw[List.length_map];omega
 . rw[List.length_append,List.length_cons,List.length_nil];omega
theorem tZ.wJ{o:Option V}{u:Option Value}(r:tZ o u):o.isSome=u.isSome:=by
 cases o with
 |none=>cases u with
  |none=>rfl
  |some _=>exact(show False from r).elim
 |some _=>cases u with
  |none=>exact(show False from r).elim
  |some _=>rfl
theorem KV.val{kvs:List (κ × V)}{vs:List (κ × Value)}(r:KV kvs vs)(k:κ):tZ (um kvs k) (valueAt vs k):=by
 unfold KV at r
 induction r with
 |nil=>exact True.intro
 |@cons p q ps qs h t ih=>
  obtain⟨h1,h2⟩:=h
  by_cases e:p.1=k
  . have e':q.1=k:=h1.symm.trans e
    have b:valueAt (q::qs) k=some q.2:=by simp[valueAt,List.find?_cons,e']
    rw[uP e,b];exact h2
  . have e':¬q.1=k:=fun z=>e (h1.trans z)
    have b:valueAt (q::qs) k=valueAt qs k:=by simp[valueAt,List.find?_cons,e']
    rw[uO e,b];exact ih
theorem KV.any{kvs:List (κ × V)}{vs:List (κ × Value)}(r:KV kvs vs)(k:κ):(kvs.any fun kv=>decide (kv.1=k))=vs.any fun kv=>decide (kv.1=k):=by
 unfold KV at r
 induction r with
 |nil=>rfl
 |cons h t ih=>rw[List.any_cons,List.any_cons,ih,h.1]
theorem KV.az{kvs:List (κ × V)}{vs:List (κ × Value)}(r:KV kvs vs)(k:κ){y:V}{u:Value}(ry:RelV y u) :
 KV (kvs.map fun kv=>if kv.1=k then (kv.1,y) else kv) (vs.map fun kv=>if kv.1=k then (kv.1,u) else kv):=by
 unfold KV at r ⊢
 induction r with
 |nil=>exact .nil
 |@cons p q ps qs h t ih=>
  rw[List.map_cons,List.map_cons]
  refine .cons ?_ ih
  obtain⟨h1,h2⟩:=h
  by_cases e:p.1=k
  . rw[if_pos e,if_pos (h1.symm.trans e)];exact⟨h1,ry⟩
  . rw[if_neg e,if_neg (fun z=>e (h1.trans z))];exact⟨h1,h2⟩
theorem KV.put{kvs:List (κ × V)}{vs:List (κ × Value)}(r:KV kvs vs)(k:κ){y:V}{u:Value}(ry:RelV y u):KV (putK kvs k y) (stored vs k u):=by
 unfold putK stored
 rw[r.any k]
 by_cases e:(vs.any fun kv=>decide (kv.1=k))=true
 . rw[if_pos e,if_pos e];exact r.az k ry
 . rw[if_neg e,if_neg e];exact Paired.snoc r ⟨rfl,ry⟩
theorem KV.length{kvs:List (κ × V)}{vs:List (κ × Value)}(r:KV kvs vs):kvs.length=vs.length:=Paired.length r
end
theorem pK{P:Program}{w:World}{k:Key}{u:Value}(r:RelV (kV k) u):(ya P w).is k u=true:=by
 cases k with
 |inl i=>obtain⟨t,e⟩:=(show ∃t,u=Value.int i t from r);subst e;exact pS P w i t
 |inr x=>obtain⟨t,e⟩:=(show ∃t,u=Value.str x t from r);subst e;exact pT P w x t
theorem rY{P:Program}{w:World}:∀{ks:List Key} {us:List Value},Vals (ks.map kV) us→ItemsAre (ya P w) ks us
 |[],_,r=>by rw[List.map_nil]at r;cases r;exact .nil
 |k::ks,_,r=>by
  rw[List.map_cons]at r
  cases r with
  |cons h t=>exact .cons (pK h) (rY t)
noncomputable abbrev KT(H:Hp):List (List Key × V)→List (List Key × Addr × Value)→Prop:=Paired fun p q=>p.1=q.1∧H q.2.1=some (.tup (p.1.map kV))∧RelV p.2 q.2.2
theorem KT.val{H:Hp}{kvs:List (List Key × V)}{xs:List (List Key × Addr × Value)}(r:KT H kvs xs)(k:List Key):tZ (um kvs k) ((atKey xs k).map (·.2)):=by
 induction r with
 |nil=>exact True.intro
 |@cons p q ps qs h t ih=>
  obtain⟨h1,_,h2⟩:=h
  by_cases e:p.1=k
  . have e':q.1=k:=h1.symm.trans e
    have b:atKey (q::qs) k=some q.2:=by simp[atKey,List.find?_cons,e']
    rw[uP e,b];exact h2
  . have e':¬q.1=k:=fun z=>e (h1.trans z)
    have b:atKey (q::qs) k=atKey qs k:=by simp[atKey,List.find?_cons,e']
    rw[uO e,b];exact ih
theorem KT.az{H:Hp}{kvs:List (List Key × V)}{xs:List (List Key × Addr × Value)}(r:KT H kvs xs)(k:List Key){y:V}{u:Value}(ry:RelV y u) :
 KT H (kvs.map fun kv=>if kv.1=k then (kv.1,y) else kv) (xs.map (putAt k u)):=by
 induction r with
 |nil=>exact .nil
 |@cons p q ps qs h t ih=>
  rw[List.map_cons,List.map_cons]
  refine .cons ?_ ih
  obtain⟨h1,h2,h3⟩:=h
  unfold putAt
  by_cases e:p.1=k
  . rw[if_pos e,if_pos (h1.symm.trans e)];exact⟨h1,h2,ry⟩
  . rw[if_neg e,if_neg (fun z=>e (h1.trans z))];exact⟨h1,h2,h3⟩
theorem KT.put{H:Hp}{kvs:List (List Key × V)}{xs:List (List Key × Addr × Value)}(r:KT H kvs xs)(k:List Key){b:Addr}{y:V}{u:Value}(hb:H b=some (.tup (k.map kV)))(ry:RelV y u) :
 KT H (putK kvs k y) (storedH xs k b u):=by
 have e:(kvs.any fun kv=>decide (kv.1=k))=(atKey xs k).isSome:=by
  rw[sm,(r.val k).wJ,Option.isSome_map]
 unfold putK storedH
 rw[e]
 by_cases q:(atKey xs k).isSome=true
 . rw[if_pos q,if_pos q];exact r.az k ry
 . rw[if_neg q,if_neg q];exact Paired.snoc r ⟨rfl,hb,ry⟩
theorem KT.keeps{H H':Hp}{kvs:List (List Key × V)}{xs:List (List Key × Addr × Value)}(r:KT H kvs xs)(ht:∀b ys,H b=some (.tup ys)→H' b=some (.tup ys)):KT H' kvs xs:=
 Paired.aA r fun _ _ z=>⟨z.1,ht _ _ z.2.1,z.2.2⟩
section
variable {P:Program}{w:World}{H:Hp}{h:Heap}{a:Addr}
theorem du{u:HO}(ok:HOk P w H h)(e:Rd H a u):zl P w H h a u:=e.ok ok
theorem pB{kvs:List (Key × V)}(ok:HOk P w H h)(e:Rd H a (.dK kvs)):kvs.length≤sizeLine∧(a == sysModules)=false∧∃vs,KV kvs vs∧h.DictOf (ya P w) a vs:=
 show zl P w H h a (.dK kvs) from du ok e
theorem Zf{kvs:List (Key × V)}(ok:HOk P w H h)(e:H a=some (.dK kvs)):kvs.length≤sizeLine∧(a == sysModules)=false∧∃vs,KV kvs vs∧h.DictOf (ya P w) a vs:=pB ok (.inl e)
theorem sJ{ks:List Key}(ok:HOk P w H h)(e:H a=some (.tup (ks.map kV))):(tupleKind (ya P w)).is h ks a:=by
 obtain⟨_,its,r,o,h1,h2,n,h3,_⟩:=(show zl P w H h a (.tup (ks.map kV)) from ok a _ e)
 exact⟨o,its.toArray,n,h1,h2,h3,by simpa using rY r⟩
theorem pD{kvs:List (List Key × V)}(ok:HOk P w H h)(e:Rd H a (.dT kvs)):kvs.length≤sizeLine∧(a == sysModules)=false ∧
 ∃xs,KT H kvs xs∧h.DictOfH (tupleKind (ya P w)) a xs:=by
 obtain⟨z,y,xs,r,o,es,ep,h1,h2,h3,h4,h5⟩:=(show zl P w H h a (.dT kvs) from du ok e)
 refine⟨z,y,xs,r,o,es,ep,h1,h2,h3,h4,fun x hx=>?_,h5⟩
 have all:∀{l:List (List Key × V)} {m:List (List Key × Addr × Value)},KT H l m→∀x∈m,(tupleKind (ya P w)).is h x.1 x.2.1:=by
  intro l m q
  induction q with
  |nil=>intro x hx;exact nomatch hx
  |@cons p q ps qs hq t ih=>
   intro x hx
   rcases List.mem_cons.mp hx with e|hx
   . subst e
     exact sJ ok (by rw[←hq.1];exact hq.2.1)
   . exact ih x hx
 exact all r x hx
theorem Zg{kvs:List (List Key × V)}(ok:HOk P w H h)(e:H a=some (.dT kvs)):kvs.length≤sizeLine∧(a == sysModules)=false ∧
 ∃xs,KT H kvs xs∧h.DictOfH (tupleKind (ya P w)) a xs:=pD ok (.inl e)
end
def u6(H:Hp)(a:Addr)(y:V)(r:Option V):Prop:=
 (∃kvs k,Rd H a (.dK kvs)∧y=kV k∧r=um kvs k)∨∃kvs k b,Rd H a (.dT kvs)∧y=.ref b∧H b=some (.tup (k.map kV))∧r=um kvs k
def qH(H:Hp)(a:Addr)(y v:V)(H':Hp):Prop:=
 (∃kvs k,H a=some (.dK kvs)∧y=kV k∧kvs.length<sizeLine∧H'=upd H a (.dK (putK kvs k v))) ∨
 ∃kvs k b,H a=some (.dT kvs)∧y=.ref b∧H b=some (.tup (k.map kV))∧kvs.length<sizeLine∧H'=upd H a (.dT (putK kvs k v))
theorem u6.k{H:Hp}{a:Addr}{kvs:List (Key × V)}{k:Key}(e:H a=some (.dK kvs)):u6 H a (kV k) (um kvs k):=.inl ⟨kvs,k,.inl e,rfl,rfl⟩
theorem u6.t{H:Hp}{a b:Addr}{kvs:List (List Key × V)}{k:List Key}(e:H a=some (.dT kvs))(eb:H b=some (.tup (k.map kV))):u6 H a (.ref b) (um kvs k):=.inr ⟨kvs,k,b,.inl e,rfl,eb,rfl⟩
theorem qH.k{H:Hp}{a:Addr}{kvs:List (Key × V)}{k:Key}{v:V}(e:H a=some (.dK kvs))(hl:kvs.length<sizeLine):qH H a (kV k) v (upd H a (.dK (putK kvs k v))):=.inl ⟨kvs,k,e,rfl,hl,rfl⟩
theorem qH.t{H:Hp}{a b:Addr}{kvs:List (List Key × V)}{k:List Key}{v:V}(e:H a=some (.dT kvs))(eb:H b=some (.tup (k.map kV)))(hl:kvs.length<sizeLine) :
 qH H a (.ref b) v (upd H a (.dT (putK kvs k v))):=.inr ⟨kvs,k,b,e,rfl,eb,hl,rfl⟩
section
variable {X:Cx}{pins:List (Addr × Obj)}{σ:St}{H:Hp}{s:Shared}{a:Addr}{y v:V}{u r:Value}{o:Option V}{A:Around}{E:Value→Shared→Prop}
theorem Inv.big(I:Inv X pins σ H s):sysModules<s.heap.objs.size:=by
 have h:mainGlobals<s.heap.objs.size:=(I.mod.glob.keeps I.bk).lt
 exact Nat.lt_trans (by decide) h
theorem lG{Q:Value→Shared→Prop}(hu:A.units+1<cLine)(I:Inv X pins σ H s)(g:u6 H a y (some v))(ry:RelV y u)(h:∀w' s',Inv X pins σ H s'→RelV v w'→Q w' s') :
 wpAny (model X.prog X.w) A (getItem (.ref a) u) Q E s:=by
 rcases g with⟨kvs,k,e,ey,l⟩|⟨kvs,k,b,e,ey,eb,l⟩
 . subst ey
   obtain⟨z,hd,vs,rel,dd⟩:=pB I.hok e
   obtain⟨w',hw,rw'⟩:=tZ.some_of (v:=v) (o:=valueAt vs k) (by rw[l];exact rel.val k)
   exact wpAny_getItem_of (pK ry) dd.mapOf hw (h w' _ (I.tok _) rw')
 . subst ey
   cases (show u=Value.ref b from ry)
   obtain⟨z,hd,xs,rel,dd⟩:=pD I.hok e
   obtain⟨w',hw,rw'⟩:=tZ.some_of (v:=v) (o:=(atKey xs k).map (·.2)) (by rw[l];exact rel.val k)
   obtain⟨p,hp,hp2⟩:=Option.map_eq_some_iff.mp hw
   refine wpAny_getItem_heap (tupleKind_room_in1 hu) (sJ I.hok eb) dd hp ?_
   rw[hp2]
   exact h w' _ (I.tok _) rw'
theorem XQ{Q:Value→Shared→Prop}(hu:A.units+1<cLine)(I:Inv X pins σ H s)(g:u6 H a y o)(ry:RelV y u)(h:∀s',Inv X pins σ H s'→Q (.bool o.isSome) s') :
 wpAny (model X.prog X.w) A (compareOp .In u (.ref a)) Q E s:=by
 rcases g with⟨kvs,k,e,ey,l⟩|⟨kvs,k,b,e,ey,eb,l⟩
 . subst ey
   obtain⟨z,hd,vs,rel,dd⟩:=pB I.hok e
   refine wpAny_in_of (pK ry) hd dd.mapOf ?_
   rw[←(rel.val k).wJ,←l]
   exact h _ (I.tok _)
 . subst ey
   cases (show u=Value.ref b from ry)
   obtain⟨z,hd,xs,rel,dd⟩:=pD I.hok e
   refine wpAny_in_heap (tupleKind_room_in1 hu) (sJ I.hok eb) hd dd ?_
   have q:=(rel.val k).wJ
   rw[Option.isSome_map]at q
   rw[←q,←l]
   exact h _ (I.tok _)
theorem gy{Q:Value→Shared→Prop}(hu:A.units+1<cLine)(I:Inv X pins σ H s)(g:u6 H a y o)(ry:RelV y u)(h:∀s',Inv X pins σ H s'→Q (.bool (!o.isSome)) s') :
 wpAny (model X.prog X.w) A (compareOp .NotIn u (.ref a)) Q E s:=by
 rcases g with⟨kvs,k,e,ey,l⟩|⟨kvs,k,b,e,ey,eb,l⟩
 . subst ey
   obtain⟨z,hd,vs,rel,dd⟩:=pB I.hok e
   refine wpAny_notIn_of (pK ry) hd dd.mapOf ?_
   rw[←(rel.val k).wJ,←l]
   exact h _ (I.tok _)
 . subst ey
   cases (show u=Value.ref b from ry)
   obtain⟨z,hd,xs,rel,dd⟩:=pD I.hok e
   refine wpAny_notIn_heap (tupleKind_room_in1 hu) (sJ I.hok eb) hd dd ?_
   have q:=(rel.val k).wJ
   rw[Option.isSome_map]at q
   rw[←q,←l]
   exact h _ (I.tok _)
theorem mM{h':Heap}{t':Nat}{ob:HO}(I:Inv X pins σ H s)(mu:Mut (H a))(hs:Heap.SameBut a s.heap h')(he:∃q,h'.get? a=some q)(new:zl X.prog X.w (upd H a ob) h' a ob) :
 Inv X pins σ (upd H a ob) {s with heap:=h',toks:=t'}:=
 I.write (x:=a) (e:=a) mu (.inl rfl) (fun b q hb z=>(hs.2 b hb).trans z) he new
theorem cm{P:Program}{w:World}{H':Hp}{h':Heap}{kvs:List (Key × V)}{vs:List (Key × Value)}(z:kvs.length≤sizeLine)(hd:(a == sysModules)=false)(rel:KV kvs vs)(dd:h'.DictOf (ya P w) a vs) :
 zl P w H' h' a (.dK kvs):=⟨z,hd,vs,rel,dd⟩
theorem lH{H':Hp}{Q:Unit→Shared→Prop}(hu:A.units+1<cLine)(I:Inv X pins σ H s)(g:qH H a y v H')(ry:RelV y u)(rv:RelV v r)(h:∀s',Inv X pins σ H' s'→Q () s') :
 wpAny (model X.prog X.w) A (setItem (.ref a) u r) Q E s:=by
 rcases g with⟨kvs,k,e,ey,l,eH⟩|⟨kvs,k,b,e,ey,eb,l,eH⟩
 . subst ey eH
   obtain⟨z,hd,vs,rel,dd⟩:=Zf I.hok e
   have hz:vs.length≤sizeLine:=by rw[←rel.length];exact z
   have hl:(putK kvs k v).length≤sizeLine:=by have:=uw kvs k v;omega
   refine wpAny_setItem_pairs (hsz:=hz) (pK ry) dd fun h' dd' hs=>h _ ?_
   have he:∃q,h'.get? a=some q:=let ⟨q,_,_,hq,_⟩:=dd';⟨q,hq⟩
   exact mM I (by rw[e];exact True.intro) hs he (cm hl hd (rel.put k rv) dd')
 . subst ey eH
   cases (show u=Value.ref b from ry)
   obtain⟨z,hd,xs,rel,dd⟩:=Zg I.hok e
   have hz:xs.length≤sizeLine:=by rw[←Paired.length rel];exact z
   have hl:(putK kvs k v).length≤sizeLine:=by have:=uw kvs k v;omega
   refine wpAny_setItem_heap (hsz:=hz) (tupleKind_room_in1 hu) (sJ I.hok eb) dd fun h' dd' hs=>h _ ?_
   obtain⟨q,es,ep,hq,h2,h3,h4,_,h5⟩:=dd'
   refine mM I (by rw[e];exact True.intro) hs ⟨q,hq⟩ ⟨hl,hd,_,(rel.put k eb rv).keeps fun c ys ec=>?_,q,es,ep,hq,h2,h3,h4,h5⟩
   rw[zQ (dh ec e (fun z=>nomatch z))]
   exact ec
end
def ZX(i:Expr):Prop:=∀ov iv,subscripted i false ov iv=operate [ov,iv] (getItem ov iv)
theorem ez{prog:Program}{w:World}{A:Around}{E:Value→Shared→Prop}{s:Shared}{env:Env}{value slice:Expr}{pos:Pos}{T id:String}{Q:Value→Shared→Prop}
 (hl:typeLookup (.type T) "__getitem__"=pure (some (.builtin id))) (hs:ZX slice)
 (h:wpAny (model prog w) A (eval value env) (fun o s₁=>wpAny (model prog w) A (eval slice env) (fun i s₂=>s₂.TypeIs o T∧wpAny (model prog w) A (getItem o i) Q E s₂) E s₁) E s) :
 wpAny (model prog w) A (eval (.Subscript value slice pos) env) Q E s:=by
 refine Subscript_ (wpAny_mono h (fun o s₁ h₁=>wpAny_mono h₁ (fun i s₂ h₂=>?_) fun _ _ x=>x) fun _ _ x=>x)
 obtain⟨hT,h₂⟩:=h₂
 unfold subscriptTail
 refine wpAny_bind ?_
 rw[getitemInPython_of_ne hT.not_modules]
 refine wpAny_bind (wpAny_specialOf hT hl ?_)
 have fin:wpAny (model prog w) A (subscripted slice false o i) (fun r s₃=>wpAny (model prog w) A (letTemporaryGo value o r >>= fun _=>pure r) Q E s₃) E s₂:=by
  rw[hs o i]
  exact wpAny_operating (wpAny_mono h₂ (fun r s₃ h₃=>wpAny_bind (wpAny_letTemporaryGo (wpAny_pure h₃))) fun _ _ x=>x)
 first
  |exact wpAny_pure (wpAny_bind fin)
  |exact wpAny_bind (wpAny_pure (wpAny_bind fin))
  |exact wpAny_bind fin
theorem pA{X:Cx}{pins:List (Addr × Obj)}{σ:St}{H:Hp}{s:Shared}{a:Addr}{y:V}{o:Option V}(I:Inv X pins σ H s)(g:u6 H a y o):s.TypeIs (.ref a) "dict":=by
 rcases g with⟨kvs,k,e,_,_⟩|⟨kvs,k,b,e,_,_,_⟩
 . obtain⟨_,_,vs,_,dd⟩:=pB I.hok e
   exact dd.typeIs
 . obtain⟨_,_,xs,_,dd⟩:=pD I.hok e
   exact dd.typeIs
noncomputable def Y3(td ty:TE):TE:=fun σ H Q=>td σ H fun x H1=>ty σ H1 fun y H2=>∃a v,x=.ref a∧u6 H2 a y (some v)∧Q v H2
noncomputable def Yw(td ty tv:TE):TS:=fun D σ H=>tv σ H fun v H1=>td σ H1 fun x H2=>ty σ H2 fun y H3=>∃a H4,x=.ref a∧qH H3 a y v H4∧D.nx σ H4
section
variable {X:Cx}{o i e value:Expr}{pos pos' tpos:Pos}{td ty tv:TE}
theorem eD(hu:X.A.units+1<cLine)(ho:PE X o td)(hi:PE X i ty)(hs:ZX i):PE X (.Subscript o i pos) (Y3 td ty):=by
 intro pins s σ H Q I h
 refine ez PySem.F.slot_dict_getitem.lookup hs (thn (ho pins s σ H _ I h) fun u s1 ⟨x,H1,I1,rx,q1⟩=>thn (hi pins s1 σ H1 _ I1 q1) fun iv s2 ⟨y,H2,I2,ry,a,v,ex,g,q2⟩=>?_)
 subst ex
 obtain rfl:u=Value.ref a:=rx
 exact⟨pA I2 g,lG hu I2 g ry fun w' s3 I3 rw'=>⟨v,H2,I3,rw',q2⟩⟩
theorem eP(hu:X.A.units+1<cLine)(ho:PE X o td)(hi:PE X i ty)(hv:PE X value tv)(hs:swapsWith value (some (.Subscript o i pos')) pos.line X.env=pure false) :
 PS X (.Assign [.Subscript o i pos'] value pos) (Yw td ty tv):=by
 intro pins s σ H D I h
 refine wpAny_Assign_Subscript (thn (hv pins s σ H _ I h) fun r s1 ⟨v,H1,I1,rv,q1⟩=>thn (ho pins s1 σ H1 _ I1 q1) fun u s2 ⟨x,H2,I2,rx,q2⟩=>thn (hi pins s2 σ H2 _ I2 q2) fun iv s3 ⟨y,H3,I3,ry,a,H4,ex,g,q3⟩=>?_) hs
 subst ex
 obtain rfl:u=Value.ref a:=rx
 exact lH hu I3 g ry rv fun s4 I4=>⟨σ,H4,I4,q3⟩
end
theorem jJ{P:Program}{w:World}{H:Hp}(h:Heap)(hb:sysModules<h.objs.size):zl P w H (h.push {cls:=.type "dict",data:=.dict #[]}) h.objs.size (.dK []):=
 ⟨Nat.zero_le _,beq_eq_false_iff_ne.mpr (Ne.symm (Nat.ne_of_lt hb)),[],.nil,Heap.DictOf.new h⟩
theorem jK{P:Program}{w:World}{H:Hp}(h:Heap)(hb:sysModules<h.objs.size):zl P w H (h.push {cls:=.type "dict",data:=.dict #[]}) h.objs.size (.dT []):=
 ⟨Nat.zero_le _,beq_eq_false_iff_ne.mpr (Ne.symm (Nat.ne_of_lt hb)),[],.nil,_,#[],0,Heap.get?_push_size _ rfl,⟨rfl,rfl,rfl⟩,rfl,rfl,List.nodup_nil⟩
noncomputable def ZG:TE:=fun _ H Q=>∀p,H p=none→Q (.ref p) (upd H p (.dK []))
noncomputable def ZH:TE:=fun _ H Q=>∀p,H p=none→Q (.ref p) (upd H p (.dT []))
section
variable {X:Cx}{pos:Pos}
theorem iU:PE X (.Dict [] [] pos) ZG:=fun pins s σ H Q I h=>
 wpAny_Dict_empty ⟨.ref s.heap.objs.size,_,I.laid (a:=s.heap.objs.size) (o:=.dK []) (t':=s.toks) (fun _ _ q=>Heap.get?_push_of_some _ q) (Nat.le_refl _) (jJ s.heap I.big),rfl,h _ (I.hok.fresh (Nat.le_refl _))⟩
theorem iV:PE X (.Dict [] [] pos) ZH:=fun pins s σ H Q I h=>
 wpAny_Dict_empty ⟨.ref s.heap.objs.size,_,I.laid (a:=s.heap.objs.size) (o:=.dT []) (t':=s.toks) (fun _ _ q=>Heap.get?_push_of_some _ q) (Nat.le_refl _) (jK s.heap I.big),rfl,h _ (I.hok.fresh (Nat.le_refl _))⟩
end
end L2
end
section
namespace M
open PySem
section
variable {K:KF}{mg:Str→Option Value}{ρ:Own}{H:L2.Hp}{s:Sto}
noncomputable def RO(K:KF)(mg:Str→Option Value)(ρ:Own)(H:L2.Hp):Option Val→Option L2.V→Prop
 |none,none=>True
 |some v,some x=>RD K mg ρ H v x
 |_,_=>False
theorem RO.isSome{o:Option Val}{o':Option L2.V}(h:RO K mg ρ H o o'):o'.isSome=o.isSome:=by
 cases o with
 |none=>cases o' with|none=>rfl|some _=>exact h.elim
 |some v=>cases o' with|none=>exact h.elim|some _=>rfl
theorem v3{κ κ':Type} [DecidableEq κ] [DecidableEq κ'] {f:κ→κ'}(inj:∀a b,f a=f b→a=b)(k:κ):∀{kvs:List (κ × Val)} {kxs:List (κ' × L2.V)},kxs.map (·.1)=kvs.map (fun p=>f p.1)→RDs K mg ρ H (kvs.map (·.2)) (kxs.map (·.2))→RO K mg ρ H (yw kvs k) (L2.um kxs (f k))
 |[],[],_,_=>trivial
 |[],_::_,e,_=>by cases e
 |_::_,[],e,_=>by cases e
 |p::kvs,q::kxs,e,r=>by
  rw[List.map_cons,List.map_cons]at e r
  injection e with e1 e2
  cases r with
  |cons r1 r2=>
   show RO K mg ρ H (if p.1=k then some p.2 else yw kvs k) _
   by_cases h:p.1=k
   . rw[if_pos h,L2.uP (by rw[e1,h])];exact r1
   . rw[if_neg h,L2.uO (fun z=>h (inj _ _ (e1.symm.trans z)))]
     exact v3 inj k e2 r2
theorem p9{κ κ':Type} [DecidableEq κ] [DecidableEq κ'] {f:κ→κ'}(inj:∀a b,f a=f b→a=b)(k:κ){v:Val}{x:L2.V}(rv:RD K mg ρ H v x):∀{kvs:List (κ × Val)} {kxs:List (κ' × L2.V)},kxs.map (·.1)=kvs.map (fun p=>f p.1)→RDs K mg ρ H (kvs.map (·.2)) (kxs.map (·.2)) →
 (kxs.map fun kv=>if kv.1=f k then (kv.1,x) else kv).map (·.1)=(kvs.map fun p=>if p.1=k then (p.1,v) else p).map (fun p=>f p.1)∧RDs K mg ρ H ((kvs.map fun p=>if p.1=k then (p.1,v) else p).map (·.2)) ((kxs.map fun kv=>if kv.1=f k then (kv.1,x) else kv).map (·.2))
 |[],[],_,_=>⟨rfl,.nil⟩
 |[],_::_,e,_=>by cases e
 |_::_,[],e,_=>by cases e
 |p::kvs,q::kxs,e,r=>by
  rw[List.map_cons,List.map_cons]at e r
  injection e with e1 e2
  cases r with
  |cons r1 r2=>
   obtain⟨i1,i2⟩:=p9 inj k rv e2 r2
   simp only[List.map_cons]
   by_cases h:p.1=k
   . have h':q.1=f k:=by rw[e1,h]
     rw[if_pos h,if_pos h']
     exact⟨by rw[i1,e1],.cons rv i2⟩
   . have h':¬q.1=f k:=fun z=>h (inj _ _ (e1.symm.trans z))
     rw[if_neg h,if_neg h']
     exact⟨by rw[i1,e1],.cons r1 i2⟩
theorem pC{κ κ':Type} [DecidableEq κ] [DecidableEq κ'] {f:κ→κ'}(inj:∀a b,f a=f b→a=b)(k:κ){v:Val}{x:L2.V}(rv:RD K mg ρ H v x){kvs:List (κ × Val)}{kxs:List (κ' × L2.V)}(e:kxs.map (·.1)=kvs.map (fun p=>f p.1))(r:RDs K mg ρ H (kvs.map (·.2)) (kxs.map (·.2))) :
 (L2.putK kxs (f k) x).map (·.1)=(vi kvs k v).map (fun p=>f p.1)∧RDs K mg ρ H ((vi kvs k v).map (·.2)) ((L2.putK kxs (f k) x).map (·.2)):=by
 unfold L2.putK vi
 rw[L2.sm,(v3 inj k e r).isSome]
 by_cases h:(yw kvs k).isSome=true
 . rw[if_pos h,if_pos h];exact p9 inj k rv e r
 . rw[if_neg h,if_neg h]
   refine⟨by rw[List.map_append,List.map_append,e];rfl,?_⟩
   rw[List.map_append,List.map_append]
   exact r.append (.cons rv .nil)
theorem mV(a b:Str)(h:(Sum.inr a:L2.Key)=Sum.inr b):a=b:=by injection h
theorem sE:∀a b:List Int,a.map (Sum.inl:Int→L2.Key)=b.map Sum.inl→a=b
 |[],[],_=>rfl
 |[],_::_,h=>by cases h
 |_::_,[],h=>by cases h
 |x::xs,y::ys,h=>by
  rw[List.map_cons,List.map_cons]at h
  injection h with h1 h2
  injection h1 with h1
  rw[h1,sE xs ys h2]
theorem oY:∀{vs:List Val} {ns:List Int} {xs:List L2.V},intsOf vs=some ns→RDs K mg ρ H vs xs→xs=(ns.map Sum.inl).map L2.kV
 |[],_,_,h,.nil=>by cases h;rfl
 |v::vs,ns,_,h,.cons r rs=>by
  cases v with
  |int i=>
   simp only[intsOf,Option.map_eq_some_iff]at h
   obtain⟨ms,h1,rfl⟩:=h
   cases r
   rw[oY h1 rs];rfl
  |_=>cases h
theorem jD(hr:HR K mg ρ s H){d:Val}{xd:L2.V}{j:Nat}{c:Cel}(rd:RD K mg ρ H d xd)(e:mN s d=some (j,c)):∃a,xd=.ref a∧ρ.o[j]?=some a∧s[j]?=some c∧CR K mg ρ H a c:=by
 cases rd with
 |@dref a i h _=>
  simp only[mN,Option.map_eq_some_iff]at e
  obtain⟨c',h1,h2⟩:=e
  cases h2
  obtain⟨b,e1,e2⟩:=hr.cel _ _ h1
  rw[h]at e1;cases e1
  exact⟨_,rfl,h,h1,e2⟩
 |_=>cases e
theorem getD_at(hr:HR K mg ρ s H){d y:Val}{xd xy:L2.V}{o:Option Val}(rd:RD K mg ρ H d xd)(ry:RD K mg ρ H y xy)(e:getD d y s=some o):∃a o',xd=.ref a∧L2.u6 H a xy o'∧RO K mg ρ H o o':=by
 unfold getD at e
 obtain⟨⟨j,c⟩,e1,e2⟩:=Option.bind_eq_some_iff.mp e
 obtain⟨a,rfl,_,_,cr⟩:=jD hr rd e1
 cases c with
 |lst vs=>cases e2
 |dS kvs=>
  cases ry with
  |str k=>
   cases e2
   obtain⟨kxs,h1,h2,h3⟩:=cr
   exact⟨a,_,rfl,L2.u6.k (k:=Sum.inr k) h1,v3 mV k h2 h3⟩
  |_=>cases e2
 |dT kvs=>
  cases ry with
  |tup n hb r=>
   obtain⟨ns,h4,h5⟩:=Option.map_eq_some_iff.mp e2
   subst h5
   rw[oY h4 r]at hb
   obtain⟨kxs,h1,h2,h3⟩:=cr
   exact⟨a,_,rfl,L2.u6.t h1 hb,v3 sE ns h2 h3⟩
  |_=>cases e2
theorem eV(hr:HR K mg ρ s H){d y v:Val}{xd xy xv:L2.V}{s':Sto}(rd:RD K mg ρ H d xd)(ry:RD K mg ρ H y xy)(rv:RD K mg ρ H v xv)(e:putD d y v s=some s'):∃a H',xd=.ref a∧L2.qH H a xy xv H'∧Ext ρ H ρ H'∧HR K mg ρ s' H':=by
 unfold putD at e
 obtain⟨⟨j,c⟩,e1,e2⟩:=Option.bind_eq_some_iff.mp e
 obtain⟨c',e3,e4⟩:=Option.map_eq_some_iff.mp e2
 subst e4
 obtain⟨a,rfl,ho,hs,cr⟩:=jD hr rd e1
 cases c with
 |lst vs=>cases e3
 |dS kvs=>
  cases ry with
  |str k=>
   simp only[ky]at e3
   split at e3
   . rename_i hl
     cases e3
     obtain⟨kxs,h1,h2,h3⟩:=cr
     have hz:kxs.length<sizeLine:=by
      have:=congrArg List.length h2
      rw[List.length_map,List.length_map]at this
      rw[this,←yC];exact hl
     obtain⟨q1,q2⟩:=pC (H:=H) mV k rv h2 h3
     have X:Ext ρ H ρ (L2.upd H a (.dK (L2.putK kxs (Sum.inr k) xv))):=Ext.vJ hr ho (by rw[h1];rfl)
     exact⟨a,_,rfl,L2.qH.k (k:=Sum.inr k) h1 hz,X,hr.vJ ho (by rw[h1];rfl) ⟨_,L2.zc,q1,q2.mono X⟩⟩
   . cases e3
  |_=>cases e3
 |dT kvs=>
  cases ry with
  |tup n hb r=>
   obtain⟨ns,h4,h5⟩:=Option.bind_eq_some_iff.mp e3
   split at h5
   . rename_i hl
     cases h5
     rw[oY h4 r]at hb
     obtain⟨kxs,h1,h2,h3⟩:=cr
     have hz:kxs.length<sizeLine:=by
      have:=congrArg List.length h2
      rw[List.length_map,List.length_map]at this
      rw[this,←yC];exact hl
     obtain⟨q1,q2⟩:=pC (H:=H) sE ns rv h2 h3
     have X:Ext ρ H ρ (L2.upd H a (.dT (L2.putK kxs (ns.map Sum.inl) xv))):=Ext.vJ hr ho (by rw[h1];rfl)
     exact⟨a,_,rfl,L2.qH.t h1 hb hz,X,hr.vJ ho (by rw[h1];rfl) ⟨_,L2.zc,q1,q2.mono X⟩⟩
   . cases h5
  |_=>cases e3
end
end M
end
section
namespace M
open PySem
section
variable {K:KF}{mg:Str→Option Value}{ρ ρ':Own}{H H':L2.Hp}{s s':Sto}
theorem RD.flat{v:Val}{x:L2.V}(r:RD K mg ρ H v x)(h:flat v=true):L2.xm x=true:=by
 cases r<;>first|rfl|cases h
theorem RD.eqF{v w:Val}{x y:L2.V}(r:RD K mg ρ H v x)(q:RD K mg ρ H w y)(h:M.flat v=true)(h':M.flat w=true):L2.eqV x y=M.eqF v w:=by
 cases r<;>first|(cases h;done)|(cases q<;>first|rfl|(cases h';done))
theorem RDs.flat:∀{vs:List Val} {xs:List L2.V},RDs K mg ρ H vs xs→vs.all flat=true→xs.all L2.xm=true
 |_,_,.nil,_=>rfl
 |_,_,.cons r rs,h=>by
  rw[List.all_cons,Bool.and_eq_true]at h
  rw[List.all_cons,r.flat h.1,rs.flat h.2];rfl
theorem RDs.any{w:Val}{y:L2.V}(q:RD K mg ρ H w y)(hw:M.flat w=true):∀{vs:List Val} {xs:List L2.V},RDs K mg ρ H vs xs→vs.all M.flat=true→(xs.any fun z=>L2.eqV z y)=vs.any fun z=>M.eqF z w
 |_,_,.nil,_=>rfl
 |_,_,.cons r rs,h=>by
  rw[List.all_cons,Bool.and_eq_true]at h
  rw[List.any_cons,List.any_cons,r.eqF q h.1 hw,RDs.any q hw rs h.2]
theorem RDs.countP{w:Val}{y:L2.V}(q:RD K mg ρ H w y)(hw:M.flat w=true):∀{vs:List Val} {xs:List L2.V},RDs K mg ρ H vs xs→vs.all M.flat=true→(xs.countP fun z=>L2.eqV z y)=vs.countP fun z=>M.eqF z w
 |_,_,.nil,_=>rfl
 |_,_,.cons r rs,h=>by
  rw[List.all_cons,Bool.and_eq_true]at h
  rw[List.countP_cons,List.countP_cons,r.eqF q h.1 hw,RDs.countP q hw rs h.2]
theorem RDs.bools:∀{vs:List Val} {xs:List L2.V} {bs:List Bool},RDs K mg ρ H vs xs→boolsOf vs=some bs→xs=bs.map L2.V.bl
 |_,_,_,.nil,h=>by cases h;rfl
 |_,_,_,.cons r rs,h=>by
  cases r with
  |bool b=>
   simp only[boolsOf,Option.map_eq_some_iff]at h
   obtain⟨bs',h1,h2⟩:=h
   subst h2
   rw[rs.bools h1];rfl
  |_=>cases h
theorem RDs.jW:∀{vs:List Val} {xs:List L2.V} {ns:List Int},RDs K mg ρ H vs xs→intsOf vs=some ns→xs=ns.map L2.V.int
 |_,_,_,.nil,h=>by cases h;rfl
 |_,_,_,.cons r rs,h=>by
  cases r with
  |int b=>
   simp only[intsOf,Option.map_eq_some_iff]at h
   obtain⟨bs',h1,h2⟩:=h
   subst h2
   rw[rs.jW h1];rfl
  |_=>cases h
theorem gm{vs:List Val}{xs:List L2.V}{i:Int}{v:Val}(r:RDs K mg ρ H vs xs)(h:L2.atI vs i=some v):∃x,L2.atI xs i=some x∧RD K mg ρ H v x:=by
 unfold L2.atI at h ⊢
 rw[←r.length]
 obtain⟨j,h1,h2⟩:=Option.bind_eq_some_iff.mp h
 obtain⟨x,h3,h4⟩:=r.get h2
 exact⟨x,by rw[h1];exact h3,h4⟩
theorem gT(hr:HR K mg ρ s H){v:Val}{x:L2.V}{b:Bool}(r:RD K mg ρ H v x)(h:truth s v=some b):L2.gj K x H b:=by
 have hz:∀{vs:List Val} {xs:List L2.V},RDs K mg ρ H vs xs→vs.isEmpty=xs.isEmpty:=fun r=>by cases r<;>rfl
 cases r with
 |none=>cases h;rfl
 |bool b=>cases h;rfl
 |int i=>cases h;rfl
 |str x=>
  simp only[truth]at h
  split at h
  . cases h
    rename_i q
    exact⟨by rw[←yC];exact q,rfl⟩
  . cases h
 |tup n e q=>cases h;exact .inr (.inl ⟨_,.of e,by rw[hz q]⟩)
 |lst n e q=>cases h;exact .inl ⟨_,.of e,by rw[hz q]⟩
 |dct0 n e=>cases h;exact .inr (.inr ⟨_,e,rfl⟩)
 |ctup _=>cases h
 |scr _=>cases h
 |@ref a i e _=>
  simp only[truth]at h
  split at h
  . rename_i ws hw
    cases h
    obtain⟨c,xs,e1,e2,q⟩:=hr.obj i _ hw
    rw[e]at e1;cases e1
    exact .inl ⟨_,.of e2,by rw[hz q]⟩
  . cases h
 |fn _=>cases h
 |ty _=>cases h
 |dref _ _=>cases h
theorem XD(hr:HR K mg ρ s H){v:Val}{x:L2.V}{a:L2.Kd}(r:RD K mg ρ H v x)(h:kindOf v=some a):(L2.vv K H x (.type a.nm)):=by
 cases r with
 |none=>cases h;exact .non
 |bool b=>cases h;exact .bl b
 |int i=>cases h;exact .int i
 |str x=>cases h;exact .str x
 |tup n e q=>cases h;exact .tup e
 |lst n e q=>cases h;exact .lst e
 |dct0 n e=>cases h;exact .dK e
 |ref e k=>
  cases h
  obtain⟨xs,q⟩:=sD k
  exact .lst q
 |_=>cases h
theorem YA{n:String}{c:L2.Kd}(h:uY n=some c):n=c.nm∧c≠.non:=by
 unfold uY at h
 split at h<;>first|(cases h;exact⟨rfl,by decide⟩)|cases h
end
section
variable {X:L2.Cx}{k:Nat}
theorem YE{d:PyData}(h:uc d=true):L2.dR d:=by
 unfold uc at h
 simp only[Bool.and_eq_true,decide_eq_true_eq,Bool.or_eq_true,Bool.not_eq_true']at h
 obtain⟨⟨⟨⟨h1,h2⟩,h3⟩,h4⟩,h5⟩:=h
 have L:L2.oP d.depth d.weight d:=⟨h1,h2,Nat.le_refl _,Nat.le_refl _⟩
 refine L.Yy h3 h4 fun z=>?_
 rcases h5 with h5|h5
 . rw[h5]at z;cases z
 . exact h5
theorem lj(hr0:L2.yv k X.A):L2.OpR X (compareOp .Eq) (rM2 X.K X.mg (zR .eq)):=by
 intro pins s σ H x y v u Q I rx ry h
 obtain⟨ρ,t,a,b,hr,ra,rb,w⟩:=h
 simp only[zR,qT]at w
 split at w
 . rename_i p q
   cases ra;cases rb
   have e:decide (L2.V.str p=L2.V.str q)=decide (p=q):=by
    rw[Bool.eq_iff_iff];simp
   refine L2.YG pins s σ H _ _ v u Q I rx ry ⟨rfl,?_⟩
   rw[e]
   exact zL hr (.bool _) w
 . by_cases hc:((zq t a).isD&&(zq t b).isD&&decide ((zq t b).d.depth≤60))=true
   . rw[if_pos hc]at w
     simp only[Bool.and_eq_true,decide_eq_true_eq]at hc
     obtain⟨as,r1,_⟩:=xR I.hok hr (yx hc.1.1) ra rx
     obtain⟨bs,r2,_⟩:=xR I.hok hr (yx hc.1.2) rb ry
     have hu:=hr0.un
     have hm:=Nat.min_le_right (zq t a).d.depth (zq t b).d.depth
     exact SeqAt.compareEq_reads r1 r2 (yF hc.1.1) (yF hc.1.2) (by omega) ⟨.bl _,H,I,rfl,zL hr (.bool _) w⟩
   . rw[if_neg hc]at w;exact w.elim
theorem ly(hr0:L2.yv k X.A):L2.OpR X (compareOp .NotEq) (rM2 X.K X.mg (zR .ne)):=by
 intro pins s σ H x y v u Q I rx ry h
 obtain⟨ρ,t,a,b,hr,ra,rb,w⟩:=h
 simp only[zR,qT]at w
 split at w
 . rename_i p q
   cases ra;cases rb
   have e:decide (L2.V.str p=L2.V.str q)=decide (p=q):=by
    rw[Bool.eq_iff_iff];simp
   refine L2.YL pins s σ H _ _ v u Q I rx ry ⟨rfl,?_⟩
   rw[e]
   exact zL hr (.bool _) w
 . by_cases hc:((zq t a).isD&&(zq t b).isD&&decide ((zq t b).d.depth≤60))=true
   . rw[if_pos hc]at w
     simp only[Bool.and_eq_true,decide_eq_true_eq]at hc
     obtain⟨as,r1,_⟩:=xR I.hok hr (yx hc.1.1) ra rx
     obtain⟨bs,r2,_⟩:=xR I.hok hr (yx hc.1.2) rb ry
     have hu:=hr0.un
     have hm:=Nat.min_le_right (zq t a).d.depth (zq t b).d.depth
     exact SeqAt.compareNe_reads r1 r2 (yF hc.1.1) (yF hc.1.2) (by omega) ⟨.bl _,H,I,rfl,zL hr (.bool _) w⟩
   . rw[if_neg hc]at w;exact w.elim
theorem RD.isNone{K:KF}{mg:Str→Option Value}{ρ:Own}{H:L2.Hp}{v:Val}{x:L2.V}(r:RD K mg ρ H v x):decide (x=.non)=v.isN:=by
 cases r<;>first|rfl|exact decide_eq_false (fun z=>nomatch z)
theorem qe:L2.OpR X (compareOp .IsNot) (rM2 X.K X.mg (zR .isNot)):=by
 intro pins s σ H x y v u Q I rx ry h
 obtain⟨ρ,t,a,b,hr,ra,rb,w⟩:=h
 cases rb with
 |none=>
  refine L2.fo pins s σ H _ _ v u Q I rx ry ⟨rfl,?_⟩
  rw[ra.isNone]
  exact zL hr (.bool _) w
 |bool c=>
  cases ra with
  |bool d=>cases rx;cases ry;cases c<;>cases d<;>exact wpAny_pure ⟨.bl _,H,I,rfl,zL hr (.bool _) w⟩
  |_=>exact w.elim
 |_=>exact w.elim
theorem sH:∀{vs:List Val} {v:Val},vT vs=true→v∈vs→v.isD=true
 |w::vs,v,h,m=>by
  rw[vT,Bool.and_eq_true]at h
  rcases List.mem_cons.mp m with rfl|m
  . exact h.1
  . exact sH h.2 m
theorem jM{A:Around}{s:Shared}{u:Value}{K:KF}{mg:Str→Option Value}{ρ:Own}{H:L2.Hp}{g:Val→Bool}{vs:List Val}{xs:List L2.V}{its:List Value}(q:RDs K mg ρ H vs xs)(r:L2.Vals xs its)
 (hE:∀z x w,z∈vs→RD K mg ρ H z x→L2.RelV x w→SeqAt.EqAt A s w u (g z)):∃f:Value→Bool,(∀w∈its.toArray,SeqAt.EqAt A s w u (f w))∧its.toArray.any f=vs.any g:=by
 classical
 have at_:∀i w,its[i]?=some w→∃z x,vs[i]?=some z∧RD K mg ρ H z x∧L2.RelV x w:=fun i w e=>by
  have hi:i<xs.length:=by rw[r.length];exact(List.getElem?_eq_some_iff.mp e).1
  have hx:xs[i]?=some xs[i]:=List.getElem?_eq_getElem hi
  obtain⟨w',e',rw'⟩:=r.get hx
  rw[e]at e';cases e'
  obtain⟨z,e1,rz⟩:=q.Zo hx
  exact⟨z,_,e1,rz,rw'⟩
 refine⟨fun w=>decide (∃(i:Nat) (z:Val),its[i]?=some w∧vs[i]?=some z∧g z=true),fun w hw=>?_,?_⟩
 . obtain⟨i,hi⟩:=List.getElem?_of_mem (by simpa using hw:w∈its)
   by_cases hd:∃(i:Nat) (z:Val),its[i]?=some w∧vs[i]?=some z∧g z=true
   . dsimp only;rw[decide_eq_true hd]
     obtain⟨j,z,e1,e2,e3⟩:=hd
     obtain⟨z',x,e4,rz,rw'⟩:=at_ j w e1
     rw[e2]at e4;cases e4
     rw[←e3];exact hE z x w (List.mem_of_getElem? e2) rz rw'
   . dsimp only;rw[decide_eq_false hd]
     obtain⟨z,x,e4,rz,rw'⟩:=at_ i w hi
     have hg:g z=false:=by
      cases hg:g z with
      |false=>rfl
      |true=>exact(hd ⟨i,z,hi,e4,hg⟩).elim
     rw[←hg];exact hE z x w (List.mem_of_getElem? e4) rz rw'
 . rw[Bool.eq_iff_iff,Array.any_toList.symm,List.any_eq_true,List.any_eq_true]
   constructor
   . rintro ⟨w,_,h⟩
     obtain⟨i,z,_,e2,e3⟩:=of_decide_eq_true h
     exact⟨z,List.mem_of_getElem? e2,e3⟩
   . rintro ⟨z,hz,e3⟩
     obtain⟨i,hi⟩:=List.getElem?_of_mem hz
     obtain⟨x,e1,_⟩:=q.get hi
     obtain⟨w,e2,_⟩:=r.get e1
     exact⟨w,List.mem_of_getElem? e2,decide_eq_true ⟨i,z,e2,hi,e3⟩⟩
theorem eqD{K:KF}{mg:Str→Option Value}{ρ:Own}{H:L2.Hp}{P:Program}{w:World}{s:Shared}{A:Around}(hu:A.units+60<cLine)(ok:L2.HOk P w H s.heap){a z:Val}{x y:L2.V}{v u:Value}(ra:RD K mg ρ H a x)(rx:L2.RelV x v)(ha:a.isD=true)(hd:a.d.depth≤60)
 (rz:RD K mg ρ H z y) (ry:L2.RelV y u) (hz:z.isD=true):SeqAt.EqAt A s u v (PyData.eqv z.d a.d):=by
 obtain⟨as,r1,_⟩:=RD.reads ok ra (yx ha) rx
 obtain⟨bs,r2,_⟩:=RD.reads ok rz (yx hz) ry
 have hm:=Nat.min_le_right z.d.depth a.d.depth
 exact SeqAt.eqAt_reads _ _ _ _ _ _ _ _ r2 r1 (yF hz) (yF ha) (by omega)
theorem lr(hr0:L2.yv k X.A):L2.OpR X (compareOp .In) (rM2 X.K X.mg (zR .in_)):=by
 intro pins s σ H x y v u Q I rx ry h
 obtain⟨ρ,t,a,b,hr,ra,rb,w⟩:=h
 simp only[zR]at w
 split at w
 . rename_i vs e
   obtain⟨p,xs,rfl,hq,q⟩:=nX hr rb e
   split at w
   . rename_i hf
     rw[Bool.and_eq_true]at hf
     refine L2.lz pins s σ H _ _ v u Q I rx ry ⟨p,xs,rfl,hq,ra.flat hf.1,q.flat hf.2,?_⟩
     simp only[L2.inV,Bool.false_eq_true,if_false]
     rw[RDs.any ra hf.1 q hf.2]
     exact zL hr (.bool _) w
   . split at w
     . rename_i hf
       simp only[inD,Bool.and_eq_true,decide_eq_true_eq]at hf
       have hu:=hr0.un
       cases ry
       rcases hq with hq|hq
       . obtain⟨its,r,pl,hz⟩:=I.list hq
         obtain⟨f,f1,f2⟩:=jM (A:=X.A.in1) (s:=s) (u:=v) (g:=fun z=>PyData.eqv z.d a.d) q r fun z x' w' hz rz ry'=>eqD (show X.A.units+1+60<cLine by omega) I.hok ra rx hf.1.1 hf.2 rz ry' (sH hf.1.2 hz)
         exact SeqAt.in_listAt f pl.isList f1 ⟨.bl _,H,I,rfl,by rw[f2];exact zL hr (.bool _) w⟩
       . obtain⟨its,r,pl,hz⟩:=I.tuple hq
         obtain⟨f,f1,f2⟩:=jM (A:=X.A.in1) (s:=s) (u:=v) (g:=fun z=>PyData.eqv z.d a.d) q r fun z x' w' hz rz ry'=>eqD (show X.A.units+1+60<cLine by omega) I.hok ra rx hf.1.1 hf.2 rz ry' (sH hf.1.2 hz)
         exact SeqAt.in_tupleAt f pl f1 ⟨.bl _,H,I,rfl,by rw[f2];exact zL hr (.bool _) w⟩
     . exact w.elim
 . exact w.elim
theorem lx:L2.OpR X (compareOp .Lt) (rM2 X.K X.mg (zR .lt)):=by
 intro pins s σ H x y v u Q I rx ry h
 obtain⟨ρ,t,a,b,hr,ra,rb,w⟩:=h
 simp only[zR]at w
 split at w
 . cases ra;cases rb
   exact L2.YK pins s σ H _ _ v u Q I rx ry ⟨_,_,rfl,rfl,zL hr (.bool _) w⟩
 . exact w.elim
theorem lu:L2.OpR X (compareOp .LtE) (rM2 X.K X.mg (zR .le)):=by
 intro pins s σ H x y v u Q I rx ry h
 obtain⟨ρ,t,a,b,hr,ra,rb,w⟩:=h
 simp only[zR]at w
 split at w
 . cases ra;cases rb
   exact L2.YJ pins s σ H _ _ v u Q I rx ry ⟨_,_,rfl,rfl,zL hr (.bool _) w⟩
 . exact w.elim
theorem lq:L2.OpR X (compareOp .Gt) (rM2 X.K X.mg (zR .gt)):=by
 intro pins s σ H x y v u Q I rx ry h
 obtain⟨ρ,t,a,b,hr,ra,rb,w⟩:=h
 simp only[zR]at w
 split at w
 . cases ra;cases rb
   exact L2.YI pins s σ H _ _ v u Q I rx ry ⟨_,_,rfl,rfl,zL hr (.bool _) w⟩
 . exact w.elim
theorem ll:L2.OpR X (compareOp .GtE) (rM2 X.K X.mg (zR .ge)):=by
 intro pins s σ H x y v u Q I rx ry h
 obtain⟨ρ,t,a,b,hr,ra,rb,w⟩:=h
 simp only[zR]at w
 split at w
 . cases ra;cases rb
   exact L2.YH pins s σ H _ _ v u Q I rx ry ⟨_,_,rfl,rfl,zL hr (.bool _) w⟩
 . exact w.elim
noncomputable def Cop.op:Cop→CmpOp
 |.eq=>.Eq|.ne=>.NotEq|.lt=>.Lt|.le=>.LtE|.gt=>.Gt|.ge=>.GtE|.is=>.Is|.isNot=>.IsNot|.in_=>.In|.notIn=>.NotIn|.inD=>.In|.notInD=>.NotIn
theorem nE(hr0:L2.yv k X.A):L2.OpR X (compareOp .In) (rM2 X.K X.mg (zR .inD)):=by
 intro pins s σ H x y v u Q I rx ry h
 obtain⟨ρ,t,a,b,hr,ra,rb,w⟩:=h
 simp only[zR]at w
 split at w
 . rename_i o e
   obtain⟨p,o',rfl,g,ro⟩:=getD_at hr rb ra e
   cases (show u=Value.ref p from ry)
   exact L2.XQ (by have:=hr0.un;omega) I g rx fun s3 I3=>⟨.bl o'.isSome,H,I3,rfl,by rw[ro.isSome];exact zL hr (.bool _) w⟩
 . exact w.elim
theorem s9(hr0:L2.yv k X.A):L2.OpR X (compareOp .NotIn) (rM2 X.K X.mg (zR .notInD)):=by
 intro pins s σ H x y v u Q I rx ry h
 obtain⟨ρ,t,a,b,hr,ra,rb,w⟩:=h
 simp only[zR]at w
 split at w
 . rename_i o e
   obtain⟨p,o',rfl,g,ro⟩:=getD_at hr rb ra e
   cases (show u=Value.ref p from ry)
   exact L2.gy (by have:=hr0.un;omega) I g rx fun s3 I3=>⟨.bl !o'.isSome,H,I3,rfl,by rw[ro.isSome];exact zL hr (.bool _) w⟩
 . exact w.elim
noncomputable def okC:Cop→Bool
 |.is|.notIn=>false
 |_=>true
theorem ud(hr0:L2.yv k X.A):∀op:Cop,okC op=true→L2.OpR X (compareOp op.op) (rM2 X.K X.mg (zR op))
 |.eq,_=>lj hr0
 |.ne,_=>ly hr0
 |.lt,_=>lx
 |.le,_=>lu
 |.gt,_=>lq
 |.ge,_=>ll
 |.is,h=>by cases h
 |.isNot,_=>qe
 |.in_,_=>lr hr0
 |.notIn,h=>by cases h
 |.inD,_=>nE hr0
 |.notInD,_=>s9 hr0
noncomputable def Bop.op:Bop→Operator
 |.add=>.Add|.sub=>.Sub|.mul=>.Mult|.fdiv=>.FloorDiv|.mod=>.Mod|.pow=>.Pow|.shl=>.LShift|.shr=>.RShift|.band=>.BitAnd
noncomputable def okB:Bop→Bool
 |.shl|.shr|.band=>false
 |_=>true
theorem aH(m:Bool):∀op:Bop,okB op=true→L2.OpR X (binaryOp op.op) (rM2 X.K X.mg (binOp m op))
 |.add,_=>oz m
 |.sub,_=>nD m
 |.mul,_=>nB m
 |.fdiv,_=>pY m
 |.mod,_=>nA m
 |.pow,_=>nC m
 |.shl,h=>by cases h
 |.shr,h=>by cases h
 |.band,h=>by cases h
theorem Zx:L2.IxR X (rM2 X.K X.mg x9):=by
 intro value slice pins s σ H x y v u Q I rx ry h hs
 obtain⟨ρ,t,a,b,hr,ra,rb,w⟩:=h
 simp only[x9]at w
 split at w
 . split at w
   . rename_i vs e
     split at w
     . rename_i z hz
       obtain⟨p,xs,rfl,hq,q⟩:=nX hr ra e
       cases rb
       obtain⟨xz,h1,h2⟩:=gm q hz
       refine L2.bC value slice pins s σ H _ _ v u Q I rx ry ?_ hs
       rcases hq with hq|hq
       . exact .inl ⟨p,xs,_,xz,rfl,rfl,hq,h1,zL hr h2 w⟩
       . exact .inr (.inl ⟨p,xs,_,xz,rfl,rfl,hq,h1,zL hr h2 w⟩)
     . exact w.elim
   . exact w.elim
 . exact w.elim
end
end M
end
section
namespace M
open PySem
noncomputable def Bf.nm:Bf→Str
 |.len=>"len"|.all=>"all"|.any=>"any"|.tuple=>"tuple"|.list=>"list"|.sorted=>"sorted"|.repr=>"repr"|.max=>"max"|.min=>"min"|.sum=>"sum"|.int=>"int"|.isi=>"isinstance"|.divmod=>"divmod"|.str=>"str"
noncomputable def Bf.val:Bf→Value
 |.len=>.builtin "len"|.all=>.builtin "all"|.any=>.builtin "any"|.tuple=>.type "tuple"|.list=>.type "list"|.sorted=>.builtin "sorted"|.repr=>.builtin "repr"|.max=>.builtin "max"|.min=>.builtin "min"|.sum=>.builtin "sum"|.int=>.type "int"
 |.isi=>.builtin "isinstance"|.divmod=>.builtin "divmod"|.str=>.type "str"
theorem Bf.boot:∀f:Bf,bootBuiltins f.nm=some f.val
 |.len=>boot_len|.all=>PyProof.Rows.boot_all|.any=>PyProof.Rows.boot_any|.tuple=>PyProof.Rows.boot_tuple|.list=>PyProof.Rows.boot_list|.sorted=>PyProof.Rows.boot_sorted|.repr=>PyProof.Rows.boot_repr|.max=>PyProof.Rows.boot_max|.min=>PyProof.Rows.boot_min
 |.sum=>PyProof.Rows.boot_sum|.int=>PyProof.Rows.boot_int|.isi=>PyProof.Rows.boot_isinstance|.divmod=>PyProof.Rows.boot_divmod|.str=>PyProof.Rows.boot_str
section
variable {X:L2.Cx}{k:Nat}{m:Bool}
theorem uf{K:KF}{mg:Str→Option Value}{ρ:Own}{H:L2.Hp}{v:Val}{xs:List L2.V}(r:RDs K mg ρ H [v] xs):∃x,xs=[x]∧RD K mg ρ H v x:=by
 cases r with
 |cons r1 r2=>cases r2;exact⟨_,rfl,r1⟩
theorem i6{K:KF}{mg:Str→Option Value}{ρ:Own}{H:L2.Hp}{v w:Val}{xs:List L2.V}(r:RDs K mg ρ H [v,w] xs):∃x y,xs=[x,y]∧RD K mg ρ H v x∧RD K mg ρ H w y:=by
 cases r with
 |cons r1 r2=>
  obtain⟨y,rfl,r3⟩:=uf r2
  exact⟨_,_,rfl,r1,r3⟩
theorem kn:L2.yO X (.builtin "len") (rMc X.K X.mg (blt .len m)):=by
 intro pins s σ H xs us Q I r h
 obtain⟨ρ,t,vs,hr,rv,w⟩:=h
 simp only[blt]at w
 split at w
 . split at w
   . rename_i hz
     obtain⟨x,rfl,rx⟩:=uf rv
     cases rx
     exact L2.qN pins s σ H _ us Q I r ⟨_,rfl,by rw[←yC];exact hz,zL hr (.int _) w⟩
   . exact w.elim
 . split at w
   . rename_i e
     obtain⟨x,rfl,rx⟩:=uf rv
     obtain⟨p,ys,rfl,hq,q⟩:=nX hr rx e
     refine L2.qM pins s σ H _ us Q I r ⟨p,ys,rfl,hq,?_⟩
     rw[←q.length]
     exact zL hr (.int _) w
   . exact w.elim
 . exact w.elim
theorem tu(hc:X.calm=true):L2.yO X (.builtin "all") (rMc X.K X.mg (blt .all m)):=by
 intro pins s σ H xs us Q I r h
 obtain⟨ρ,t,vs,hr,rv,w⟩:=h
 simp only[blt]at w
 split at w
 . split at w
   . rename_i e
     split at w
     . rename_i bs eb
       obtain⟨x,rfl,rx⟩:=uf rv
       obtain⟨p,ys,rfl,hq,q⟩:=xI hr rx e
       rw[q.bools eb]at hq
       exact L2.tu hc pins s σ H _ us Q I r ⟨p,bs,rfl,.of hq,zL hr (.bool _) w⟩
     . exact w.elim
   . exact w.elim
 . exact w.elim
theorem tx(hc:X.calm=true):L2.yO X (.builtin "any") (rMc X.K X.mg (blt .any m)):=by
 intro pins s σ H xs us Q I r h
 obtain⟨ρ,t,vs,hr,rv,w⟩:=h
 simp only[blt]at w
 split at w
 . split at w
   . rename_i e
     split at w
     . rename_i bs eb
       obtain⟨x,rfl,rx⟩:=uf rv
       obtain⟨p,ys,rfl,hq,q⟩:=xI hr rx e
       rw[q.bools eb]at hq
       exact L2.tx hc pins s σ H _ us Q I r ⟨p,bs,rfl,.of hq,zL hr (.bool _) w⟩
     . exact w.elim
   . exact w.elim
 . exact w.elim
theorem oT:L2.yO X (.type "tuple") (rMc X.K X.mg (blt .tuple m)):=by
 intro pins s σ H xs us Q I r h
 obtain⟨ρ,t,vs,hr,rv,w⟩:=h
 simp only[blt]at w
 split at w
 . obtain⟨x,rfl,rx⟩:=uf rv
   cases rx with
   |tup n e q=>exact L2.vU pins s σ H _ us Q I r ⟨_,_,rfl,.inr ⟨.of e,zL hr (.tup n e q) w⟩⟩
 . split at w
   . rename_i e
     obtain⟨x,rfl,rx⟩:=uf rv
     obtain⟨p,ys,rfl,hq,q⟩:=xI hr rx e
     exact L2.vU pins s σ H _ us Q I r ⟨p,ys,rfl,.inl ⟨.of hq,mY hr q w⟩⟩
   . exact w.elim
 . exact w.elim
theorem ku(hr0:L2.yv k X.A):L2.yO X (.builtin "repr") (rMc X.K X.mg (blt .repr m)):=by
 intro pins s σ H xs us Q I r h
 obtain⟨ρ,t,vs,hr,rv,w⟩:=h
 simp only[blt]at w
 split at w
 . rename_i v
   split at w
   . rename_i hc
     rw[Bool.and_eq_true]at hc
     obtain⟨x,rfl,rx⟩:=uf rv
     obtain⟨u,rfl,ru⟩:=L2.vals1 r
     have S:=YE hc.2
     have q:Q (.str (zq t v).d.shown) H:=zL hr (.str _) w
     have fin:∀(tk':Tok) (tk:Nat),L2.EP X pins σ Q (.str (zq t v).d.shown tk') {s with toks:=tk}:=fun _ tk=>⟨.str _,H,I.tok _,⟨_,rfl⟩,q⟩
     obtain⟨as,R,hs⟩:=xR I.hok hr hc.1 rx ru
     have fr:∀a,u=.ref a→wpAny (model X.prog X.w) X.A (call (.builtin "repr") [u]) (L2.EP X pins σ Q) X.xe s:=fun a e=>by
      subst e
      refine repr_of_reads' R S.sh (fun z=>hs (S.mix z)) hr0.gd ?_ (fun _ _ e=>e) (fun h' u tk hk=>⟨.str _,H,I.kept hk,⟨_,rfl⟩,q⟩) S.ln
      have:=S.dp
      have:=hr0.un
      omega
     cases rx with
     |none=>cases (show u=Value.none from ru);exact PySem.P.repr_of_none (fin _ _)
     |bool b=>cases (show u=Value.bool b from ru);exact PySem.P.repr_of_bool (fin _ _)
     |int i=>obtain⟨t',z⟩:=(show ∃t,u=Value.int i t from ru);cases z;exact PySem.P.repr_of_int (by simpa [zq,yX,Val.d,PyData.showable] using S.sh) (fin _ _)
     |str x=>obtain⟨t',z⟩:=(show ∃t,u=Value.str x t from ru);cases z;exact PySem.P.repr_of_str (fin _ _) S.ln
     |tup _ _ _=>exact fr _ ru
     |lst _ _ _=>exact fr _ ru
     |dct0 _ _=>exact fr _ ru
     |ref _ _=>exact fr _ ru
     |ctup _=>exact fr _ ru
     |scr _=>exact fr _ ru
     |fn _=>exact fr _ ru
     |ty _=>exact absurd hc.1 (by simp[zq,yX,Val.isR])
     |dref _ _=>exact fr _ ru
   . exact w.elim
 . exact w.elim
theorem kq(hc:X.calm=true):L2.yO X (.builtin "max") (rMc X.K X.mg (blt .max m)):=by
 intro pins s σ H xs us Q I r h
 obtain⟨ρ,t,vs,hr,rv,w⟩:=h
 simp only[blt]at w
 split at w
 . obtain⟨x,y,rfl,rx,ry⟩:=i6 rv
   cases rx;cases ry
   exact L2.lA hc pins s σ H _ us Q I r ⟨_,_,rfl,zL hr (.int _) w⟩
 . split at w
   . rename_i e
     split at w
     . rename_i ns en
       split at w
       . rename_i hn
         obtain⟨x,rfl,rx⟩:=uf rv
         obtain⟨p,ys,rfl,hq,q⟩:=xI hr rx e
         rw[q.jW en]at hq
         exact L2.lB hc pins s σ H _ us Q I r ⟨p,ns,rfl,.of hq,hn,zL hr (.int _) w⟩
       . exact w.elim
     . exact w.elim
   . exact w.elim
 . exact w.elim
theorem kr(hc:X.calm=true):L2.yO X (.builtin "min") (rMc X.K X.mg (blt .min m)):=by
 intro pins s σ H xs us Q I r h
 obtain⟨ρ,t,vs,hr,rv,w⟩:=h
 simp only[blt]at w
 split at w
 . obtain⟨x,y,rfl,rx,ry⟩:=i6 rv
   cases rx;cases ry
   exact L2.lC hc pins s σ H _ us Q I r ⟨_,_,rfl,zL hr (.int _) w⟩
 . split at w
   . rename_i e
     split at w
     . rename_i ns en
       split at w
       . rename_i hn
         obtain⟨x,rfl,rx⟩:=uf rv
         obtain⟨p,ys,rfl,hq,q⟩:=xI hr rx e
         rw[q.jW en]at hq
         exact L2.lD hc pins s σ H _ us Q I r ⟨p,ns,rfl,.of hq,hn,zL hr (.int _) w⟩
       . exact w.elim
     . exact w.elim
   . exact w.elim
 . exact w.elim
theorem km:L2.yO X (.type "int") (rMc X.K X.mg (blt .int m)):=by
 intro pins s σ H xs us Q I r h
 obtain⟨ρ,t,vs,hr,rv,w⟩:=h
 simp only[blt]at w
 split at w
 . obtain⟨x,rfl,rx⟩:=uf rv
   cases rx
   exact L2.rR pins s σ H _ us Q I r (.inl ⟨_,rfl,zL hr (.int _) w⟩)
 . obtain⟨x,rfl,rx⟩:=uf rv
   cases rx
   exact L2.rR pins s σ H _ us Q I r (.inr ⟨_,rfl,zL hr (.int _) w⟩)
 . exact w.elim
theorem t5:L2.yO X (.builtin "isinstance") (rMc X.K X.mg (blt .isi m)):=by
 intro pins s σ H xs us Q I r h
 obtain⟨ρ,t,vs,hr,rv,w⟩:=h
 simp only[blt]at w
 split at w
 . split at w
   . rename_i ea ec
     obtain⟨x,y,rfl,rx,ry⟩:=i6 rv
     cases ry
     obtain⟨e1,e2⟩:=YA ec
     subst e1
     exact L2.t5 pins s σ H _ us Q I r ⟨_,_,_,_,rfl,XD hr rx ea,L2.b6 X.K _ _ e2,zL hr (.bool _) w⟩
   . exact w.elim
 . exact w.elim
theorem kx:L2.yO X (.type "str") (rMc X.K X.mg (blt .str m)):=by
 intro pins s σ H xs us Q I r h
 obtain⟨ρ,t,vs,hr,rv,w⟩:=h
 simp only[blt]at w
 split at w
 . split at w
   . rename_i hz
     obtain⟨x,rfl,rx⟩:=uf rv
     cases rx
     exact L2.qO pins s σ H _ us Q I r ⟨_,rfl,hz,zL hr (.str _) w⟩
   . exact w.elim
 . exact w.elim
noncomputable def okF:Bf→Bool
 |.list|.sorted|.sum|.divmod=>false
 |_=>true
theorem gp(hc:X.calm=true)(hr0:L2.yv k X.A):∀(f:Bf) (m:Bool),okF f=true→L2.yO X f.val (rMc X.K X.mg (blt f m))
 |.len,_,_=>kn
 |.all,_,_=>tu hc
 |.any,_,_=>tx hc
 |.tuple,_,_=>oT
 |.list,_,h=>by cases h
 |.sorted,_,h=>by cases h
 |.repr,_,_=>ku hr0
 |.max,_,_=>kq hc
 |.min,_,_=>kr hc
 |.sum,_,h=>by cases h
 |.int,_,_=>km
 |.isi,_,_=>t5
 |.divmod,_,h=>by cases h
 |.str,_,_=>kx
end
end M
end
section
namespace M
open PySem
noncomputable def plain:Expr→Bool
 |.Starred ..|.Set ..|.Slice ..|.SetComp ..=>false
 |_=>true
theorem zT{e:Expr}(h:plain e=true):L2.noStar e=true:=by cases e<;>first|rfl|cases h
theorem wb{op:CmpOp}{e:Expr}(h:plain e=true):behindInMarks op e=false:=by cases e<;>first|rfl|cases h
theorem p4{e:Expr}(h:plain e=true):L2.mF e:=by
 intro o i
 cases e<;>first|rfl|cases h
theorem yG{e:Expr}{env:PySem.Env}(h:plain e=true)(x:Value):foldedSetIterable e env x=pure x:=by cases e<;>first|rfl|cases h
noncomputable def qa:Expr→Bool
 |.Call (.Name _ _) [] [] _=>false
 |_=>true
theorem xX{o:Expr}{name:Str}{env:PySem.Env}(h:qa o=true):attributeBase o name env (eval o env)=eval o env:=by
 unfold attributeBase
 split
 . cases h
 . rfl
noncomputable def plainT:Expr→Bool
 |.UnaryOp .Not _ _|.BoolOp ..|.IfExp ..|.Compare ..=>false
 |_=>true
theorem kA{e:Expr}{env:PySem.Env}(h:plainT e=true)(whole:Sem Value):isTrue e env whole=(do let v ←whole;standAt e.pos;holding [v] (truthy v)):=by
 cases e with
 |UnaryOp op a p=>cases op<;>first|rfl|cases h
 |_=>first|rfl|cases h
noncomputable def yZ:List Expr→Bool
 |[]=>true
 |e::es=>plain e&&yZ es
theorem vp:∀{es:List Expr} {pos:Pos} {env:PySem.Env},yZ es=true→(backTo pos (starEach es env)).any (·.1)=false
 |[],_,_,_=>rfl
 |e::es,pos,env,h=>by
  rw[yZ,Bool.and_eq_true]at h
  rw[L2.zt (zT h.1)]
  show (false||(backTo pos (starEach es env)).any (·.1))=false
  rw[vp h.2];rfl
section
variable {K:KF}{mg:Str→Option Value}{env:Env}{s s1:Sto}{ρ ρ':Own}{H H':L2.Hp}
theorem yW.mono{α β:Type}{R:Own→L2.Hp→α→β→Prop}{o:Out α}{Q:β→L2.Hp→Prop}(w:yW K mg R ρ H o Q)(x:Ext ρ H ρ' H')(h:HR K mg ρ' s1 H'):yW K mg R ρ' H' o Q:=by
 cases o with
 |ok v s'=>exact fun ρ2 y H2 x2 h2 r2=>w ρ2 y H2 (x.trans h x2) h2 r2
 |_=>exact w
end
section
variable {X:L2.Cx}{env:Env}{s:Sto}{E a b c:Expr}
theorem zI{o:Out Val}(h:∀v s',o≠.ok v s'):L2.PE X E (tV X.K X.mg env s o):=Yc fun _ _ _=>XB h
theorem un1{o:Out Val}{r:L2.V→L2.Hp→L2.VK→Prop}{g:Val→Sto→Out Val}(h:L2.PE X a (tV X.K X.mg env s o))(rule:∀ta,L2.PE X a ta→L2.PE X E (L2.tUn r ta))
 (op:∀ρ H s1 v x Q,HR X.K X.mg ρ s1 H→RD X.K X.mg ρ H v x→yW X.K X.mg (RD X.K X.mg) ρ H (g v s1) Q→r x H Q):L2.PE X E (tV X.K X.mg env s (o.bind g)):=by
 cases o with
 |ok v s1=>exact zd (rule _ h) fun σ H Q ⟨ρ,hr,er,w⟩=>⟨ρ,hr,er,fun ρ1 x H1 x1 hr1 r1=>op ρ1 H1 s1 v x Q hr1 r1 (w.mono x1 hr1)⟩
 |exc _ _ _=>exact zI nofun
 |stuck=>exact zI nofun
theorem cV{o:Out Val}{f2:Sto→Out Val}{g:Val→Val→Sto→Out Val}(h1:L2.PE X a (tV X.K X.mg env s o))(h2:∀s1,L2.PE X b (tV X.K X.mg env s1 (f2 s1)))
 (rule:∀ta tb,L2.PE X a ta→L2.PE X b tb→L2.PE X E (L2.tOp (rM2 X.K X.mg g) ta tb)):L2.PE X E (tV X.K X.mg env s (o.bind fun x s1=>(f2 s1).bind fun y s2=>g x y s2)):=by
 cases o with
 |ok v s1=>
  show L2.PE X E (tV X.K X.mg env s ((f2 s1).bind fun y s2=>g v y s2))
  have h2':=h2 s1
  cases hb:f2 s1 with
  |ok w s2=>
   rw[hb]at h2'
   exact zd (rule _ _ h1 h2') fun σ H Q ⟨ρ,hr,er,wt⟩=>⟨ρ,hr,er,fun ρ1 x H1 x1 hr1 r1=>⟨ρ1,hr1,er.mono x1,fun ρ2 y H2 x2 hr2 r2=>⟨ρ2,s2,v,w,hr2,r1.mono x2,r2,wt.mono (x1.trans hr1 x2) hr2⟩⟩⟩
  |exc _ _ _=>exact zI nofun
  |stuck=>exact zI nofun
 |exc _ _ _=>exact zI nofun
 |stuck=>exact zI nofun
theorem jq{op op':Cop}{o:Out Val}{f2 f3:Sto→Out Val}{k:Nat}{pos:Pos}(k1:okC op=true)(k2:okC op'=true)(hr0:L2.yv k X.A)(h1:L2.PE X a (tV X.K X.mg env s o))(h2:∀s1,L2.PE X b (tV X.K X.mg env s1 (f2 s1)))(h3:∀s1,L2.PE X c (tV X.K X.mg env s1 (f3 s1)))(hm:plain c=true) :
 L2.PE X (.Compare a [op.op,op'.op] [b,c] pos) (tV X.K X.mg env s (o.bind fun x s1=>(f2 s1).bind fun y s2=>(zR op x y s2).bind fun r s3=>match r with
  |.bool true=>(f3 s3).bind fun z s4=>zR op' y z s4
  |.bool false=>.ok (.bool false) s3
  |_=>.stuck)):=by
 cases o with
 |ok v s1=>
  have h2':=h2 s1
  show L2.PE X _ (tV X.K X.mg env s ((f2 s1).bind _))
  cases hb:f2 s1 with
  |ok w s2=>
   rw[hb]at h2'
   show L2.PE X _ (tV X.K X.mg env s ((zR op v w s2).bind _))
   cases hc:zR op v w s2 with
   |ok r s3=>
    cases r with
    |bool t=>
     have h3':=h3 s3
     have rule:=L2.iT (pos:=pos) (ud hr0 op k1) (ud hr0 op' k2) h1 h2' h3' (show lastMarks [op.op,op'.op] [b,c]=false from wb hm)
     refine zd rule fun σ H Q ⟨ρ,hr,er,wt⟩=>⟨ρ,hr,er,fun ρ1 x H1 x1 hr1 r1=>⟨ρ1,hr1,er.mono x1,fun ρ2 y H2 x2 hr2 r2=>⟨ρ2,s2,v,w,hr2,r1.mono x2,r2,?_⟩⟩⟩
     rw[hc]
     intro ρ3 z H3 x3 hr3 r3
     cases r3
     refine⟨t,rfl,?_⟩
     have xx:=(x1.trans hr1 x2).trans hr2 x3
     have wt':=wt.mono xx hr3
     cases t with
     |true=>
      rw[if_pos rfl]
      refine⟨ρ3,hr3,er.mono xx,?_⟩
      have wt2:yW X.K X.mg (RD X.K X.mg) ρ3 H3 ((f3 s3).bind fun z s4=>zR op' w z s4) Q:=wt'
      cases hz:f3 s3 with
      |ok u s4=>
       rw[hz]at wt2
       exact fun ρ4 q H4 x4 hr4 r4=>⟨ρ4,s4,w,u,hr4,(r2.mono x3).mono x4,r4,wt2.mono x4 hr4⟩
      |exc _ _ _=>rw[hz]at wt2;exact wt2
      |stuck=>rw[hz]at wt2;exact wt2
     |false=>
      rw[if_neg Bool.false_ne_true]
      exact zL hr3 (.bool false) wt'
    |_=>exact zI nofun
   |exc _ _ _=>exact zI nofun
   |stuck=>exact zI nofun
  |exc _ _ _=>exact zI nofun
  |stuck=>exact zI nofun
 |exc _ _ _=>exact zI nofun
 |stuck=>exact zI nofun
theorem bf{o:Out Val}{pos:Pos}(h:L2.PE X a (tV X.K X.mg env s o)):L2.PE X (.UnaryOp .USub a pos) (tV X.K X.mg env s (o.bind fun x s1=>match x with|.int i=>.ok (.int (-i)) s1|_=>.stuck)):=by
 refine un1 h (fun ta q=>L2.Yf L2.ZR q) fun ρ H s1 v x Q hr r w=>?_
 cases r with
 |int i=>exact⟨i,rfl,zL hr (.int _) w⟩
 |_=>exact w.elim
theorem bg{o:Out Val}{pos:Pos}(h:L2.PE X a (tV X.K X.mg env s o)):L2.PE X (.UnaryOp .Not a pos) (tV X.K X.mg env s (o.bind fun x s1=>match x with|.bool b=>.ok (.bool !b) s1|_=>.stuck)):=by
 refine un1 (r:=fun x H Q=>∃c,x=.bl c∧Q (.bl (!c)) H) h (fun ta q=>L2.ah q) fun ρ H s1 v x Q hr r w=>?_
 cases r with
 |bool i=>exact⟨i,rfl,zL hr (.bool _) w⟩
 |_=>exact w.elim
theorem jn{rest:List Expr}{o:Out Val}{f2:Sto→Out Val}{pos:Pos}(h1:L2.PE X a (tV X.K X.mg env s o))(h2:∀s1,L2.PE X (.BoolOp .And (b::rest) pos) (tV X.K X.mg env s1 (f2 s1))) :
 L2.PE X (.BoolOp .And (a::b::rest) pos) (tV X.K X.mg env s (o.bind fun x s1=>match x with|.bool true=>f2 s1|.bool false=>.ok (.bool false) s1|_=>.stuck)):=by
 cases o with
 |ok v s1=>
  refine zd (L2.ab h1 (h2 s1)) fun σ H Q ⟨ρ,hr,er,wt⟩=>⟨ρ,hr,er,fun ρ1 x H1 x1 hr1 r1=>?_⟩
  have wt':=wt.mono x1 hr1
  cases r1 with
  |bool t=>
   refine⟨t,rfl,?_⟩
   cases t with
   |true=>exact L2.sy (⟨ρ1,hr1,er.mono x1,wt'⟩)
   |false=>exact L2.sx (zL hr1 (.bool _) wt')
  |_=>exact wt'.elim
 |exc _ _ _=>exact zI nofun
 |stuck=>exact zI nofun
theorem Z5{rest:List Expr}{o:Out Val}{f2:Sto→Out Val}{pos:Pos}(h1:L2.PE X a (tV X.K X.mg env s o))(h2:∀s1,L2.PE X (.BoolOp .Or (b::rest) pos) (tV X.K X.mg env s1 (f2 s1))) :
 L2.PE X (.BoolOp .Or (a::b::rest) pos) (tV X.K X.mg env s (o.bind fun x s1=>match truth s1 x with|some false=>f2 s1|some true=>.ok x s1|Option.none=>.stuck)):=by
 cases o with
 |ok v s1=>
  refine zd (L2.ai h1 (h2 s1)) fun σ H Q ⟨ρ,hr,er,wt⟩=>⟨ρ,hr,er,fun ρ1 x H1 x1 hr1 r1=>?_⟩
  have wt':yW X.K X.mg (RD X.K X.mg) ρ1 H1 (match truth s1 v with|some false=>f2 s1|some true=>.ok v s1|Option.none=>.stuck) Q:=wt.mono x1 hr1
  cases ht:truth s1 v with
  |none=>rw[ht]at wt';exact wt'.elim
  |some t=>
   rw[ht]at wt'
   refine⟨t,gT hr1 r1 ht,?_⟩
   cases t with
   |true=>exact L2.sy (zL hr1 r1 wt')
   |false=>exact L2.sx (⟨ρ1,hr1,er.mono x1,wt'⟩)
 |exc _ _ _=>exact zI nofun
 |stuck=>exact zI nofun
theorem ba{o:Out Bool}{f2 f3:Sto→Out Val}{pos:Pos}(h1:L2.PT X c (tT X.K X.mg env s o))(h2:∀s1,L2.PE X a (tV X.K X.mg env s1 (f2 s1)))(h3:∀s1,L2.PE X b (tV X.K X.mg env s1 (f3 s1))) :
 L2.PE X (.IfExp c a b pos) (tV X.K X.mg env s (o.bind fun t s1=>if t then f2 s1 else f3 s1)):=by
 cases o with
 |ok v s1=>
  refine zd (L2.iW h1 (h2 s1) (h3 s1)) fun σ H Q ⟨ρ,hr,er,wt⟩=>⟨ρ,hr,er,fun ρ1 x H1 x1 hr1 r1=>?_⟩
  have wt':=wt.mono x1 hr1
  cases r1
  cases v with
  |true=>exact L2.sy (⟨ρ1,hr1,er.mono x1,wt'⟩)
  |false=>exact L2.sx (⟨ρ1,hr1,er.mono x1,wt'⟩)
 |exc _ _ _=>exact zI nofun
 |stuck=>exact zI nofun
theorem uF{es:List Expr}{o:Out (List Val)}(h:∀v s',o≠.ok v s'):L2.PA X es (tVs X.K X.mg env s o):=YZ fun _ _ _=>ZJ h
theorem fQ:L2.PA X [] (tVs X.K X.mg env s (.ok [] s)):=iQ L2.wA fun σ H Q ⟨ρ,hr,er,wt⟩=>wt ρ [] H Ext.refl hr .nil
theorem ju{es:List Expr}{o:Out Val}{f2:Sto→Out (List Val)}(hp:plain a=true)(h1:L2.PE X a (tV X.K X.mg env s o))(h2:∀s1,L2.PA X es (tVs X.K X.mg env s1 (f2 s1))) :
 L2.PA X (a::es) (tVs X.K X.mg env s (o.bind fun v s1=>(f2 s1).bind fun vs s2=>.ok (v::vs) s2)):=by
 cases o with
 |ok v s1=>
  have h2':=h2 s1
  show L2.PA X _ (tVs X.K X.mg env s ((f2 s1).bind _))
  cases hb:f2 s1 with
  |ok ws s2=>
   rw[hb]at h2'
   exact iQ (L2.pac h1 h2' (zT hp)) fun σ H Q ⟨ρ,hr,er,wt⟩=>⟨ρ,hr,er,fun ρ1 x H1 x1 hr1 r1=>⟨ρ1,hr1,er.mono x1,fun ρ2 y H2 x2 hr2 r2=>wt ρ2 _ H2 (x1.trans hr1 x2) hr2 (.cons (r1.mono x2) r2)⟩⟩
  |exc _ _ _=>exact uF nofun
  |stuck=>exact uF nofun
 |exc _ _ _=>exact uF nofun
 |stuck=>exact uF nofun
theorem jt{es:List Expr}{o:Out (List Val)}{k:Nat}{pos:Pos}(h:L2.PA X es (tVs X.K X.mg env s o)):L2.PE X (.Tuple es k pos) (tV X.K X.mg env s (o.bind fun vs s1=>if vs.length≤zN then .ok (.tup vs) s1 else .stuck)):=by
 cases o with
 |ok vs s1=>
  refine zd (L2.ak h) fun σ H Q ⟨ρ,hr,er,wt⟩=>⟨ρ,hr,er,fun ρ1 xs H1 x1 hr1 r1=>?_⟩
  have wt':yW X.K X.mg (RD X.K X.mg) ρ1 H1 (if vs.length≤zN then .ok (.tup vs) s1 else .stuck) Q:=wt.mono x1 hr1
  by_cases hz:vs.length≤zN
  . rw[if_pos hz]at wt'
    exact⟨by rw[←r1.length,←yC];exact hz,mY hr1 r1 wt'⟩
  . rw[if_neg hz]at wt';exact wt'.elim
 |exc _ _ _=>exact zI nofun
 |stuck=>exact zI nofun
theorem bc{es:List Expr}{o:Out (List Val)}{m:Bool}{pos:Pos}(h:L2.PA X es (tVs X.K X.mg env s o)):L2.PE X (.List es pos) (tV X.K X.mg env s (o.bind fun vs s1=>if vs.length≤zN then newList m vs s1 else .stuck)):=by
 cases o with
 |ok vs s1=>
  refine zd (L2.af h) fun σ H Q ⟨ρ,hr,er,wt⟩=>⟨ρ,hr,er,fun ρ1 xs H1 x1 hr1 r1=>?_⟩
  have wt':yW X.K X.mg (RD X.K X.mg) ρ1 H1 (if vs.length≤zN then newList m vs s1 else .stuck) Q:=wt.mono x1 hr1
  by_cases hz:vs.length≤zN
  . rw[if_pos hz]at wt'
    exact⟨by rw[←r1.length,←yC];exact hz,uB hr1 r1 wt'⟩
  . rw[if_neg hz]at wt';exact wt'.elim
 |exc _ _ _=>exact zI nofun
 |stuck=>exact zI nofun
theorem Z3{es:List Expr}{o:Out (List Val)}{g:List Val→Sto→Out Val}(h:L2.PA X es (tVs X.K X.mg env s o))(rule:∀t,L2.PA X es t→L2.PE X E (L2.tCB (rMc X.K X.mg g) t)):L2.PE X E (tV X.K X.mg env s (o.bind g)):=by
 cases o with
 |ok vs s1=>exact zd (rule _ h) fun σ H Q ⟨ρ,hr,er,wt⟩=>⟨ρ,hr,er,fun ρ1 xs H1 x1 hr1 r1=>⟨ρ1,s1,vs,hr1,r1,wt.mono x1 hr1⟩⟩
 |exc _ _ _=>exact zI nofun
 |stuck=>exact zI nofun
theorem bZ{es:List Expr}{o:Out (List Val)}{f:Bf}{m:Bool}{k:Nat}{p pos:Pos}(k1:okF f=true)(hc:X.calm=true)(hr0:L2.yv k X.A)(hg:L2.Gl X f.nm)(hm:X.mg f.nm=none)(hp:yZ (a::es)=true)(h:L2.PA X (a::es) (tVs X.K X.mg env s o)) :
 L2.PE X (.Call (.Name f.nm p) (a::es) [] pos) (tV X.K X.mg env s (o.bind (blt f m))):=by
 rw[yZ,Bool.and_eq_true]at hp
 refine Z3 h fun t ht=>?_
 have hb:=gp hc hr0 f m k1
 have bo:=f.boot
 have st:=L2.zt (es:=es) (env:=X.env) (zT hp.1)
 have hn:=vp (pos:=pos) (env:=X.env) hp.2
 cases f with
 |tuple=>exact L2.vR hb hg hm bo ht (by decide) (by decide) st hn
 |list=>exact L2.vR hb hg hm bo ht (by decide) (by decide) st hn
 |int=>exact L2.vR hb hg hm bo ht (by decide) (by decide) st hn
 |str=>exact L2.vR hb hg hm bo ht (by decide) (by decide) st hn
 |_=>exact L2.iS hb hg hm bo ht (by decide) (by decide) st hn
theorem z6{o:Out Bool}(h:∀v s',o≠.ok v s'):L2.PT X E (tT X.K X.mg env s o):=Yl fun _ _ _=>d3 h
theorem bx{o:Out Val}(hp:plainT a=true)(h:L2.PE X a (tV X.K X.mg env s o)):L2.PT X a (tT X.K X.mg env s o.truth):=by
 cases o with
 |ok v s1=>
  refine qi (L2.iu h (kA hp)) fun σ H Q ⟨ρ,hr,er,wt⟩=>⟨ρ,hr,er,fun ρ1 x H1 x1 hr1 r1=>?_⟩
  have wt':=wt.mono x1 hr1
  simp only[Out.truth,zK]at wt'
  cases ht:truth s1 v with
  |none=>rw[ht]at wt';exact wt'.elim
  |some b=>rw[ht]at wt';exact⟨b,gT hr1 r1 ht,wt' _ _ _ Ext.refl hr1 rfl⟩
 |exc _ _ _=>exact z6 nofun
 |stuck=>exact z6 nofun
theorem bw{o:Out Bool}{pos:Pos}(h:L2.PT X a (tT X.K X.mg env s o)):L2.PT X (.UnaryOp .Not a pos) (tT X.K X.mg env s (o.bind fun b s1=>.ok (!b) s1)):=by
 cases o with
 |ok v s1=>exact qi (L2.ax h) fun σ H Q ⟨ρ,hr,er,wt⟩=>⟨ρ,hr,er,fun ρ1 x H1 x1 hr1 r1=>by cases r1;exact wt _ _ _ x1 hr1 rfl⟩
 |exc _ _ _=>exact z6 nofun
 |stuck=>exact z6 nofun
theorem uJ{o:Out Bool}(h:∀v s',o≠.ok v s'):L2.PW X E (tT X.K X.mg env s o):=Yo fun _ _ _=>d3 h
theorem og{pos:Pos}:L2.PW X (.BoolOp .And [] pos) (tT X.K X.mg env s (.ok true s)):=fun wh pins sh σ H Q I ⟨ρ,hr,er,wt⟩=>PyProof.Rows.isTrue_and_nil ⟨H,I,wt _ _ _ Ext.refl hr rfl⟩
theorem lQ{pos:Pos}:L2.PW X (.BoolOp .Or [] pos) (tT X.K X.mg env s (.ok false s)):=fun wh pins sh σ H Q I ⟨ρ,hr,er,wt⟩=>PyProof.Rows.isTrue_or_nil ⟨H,I,wt _ _ _ Ext.refl hr rfl⟩
theorem jz{rest:List Expr}{o:Out Bool}{f2:Sto→Out Bool}{pos:Pos}(h1:L2.PT X a (tT X.K X.mg env s o))(h2:∀s1,L2.PW X (.BoolOp .And rest pos) (tT X.K X.mg env s1 (f2 s1))) :
 L2.PW X (.BoolOp .And (a::rest) pos) (tT X.K X.mg env s (o.bind fun b s1=>if b then f2 s1 else .ok false s1)):=by
 cases o with
 |ok v s1=>
  intro wh pins sh σ H Q I h
  obtain⟨ρ,hr,er,wt⟩:=h
  refine PyProof.Rows.isTrue_and (L2.thn (h1 pins sh σ H (fun c H1=>if c=true then tT X.K X.mg env s1 (f2 s1) σ H1 Q else Q false H1) I ⟨ρ,hr,er,fun ρ1 x H1 x1 hr1 r1=>?_⟩) fun c s' ⟨H1,I1,q1⟩=>?_)
  . have wt':=wt.mono x1 hr1
    cases r1
    cases v with
    |true=>exact L2.sy (⟨ρ1,hr1,er.mono x1,wt'⟩)
    |false=>exact L2.sx (wt' _ _ _ Ext.refl hr1 rfl)
  . cases c with
    |true=>exact h2 s1 wh pins s' σ H1 Q I1 q1
    |false=>exact⟨H1,I1,q1⟩
 |exc _ _ _=>exact uJ nofun
 |stuck=>exact uJ nofun
theorem dg{rest:List Expr}{o:Out Bool}{f2:Sto→Out Bool}{pos:Pos}(h1:L2.PT X a (tT X.K X.mg env s o))(h2:∀s1,L2.PW X (.BoolOp .Or rest pos) (tT X.K X.mg env s1 (f2 s1))) :
 L2.PW X (.BoolOp .Or (a::rest) pos) (tT X.K X.mg env s (o.bind fun b s1=>if b then .ok true s1 else f2 s1)):=by
 cases o with
 |ok v s1=>
  intro wh pins sh σ H Q I h
  obtain⟨ρ,hr,er,wt⟩:=h
  refine PyProof.Rows.isTrue_or (L2.thn (h1 pins sh σ H (fun c H1=>if c=true then Q true H1 else tT X.K X.mg env s1 (f2 s1) σ H1 Q) I ⟨ρ,hr,er,fun ρ1 x H1 x1 hr1 r1=>?_⟩) fun c s' ⟨H1,I1,q1⟩=>?_)
  . have wt':=wt.mono x1 hr1
    cases r1
    cases v with
    |true=>exact L2.sy (wt' _ _ _ Ext.refl hr1 rfl)
    |false=>exact L2.sx (⟨ρ1,hr1,er.mono x1,wt'⟩)
  . cases c with
    |true=>exact⟨H1,I1,q1⟩
    |false=>exact h2 s1 wh pins s' σ H1 Q I1 q1
 |exc _ _ _=>exact uJ nofun
 |stuck=>exact uJ nofun
end
end M
end
section
namespace M
open PySem
section
variable {X:L2.Cx}{env:Env}{s:Sto}{E a b c:Expr}
theorem ig{e:Option Expr}{t t':L2.TO}(h:L2.PO X e t)(i:∀σ H Q,t' σ H Q→t σ H Q):L2.PO X e t':=fun pins s σ H Q I q=>h pins s σ H Q I (i σ H Q q)
theorem Y7{o:Out (Option Int)}(h:∀v s',o≠.ok v s'){σ:L2.St}{H:L2.Hp}{Q:Option Int→L2.Hp→Prop}:¬tO X.K X.mg env s o σ H Q:=by
 rintro ⟨ρ,_,_,w⟩
 cases o with
 |ok v s'=>exact h v s' rfl
 |_=>exact w
theorem p5{e:Option Expr}{o:Out (Option Int)}(h:∀v s',o≠.ok v s'):L2.PO X e (tO X.K X.mg env s o):=fun pins sh σ H Q I q=>(Y7 h q).elim
theorem Z8:L2.PO X none (tO X.K X.mg env s (.ok none s)):=ig L2.eM fun σ H Q ⟨ρ,hr,er,wt⟩=>wt _ _ _ Ext.refl hr rfl
theorem bp{o:Out Val}(h:L2.PE X a (tV X.K X.mg env s o)):L2.PO X (some a) (tO X.K X.mg env s (o.bind fun v s1=>match v with|.int i=>.ok (some i) s1|_=>.stuck)):=by
 cases o with
 |ok v s1=>
  refine ig (L2.eN h) fun σ H Q ⟨ρ,hr,er,wt⟩=>⟨ρ,hr,er,fun ρ1 x H1 x1 hr1 r1=>?_⟩
  have wt':=wt.mono x1 hr1
  cases r1 with
  |int i=>exact⟨i,rfl,wt' _ _ _ Ext.refl hr1 rfl⟩
  |_=>exact wt'.elim
 |exc _ _ _=>exact p5 nofun
 |stuck=>exact p5 nofun
noncomputable def rMs(K:KF)(mg:Str→Option Value)(m:Bool):L2.V→Option Int→Option Int→L2.Hp→L2.VK→Prop:=fun x lo hi H Q=>∃ρ s v,HR K mg ρ s H∧RD K mg ρ H v x∧yW K mg (RD K mg) ρ H (ug m v lo hi none s) Q
theorem Y0(m:Bool):L2.SlR X (rMs X.K X.mg m):=by
 intro pins s σ H x v vl vu lo hi sl Q I rx hs pl pu h
 obtain⟨ρ,t,w,hr,rw',wt⟩:=h
 simp only[ug]at wt
 split at wt
 . cases rw' with
   |tup n e q=>exact L2.eg pins s σ H _ v vl vu lo hi sl Q I rx hs pl pu ⟨_,_,rfl,e,w5 hr (q.cut lo hi) wt⟩
 . rename_i heq
   cases heq
 . split at wt
   . rename_i e
     obtain⟨p,xs,rfl,hq,q⟩:=xI hr rw' e
     exact L2.ef pins s σ H _ v vl vu lo hi sl Q I rx hs pl pu ⟨_,_,rfl,.of hq,uB hr (q.cut lo hi) wt⟩
   . exact wt.elim
 . rename_i heq
   cases heq
theorem Z6{lo hi st:Option Expr}{o:Out Val}{f2 f3 f4:Sto→Out (Option Int)}{m:Bool}{p2 pos:Pos}(h1:L2.PE X a (tV X.K X.mg env s o))(h2:∀s1,L2.PO X lo (tO X.K X.mg env s1 (f2 s1)))(h3:∀s1,L2.PO X hi (tO X.K X.mg env s1 (f3 s1)))
 (h4:∀s1,L2.PO X st (tO X.K X.mg env s1 (f4 s1))) (hst:(st=none∧∀s1,f4 s1=.ok none s1)∨∃e,st=some e∧∀s1 s2,f4 s1≠.ok none s2) :
 L2.PE X (.Subscript a (.Slice lo hi st p2) pos) (tV X.K X.mg env s (o.bind fun x s1=>(f2 s1).bind fun l s2=>(f3 s2).bind fun h s3=>(f4 s3).bind fun c s4=>ug m x l h c s4)):=by
 cases o with
 |ok v s1=>
  have h2':=h2 s1
  show L2.PE X _ (tV X.K X.mg env s ((f2 s1).bind _))
  cases hl:f2 s1 with
  |ok l s2=>
   rw[hl]at h2'
   have h3':=h3 s2
   show L2.PE X _ (tV X.K X.mg env s ((f3 s2).bind _))
   cases hh:f3 s2 with
   |ok h s3=>
    rw[hh]at h3'
    have h4':=h4 s3
    show L2.PE X _ (tV X.K X.mg env s ((f4 s3).bind _))
    rcases hst with⟨rfl,e4⟩|⟨e,rfl,e4⟩
    . rw[e4 s3]
      refine zd (L2.iX (Y0 m) h1 h2' h3') fun σ H Q ⟨ρ,hr,er,wt⟩=>⟨ρ,hr,er,fun ρ1 x H1 x1 hr1 r1=>⟨ρ1,hr1,er.mono x1,fun ρ2 y H2 x2 hr2 r2=>?_⟩⟩
      cases r2
      refine⟨ρ2,hr2,(er.mono x1).mono x2,fun ρ3 z H3 x3 hr3 r3=>?_⟩
      cases r3
      exact⟨ρ3,s3,v,hr3,(r1.mono x2).mono x3,wt.mono ((x1.trans hr1 x2).trans hr2 x3) hr3⟩
    . cases hc:f4 s3 with
      |ok cc s4=>
       rw[hc]at h4'
       cases cc with
       |none=>exact absurd hc (e4 s3 s4)
       |some ci=>
        by_cases hv:∃vs,v=.tup vs
        case neg=>
         refine zd (L2.nI h1 h2' h3' h4') fun σ H Q ⟨ρ,hr,er,wt⟩=>⟨ρ,hr,er,fun ρ1 x H1 x1 hr1 r1=>⟨ρ1,hr1,er.mono x1,fun ρ2 y H2 x2 hr2 r2=>?_⟩⟩
         cases r2
         refine⟨ρ2,hr2,(er.mono x1).mono x2,fun ρ3 z H3 x3 hr3 r3=>?_⟩
         cases r3
         refine⟨ρ3,hr3,((er.mono x1).mono x2).mono x3,fun ρ4 z4 H4 x4 hr4 r4=>?_⟩
         cases r4
         have wt':yW X.K X.mg (RD X.K X.mg) ρ4 H4 (ug m v l h (some ci) s4) Q:=wt.mono (((x1.trans hr1 x2).trans hr2 x3).trans hr3 x4) hr4
         have em:ug m v l h (some ci) s4=(match yf s4 v with|some vs=>if ci≠0 then newList m (L2.zo vs (L2.wy vs.length l h ci).1 ci (L2.wy vs.length l h ci).2) s4 else .stuck|Option.none=>.stuck):=by
          cases v with
          |tup vs=>exact absurd ⟨vs,rfl⟩ hv
          |_=>rfl
         rw[em]at wt'
         cases hl:yf s4 v with
         |none=>rw[hl]at wt';exact wt'.elim
         |some vs=>
          rw[hl]at wt'
          dsimp only at wt'
          obtain⟨p,xs,rfl,hq,q⟩:=xI hr4 (((r1.mono x2).mono x3).mono x4) hl
          by_cases c0:ci≠0
          . have wt2:yW X.K X.mg (RD X.K X.mg) ρ4 H4 (newList m (L2.zo vs (L2.wy vs.length l h ci).1 ci (L2.wy vs.length l h ci).2) s4) Q:=by rwa [if_pos c0]at wt'
            refine⟨p,xs,ci,rfl,.of hq,rfl,c0,?_⟩
            rw[←q.length]
            exact uB hr4 (q.zo _ _ _) wt2
          . rw[if_neg c0]at wt';exact wt'.elim
        refine zd (L2.l7 h1 h2' h3' h4') fun σ H Q ⟨ρ,hr,er,wt⟩=>⟨ρ,hr,er,fun ρ1 x H1 x1 hr1 r1=>⟨ρ1,hr1,er.mono x1,fun ρ2 y H2 x2 hr2 r2=>?_⟩⟩
        cases r2
        refine⟨ρ2,hr2,(er.mono x1).mono x2,fun ρ3 z H3 x3 hr3 r3=>?_⟩
        cases r3
        refine⟨ρ3,hr3,((er.mono x1).mono x2).mono x3,fun ρ4 z4 H4 x4 hr4 r4=>?_⟩
        cases r4
        have xx:=((x1.trans hr1 x2).trans hr2 x3).trans hr3 x4
        have wt':yW X.K X.mg (RD X.K X.mg) ρ4 H4 (ug m v l h (some ci) s4) Q:=wt.mono xx hr4
        have r:=((r1.mono x2).mono x3).mono x4
        cases r with
        |tup n e q=>
         change yW X.K X.mg (RD X.K X.mg) ρ4 H4 (if ci≠0∧(L2.yn (List.length _) l h ci).2≤zN then .ok (.tup (L2.zo _ (L2.yn (List.length _) l h ci).1 ci (L2.yn (List.length _) l h ci).2)) s4 else .stuck) Q at wt'
         split at wt'
         . rename_i hz
           have hlen:=q.length
           refine⟨_,_,ci,rfl,e,rfl,hz.1,by rw[←hlen,←yC];exact hz.2,?_⟩
           rw[←hlen]
           exact w5 hr4 (q.zo _ _ _) wt'
         . exact wt'.elim
        |_=>obtain⟨_,e⟩:=hv;cases e
      |exc _ _ _=>exact zI nofun
      |stuck=>exact zI nofun
   |exc _ _ _=>exact zI nofun
   |stuck=>exact zI nofun
  |exc _ _ _=>exact zI nofun
  |stuck=>exact zI nofun
 |exc _ _ _=>exact zI nofun
 |stuck=>exact zI nofun
theorem RDs.erase{K:KF}{mg:Str→Option Value}{ρ:Own}{H:L2.Hp}:∀{vs:List Val} {xs:List L2.V} (n:Nat),RDs K mg ρ H vs xs→RDs K mg ρ H (vs.eraseIdx n) (xs.eraseIdx n)
 |_,_,_,.nil=>.nil
 |_,_,0,.cons _ rs=>rs
 |_,_,n+1,.cons r rs=>.cons r (rs.erase n)
theorem gM{K:KF}{mg:Str→Option Value}{ρ:Own}{H:L2.Hp}:∀{vs:List Val} {ys:List Str} {xs:List L2.V},strsOf vs=some ys→RDs K mg ρ H vs xs→xs=ys.map .str
 |[],_,_,h,.nil=>by cases h;rfl
 |v::vs,ys,_,h,.cons r rs=>by
  cases v with
  |str x=>
   simp only[strsOf,Option.map_eq_some_iff]at h
   obtain⟨zs,h1,rfl⟩:=h
   cases r
   rw[gM h1 rs];rfl
  |_=>cases h
noncomputable def Mf.nm:Mf→Str
 |.count=>"count"|.append=>"append"|.extend=>"extend"|.pop=>"pop"|.index=>"index"|.join=>"join"
theorem js{f:Mf}{o:Out Val}{f2:Sto→Out Val}{apos cpos:Pos}(hs:qa a=true)(hp:plain b=true)(hline:(apos.endLine == cpos.line)=true)(h1:L2.PE X a (tV X.K X.mg env s o))(h2:∀s1,L2.PE X b (tV X.K X.mg env s1 (f2 s1))) :
 L2.PE X (.Call (.Attribute a f.nm apos) [b] [] cpos) (tV X.K X.mg env s (o.bind fun x s1=>((f2 s1).bind fun v s2=>(Out.ok [v] s2:Out (List Val))).bind fun vs s2=>z7 f x vs s2)):=by
 cases o with
 |ok v s1=>
  have h2':=h2 s1
  show L2.PE X _ (tV X.K X.mg env s (((f2 s1).bind fun v s2=>(Out.ok [v] s2:Out (List Val))).bind fun vs s2=>z7 f v vs s2))
  cases hb:f2 s1 with
  |ok w s2=>
   rw[hb]at h2'
   show L2.PE X _ (tV X.K X.mg env s (z7 f v [w] s2))
   cases f with
   |count=>
    by_cases hv:∃vs,v=.tup vs
    . obtain⟨vs,rfl⟩:=hv
      refine zd (L2.l6 h1 h2' (xX hs) (zT hp) hline) fun σ H Q ⟨ρ,hr,er,wt⟩=>⟨ρ,hr,er,fun ρ1 x H1 x1 hr1 r1=>?_⟩
      cases r1 with
      |tup n e q=>
       refine⟨⟨_,_,rfl,e⟩,ρ1,hr1,er.mono x1,fun ρ2 y H2 x2 hr2 r2=>?_⟩
       have wt':yW X.K X.mg (RD X.K X.mg) ρ2 H2 (z7 .count (.tup vs) [w] s2) Q:=wt.mono (x1.trans hr1 x2) hr2
       simp only[z7]at wt'
       split at wt'
       . rename_i hf
         rw[Bool.and_eq_true]at hf
         have q2:=q.mono x2
         refine⟨_,_,y,rfl,rfl,L2.SqT.of (x2.keep _ _ e n.1),r2.flat hf.1,q2.flat hf.2,?_⟩
         rw[RDs.countP r2 hf.1 q2 hf.2]
         exact zL hr2 (.int _) wt'
       . exact wt'.elim
    . refine zd (L2.l5 h1 h2' (xX hs) (zT hp) hline) fun σ H Q ⟨ρ,hr,er,wt⟩=>⟨ρ,hr,er,fun ρ1 x H1 x1 hr1 r1=>?_⟩
      have wt':yW X.K X.mg (RD X.K X.mg) ρ1 H1 (z7 .count v [w] s2) Q:=wt.mono x1 hr1
      have em:z7 .count v [w] s2=(match yf s2 v with|some vs=>if M.flat w&&vs.all M.flat then .ok (.int (vs.countP fun z=>eqF z w:Nat)) s2 else .stuck|Option.none=>.stuck):=by
       cases v with
       |tup vs=>exact absurd ⟨vs,rfl⟩ hv
       |_=>rfl
      rw[em]at wt'
      cases hl:yf s2 v with
      |none=>rw[hl]at wt';exact wt'.elim
      |some vs=>
       rw[hl]at wt'
       -- the receiver is a list already ahead of the argument
       have ty:L2.tyV X.K "list" x H1:=by
        cases r1 with
        |lst n e q=>exact .inl ⟨rfl,_,.of e⟩
        |ref e k=>
         obtain⟨xs,q⟩:=sD k
         exact .inl ⟨rfl,_,.of q⟩
        |_=>cases hl
       refine⟨ty,ρ1,hr1,er.mono x1,fun ρ2 y H2 x2 hr2 r2=>?_⟩
       obtain⟨p,xs,rfl,hq,q⟩:=xI hr2 (r1.mono x2) hl
       have wt2:=wt'.mono x2 hr2
       simp only at wt2
       split at wt2
       . rename_i hf
         rw[Bool.and_eq_true]at hf
         refine⟨_,_,y,rfl,rfl,L2.SqL.of hq,r2.flat hf.1,q.flat hf.2,?_⟩
         rw[RDs.countP r2 hf.1 q hf.2]
         exact zL hr2 (.int _) wt2
       . exact wt2.elim
   |append=>
    cases v with
    |ref i=>
     refine zd (L2.l0 (es:=[]) h1 h2' (xX hs) (zT hp) hline) fun σ H Q ⟨ρ,hr,er,wt⟩=>⟨ρ,hr,er,fun ρ1 x H1 x1 hr1 r1=>?_⟩
     cases r1 with
     |ref e k=>
      obtain⟨xs,q⟩:=sD k
      refine⟨.inl ⟨rfl,_,.of q⟩,ρ1,hr1,er.mono x1,fun ρ2 y H2 x2 hr2 r2=>?_⟩
      have wt':yW X.K X.mg (RD X.K X.mg) ρ2 H2 (z7 .append (.ref i) [w] s2) Q:=wt.mono (x1.trans hr1 x2) hr2
      simp only[z7]at wt'
      split at wt'
      . rename_i vs hv
        split at wt'
        . rename_i hz
          obtain⟨b',ys,e1,e2,q2⟩:=hr2.obj i _ hv
          have e':=x2.get e
          rw[e']at e1;cases e1
          refine⟨_,ys,y,rfl,rfl,e2,by rw[←q2.length,←yC];exact hz,?_⟩
          exact wt' _ _ _ (Ext.write hr2 e' e2 _) (hr2.write e' e2 (q2.append (.cons r2 .nil))) .none
        . exact wt'.elim
      . exact wt'.elim
    |_=>exact zI nofun
   |extend=>
    cases v with
    |ref i=>
     have hs1:starEach [b] X.env=(false,eval b X.env)::starEach [] X.env:=L2.zt (zT hp)
     have rule:L2.PE X (.Call (.Attribute a "extend" apos) [b] [] cpos) (L2.tBM X.K "list" L2.mn _ (L2.u0 _ L2.oH)):=L2.pj PySem.F.plainAttrs_list PySem.F.slot_list_extend PySem.F.type_list_extend L2.lZ h1 (L2.pac h2' L2.wA (zT hp)) (xX hs) (by rw[hs1];rfl) hline hs1 rfl
     refine zd rule fun σ H Q ⟨ρ,hr,er,wt⟩=>⟨ρ,hr,er,fun ρ1 x H1 x1 hr1 r1=>?_⟩
     cases r1 with
     |ref e k=>
      obtain⟨xs,q⟩:=sD k
      refine⟨.inl ⟨rfl,_,.of q⟩,ρ1,hr1,er.mono x1,fun ρ2 y H2 x2 hr2 r2=>?_⟩
      have wt':yW X.K X.mg (RD X.K X.mg) ρ2 H2 (z7 .extend (.ref i) [w] s2) Q:=wt.mono (x1.trans hr1 x2) hr2
      simp only[z7]at wt'
      split at wt'
      . rename_i vs ws hv hw
        split at wt'
        . rename_i hz
          obtain⟨b',ys,e1,e2,q2⟩:=hr2.obj i _ hv
          obtain⟨p,zs,rfl,hq,q3⟩:=xI hr2 r2 hw
          have e':=x2.get e
          rw[e']at e1;cases e1
          refine⟨_,_,ys,zs,rfl,rfl,e2,hq,by rw[←q2.length,←q3.length,←yC];exact hz,?_⟩
          exact wt' _ _ _ (Ext.write hr2 e' e2 _) (hr2.write e' e2 (q2.append q3)) .none
        . exact wt'.elim
      . exact wt'.elim
    |_=>exact zI nofun
   |pop=>
    cases v with
    |ref i=>
     have hs1:starEach [b] X.env=(false,eval b X.env)::starEach [] X.env:=L2.zt (zT hp)
     have rule:L2.PE X (.Call (.Attribute a "pop" apos) [b] [] cpos) (L2.tBM X.K "list" L2.iz _ (L2.u0 _ L2.oH)):=L2.pj PySem.F.plainAttrs_list PySem.F.slot_list_pop PySem.F.type_list_pop L2.j9 h1 (L2.pac h2' L2.wA (zT hp)) (xX hs) (by rw[hs1];rfl) hline hs1 rfl
     refine zd rule fun σ H Q ⟨ρ,hr,er,wt⟩=>⟨ρ,hr,er,fun ρ1 x H1 x1 hr1 r1=>?_⟩
     cases r1 with
     |ref e k=>
      obtain⟨xs,q⟩:=sD k
      refine⟨.inl ⟨rfl,_,.of q⟩,ρ1,hr1,er.mono x1,fun ρ2 y H2 x2 hr2 r2=>?_⟩
      have wt':yW X.K X.mg (RD X.K X.mg) ρ2 H2 (z7 .pop (.ref i) [w] s2) Q:=wt.mono (x1.trans hr1 x2) hr2
      cases w with
      |int j=>
       simp only[z7]at wt'
       split at wt'
       . rename_i vs hv
         split at wt'
         . rename_i hz
           split at wt'
           . rename_i n hn
             split at wt'
             . rename_i u hu
               cases r2
               obtain⟨b',ys,e1,e2,q2⟩:=hr2.obj i _ hv
               have e':=x2.get e
               rw[e']at e1;cases e1
               obtain⟨u',hu',ru⟩:=q2.get hu
               refine⟨_,ys,j,n,u',rfl,rfl,e2,hz.1,hz.2,by rw[←q2.length];exact hn,hu',?_⟩
               exact wt' _ _ _ (Ext.write hr2 e' e2 _) (hr2.write e' e2 (q2.erase n)) (ru.mono (Ext.write hr2 e' e2 _))
             . exact wt'.elim
           . exact wt'.elim
         . exact wt'.elim
       . exact wt'.elim
      |_=>exact wt'.elim
    |_=>exact zI nofun
   |index=>exact zI nofun
   |join=>
    cases v with
    |str z=>
     refine zd (L2.eG h1 h2' (xX hs) (zT hp) hline) fun σ H Q ⟨ρ,hr,er,wt⟩=>⟨ρ,hr,er,fun ρ1 x H1 x1 hr1 r1=>?_⟩
     cases r1
     refine⟨rfl,ρ1,hr1,er.mono x1,fun ρ2 y H2 x2 hr2 r2=>?_⟩
     have wt':yW X.K X.mg (RD X.K X.mg) ρ2 H2 (z7 .join (.str z) [w] s2) Q:=wt.mono (x1.trans hr1 x2) hr2
     simp only[z7]at wt'
     split at wt'
     . rename_i vs hv
       split at wt'
       . rename_i ys hy
         split at wt'
         . rename_i hz
           obtain⟨p,xs,rfl,hq,q⟩:=xI hr2 r2 hv
           rw[gM hy q]at hq
           exact⟨z,p,ys,rfl,rfl,.of hq,hz,zL hr2 (.str _) wt'⟩
         . exact wt'.elim
       . exact wt'.elim
     . exact wt'.elim
    |_=>exact zI nofun
  |exc _ _ _=>exact zI nofun
  |stuck=>exact zI nofun
 |exc _ _ _=>exact zI nofun
 |stuck=>exact zI nofun
end
noncomputable def spN(T:Tbl)(K:KF)(mg:Str→Option Value)(n:Nat)(f:Str)(ver:Nat):L2.Sp:=fun vs H Q _=>∃ρ s args,HR K mg ρ s H∧RDs K mg ρ H args vs∧yW K mg (RD K mg) ρ H (zF T n f ver args s) Q
structure Callee(T:Tbl)(n:Nat)(X:L2.Cx)(f:Str)(ver:Nat)(F:Fn):Prop where
 ex:∃fa fd,X.mg f=some (.ref fa)∧PySem.W.keepIn X.K (.ref fa)=true∧L2.Binds X.K fd F.ps []∧L2.u7 X.prog X.w X.K X.mg X.base L2.CX0 n fa fd F.ps (spN T X.K X.mg n f ver)
section
variable {X:L2.Cx}{env:Env}{s:Sto}{T:Tbl}{n ver:Nat}{f:Str}{F:Fn}
theorem jo{p pos:Pos}(C:Callee T n X f ver F)(hr0:L2.yv n X.A)(hg:L2.Gl X f)(hd:(f == ("__debug__":Str))=false):L2.PE X (.Call (.Name f p) [] [] pos) (tV X.K X.mg env s (zF T n f ver [] s)):=by
 obtain⟨fa,fd,hm,hk,hb,hf⟩:=C.ex
 exact zd (L2.iR hf hr0 hg hm hk hb .nil L2.dm hd) fun σ H Q ⟨ρ,hr,er,wt⟩=>⟨ρ,s,[],hr,.nil,wt⟩
theorem fO{es:List Expr}{o:Out (List Val)}{p pos:Pos}(C:Callee T n X f ver F)(hr0:L2.yv n X.A)(hg:L2.Gl X f)(hd:(f == ("__debug__":Str))=false)(hp:yZ es=true)(hne:es≠[])(h:L2.PA X es (tVs X.K X.mg env s o)) :
 L2.PE X (.Call (.Name f p) es [] pos) (tV X.K X.mg env s (o.bind (zF T n f ver))):=by
 obtain⟨fa,fd,hm,hk,hb,hf⟩:=C.ex
 cases o with
 |ok vs s1=>
  cases es with
  |nil=>exact absurd rfl hne
  |cons e es=>
   rw[yZ,Bool.and_eq_true]at hp
   refine zd (L2.eB hf hr0 hg hm hk hb .nil L2.dm h hd (L2.zt (zT hp.1)) (vp hp.2)) fun σ H Q ⟨ρ,hr,er,wt⟩=>⟨ρ,hr,er,fun ρ1 xs H1 x1 hr1 r1=>?_⟩
   show spN T X.K X.mg n f ver (xs++[]) H1 Q L2.E0
   rw[List.append_nil]
   exact⟨ρ1,s1,vs,hr1,r1,wt.mono x1 hr1⟩
 |exc _ _ _=>exact zI nofun
 |stuck=>exact zI nofun
end
end M
end
section
namespace M
open PySem
mutual
theorem beq_eq:∀{a b:Val},a.beq b=true→a=b
 |.none,b,h=>by cases b<;>first|rfl|cases h
 |.bool x,b,h=>by cases b with|bool y=>simp only[Val.beq,beq_iff_eq]at h;rw[h]|_=>cases h
 |.int x,b,h=>by cases b with|int y=>simp only[Val.beq,beq_iff_eq]at h;rw[h]|_=>cases h
 |.str x,b,h=>by cases b with|str y=>simp only[Val.beq,beq_iff_eq]at h;rw[h]|_=>cases h
 |.tup x,b,h=>by cases b with|tup y=>simp only[Val.beq]at h;rw[xk h]|_=>cases h
 |.lst x,b,h=>by cases b with|lst y=>simp only[Val.beq]at h;rw[xk h]|_=>cases h
 |.dct0,b,h=>by cases b<;>first|rfl|cases h
 |.ctup x,b,h=>by cases b with|ctup y=>simp only[Val.beq,beq_iff_eq]at h;rw[h]|_=>cases h
 |.scr x,b,h=>by cases b with|scr y=>simp only[Val.beq,beq_iff_eq]at h;rw[h]|_=>cases h
 |.ref x,b,h=>by cases b with|ref y=>simp only[Val.beq,beq_iff_eq]at h;rw[h]|_=>cases h
 |.fn x,b,h=>by cases b with|fn y=>simp only[Val.beq,beq_iff_eq]at h;rw[h]|_=>cases h
 |.ty x,b,h=>by cases b with|ty y=>simp only[Val.beq,beq_iff_eq]at h;rw[h]|_=>cases h
 |.dref x,b,h=>by cases b with|dref y=>simp only[Val.beq,beq_iff_eq]at h;rw[h]|_=>cases h
theorem xk:∀{a b:List Val},tm a b=true→a=b
 |[],[],_=>rfl
 |[],_::_,h=>by cases h
 |_::_,[],h=>by cases h
 |x::xs,y::ys,h=>by
  rw[tm,Bool.and_eq_true]at h
  rw[beq_eq h.1,xk h.2]
end
section
variable {K:KF}{mg:Str→Option Value}
theorem Mv.refl{ρ:Own}{H:L2.Hp}:Mv ρ H ρ H:=⟨fun a o e n=>⟨e,n⟩,fun i a e=>e,fun _ _=>rfl⟩
theorem Mv.trans{ρ ρ1 ρ2:Own}{H H1 H2:L2.Hp}(x:Mv ρ H ρ1 H1)(y:Mv ρ1 H1 ρ2 H2):Mv ρ H ρ2 H2:=
 ⟨fun a o e n=>y.keep a o (x.keep a o e n).1 (x.keep a o e n).2,fun i a e=>y.get i a (x.get i a e),fun a ha=>by
  obtain⟨i,hi⟩:=List.getElem?_of_mem ha
  exact(y.kd a (List.mem_of_getElem? (x.get i a hi))).trans (x.kd a ha)⟩
structure Walk(K:KF)(mg:Str→Option Value)(ρ:Own)(H:L2.Hp)(r:Src)(J:L2.It):Prop where
 len:r.xs.length≤zN
 go:∀(ρ2:Own) (H2:L2.Hp) (s2:Sto) (i:Nat) (v:Val),Mv ρ H ρ2 H2→HR K mg ρ2 s2 H2→r.ok s2=true→r.xs[i]?=some v→J.go i H2∧∀x H3,J.yld i H2 x H3→(H3=H2∨∃p o,H2 p=none∧H3=L2.upd H2 p o)∧RD K mg ρ2 H3 v x
 stop:∀(ρ2:Own) (H2:L2.Hp) (s2:Sto) (i:Nat),Mv ρ H ρ2 H2→HR K mg ρ2 s2 H2→r.ok s2=true→i=r.xs.length→J.stop i H2
theorem Walk.mv{ρ ρ1:Own}{H H1:L2.Hp}{r:Src}{J:L2.It}(w:Walk K mg ρ H r J)(x:Mv ρ H ρ1 H1):Walk K mg ρ1 H1 r J:=
 ⟨w.len,fun ρ2 H2 s2 i v y=>w.go ρ2 H2 s2 i v (x.trans y),fun ρ2 H2 s2 i y=>w.stop ρ2 H2 s2 i (x.trans y)⟩
def ke(H:L2.Hp):Prop:=∀a xs,(H a=some (.tup xs)∨H a=some (.lst xs))→xs.length≤sizeLine
theorem uG{X:L2.Cx}{tg it:Expr}{wi:L2.TI}(h:L2.PI X tg it wi):L2.PI X tg it (fun σ H R=>wi σ H fun J H1=>ke H1→R J H1):=fun pins s σ H R I q=>
 L2.thn (h pins s σ H _ I q) fun v s1 h1=>L2.thn h1 fun itv s2 ⟨i,fp,tn,J,H',e,I',T,t0,f,r⟩=>⟨i,fp,tn,J,H',e,I',T,t0,f,r fun a xs hx=>by
  rcases hx with hx|hx
  . obtain⟨z,_⟩:=(show L2.zl X.prog X.w H' s2.heap a (.tup xs) from I'.hok a _ hx);exact z
  . obtain⟨z,_⟩:=(show L2.zl X.prog X.w H' s2.heap a (.lst xs) from I'.hok a _ hx);exact z⟩
theorem gZ{ρ:Own}{H:L2.Hp}{a:Addr}{vs:List Val}{xs:List L2.V}(hz:vs.length≤zN)(n:ρ.no a)(e:H a=some (.tup xs))(q:RDs K mg ρ H vs xs):Walk K mg ρ H ⟨vs,none⟩ (L2.Itt K a) where
 len:=hz
 go:=fun ρ2 H2 s2 i v x hr _ hv=>by
  have e2:=(x.keep a _ e n).1
  have q2:=RDs.mv x q
  obtain⟨y,h1,h2⟩:=q2.get hv
  refine⟨⟨xs,y,.of e2,h1⟩,fun z H3 ⟨e3,h3⟩=>⟨.inl e3,?_⟩⟩
  subst e3
  have:=h3 xs (.of e2)
  rw[h1]at this;cases this
  exact h2
 stop:=fun ρ2 H2 s2 i x hr _ hi=>⟨xs,.of (x.keep a _ e n).1,by rw[←q.length];exact Nat.le_of_eq hi.symm⟩
theorem gX{ρ:Own}{H:L2.Hp}{a:Addr}{vs:List Val}{xs:List L2.V}(hz:vs.length≤zN)(n:ρ.no a)(e:H a=some (.lst xs))(q:RDs K mg ρ H vs xs):Walk K mg ρ H ⟨vs,none⟩ (L2.Itl K a) where
 len:=hz
 go:=fun ρ2 H2 s2 i v x hr _ hv=>by
  have e2:=(x.keep a _ e n).1
  have q2:=RDs.mv x q
  obtain⟨y,h1,h2⟩:=q2.get hv
  refine⟨⟨xs,y,.of e2,h1⟩,fun z H3 ⟨e3,h3⟩=>⟨.inl e3,?_⟩⟩
  subst e3
  have:=h3 xs (.of e2)
  rw[h1]at this;cases this
  exact h2
 stop:=fun ρ2 H2 s2 i x hr _ hi=>⟨xs,.of (x.keep a _ e n).1,by rw[←q.length];exact Nat.le_of_eq hi.symm⟩
theorem kT{ρ:Own}{H:L2.Hp}{a:Addr}{ns:List Int}(k:KT K a (ns.map L2.V.int)):Walk K mg ρ H ⟨ns.map .int,none⟩ (L2.Itt K a) where
 len:=by
  obtain⟨o,its,n,_,_,_,h4,h5⟩:=k
  have:=h5.length
  simp only[List.length_map,Array.length_toList]at this
  show (ns.map Val.int).length≤_
  rw[List.length_map,yC,this];exact h4
 go:=fun ρ2 H2 s2 i v x hr _ hv=>by
  obtain⟨y,h1,h2⟩:=(RDs.ints (K:=K) (mg:=mg) (ρ:=ρ2) (H:=H2) ns).get hv
  refine⟨⟨_,y,k.sqt,h1⟩,fun z H3 ⟨e3,h3⟩=>⟨.inl e3,?_⟩⟩
  subst e3
  have:=h3 _ k.sqt
  rw[h1]at this;cases this
  exact h2
 stop:=fun ρ2 H2 s2 i x hr _ hi=>⟨_,k.sqt,by rw[List.length_map];rw[hi];simp⟩
theorem gY{ρ:Own}{H:L2.Hp}{i0:Nat}{a:Addr}{vs:List Val}(hz:vs.length≤zN)(e:ρ.o[i0]?=some a):Walk K mg ρ H ⟨vs,some i0⟩ (L2.Itl K a) where
 len:=hz
 go:=fun ρ2 H2 s2 i v x hr ho hv=>by
  simp only[Src.ok]at ho
  split at ho
  . rename_i ws hw
    cases xk ho
    obtain⟨b,xs,e1,e2,q⟩:=hr.obj i0 _ hw
    rw[x.get _ _ e]at e1;cases e1
    obtain⟨y,h1,h2⟩:=q.get hv
    refine⟨⟨xs,y,.of e2,h1⟩,fun z H3 ⟨e3,h3⟩=>⟨.inl e3,?_⟩⟩
    subst e3
    have:=h3 xs (.of e2)
    rw[h1]at this;cases this
    exact h2
  . cases ho
 stop:=fun ρ2 H2 s2 i x hr ho hi=>by
  simp only[Src.ok]at ho
  split at ho
  . rename_i ws hw
    cases xk ho
    obtain⟨b,xs,e1,e2,q⟩:=hr.obj i0 _ hw
    rw[x.get _ _ e]at e1;cases e1
    exact⟨xs,.of e2,by rw[←q.length];exact Nat.le_of_eq hi.symm⟩
  . cases ho
theorem i9{lo:Int}{n i:Nat}:(yp lo n)[i]?=if i<n then some (.int (lo+i)) else none:=by
 unfold yp
 rw[List.getElem?_map]
 by_cases h:i<n
 . rw[if_pos h,List.getElem?_range h];rfl
 . rw[if_neg h,List.getElem?_eq_none (by rw[List.length_range];omega)];rfl
theorem oB{lo:Int}{n:Nat}:(yp lo n).length=n:=by unfold yp;rw[List.length_map,List.length_range]
theorem oK{ρ:Own}{H:L2.Hp}{lo:Int}{n:Nat}(hz:n≤zN):Walk K mg ρ H ⟨yp lo n,none⟩ (L2.Itr lo n) where
 len:=by show (yp lo n).length≤_;rw[oB];exact hz
 go:=fun ρ2 H2 s2 i v x hr _ hv=>by
  have hv':(yp lo n)[i]?=some v:=hv
  rw[i9]at hv'
  split at hv'
  . rename_i hi
    cases hv'
    refine⟨hi,fun z H3 ⟨e3,h3⟩=>⟨.inl e3,?_⟩⟩
    subst h3
    exact .int _
  . cases hv'
 stop:=fun ρ2 H2 s2 i x hr _ hi=>by
  have:i=(yp lo n).length:=hi
  rw[oB]at this;exact Nat.le_of_eq this.symm
theorem uX:∀{vs:List Val} {n i:Nat},(yq n vs)[i]?=(vs[i]?).map fun v=>.tup [.int ((n+i:Nat):Int),v]
 |[],_,_=>rfl
 |v::vs,n,0=>rfl
 |v::vs,n,i+1=>by
  show (yq (n+1) vs)[i]?=(vs[i]?).map _
  rw[uX]
  rw[show n+1+i=n+(i+1) by omega]
theorem wI:∀{vs:List Val} {n:Nat},(yq n vs).length=vs.length
 |[],_=>rfl
 |v::vs,n=>by show (yq (n+1) vs).length+1=_;rw[wI];rfl
theorem kU{ρ:Own}{H:L2.Hp}{a:Addr}{vs:List Val}{xs:List L2.V}(hz:vs.length≤zN)(n:ρ.no a)(e:H a=some (.tup xs))(q:RDs K mg ρ H vs xs):Walk K mg ρ H ⟨yq 0 vs,none⟩ (L2.Ite K a) where
 len:=by show (yq 0 vs).length≤_;rw[wI];exact hz
 go:=fun ρ2 H2 s2 i v x hr _ hv=>by
  have e2:=(x.keep a _ e n).1
  have q2:=RDs.mv x q
  have hv':(yq 0 vs)[i]?=some v:=hv
  rw[uX,Option.map_eq_some_iff]at hv'
  obtain⟨w,h0,rfl⟩:=hv'
  obtain⟨y,h1,h2⟩:=q2.get h0
  refine⟨⟨xs,y,.of e2,h1⟩,fun z H3 ⟨t,y',ht,e3,h3,e4⟩=>⟨.inr ⟨t,_,ht,e4⟩,?_⟩⟩
  subst e3 e4
  have:=h3 xs (.of e2)
  rw[h1]at this;cases this
  have X:=Ext.new hr ht (.tup [.int ((i:Nat):Int),y])
  refine .tup (hr.new ht) L2.zc (.cons ?_ (.cons (h2.mono X) .nil))
  rw[Nat.zero_add];exact .int _
 stop:=fun ρ2 H2 s2 i x hr _ hi=>⟨xs,.of (x.keep a _ e n).1,by rw[←q.length,hi];exact wI.symm⟩
theorem nv{ρ:Own}{H:L2.Hp}{a:Addr}{vs:List Val}{xs:List L2.V}(hz:vs.length≤zN)(n:ρ.no a)(e:H a=some (.lst xs))(q:RDs K mg ρ H vs xs):Walk K mg ρ H ⟨yq 0 vs,none⟩ (L2.cE K a) where
 len:=by show (yq 0 vs).length≤_;rw[wI];exact hz
 go:=fun ρ2 H2 s2 i v x hr _ hv=>by
  have e2:=(x.keep a _ e n).1
  have q2:=RDs.mv x q
  have hv':(yq 0 vs)[i]?=some v:=hv
  rw[uX,Option.map_eq_some_iff]at hv'
  obtain⟨w,h0,rfl⟩:=hv'
  obtain⟨y,h1,h2⟩:=q2.get h0
  refine⟨⟨xs,y,.of e2,h1⟩,fun z H3 ⟨t,y',ht,e3,h3,e4⟩=>⟨.inr ⟨t,_,ht,e4⟩,?_⟩⟩
  subst e3 e4
  have:=h3 xs (.of e2)
  rw[h1]at this;cases this
  have X:=Ext.new hr ht (.tup [.int ((i:Nat):Int),y])
  refine .tup (hr.new ht) L2.zc (.cons ?_ (.cons (h2.mono X) .nil))
  rw[Nat.zero_add];exact .int _
 stop:=fun ρ2 H2 s2 i x hr _ hi=>⟨xs,.of (x.keep a _ e n).1,by rw[←q.length,hi];exact wI.symm⟩
noncomputable def tI(env:Env)(s:Sto)(o:Out Src):L2.TI:=fun σ H R=>∃ρ,HR K mg ρ s H∧ER K mg ρ H env σ∧(match o with
 |.ok r s'=>∀ρ' H' J,Ext ρ H ρ' H'→HR K mg ρ' s' H'→Walk K mg ρ' H' r J→R J H'
 |_=>False)
end
section
variable {X:L2.Cx}{env:Env}{s:Sto}{a b tg:Expr}
theorem vo{it:Expr}{t t':L2.TI}(h:L2.PI X tg it t)(i:∀σ H R,t' σ H R→t σ H R):L2.PI X tg it t':=fun pins s σ H R I q=>h pins s σ H R I (i σ H R q)
theorem yK{it:Expr}{o:Out Src}(h:∀v s',o≠.ok v s'):L2.PI X tg it (tI (K:=X.K) (mg:=X.mg) env s o):=fun pins sh σ H R I q=>by
 obtain⟨ρ,_,_,w⟩:=q
 cases o with
 |ok v s'=>exact(h v s' rfl).elim
 |exc _ _ _=>exact w.elim
 |stuck=>exact w.elim
theorem ke.of{K:KF}{mg:Str→Option Value}{ρ:Own}{H:L2.Hp}(z:ke H){a:Addr}{vs:List Val}{xs:List L2.V}(q:RDs K mg ρ H vs xs)(h:H a=some (.tup xs)∨H a=some (.lst xs)):vs.length≤zN:=by
 rw[q.length,yC];exact z a xs h
theorem bj{o:Out Val}(h:L2.PE X a (tV X.K X.mg env s o)):L2.PI X tg a (tI (K:=X.K) (mg:=X.mg) env s (o.bind fun v s1=>match srcOf s1 v with|some r=>.ok r s1|Option.none=>.stuck)):=by
 cases o with
 |ok v s1=>
  show L2.PI X tg a (tI (K:=X.K) (mg:=X.mg) env s (match srcOf s1 v with|some r=>.ok r s1|Option.none=>.stuck))
  cases v with
  |tup vs=>
   refine vo (uG (L2.iZ h)) fun σ H R ⟨ρ,hr,er,w⟩=>⟨ρ,hr,er,fun ρ1 x H1 x1 hr1 r1=>?_⟩
   cases r1 with
   |tup n e q=>exact⟨_,rfl,⟨_,.of e⟩,fun z=>w ρ1 H1 _ x1 hr1 (gZ (z.of q (.inl e)) n e q)⟩
  |lst vs=>
   refine vo (uG (L2.mh h)) fun σ H R ⟨ρ,hr,er,w⟩=>⟨ρ,hr,er,fun ρ1 x H1 x1 hr1 r1=>?_⟩
   cases r1 with
   |lst n e q=>exact⟨_,rfl,⟨_,.of e⟩,fun z=>w ρ1 H1 _ x1 hr1 (gX (z.of q (.inr e)) n e q)⟩
  |ctup ns=>
   refine vo (L2.iZ h) fun σ H R ⟨ρ,hr,er,w⟩=>⟨ρ,hr,er,fun ρ1 x H1 x1 hr1 r1=>?_⟩
   cases r1 with
   |ctup k=>exact⟨_,rfl,⟨_,k.sqt⟩,w ρ1 H1 _ x1 hr1 (kT k)⟩
  |ref i=>
   simp only[srcOf]
   cases hs:s1[i]? with
   |none=>exact yK nofun
   |some cl=>
    cases cl with
    |lst vs=>
     refine vo (uG (L2.mh h)) fun σ H R ⟨ρ,hr,er,w⟩=>⟨ρ,hr,er,fun ρ1 x H1 x1 hr1 r1=>?_⟩
     cases r1 with
     |ref e=>
      obtain⟨b',xs,e1,e2,q⟩:=hr1.obj i _ hs
      rw[e]at e1;cases e1
      exact⟨_,rfl,⟨_,.of e2⟩,fun z=>w ρ1 H1 _ x1 hr1 (gY (z.of q (.inr e2)) e)⟩
    |_=>exact yK nofun
  |_=>exact yK nofun
 |exc _ _ _=>exact yK nofun
 |stuck=>exact yK nofun
theorem lO{o:Out Val}{p pos:Pos}(hp:plain a=true)(hg:L2.Gl X "range")(hm:X.mg "range"=none)(h:L2.PE X a (tV X.K X.mg env s o)) :
 L2.PI X tg (.Call (.Name "range" p) [a] [] pos) (tI (K:=X.K) (mg:=X.mg) env s (o.bind fun x s1=>match x with
  |.int j=>if -(2 ^ 62)≤j∧j≤zN then .ok ⟨yp 0 j.toNat,Option.none⟩ s1 else .stuck
  |_=>.stuck)):=by
 cases o with
 |ok v s1=>
  have st:starEach [a] X.env=[(false,eval a X.env)]:=L2.zt (zT hp)
  refine vo (L2.l8 hg hm (L2.pac h L2.wA (zT hp)) st) fun σ H R ⟨ρ,hr,er,w⟩=>⟨ρ,hr,er,fun ρ1 x H1 x1 hr1 r1=>?_⟩
  cases r1 with
  |int j=>
   simp only[zK]at w
   by_cases hz:-(2 ^ 62)≤j∧j≤zN
   . rw[if_pos hz]at w
     have hl:(zN:Int)<2 ^ 62:=by decide
     exact⟨j,rfl,hz.1,by omega,w ρ1 H1 _ x1 hr1 (oK (by omega))⟩
   . rw[if_neg hz]at w;exact w.elim
  |_=>exact w.elim
 |exc _ _ _=>exact yK nofun
 |stuck=>exact yK nofun
theorem lP{o:Out Val}{f2:Sto→Out Val}{p pos:Pos}(hp:plain a=true)(hp2:plain b=true)(hg:L2.Gl X "range")(hm:X.mg "range"=none)(h:L2.PE X a (tV X.K X.mg env s o))(h2:∀s1,L2.PE X b (tV X.K X.mg env s1 (f2 s1))) :
 L2.PI X tg (.Call (.Name "range" p) [a,b] [] pos) (tI (K:=X.K) (mg:=X.mg) env s (o.bind fun x s1=>(f2 s1).bind fun y s2=>match x,y with
  |.int i,.int j=>if -(2 ^ 62)≤i∧i<2 ^ 62∧-(2 ^ 62)≤j∧j<2 ^ 62∧j-i≤zN then .ok ⟨yp i (j-i).toNat,Option.none⟩ s2 else .stuck
  |_,_=>.stuck)):=by
 cases o with
 |ok v s1=>
  have h2':=h2 s1
  simp only[zK]
  cases hb:f2 s1 with
  |ok w s2=>
   rw[hb]at h2'
   have st2:starEach [b] X.env=[(false,eval b X.env)]:=L2.zt (zT hp2)
   have st:starEach [a,b] X.env=[(false,eval a X.env),(false,eval b X.env)]:=by rw[L2.zt (zT hp),st2]
   refine vo (L2.l9 hg hm (L2.pac h (L2.pac h2' L2.wA (zT hp2)) (zT hp)) st st2) fun σ H R ⟨ρ,hr,er,wt⟩=>⟨ρ,hr,er,fun ρ1 x H1 x1 hr1 r1=>⟨ρ1,hr1,er.mono x1,fun ρ2 y H2 x2 hr2 r2=>?_⟩⟩
   simp only[zK]at wt
   cases r1 with
   |int i=>
    cases r2 with
    |int j=>
     simp only at wt
     by_cases hz:-(2 ^ 62)≤i∧i<2 ^ 62∧-(2 ^ 62)≤j∧j<2 ^ 62∧j-i≤zN
     . rw[if_pos hz]at wt
       exact⟨i,j,rfl,⟨hz.1,hz.2.1,hz.2.2.1,hz.2.2.2.1⟩,wt ρ2 H2 _ (x1.trans hr1 x2) hr2 (oK (by omega))⟩
     . rw[if_neg hz]at wt;exact wt.elim
    |_=>exact wt.elim
   |_=>exact wt.elim
  |exc _ _ _=>exact yK nofun
  |stuck=>exact yK nofun
 |exc _ _ _=>exact yK nofun
 |stuck=>exact yK nofun
theorem fR{es:List Expr}{k:Nat}{o:Out Val}{p pos tp:Pos}(hp:plain a=true)(hg:L2.Gl X "enumerate")(hm:X.mg "enumerate"=none)(h:L2.PE X a (tV X.K X.mg env s o)) :
 L2.PI X (.Tuple es k tp) (.Call (.Name "enumerate" p) [a] [] pos) (tI (K:=X.K) (mg:=X.mg) env s (o.bind fun v s1=>match v with
  |.tup vs=>.ok ⟨yq 0 vs,Option.none⟩ s1
  |.lst vs=>.ok ⟨yq 0 vs,Option.none⟩ s1
  |_=>.stuck)):=by
 cases o with
 |ok v s1=>
  have st:starEach [a] X.env=[(false,eval a X.env)]:=L2.zt (zT hp)
  refine vo (uG (L2.eL hg hm (L2.pac h L2.wA (zT hp)) st)) fun σ H R ⟨ρ,hr,er,w⟩=>⟨ρ,hr,er,fun ρ1 x H1 x1 hr1 r1=>?_⟩
  cases r1 with
  |tup n e q=>exact⟨_,rfl,.inl ⟨⟨_,.of e⟩,fun z=>w ρ1 H1 _ x1 hr1 (kU (z.of q (.inl e)) n e q)⟩⟩
  |lst n e q=>exact⟨_,rfl,.inr ⟨⟨_,.of e⟩,fun z=>w ρ1 H1 _ x1 hr1 (nv (z.of q (.inr e)) n e q)⟩⟩
  |_=>exact w.elim
 |exc _ _ _=>exact yK nofun
 |stuck=>exact yK nofun
end
end M
end
section
namespace M
open PySem
def uV(K:KF)(mg:Str→Option Value)(t:Tgt)(g:L2.TG):Prop:=∀(ρ:Own) (s:Sto) (H:L2.Hp) (v:Val) (x:L2.V) (env env':Env) (σ:L2.St) (Q:L2.St→L2.Hp→Prop),HR K mg ρ s H→RD K mg ρ H v x→ER K mg ρ H env σ→yP t v env=some env' →
 (∀σ',ER K mg ρ H env' σ'→Q σ' H)→g x σ H Q
theorem uL{K:KF}{mg:Str→Option Value}{i:Nat}:uV K mg (.nm i) (L2.w4 i):=fun ρ s H v x env env' σ Q hr r er e q=>by
 cases e
 exact q _ (er.set i r)
noncomputable def qU:List Nat→L2.TGs
 |[]=>L2.Zj
 |i::is=>L2.dZ (L2.w4 i) (qU is)
theorem rl{K:KF}{mg:Str→Option Value}{ρ:Own}{H:L2.Hp}{Q:L2.St→L2.Hp→Prop}:∀{is:List Nat} {vs:List Val} {xs:List L2.V} {env:Env} {σ:L2.St},RDs K mg ρ H vs xs→ER K mg ρ H env σ→vs.length=is.length →
 (∀σ',ER K mg ρ H ((is.zip vs).foldl (fun e p=>e.set p.1 (some p.2)) env) σ'→Q σ' H)→qU is xs σ H Q
 |[],[],_,env,σ,.nil,er,_,q=>⟨rfl,q σ er⟩
 |[],_::_,_,_,_,_,_,h,_=>by cases h
 |_::_,[],_,_,_,_,_,h,_=>by cases h
 |i::is,v::vs,x::xs,env,σ,.cons r rs,er,h,q=>⟨x,xs,rfl,rl rs (er.set i r) (by simpa using h) q⟩
theorem wO{K:KF}{mg:Str→Option Value}{is:List Nat}:uV K mg (.nms is) (L2.Zl K is.length (qU is)):=fun ρ s H v x env env' σ Q hr r er e q=>by
 simp only[yP]at e
 split at e
 . split at e
   . rename_i hl
     cases e
     cases r with
     |tup n e q2=>exact⟨_,_,rfl,.of e,by rw[←q2.length];exact hl,rl q2 er hl q⟩
   . cases e
 . cases e
noncomputable def yA(sc:Scope)(N:List Str):List Nat→List Expr→Bool
 |[],[]=>true
 |i::is,.Name x _::es=>decide (N[i]?=some x)&&(decide (sc.names.lookup x=some .local)||decide (sc.names.lookup x=some .cell))&&yA sc N is es
 |_,_=>false
noncomputable def ckT(sc:Scope)(N:List Str):Tgt→Expr→Bool
 |.nm i,.Name x _=>decide (N[i]?=some x)&&(decide (sc.names.lookup x=some .local)||decide (sc.names.lookup x=some .cell))
 |.nms is,.Tuple es _ _=>yA sc N is es&&decide (es≠[])
 |_,_=>false
section
variable {X:L2.Cx}
structure Scp(sc:Scope)(N:List Str)(X:L2.Cx):Prop where
 hN:X.N=N
 nd:N.Nodup
 vis:∀x,sc.names.lookup x=some .local∨sc.names.lookup x=some .cell∨sc.names.lookup x=some .free→L2.Vis X.env.scope x
 loc:∀x,sc.names.lookup x=some .local∨sc.names.lookup x=some .cell→L2.Loc X.env.scope x∧(X.fn x=true∨X.env.scope.names.lookup x=some .local)
 gl:∀x,sc.names.lookup x=some .globalImplicit→L2.Gl X x
 cf:∀x,sc.names.lookup x=some .cell∨sc.names.lookup x=some .free→X.env.kindOf x=some .cell∨X.env.kindOf x=some .free
theorem rn{sc:Scope}{N:List Str}(S:Scp sc N X){i:Nat}{x:Str}{p:Pos}(h1:N[i]?=some x)(h2:sc.names.lookup x=some .local∨sc.names.lookup x=some .cell):L2.PG X (.Name x p) (L2.w4 i):=by
 obtain⟨a,b⟩:=S.loc x h2
 exact L2.eJ (by rw[S.hN];exact S.nd) (by rw[S.hN];exact h1) a b
theorem xK{sc:Scope}{N:List Str}(S:Scp sc N X):∀{is:List Nat} {es:List Expr},yA sc N is es=true→L2.PGs X es (qU is)∧(assignEach es X.env).length=is.length∧(assignEach es X.env).findIdx? (·.1)=none
 |[],[],_=>⟨L2.eK,rfl,rfl⟩
 |[],_::_,h=>by cases h
 |_::_,[],h=>by cases h
 |i::is,e::es,h=>by
  cases e with
  |Name x p=>
   simp only[yA,Bool.and_eq_true,Bool.or_eq_true,decide_eq_true_eq]at h
   obtain⟨a,b,c⟩:=xK S h.2
   refine⟨L2.iY (rn S h.1.1 h.1.2) a,?_,?_⟩
   . show (assignEach es X.env).length+1=is.length+1
     rw[b]
   . show List.findIdx? (·.1) ((false,assign (.Name x p) X.env)::assignEach es X.env)=none
     rw[List.findIdx?_cons]
     simp only[Bool.false_eq_true,if_false]
     rw[c];rfl
  |_=>cases h
theorem Yh{sc:Scope}{N:List Str}(S:Scp sc N X)(hc:X.calm=true){t:Tgt}{e:Expr}(h:ckT sc N t e=true):∃g,L2.PG X e g∧uV X.K X.mg t g:=by
 cases t with
 |nm i=>
  cases e with
  |Name x p=>
   simp only[ckT,Bool.and_eq_true,Bool.or_eq_true,decide_eq_true_eq]at h
   exact⟨_,rn S h.1 h.2,uL⟩
  |_=>cases h
 |nms is=>
  cases e with
  |Tuple es k p=>
   simp only[ckT,Bool.and_eq_true,decide_eq_true_eq]at h
   obtain⟨a,b,c⟩:=xK S h.1
   exact⟨_,L2.ue hc a b c,wO⟩
  |_=>cases h
end
structure Lp(acc:Addr)(ρ:Own)(H:L2.Hp)(ρ':Own)(H':L2.Hp):Prop where
 pre:∃new:List Addr,ρ'.o=ρ.o++new∧∀a∈new,H a=none
 hid:ρ'.h=acc::ρ.h
 keep:∀(a:Addr) (o:L2.HO),H a=some o→a ∉ ρ.o→H' a=some o
 kd:∀a∈ρ.o,hk (H' a)=hk (H a)
section
variable {K:KF}{mg:Str→Option Value}{ρ ρ1 ρ2:Own}{H H1 H2:L2.Hp}{s s1:Sto}{acc:Addr}
noncomputable def Own.hide(ρ:Own)(acc:Addr):Own:=⟨ρ.o,acc::ρ.h⟩
theorem qW(hr:HR K mg ρ s H)(hn:H acc=none)(o:L2.HO):Mv ρ H (ρ.hide acc) (L2.upd H acc o):=
 ⟨fun a u e n=>⟨by rw[L2.zQ (L2.zU e hn)];exact e,n.1,fun hm=>by
  rcases List.mem_cons.mp hm with z|z
  . exact L2.zU e hn z
  . exact n.2 z⟩,fun i a e=>e,fun a ha=>by rw[L2.zQ fun z=>(hr.new hn).1 (by rw[←z];exact ha)]⟩
theorem HR.hide(hr:HR K mg ρ s H)(hn:H acc=none){xs:List L2.V}:HR K mg (ρ.hide acc) s (L2.upd H acc (.lst xs)):=by
 refine⟨hr.len,hr.nd,fun i c e=>?_,fun a ha=>?_⟩
 . obtain⟨a,e1,q⟩:=hr.cel i c e
   obtain⟨o,e2⟩:=q.there
   exact⟨a,e1,q.mv (qW hr hn _) (L2.zQ (L2.zU e2 hn))⟩
 . rcases List.mem_cons.mp ha with z|z
   . subst z;exact⟨⟨xs,L2.zc⟩,(hr.new hn).1⟩
   . obtain⟨⟨ys,e⟩,n⟩:=hr.hid a z
     exact⟨⟨ys,by rw[L2.zQ (L2.zU e hn)];exact e⟩,n⟩
theorem Lp.start(hr:HR K mg ρ s H)(hn:H acc=none)(o:L2.HO):Lp acc ρ H (ρ.hide acc) (L2.upd H acc o):=
 ⟨⟨[],by simp[Own.hide],fun a ha=>by cases ha⟩,rfl,fun a u e _=>by rw[L2.zQ (L2.zU e hn)];exact e,(qW hr hn o).kd⟩
theorem Lp.step(l:Lp acc ρ H ρ1 H1)(hr:HR K mg ρ1 s1 H1)(x:Ext ρ1 H1 ρ2 H2):Lp acc ρ H ρ2 H2:=by
 obtain⟨new,e1,hn⟩:=l.pre
 obtain⟨new2,e2,hn2⟩:=x.pre
 refine⟨⟨new++new2,by rw[e2,e1,List.append_assoc],fun a ha=>?_⟩,x.hid.trans l.hid,fun a o e n=>x.keep a o (l.keep a o e n) ?_,fun a ha=>(x.kd a (by rw[e1];exact List.mem_append_left _ ha)).trans (l.kd a ha)⟩
 . rcases List.mem_append.mp ha with ha|ha
   . exact hn a ha
   . cases q:H a with
     |none=>rfl
     |some o=>
      by_cases hm:a∈ρ.o
      . obtain⟨xs,e⟩:=hr.trk (a:=a) (by rw[e1];exact List.mem_append_left _ hm)
        rw[hn2 a ha]at e;cases e
      . have:=l.keep a o q hm
        rw[hn2 a ha]at this;cases this
 . rw[e1]
   intro hm
   rcases List.mem_append.mp hm with hm|hm
   . exact n hm
   . rw[hn a hm]at e;cases e
theorem Lp.emit(l:Lp acc ρ H ρ1 H1)(hr:HR K mg ρ1 s1 H1)(hn:H acc=none)(o:L2.HO):Lp acc ρ H ρ1 (L2.upd H1 acc o):=
 ⟨l.pre,l.hid,fun a u e n=>by rw[L2.zQ (L2.zU e hn)];exact l.keep a u e n,fun a ha=>by
  obtain⟨new,e1,_⟩:=l.pre
  rw[L2.zQ fun z=>(hr.hid acc (by rw[l.hid];exact List.mem_cons_self)).2 (by rw[←z,e1];exact List.mem_append_left _ ha)]
  exact l.kd a ha⟩
theorem Lp.here(l:Lp acc ρ H ρ1 H1):acc∈ρ1.h:=by rw[l.hid];exact List.mem_cons_self
theorem mS(hr:HR K mg ρ1 s1 H1)(ha:acc∈ρ1.h)(o:L2.HO):Mv ρ1 H1 ρ1 (L2.upd H1 acc o):=
 ⟨fun a u e n=>⟨by rw[L2.zQ (fun z=>n.2 (by rw[z];exact ha))];exact e,n⟩,fun i a e=>e,fun a h=>by rw[L2.zQ fun z=>(hr.hid acc ha).2 (by rw[←z];exact h)]⟩
theorem HR.emit(hr:HR K mg ρ1 s1 H1)(ha:acc∈ρ1.h){xs:List L2.V}:HR K mg ρ1 s1 (L2.upd H1 acc (.lst xs)):=by
 have hno:=(hr.hid acc ha).2
 refine⟨hr.len,hr.nd,fun i c e=>?_,fun a hm=>?_⟩
 . obtain⟨a,e1,q⟩:=hr.cel i c e
   exact⟨a,e1,q.mv (mS hr ha _) (L2.zQ (fun z=>hno (by rw[←z];exact List.mem_of_getElem? e1)))⟩
 . obtain⟨⟨ys,e⟩,n⟩:=hr.hid a hm
   by_cases z:a=acc
   . subst z;exact⟨⟨xs,L2.zc⟩,n⟩
   . exact⟨⟨ys,by rw[L2.zQ z];exact e⟩,n⟩
theorem Lp.done(l:Lp acc ρ H ρ1 H1)(h0:HR K mg ρ s H)(hn:H acc=none)(hr:HR K mg ρ1 s1 H1){vs:List Val}{ys:List L2.V}(e:H1 acc=some (.lst ys))(q:RDs K mg ρ1 H1 vs ys){m:Bool}{Q:L2.VK}(w:yW K mg (RD K mg) ρ H (newList m vs s1) Q):Q (.ref acc) H1:=by
 have ha:=l.here
 have hacc:=(hr.hid acc ha).2
 have hnh:=(h0.new hn).2
 cases m with
 |false=>
  have mv:Mv ρ1 H1 ⟨ρ1.o,ρ.h⟩ H1:=⟨fun a u e n=>⟨e,n.1,fun z=>n.2 (by rw[l.hid];exact List.mem_cons_of_mem _ z)⟩,fun i a e=>e,fun _ _=>rfl⟩
  refine w ⟨ρ1.o,ρ.h⟩ _ H1 ⟨l.pre,rfl,l.keep,l.kd⟩ ⟨hr.len,hr.nd,fun i ws e=>?_,fun a hm=>?_⟩ (.lst ⟨hacc,hnh⟩ e (RDs.mv mv q))
  . obtain⟨a,e1,t⟩:=hr.cel i ws e
    exact⟨a,e1,t.mv mv rfl⟩
  . exact hr.hid a (by rw[l.hid];exact List.mem_cons_of_mem _ hm)
 |true=>
  have mv:Mv ρ1 H1 ⟨ρ1.o++[acc],ρ.h⟩ H1:=by
   refine⟨fun a u e n=>⟨e,fun hm=>?_,fun z=>n.2 (by rw[l.hid];exact List.mem_cons_of_mem _ z)⟩,fun i a e=>?_,fun _ _=>rfl⟩
   . rcases List.mem_append.mp hm with hm|hm
     . exact n.1 hm
     . rw[List.mem_singleton.mp hm]at n;exact n.2 ha
   . show (ρ1.o++[acc])[i]?=_
     rw[List.getElem?_append_left (List.getElem?_eq_some_iff.mp e).1];exact e
  have rf:(ρ1.o++[acc])[s1.length]?=some acc:=by rw[←hr.len,List.getElem?_append_right (Nat.le_refl _)];simp
  refine w ⟨ρ1.o++[acc],ρ.h⟩ _ H1 ⟨?_,rfl,l.keep,l.kd⟩ ⟨?_,?_,fun i ws q'=>?_,fun a hm=>?_⟩ (.ref rf (by rw[e];rfl))
  . obtain⟨new,e1,hnew⟩:=l.pre
    refine⟨new++[acc],by show ρ1.o++[acc]=_;rw[e1,List.append_assoc],fun a hm=>?_⟩
    rcases List.mem_append.mp hm with hm|hm
    . exact hnew a hm
    . rw[List.mem_singleton.mp hm];exact hn
  . show (ρ1.o++[acc]).length=(s1++[Cel.lst vs]).length
    rw[List.length_append,List.length_append,hr.len];rfl
  . show (ρ1.o++[acc]).Nodup
    rw[List.nodup_append]
    exact⟨hr.nd,by simp,fun a ha' b hb=>by rw[List.mem_singleton.mp hb];intro z;subst z;exact hacc ha'⟩
  . by_cases hi:i<s1.length
    . rw[List.getElem?_append_left hi]at q'
      obtain⟨a,e1,t⟩:=hr.cel i ws q'
      exact⟨a,mv.get i a e1,t.mv mv rfl⟩
    . have hi':i=s1.length:=by
       have:=(List.getElem?_eq_some_iff.mp q').1
       rw[List.length_append]at this
       simp at this;omega
      subst hi'
      rw[List.getElem?_append_right (Nat.le_refl _)]at q'
      simp at q'
      subst q'
      exact⟨acc,rf,ys,e,RDs.mv mv q⟩
  . obtain⟨x,n⟩:=hr.hid a (by rw[l.hid];exact List.mem_cons_of_mem _ hm)
    refine⟨x,fun z=>?_⟩
    rcases List.mem_append.mp z with z|z
    . exact n z
    . rw[List.mem_singleton.mp z]at hm;exact hnh hm
end
end M
end
section
namespace M
open PySem
section
variable {K:KF}{mg:Str→Option Value}
theorem pG{J:L2.It}{g:L2.TG}{tb:L2.TS}{D:L2.Ends}{σ:L2.St}{H:L2.Hp}{n:Nat}(Pv:Nat→L2.St→L2.Hp→Prop)(h0:Pv 0 σ H)(hd:∀σ H,Pv n σ H→J.stop n H∧D.nx σ H)
 (hs:∀i σ H,i<n→Pv i σ H→J.go i H∧∀x H',J.yld i H x H'→g x σ H' fun σ2 H2=>tb {D with nx:=Pv (i+1),ct:=Pv (i+1),bk:=D.nx} σ2 H2):L2.rq J g tb D σ H:=by
 refine⟨fun i m σ H=>m=n-i∧i≤n∧Pv i σ H,⟨n,by simp,Nat.zero_le _,h0⟩,?_⟩
 rintro i m σ H ⟨rfl,hi,p⟩
 by_cases hlt:i<n
 . obtain⟨a,b⟩:=hs i σ H hlt p
   exact .inr ⟨a,Pv (i+1),fun σ' H' p'=>⟨n-(i+1),by omega,rfl,hlt,p'⟩,b⟩
 . have e:i=n:=by omega
   subst e
   exact .inl (hd σ H p)
structure CS(K:KF)(mg:Str→Option Value)(acc:Addr)(ρ0:Own)(H0:L2.Hp)(a:List Val)(s:Sto)(env:Env)(ρ:Own)(σ:L2.St)(H:L2.Hp):Prop where
 lp:Lp acc ρ0 H0 ρ H
 hr:HR K mg ρ s H
 er:ER K mg ρ H env σ
 ac:∃ys,H acc=some (.lst ys)∧RDs K mg ρ H a ys
def Grows(body:Env→Sto→List Val→Out (List Val × Env)):Prop:=∀e s a p s',body e s a=.ok p s'→a.length≤p.1.length
theorem w8{r:Src}{t:Tgt}{body:Env→Sto→List Val→Out (List Val × Env)}(hb:Grows body):∀{xs:List Val} {env:Env} {s:Sto} {a:List Val} {p:List Val × Env} {s':Sto},yR r t body xs env s a=.ok p s'→a.length≤p.1.length
 |[],env,s,a,p,s',h=>by
  rw[yR]at h
  split at h
  . cases h;exact Nat.le_refl _
  . cases h
 |x::xs,env,s,a,p,s',h=>by
  rw[yR]at h
  split at h
  . split at h
    . cases h
    . rename_i env' he
      cases hc:body env' s a with
      |ok q s1=>
       rw[hc]at h
       exact Nat.le_trans (hb _ _ _ _ _ hc) (w8 hb h)
      |exc _ _ _=>rw[hc]at h;cases h
      |stuck=>rw[hc]at h;cases h
  . cases h
def BodyOk(K:KF)(mg:Str→Option Value)(acc:Addr)(ρ0:Own)(H0:L2.Hp)(body:Env→Sto→List Val→Out (List Val × Env))(tb:L2.TS):Prop:=
 ∀(ρ:Own) (s:Sto) (H:L2.Hp) (env:Env) (σ:L2.St) (a:List Val) (p:List Val × Env) (s':Sto) (D:L2.Ends),CS K mg acc ρ0 H0 a s env ρ σ H→body env s a=.ok p s'→p.1.length≤zN →
  (∀ρ' H' σ',CS K mg acc ρ0 H0 p.1 s' p.2 ρ' σ' H'→Mv ρ H ρ' H'→D.nx σ' H')→tb D σ H
theorem wH{acc:Addr}{ρ0:Own}{H0:L2.Hp}{r:Src}{J:L2.It}{t:Tgt}{g:L2.TG}{body:Env→Sto→List Val→Out (List Val × Env)}{tb:L2.TS}{D:L2.Ends}{ρ:Own}{s:Sto}{H:L2.Hp}{env:Env}{σ:L2.St}{a:List Val}
 {p:List Val × Env} {sf:Sto} (W:Walk K mg ρ H r J) (TG:uV K mg t g) (hg:Grows body) (hb:BodyOk K mg acc ρ0 H0 body tb)
 (C:CS K mg acc ρ0 H0 a s env ρ σ H) (h:yR r t body r.xs env s a=.ok p sf) (hz:p.1.length≤zN) (fin:∀ρ' H' σ',CS K mg acc ρ0 H0 p.1 sf p.2 ρ' σ' H'→Mv ρ H ρ' H'→D.nx σ' H'):L2.rq J g tb D σ H:=by
 refine pG (n:=r.xs.length) (fun i σ2 H2=>∃ρ2 s2 env2 a2,CS K mg acc ρ0 H0 a2 s2 env2 ρ2 σ2 H2∧Mv ρ H ρ2 H2∧yR r t body (r.xs.drop i) env2 s2 a2=.ok p sf) ⟨ρ,s,env,a,C,Mv.refl,by rw[List.drop_zero];exact h⟩ ?_ ?_
 . rintro σ2 H2 ⟨ρ2,s2,env2,a2,C2,mv,h2⟩
   rw[List.drop_length,yR]at h2
   split at h2
   . rename_i ho
     cases h2
     exact⟨W.stop ρ2 H2 _ _ mv C2.hr ho rfl,fin ρ2 H2 σ2 C2 mv⟩
   . cases h2
 . rintro i σ2 H2 hi ⟨ρ2,s2,env2,a2,C2,mv,h2⟩
   rw[List.drop_eq_getElem_cons hi,yR]at h2
   split at h2
   . rename_i ho
     obtain⟨hgo,hy⟩:=W.go ρ2 H2 s2 i (r.xs[i]) mv C2.hr ho (List.getElem?_eq_getElem hi)
     refine⟨hgo,fun x H3 y=>?_⟩
     obtain⟨hH,rx⟩:=hy x H3 y
     split at h2
     . cases h2
     . rename_i env' he
       -- the item is there: perhaps a new thing
       have C3:CS K mg acc ρ0 H0 a2 s2 env2 ρ2 σ2 H3∧Mv ρ2 H2 ρ2 H3:=by
        rcases hH with e|⟨q,o,hq,e⟩
        . subst e;exact⟨C2,Mv.refl⟩
        . subst e
          have X:=Ext.new C2.hr hq o
          refine⟨⟨C2.lp.step C2.hr X,C2.hr.more hq o,C2.er.mono X,?_⟩,X.mv⟩
          obtain⟨ys,e1,e2⟩:=C2.ac
          exact⟨ys,by rw[L2.zQ (L2.zU e1 hq)];exact e1,e2.mono X⟩
       refine TG ρ2 s2 H3 _ x env2 env' σ2 _ C3.1.hr rx C3.1.er he fun σ4 er4=>?_
       cases hc:body env' s2 a2 with
       |ok q s5=>
        rw[hc]at h2
        have hlen:q.1.length≤zN:=Nat.le_trans (w8 hg h2) hz
        exact hb ρ2 s2 H3 env' σ4 a2 q s5 _ ⟨C3.1.lp,C3.1.hr,er4,C3.1.ac⟩ hc hlen fun ρ5 H5 σ5 C5 mv5=>⟨ρ5,s5,q.2,q.1,C5,(mv.trans C3.2).trans mv5,h2⟩
       |exc _ _ _=>rw[hc]at h2;cases h2
       |stuck=>rw[hc]at h2;cases h2
   . cases h2
end
section
variable (K:KF)(mg:Str→Option Value)(Φ:Calls)(G:Str→Option Val)
noncomputable def uE(e:Ex):L2.TE:=fun σ H Q=>∃env s,tV K mg env s (evE Φ G env e s) σ H Q
noncomputable def uT(e:Cn):L2.TT:=fun σ H Q=>∃env s,tT K mg env s (evT Φ G env e s) σ H Q
noncomputable def uI(it:Itb):L2.TI:=fun σ H R=>∃env s,tI (K:=K) (mg:=mg) env s (yQ Φ G env it s) σ H R
noncomputable def uTs:Cns→List L2.TT
 |.nil=>[]
 |.cons e es=>uT K mg Φ G e::uTs es
end
section
variable {K:KF}{mg:Str→Option Value}{Φ:Calls}{G:Str→Option Val}
theorem eI{X:L2.Cx}{e:Ex}{E:Expr}(h:∀env s,L2.PE X E (tV X.K X.mg env s (evE Φ G env e s))):L2.PE X E (uE X.K X.mg Φ G e):=fun pins s σ H Q I ⟨env,t,q⟩=>h env t pins s σ H Q I q
theorem Ym{X:L2.Cx}{e:Cn}{E:Expr}(h:∀env s,L2.PT X E (tT X.K X.mg env s (evT Φ G env e s))):L2.PT X E (uT X.K X.mg Φ G e):=fun pins s σ H Q I ⟨env,t,q⟩=>h env t pins s σ H Q I q
theorem nJ{X:L2.Cx}{it:Itb}{tg E:Expr}(h:∀env s,L2.PI X tg E (tI (K:=X.K) (mg:=X.mg) env s (yQ Φ G env it s))):L2.PI X tg E (uI X.K X.mg Φ G it):=fun pins s σ H Q I ⟨env,t,q⟩=>h env t pins s σ H Q I q
theorem sg{s2:Sto}{env:Env}{σ:L2.St}{b:Bool}{Q:Bool→L2.Hp→Prop}:∀{es:Cns} {ρ:Own} {s:Sto} {H:L2.Hp},HR K mg ρ s H→ER K mg ρ H env σ→yo Φ G env es s=.ok b s2 →
 (∀ρ' H',Ext ρ H ρ' H'→HR K mg ρ' s2 H'→Q b H')→L2.qm (uTs K mg Φ G es) σ H Q
 |.nil,ρ,s,H,hr,er,h,q=>by
  rw[yo]at h;cases h
  exact q ρ H Ext.refl hr
 |.cons e es,ρ,s,H,hr,er,h,q=>by
  rw[yo]at h
  refine⟨env,s,ρ,hr,er,?_⟩
  cases hc:evT Φ G env e s with
  |ok c s1=>
   rw[hc]at h
   intro ρ1 c' H1 x1 hr1 e1
   cases e1
   cases c with
   |true=>exact L2.sy (sg hr1 (er.mono x1) h fun ρ' H' x' hr'=>q ρ' H' (x1.trans hr1 x') hr')
   |false=>
    simp only[zK]at h
    cases h
    exact L2.sx (q ρ1 H1 x1 hr1)
  |exc _ _ _=>rw[hc]at h;cases h
  |stuck=>rw[hc]at h;cases h
noncomputable def vZ(Φ:Calls)(G:Str→Option Val)(elt:Ex)(ifs:Cns):Env→Sto→List Val→Out (List Val × Env):=fun e s' acc=>(yo Φ G e ifs s').bind fun b s2=>if b then (evE Φ G e elt s2).bind fun v s3=>.ok (acc++[v],e) s3 else .ok (acc,e) s2
theorem xu{elt:Ex}{ifs:Cns}:Grows (vZ Φ G elt ifs):=by
 intro e s a p s' h
 unfold vZ at h
 cases hc:yo Φ G e ifs s with
 |ok b s1=>
  rw[hc]at h
  cases b with
  |true=>
   simp only[zK,if_true]at h
   cases hv:evE Φ G e elt s1 with
   |ok v s2=>rw[hv]at h;cases h;simp
   |exc _ _ _=>rw[hv]at h;cases h
   |stuck=>rw[hv]at h;cases h
  |false=>simp only[zK]at h;cases h;exact Nat.le_refl _
 |exc _ _ _=>rw[hc]at h;cases h
 |stuck=>rw[hc]at h;cases h
theorem sk{acc:Addr}{ρ0:Own}{H0:L2.Hp}(hn:H0 acc=none){elt:Ex}{ifs:Cns}:BodyOk K mg acc ρ0 H0 (vZ Φ G elt ifs) (L2.tTB (uTs K mg Φ G ifs) (L2.vY acc (uE K mg Φ G elt))):=by
 intro ρ s H env σ a p s' D C h hz q
 unfold vZ at h
 cases hc:yo Φ G env ifs s with
 |ok b s1=>
  rw[hc]at h
  refine sg (ρ:=ρ) (s:=s) C.hr C.er hc fun ρ1 H1 x1 hr1=>?_
  have hacc1:∃ys,H1 acc=some (.lst ys)∧RDs K mg ρ1 H1 a ys:=by
   obtain⟨ys,e1,e2⟩:=C.ac
   exact⟨ys,x1.keep _ _ e1 (C.hr.hid acc C.lp.here).2,e2.mono x1⟩
  cases b with
  |true=>
   simp only[zK,if_true]at h
   refine L2.sy ⟨env,s1,ρ1,hr1,C.er.mono x1,?_⟩
   cases hv:evE Φ G env elt s1 with
   |ok v s2=>
    rw[hv]at h
    cases h
    intro ρ2 y H2 x2 hr2 r2
    have xx:=x1.trans hr1 x2
    have lp2:=C.lp.step C.hr xx
    obtain⟨ys,e1,e2⟩:=hacc1
    have e3:H2 acc=some (.lst ys):=x2.keep _ _ e1 (hr1.hid acc (C.lp.step C.hr x1).here).2
    have e4:=e2.mono x2
    have hl:ys.length<sizeLine:=by
     have h1:(a++[v]).length≤zN:=hz
     rw[List.length_append,e2.length,yC]at h1
     simp at h1;omega
    have mv2:=mS (H1:=H2) hr2 lp2.here (.lst (ys++[y]))
    refine⟨ys,e3,hl,q ρ2 _ σ ⟨lp2.emit hr2 hn _,hr2.emit lp2.here,⟨C.er.len,fun i v' e'=>?_⟩,⟨_,L2.zc,RDs.mv mv2 (e4.append (.cons r2 .nil))⟩⟩ (xx.mv.trans mv2)⟩
    obtain⟨u,h1,h2⟩:=(C.er.mono xx).at_ i v' e'
    exact⟨u,h1,RD.mv mv2 h2⟩
   |exc _ _ _=>rw[hv]at h;cases h
   |stuck=>rw[hv]at h;cases h
  |false=>
   simp only[zK]at h
   cases h
   exact L2.sx (q ρ1 H1 σ ⟨C.lp.step C.hr x1,hr1,C.er.mono x1,hacc1⟩ x1.mv)
 |exc _ _ _=>rw[hc]at h;cases h
 |stuck=>rw[hc]at h;cases h
noncomputable def uj(Φ:Calls)(G:Str→Option Val)(elt:Ex)(ifs:Cns)(t2:Tgt)(it2:Itb)(ifs2:Cns):Env→Sto→List Val→Out (List Val × Env):=fun e s' acc=>(yo Φ G e ifs s').bind fun b s2=>if b then (yQ Φ G e it2 s2).bind fun r2 s3=>
 yR r2 t2 (vZ Φ G elt ifs2) r2.xs e s3 acc
 else .ok (acc,e) s2
theorem uM{elt:Ex}{ifs ifs2:Cns}{t2:Tgt}{it2:Itb}:Grows (uj Φ G elt ifs t2 it2 ifs2):=by
 intro e s a p s' h
 unfold uj at h
 cases hc:yo Φ G e ifs s with
 |ok b s1=>
  rw[hc]at h
  cases b with
  |true=>
   simp only[zK,if_true]at h
   cases hv:yQ Φ G e it2 s1 with
   |ok v s2=>rw[hv]at h;exact w8 xu h
   |exc _ _ _=>rw[hv]at h;cases h
   |stuck=>rw[hv]at h;cases h
  |false=>simp only[zK]at h;cases h;exact Nat.le_refl _
 |exc _ _ _=>rw[hc]at h;cases h
 |stuck=>rw[hc]at h;cases h
theorem qA{acc:Addr}{ρ0:Own}{H0:L2.Hp}(hn:H0 acc=none){elt:Ex}{ifs ifs2:Cns}{t2:Tgt}{it2:Itb}{g2:L2.TG}(TG:uV K mg t2 g2) :
 BodyOk K mg acc ρ0 H0 (uj Φ G elt ifs t2 it2 ifs2) (L2.tTB (uTs K mg Φ G ifs) (L2.se (uI K mg Φ G it2) g2 (uTs K mg Φ G ifs2) (L2.vY acc (uE K mg Φ G elt)))):=by
 intro ρ s H env σ a p s' D C h hz q
 unfold uj at h
 cases hc:yo Φ G env ifs s with
 |ok b s1=>
  rw[hc]at h
  refine sg (ρ:=ρ) (s:=s) C.hr C.er hc fun ρ1 H1 x1 hr1=>?_
  have hacc1:∃ys,H1 acc=some (.lst ys)∧RDs K mg ρ1 H1 a ys:=by
   obtain⟨ys,e1,e2⟩:=C.ac
   exact⟨ys,x1.keep _ _ e1 (C.hr.hid acc C.lp.here).2,e2.mono x1⟩
  have lp1:=C.lp.step C.hr x1
  cases b with
  |true=>
   simp only[zK,if_true]at h
   refine L2.sy ⟨env,s1,ρ1,hr1,C.er.mono x1,?_⟩
   cases hv:yQ Φ G env it2 s1 with
   |ok r2 s2=>
    rw[hv]at h
    intro ρ2 H2 J x2 hr2 W
    have xx:=x1.trans hr1 x2
    obtain⟨ys,e1,e2⟩:=hacc1
    have e3:H2 acc=some (.lst ys):=x2.keep _ _ e1 (hr1.hid acc lp1.here).2
    exact wH W TG xu (sk hn) ⟨lp1.step hr1 x2,hr2,C.er.mono xx,⟨ys,e3,e2.mono x2⟩⟩ h hz fun ρ3 H3 σ3 C3 mv3=>q ρ3 H3 σ3 C3 (xx.mv.trans mv3)
   |exc _ _ _=>rw[hv]at h;cases h
   |stuck=>rw[hv]at h;cases h
  |false=>
   simp only[zK]at h
   cases h
   exact L2.sx (q ρ1 H1 σ ⟨lp1,hr1,C.er.mono x1,hacc1⟩ x1.mv)
 |exc _ _ _=>rw[hc]at h;cases h
 |stuck=>rw[hc]at h;cases h
theorem kN{ρ:Own}{H:L2.Hp}{env:Env}{σ:L2.St}(er:ER K mg ρ H env σ)(fr:List (Option Nat)):ER K mg ρ H (zZ fr env) (L2.zZ fr σ):=by
 refine⟨by unfold zZ L2.zZ;rw[List.length_map,List.length_map],fun i v e=>?_⟩
 unfold zZ at e
 unfold L2.zZ
 rw[List.getElem?_map]at e ⊢
 cases hf:fr[i]? with
 |none=>rw[hf]at e;cases e
 |some o=>
  rw[hf]at e
  cases o with
  |none=>cases e
  |some j=>
   have e':(env[j]?).join=some v:=Option.some.inj e
   have e2:env[j]?=some (some v):=by
    cases h1:env[j]? with
    |none=>rw[h1]at e';cases e'
    |some w=>rw[h1]at e';have:w=some v:=e';rw[this]
   obtain⟨x,h1,h2⟩:=er.at_ j v e2
   refine⟨x,?_,h2⟩
   show some ((σ[j]?).join)=_
   rw[h1];rfl
theorem vL{fr:List (Option Nat)}{it:Itb}{t:Tgt}{g:L2.TG}{ts:List L2.TT}{tb:Addr→L2.TB}{body:Env→Sto→List Val→Out (List Val × Env)}{m:Bool}{env:Env}{s:Sto}(TG:uV K mg t g)(hg:Grows body)
 (hb:∀acc ρ0 H0,H0 acc=none→BodyOk K mg acc ρ0 H0 body (L2.tTB ts (tb acc))) {σ:L2.St} {H:L2.Hp} {Q:L2.VK} {chk:Bool}
 (h:tV K mg env s ((yQ Φ G env it s).bind fun r s1=>(yR r t body r.xs (zZ fr env) s1 []).bind fun p s2=>if chk=true→p.1.length≤zN then newList m p.1 s2 else .stuck) σ H Q)
 (hlen:chk=false→∀r s1 p s2,yR r t body r.xs (zZ fr env) s1 []=.ok p s2→p.1.length≤r.xs.length):L2.vD fr (uI K mg Φ G it) g ts tb σ H Q:=by
 obtain⟨ρ,hr,er,w⟩:=h
 refine⟨env,s,ρ,hr,er,?_⟩
 cases hi:yQ Φ G env it s with
 |ok r s1=>
  rw[hi]at w
  simp only[zK]at w
  intro ρ1 H1 J x1 hr1 W acc hacc
  cases hl:yR r t body r.xs (zZ fr env) s1 [] with
  |ok p s2=>
   rw[hl]at w
   simp only[zK]at w
   have hz:p.1.length≤zN∧yW K mg (RD K mg) ρ H (newList m p.1 s2) Q:=by
    by_cases hc:chk=true→p.1.length≤zN
    . rw[if_pos hc]at w
      refine⟨?_,w⟩
      cases chk with
      |true=>exact hc rfl
      |false=>exact Nat.le_trans (hlen rfl r s1 p s2 hl) W.len
    . rw[if_neg hc]at w;exact w.elim
   have mv:=qW (ρ:=ρ1) hr1 hacc (.lst [])
   have ers:=kN (er.mono x1) fr
   refine wH (ρ0:=ρ1) (H0:=H1) (W.mv mv) TG hg (hb acc ρ1 H1 hacc) ⟨Lp.start hr1 hacc _,hr1.hide hacc,⟨ers.len,fun i v e=>?_⟩,⟨[],L2.zc,.nil⟩⟩ hl hz.1 fun ρ3 H3 σ3 C3 _=>?_
   . obtain⟨x,h1,h2⟩:=ers.at_ i v e
     exact⟨x,h1,RD.mv mv h2⟩
   . obtain⟨ys,e1,e2⟩:=C3.ac
     exact C3.lp.done hr1 hacc C3.hr e1 e2 (hz.2.mono x1 hr1)
  |exc _ _ _=>rw[hl]at w;exact w.elim
  |stuck=>rw[hl]at w;exact w.elim
 |exc _ _ _=>rw[hi]at w;exact w.elim
 |stuck=>rw[hi]at w;exact w.elim
theorem uk{r:Src}{t:Tgt}{elt:Ex}{ifs:Cns}:∀{xs:List Val} {env:Env} {s:Sto} {a:List Val} {p:List Val × Env} {s':Sto},yR r t (vZ Φ G elt ifs) xs env s a=.ok p s'→p.1.length≤a.length+xs.length
 |[],env,s,a,p,s',h=>by
  rw[yR]at h
  split at h
  . cases h;exact Nat.le_refl _
  . cases h
 |x::xs,env,s,a,p,s',h=>by
  rw[yR]at h
  split at h
  . split at h
    . cases h
    . rename_i env' he
      cases hc:vZ Φ G elt ifs env' s a with
      |ok q s1=>
       rw[hc]at h
       have h1:=uk h
       have h2:q.1.length≤a.length+1:=by
        unfold vZ at hc
        cases h3:yo Φ G env' ifs s with
        |ok b s2=>
         rw[h3]at hc
         cases b with
         |true=>
          simp only[zK,if_true]at hc
          cases h4:evE Φ G env' elt s2 with
          |ok v s3=>rw[h4]at hc;cases hc;simp
          |exc _ _ _=>rw[h4]at hc;cases hc
          |stuck=>rw[h4]at hc;cases hc
         |false=>simp only[zK]at hc;cases hc;exact Nat.le_succ _
        |exc _ _ _=>rw[h3]at hc;cases hc
        |stuck=>rw[h3]at hc;cases hc
       rw[List.length_cons];omega
      |exc _ _ _=>rw[hc]at h;cases h
      |stuck=>rw[hc]at h;cases h
  . cases h
end
end M
end
section
namespace M
open PySem
noncomputable def da(sc:Scope)(x:Str):Bool:=decide (sc.names.lookup x=some .local)||decide (sc.names.lookup x=some .cell)||decide (sc.names.lookup x=some .free)
noncomputable def uA(sc:Scope)(x:Str):Bool:=decide (sc.names.lookup x=some .globalImplicit)
noncomputable def wF:List Str:=["len","all","any","tuple","list","sorted","repr","max","min","sum","int","isinstance","divmod","str","bool","dict","set","range","enumerate","zip"]
noncomputable def XC(y:Str)(n:String):Bool:=(decide (y="int")&&decide (n="int"))||(decide (y="bool")&&decide (n="bool"))||(decide (y="str")&&decide (n="str"))||(decide (y="list")&&decide (n="list"))||(decide (y="tuple")&&decide (n="tuple"))||(decide (y="dict")&&decide (n="dict"))
noncomputable def rS:Val→Expr→Bool
 |.none,.Constant .none _ _=>true
 |.bool b,.Constant (.bool c) _ _=>b == c
 |.int i,.Constant (.int j) _ _=>decide (i=j)
 |.str x,.Constant (.str y) _ _=>decide (x=y)
 |_,_=>false
mutual
noncomputable def ck(sc:Scope)(N:List Str):Ex→Expr→Bool
 |.lit v,e=>rS v e
 |.var i,e=>(match e with|.Name x _=>decide (N[i]?=some x)&&da sc x&&!(x == ("__debug__":Str))&&!(x == ("__classdict__":Str))|_=>false)
 |.gl y,e=>(match e with|.Name x _=>decide (x=y)&&uA sc x&&!(x == ("__debug__":Str))|_=>false)
 |.ty y n,e=>(match e with|.Name x _=>decide (x=y)&&uA sc x&&XC y n|_=>false)
 |.bin _ op a b,e=>(match e with|.BinOp l o r _=>(okB op&&decide (o=op.op))&&ck sc N a l&&ck sc N b r|_=>false)
 |.neg a,e=>(match e with|.UnaryOp .USub x _=>ck sc N a x|_=>false)
 |.not a,e=>(match e with|.UnaryOp .Not x _=>ck sc N a x|_=>false)
 |.cmp op a b,e=>(match e with|.Compare l [o] [r] _=>(okC op&&decide (o=op.op))&&ck sc N a l&&ck sc N b r&&plain r|_=>false)
 |.chain op op' a b c,e=>(match e with|.Compare l [o,o'] [r,r'] _=>(okC op&&decide (o=op.op))&&(okC op'&&decide (o'=op'.op))&&ck sc N a l&&ck sc N b r&&ck sc N c r'&&plain r'|_=>false)
 |.andE a es,e=>(match e with|.BoolOp .And (x::xs) _=>ck sc N a x&&ckL sc N es xs|_=>false)
 |.orE _ _,_=>false
 |.ife c a b,e=>(match e with|.IfExp t x y _=>ckC sc N c t&&ck sc N a x&&ck sc N b y|_=>false)
 |.tup es,e=>(match e with|.Tuple xs _ _=>ckL sc N es xs&&yZ xs|_=>false)
 |.lst _ es,e=>(match e with|.List xs _=>ckL sc N es xs&&yZ xs|_=>false)
 |.dct0,_=>false
 |.dctN _,e=>(match e with|.Dict [] [] _=>true|_=>false)
 |.ixD a b,e=>(match e with|.Subscript l r _=>ck sc N a l&&ck sc N b r&&plain r|_=>false)
 |.call f _ es,e=>(match e with|.Call (.Name x _) xs [] _=>decide (x=f)&&uA sc x&&!(x == ("__debug__":Str))&&ckL sc N es xs&&yZ xs|_=>false)
 |.blt f _ es,e=>(match e with|.Call (.Name x _) (y::ys) [] _=>(okF f&&decide (x=f.nm))&&uA sc x&&ckL sc N es (y::ys)&&yZ (y::ys)|_=>false)
 |.maxD _ _,_=>false
 |.z7 f _ o es,e=>(match e with|.Call (.Attribute ob x ap) [y] [] cp=>decide (x=f.nm)&&ck sc N o ob&&ckL sc N es [y]&&plain y&&qa ob&&(ap.endLine == cp.line)|_=>false)
 |.ix a b,e=>(match e with|.Subscript l r _=>ck sc N a l&&ck sc N b r&&plain r|_=>false)
 |.sl _ a lo hi st,e=>(match e with|.Subscript l (.Slice x y z _) _=>ck sc N a l&&ckO sc N lo x&&ckO sc N hi y&&ckO sc N st z|_=>false)
 |.comp _ N' fr elt t it ifs,e=>(match e with|.ListComp x [⟨tg,iter,fs,0⟩] csc _=>L2.qQ sc N N' csc fr&&decide N'.Nodup&&ckT csc N' t tg&&ckI sc N it iter tg&&qR csc N' ifs fs&&ck csc N' elt x&&plain iter|_=>false)
 |.comp2 _ N' fr elt t it ifs t2 it2 ifs2,e=>(match e with|.ListComp x [⟨tg,iter,fs,0⟩,⟨tg2,iter2,fs2,0⟩] csc _=>L2.qQ sc N N' csc fr&&decide N'.Nodup&&ckT csc N' t tg&&ckI sc N it iter tg&&qR csc N' ifs fs&&ckT csc N' t2 tg2&&ckI csc N' it2 iter2 tg2&&qR csc N' ifs2 fs2&&ck csc N' elt x&&plain iter&&plain iter2|_=>false)
 |.listRange _ _ _ _,_=>false
noncomputable def ckL(sc:Scope)(N:List Str):Exs→List Expr→Bool
 |.nil,es=>(match es with|[]=>true|_=>false)
 |.cons a as,es=>(match es with|e::es=>ck sc N a e&&ckL sc N as es|_=>false)
noncomputable def ckO(sc:Scope)(N:List Str):OEx→Option Expr→Bool
 |.no,e=>(match e with|none=>true|_=>false)
 |.yes a,e=>(match e with|some e=>ck sc N a e|_=>false)
noncomputable def ckC(sc:Scope)(N:List Str):Cn→Expr→Bool
 |.val a,e=>ck sc N a e&&(plainT e||(match e with|.Compare ..=>true|_=>false))
 |.not c,e=>(match e with|.UnaryOp .Not x _=>ckC sc N c x|_=>false)
 |.and c cs,e=>(match e with|.BoolOp .And (x::xs) _=>ckC sc N c x&&qR sc N cs xs|_=>false)
 |.or c cs,e=>(match e with|.BoolOp .Or (x::xs) _=>ckC sc N c x&&qR sc N cs xs|_=>false)
noncomputable def qR(sc:Scope)(N:List Str):Cns→List Expr→Bool
 |.nil,es=>(match es with|[]=>true|_=>false)
 |.cons a as,es=>(match es with|e::es=>ckC sc N a e&&qR sc N as es|_=>false)
noncomputable def ckI(sc:Scope)(N:List Str):Itb→Expr→Expr→Bool
 |.val a,e,_=>ck sc N a e
 |.range1 a,e,_=>(match e with|.Call (.Name x _) [y] [] _=>decide (x="range")&&uA sc x&&ck sc N a y&&plain y|_=>false)
 |.range2 a b,e,_=>(match e with|.Call (.Name x _) [y,z] [] _=>decide (x="range")&&uA sc x&&ck sc N a y&&ck sc N b z&&plain y&&plain z|_=>false)
 |.enum a,e,tg=>(match e,tg with|.Call (.Name x _) [y] [] _,.Tuple _ _ _=>decide (x="enumerate")&&uA sc x&&ck sc N a y&&plain y|_,_=>false)
 |.zip _ _,_,_=>false
end
structure Ok(T:Tbl)(n:Nat)(sc:Scope)(N:List Str)(X:L2.Cx):Prop where
 calm:X.calm=true
 room:L2.yv n X.A
 scp:Scp sc N X
 fns:∀f v F,T.fn f v=some F→Callee T n X f v F
 gls:∀x v,T.gl x=some v→∃u xv,X.mg x=some u∧L2.RelV xv u∧∀ρ H,RD X.K X.mg ρ H v xv
 blt:∀x∈wF,X.mg x=none
 xe:X.xe=fun _ _=>False
theorem mJ{sc:Scope}{N N':List Str}{csc:Scope}{fr:List (Option Nat)}{X:L2.Cx}(S:Scp sc N X)(h:L2.qQ sc N N' csc fr=true):L2.zp X N' csc fr:=by
 unfold L2.qQ at h
 simp only[Bool.and_eq_true,List.all_eq_true,Bool.or_eq_true,decide_eq_true_eq,List.mem_range]at h
 obtain⟨⟨⟨⟨⟨⟨a1,a2⟩,a3⟩,a4⟩,a5⟩,a6⟩,a7⟩:=h
 refine⟨a1,a2,fun x hx hk=>?_,fun x hx hk=>?_,a5,fun i j x e1 e2=>?_,fun x e1 e2=>?_⟩
 . rcases a3 x hx with z|z
   . exact absurd hk z
   . exact z
 . rcases a4 x hx with z|z
   . exact absurd hk z
   . exact S.cf x.1 z
 . have hi:i<N'.length:=(List.getElem?_eq_some_iff.mp e1).1
   have q:=a6 i hi
   rw[e1,e2]at q
   simp only[Bool.and_eq_true,decide_eq_true_eq,List.any_eq_true]at q
   obtain⟨q1,y,q2,q3,q4⟩:=q
   refine⟨by rw[S.hN];exact q1,?_⟩
   have:y=(x,NameKind.free):=Prod.ext q3 q4
   rw[←this];exact q2
 . rcases a7 (x,.free) e2 with z|z
   . exact z rfl
   . exact z e1
theorem wC{sc:Scope}{env:PySem.Env}{x:Str}(h:sc.names.lookup x=some .local):(relabel sc env).names.lookup x=some .local:=lookup_relabel_local h
theorem nO{sc:Scope}{env:PySem.Env}{x:Str}(h:sc.names.lookup x=some .globalImplicit):(relabel sc env).names.lookup x=some .globalImplicit:=by
 have key:∀(names:List (Str × NameKind)),names.lookup x=some .globalImplicit→(names.map fun(n,k)=>if (k == NameKind.free&&env.scope.kind == .function&&env.kindOf n == some .cell) then (n,NameKind.cell) else (n,k)).lookup x=some .globalImplicit:=by
  intro names
  induction names with
  |nil=>intro h;simp at h
  |cons p r ih=>
   obtain⟨n,k⟩:=p
   intro h
   rw[List.map_cons]
   dsimp only
   cases hx:(x == n) with
   |true=>
    rw[List.lookup_cons,hx]at h
    cases h
    have e:(NameKind.globalImplicit == NameKind.free)=false:=rfl
    rw[e]
    simp only[Bool.false_and,Bool.false_eq_true,if_false,List.lookup_cons,hx]
   |false=>
    rw[List.lookup_cons,hx]at h
    have:=ih h
    split<;>simpa only[List.lookup_cons,hx] using this
 exact key sc.names h
theorem Scp.comp{sc:Scope}{N N':List Str}{csc:Scope}{fr:List (Option Nat)}{X:L2.Cx}(S:Scp sc N X)(hc:L2.zp X N' csc fr)(nd:N'.Nodup)(C:Addr)(s0:Shared)(H0:L2.Hp)(ex:List Addr):Scp csc N' (X.comp N' csc C s0 H0 ex):=by
 have nocell:∀x,csc.names.lookup x≠some .cell:=fun x h=>hc.nocell _ (PySem.mem_of_lookup h) rfl
 refine⟨rfl,nd,fun x h=>?_,fun x h=>?_,fun x h=>?_,fun x h=>?_⟩
 . rcases h with h|h|h
   . exact .inl (wC h)
   . exact absurd h (nocell x)
   . exact(L2.uK hc.locals h).elim (fun z=>.inr (.inl z)) fun z=>.inr (.inr z)
 . rcases h with h|h
   . exact⟨.inl (wC h),.inr (wC h)⟩
   . exact absurd h (nocell x)
 . exact nO h
 . rcases h with h|h
   . exact absurd h (nocell x)
   . exact L2.uK hc.locals h
theorem Callee.comp{T:Tbl}{n:Nat}{X:L2.Cx}{f:Str}{v:Nat}{F:Fn}(c:Callee T n X f v F)(N':List Str)(csc:Scope)(C:Addr)(s0:Shared)(H0:L2.Hp)(ex:List Addr):Callee T n (X.comp N' csc C s0 H0 ex) f v F:=⟨c.ex⟩
theorem Ok.comp{T:Tbl}{n:Nat}{sc:Scope}{N N':List Str}{csc:Scope}{fr:List (Option Nat)}{X:L2.Cx}(o:Ok T n sc N X)(hc:L2.zp X N' csc fr)(nd:N'.Nodup)(C:Addr)(s0:Shared)(H0:L2.Hp)(ex:List Addr):Ok T n csc N' (X.comp N' csc C s0 H0 ex):=
 ⟨o.calm,o.room,o.scp.comp hc nd C s0 H0 ex,fun f v F h=>(o.fns f v F h).comp N' csc C s0 H0 ex,o.gls,o.blt,rfl⟩
end M
end
section
namespace M
open PySem
section
variable {T:Tbl}{n:Nat}
def JE(T:Tbl)(n:Nat)(a:Ex):Prop:=∀(sc:Scope) (N:List Str) (X:L2.Cx) (e:Expr),Ok T n sc N X→ck sc N a e=true→∀env s,L2.PE X e (tV X.K X.mg env s (evE (zF T n) T.gl env a s))
def JL(T:Tbl)(n:Nat)(a:Exs):Prop:=∀(sc:Scope) (N:List Str) (X:L2.Cx) (es:List Expr),Ok T n sc N X→ckL sc N a es=true →
 (yZ es=true→∀env s,L2.PA X es (tVs X.K X.mg env s (ye (zF T n) T.gl env a s))) ∧
 (∀e es' pos,es=e::es'→∀env s,L2.PE X (.BoolOp .And es pos) (tV X.K X.mg env s (uv (zF T n) T.gl env a s))) ∧
 (∀e es' pos,es=e::es'→∀env s,L2.PE X (.BoolOp .Or es pos) (tV X.K X.mg env s (pE (zF T n) T.gl env a s))) ∧
 (∀y,es=[y]→plain y=true→∃b,a=.cons b .nil∧∀env s,L2.PE X y (tV X.K X.mg env s (evE (zF T n) T.gl env b s)))
def JO(T:Tbl)(n:Nat)(a:OEx):Prop:=∀(sc:Scope) (N:List Str) (X:L2.Cx) (e:Option Expr),Ok T n sc N X→ckO sc N a e=true→(∀env s,L2.PO X e (tO X.K X.mg env s (evO (zF T n) T.gl env a s))) ∧
 ((e=none∧∀env s1,evO (zF T n) T.gl env a s1=.ok none s1)∨∃e',e=some e'∧∀env s1 s2,evO (zF T n) T.gl env a s1≠.ok none s2)
def JC(T:Tbl)(n:Nat)(a:Cn):Prop:=∀(sc:Scope) (N:List Str) (X:L2.Cx) (e:Expr),Ok T n sc N X→ckC sc N a e=true→∀env s,L2.PT X e (tT X.K X.mg env s (evT (zF T n) T.gl env a s))
def JCs(T:Tbl)(n:Nat)(a:Cns):Prop:=∀(sc:Scope) (N:List Str) (X:L2.Cx) (es:List Expr),Ok T n sc N X→qR sc N a es=true →
 (∀pos env s,L2.PW X (.BoolOp .And es pos) (tT X.K X.mg env s (yo (zF T n) T.gl env a s)))∧(∀pos env s,L2.PW X (.BoolOp .Or es pos) (tT X.K X.mg env s (tD (zF T n) T.gl env a s)))∧L2.PTs X es (uTs X.K X.mg (zF T n) T.gl a)
def JI(T:Tbl)(n:Nat)(a:Itb):Prop:=∀(sc:Scope) (N:List Str) (X:L2.Cx) (e tg:Expr),Ok T n sc N X→ckI sc N a e tg=true→∀env s,L2.PI X tg e (tI (K:=X.K) (mg:=X.mg) env s (yQ (zF T n) T.gl env a s))
theorem bb{v:Val}:JE T n (.lit v):=by
 intro sc N X e o h env s
 simp only[ck]at h
 show L2.PE X e (tV X.K X.mg env s (.ok v s))
 unfold rS at h
 split at h
 . exact zd L2.ag fun σ H Q ⟨ρ,hr,er,w⟩=>zL hr .none w
 . have h':=(beq_iff_eq.mp h);subst h'
   exact zd L2.Ya fun σ H Q ⟨ρ,hr,er,w⟩=>zL hr (.bool _) w
 . have h':=of_decide_eq_true h;subst h'
   exact zd L2.ae fun σ H Q ⟨ρ,hr,er,w⟩=>zL hr (.int _) w
 . have h':=of_decide_eq_true h;subst h'
   exact zd L2.aj fun σ H Q ⟨ρ,hr,er,w⟩=>zL hr (.str _) w
 . cases h
theorem bh{i:Nat}:JE T n (.var i):=by
 intro sc N X e o h env s
 simp only[ck]at h
 split at h
 . rename_i x p
   simp only[Bool.and_eq_true,decide_eq_true_eq,da,Bool.or_eq_true,Bool.not_eq_true']at h
   obtain⟨⟨⟨h1,h2⟩,h3⟩,h4⟩:=h
   have hv:L2.Vis X.env.scope x:=o.scp.vis x (by rcases h2 with (z|z)|z;exact .inl z;exact .inr (.inl z);exact .inr (.inr z))
   show L2.PE X _ (tV X.K X.mg env s (match env[i]? with|some (some v)=>.ok v s|_=>.stuck))
   refine zd (L2.ao (i:=i) (by rw[o.scp.hN];exact h1) hv h3 h4) fun σ H Q ⟨ρ,hr,er,w⟩=>?_
   split at w
   . rename_i v e
     obtain⟨x',h5,h6⟩:=er.at_ i v e
     exact⟨x',h5,zL hr h6 w⟩
   . exact w.elim
 . cases h
theorem Z4{y:Str}:JE T n (.gl y):=by
 intro sc N X e o h env s
 simp only[ck]at h
 split at h
 . rename_i x p
   simp only[Bool.and_eq_true,decide_eq_true_eq,uA,Bool.not_eq_true']at h
   obtain⟨⟨h1,h2⟩,h3⟩:=h
   subst h1
   show L2.PE X _ (tV X.K X.mg env s (match T.gl x with|some v=>.ok v s|Option.none=>.stuck))
   cases hv:T.gl x with
   |none=>exact zI nofun
   |some v=>
    obtain⟨u,xv,e1,e2,e3⟩:=o.gls x v hv
    exact zd (L2.eF (o.scp.gl x h2) e1 e2 h3) fun σ H Q ⟨ρ,hr,er,w⟩=>zL hr (e3 ρ H) w
 . cases h
theorem Z7{y:Str}{m:String}:JE T n (.ty y m):=by
 intro sc N X e o h env s
 simp only[ck]at h
 split at h
 . rename_i x p
   simp only[Bool.and_eq_true,decide_eq_true_eq,uA]at h
   obtain⟨⟨h1,h2⟩,h3⟩:=h
   subst h1
   show L2.PE X _ (tV X.K X.mg env s (.ok (.ty m) s))
   have key:x∈wF∧bootBuiltins x=some (.type m)∧x≠"__name__"∧(x == ("__debug__":Str))=false:=by
    unfold XC at h3
    simp only[Bool.or_eq_true,Bool.and_eq_true,decide_eq_true_eq]at h3
    rcases h3 with ((((⟨rfl,rfl⟩|⟨rfl,rfl⟩)|⟨rfl,rfl⟩)|⟨rfl,rfl⟩)|⟨rfl,rfl⟩)|⟨rfl,rfl⟩
    . exact⟨by decide,PyProof.Rows.boot_int,by decide,by decide⟩
    . exact⟨by decide,PyProof.Rows.boot_bool,by decide,by decide⟩
    . exact⟨by decide,PyProof.Rows.boot_str,by decide,by decide⟩
    . exact⟨by decide,PyProof.Rows.boot_list,by decide,by decide⟩
    . exact⟨by decide,PyProof.Rows.boot_tuple,by decide,by decide⟩
    . exact⟨by decide,PyProof.Rows.boot_dict,by decide,by decide⟩
   exact zd (L2.Ye (o.scp.gl x h2) (o.blt x key.1) key.2.1 key.2.2.1 key.2.2.2) fun σ H Q ⟨ρ,hr,er,w⟩=>zL hr (.ty _) w
 . cases h
theorem fP{t:Bool}:JE T n (.dctN t):=by
 intro sc N X e o h env s
 simp only[ck]at h
 split at h
 . show L2.PE X _ (tV X.K X.mg env s (.ok (.dref s.length) (s++[if t then .dT [] else .dS []])))
   cases t with
   |true=>exact zd L2.iV fun σ H Q ⟨ρ,hr,er,w⟩ p hp=>w _ _ _ (Ext.own hr hp _) (hr.aO hp ⟨[],L2.zc,rfl,.nil⟩) (.dref (tU hr p) (by rw[L2.zc];decide))
   |false=>exact zd L2.iU fun σ H Q ⟨ρ,hr,er,w⟩ p hp=>w _ _ _ (Ext.own hr hp _) (hr.aO hp ⟨[],L2.zc,rfl,.nil⟩) (.dref (tU hr p) (by rw[L2.zc];decide))
 . cases h
theorem jr{a b:Ex}(ja:JE T n a)(jb:JE T n b):JE T n (.ixD a b):=by
 intro sc N X e o h env s
 simp only[ck]at h
 split at h
 . simp only[Bool.and_eq_true]at h
   have h1:=ja _ _ _ _ o h.1.1 env s
   have h2:=fun s1=>jb _ _ _ _ o h.1.2 env s1
   show L2.PE X _ (tV X.K X.mg env s ((evE (zF T n) T.gl env a s).bind fun x s1=>(evE (zF T n) T.gl env b s1).bind fun y s2=>ixD x y s2))
   cases ha:evE (zF T n) T.gl env a s with
   |ok v s1=>
    rw[ha]at h1
    have h2':=h2 s1
    simp only[zK]
    cases hb:evE (zF T n) T.gl env b s1 with
    |ok w s2=>
     rw[hb]at h2'
     refine zd (L2.eD (by have:=o.room.un;omega) h1 h2' (p4 h.2)) fun σ H Q ⟨ρ,hr,er,wt⟩=>⟨ρ,hr,er,fun ρ1 x H1 x1 hr1 r1=>⟨ρ1,hr1,er.mono x1,fun ρ2 y H2 x2 hr2 r2=>?_⟩⟩
     have wt':yW X.K X.mg (RD X.K X.mg) ρ2 H2 (ixD v w s2) Q:=wt.mono (x1.trans hr1 x2) hr2
     unfold ixD at wt'
     split at wt'
     . rename_i u e
       obtain⟨p,o',ex,g,ro⟩:=getD_at hr2 (r1.mono x2) r2 e
       cases o' with
       |none=>exact ro.elim
       |some z=>exact⟨p,z,ex,g,zL hr2 ro wt'⟩
     . exact wt'.elim
    |exc _ _ _=>exact zI nofun
    |stuck=>exact zI nofun
   |exc _ _ _=>exact zI nofun
   |stuck=>exact zI nofun
 . cases h
theorem qv{op:Cop}{x y v:Val}{s s':Sto}(h:zR op x y s=.ok v s'):∃b,v=.bool b:=by
 unfold zR at h
 split at h<;>(split at h<;>first|(cases h;exact⟨_,rfl⟩)|cases h|(split at h<;>first|(cases h;exact⟨_,rfl⟩)|cases h|(split at h<;>first|(cases h;exact⟨_,rfl⟩)|cases h)))
theorem si{K:KF}{mg:Str→Option Value}{ρ:Own}{H:L2.Hp}{o:Out Val}{Q:Bool→L2.Hp→Prop}(hb:∀v s',o=.ok v s'→∃b,v=.bool b)(w:yW K mg (fun _ _ a b=>a=b) ρ H o.truth Q):yW K mg (RD K mg) ρ H o fun x H'=>∃k,x=.bl k∧Q k H':=by
 cases o with
 |ok v s1=>
  obtain⟨b,rfl⟩:=hb v s1 rfl
  intro ρ1 x H1 x1 hr1 r1
  cases r1
  exact⟨b,rfl,w _ _ _ x1 hr1 rfl⟩
 |exc _ _ _=>exact w
 |stuck=>exact w
theorem bu{X:L2.Cx}{env:Env}{s:Sto}{a b:Expr}{op:Cop}{o:Out Val}{f2:Sto→Out Val}{k:Nat}{pos:Pos}(k1:okC op=true)(hr0:L2.yv k X.A)(h1:L2.PE X a (tV X.K X.mg env s o))(h2:∀s1,L2.PE X b (tV X.K X.mg env s1 (f2 s1)))(hm:plain b=true) :
 L2.PT X (.Compare a [op.op] [b] pos) (tT X.K X.mg env s (o.bind fun x s1=>(f2 s1).bind fun y s2=>zR op x y s2).truth):=by
 cases o with
 |ok v s1=>
  have h2':=h2 s1
  show L2.PT X _ (tT X.K X.mg env s ((f2 s1).bind fun y s2=>zR op v y s2).truth)
  cases hb:f2 s1 with
  |ok w s2=>
   rw[hb]at h2'
   exact qi (L2.eU (ud hr0 op k1) h1 h2' (wb hm)) fun σ H Q ⟨ρ,hr,er,wt⟩=>⟨ρ,hr,er,fun ρ1 x H1 x1 hr1 r1=>⟨ρ1,hr1,er.mono x1,fun ρ2 y H2 x2 hr2 r2=>⟨ρ2,s2,v,w,hr2,r1.mono x2,r2,si (fun _ _ h=>qv h) (wt.mono (x1.trans hr1 x2) hr2)⟩⟩⟩
  |exc _ _ _=>exact z6 nofun
  |stuck=>exact z6 nofun
 |exc _ _ _=>exact z6 nofun
 |stuck=>exact z6 nofun
theorem jy{X:L2.Cx}{env:Env}{s:Sto}{a b c:Expr}{op op':Cop}{o:Out Val}{f2 f3:Sto→Out Val}{k:Nat}{pos:Pos}(k1:okC op=true)(k2:okC op'=true)(hr0:L2.yv k X.A)(h1:L2.PE X a (tV X.K X.mg env s o))(h2:∀s1,L2.PE X b (tV X.K X.mg env s1 (f2 s1)))(h3:∀s1,L2.PE X c (tV X.K X.mg env s1 (f3 s1)))(hm:plain c=true) :
 L2.PT X (.Compare a [op.op,op'.op] [b,c] pos) (tT X.K X.mg env s (o.bind fun x s1=>(f2 s1).bind fun y s2=>(zR op x y s2).bind fun r s3=>match r with
  |.bool true=>(f3 s3).bind fun z s4=>zR op' y z s4
  |.bool false=>.ok (.bool false) s3
  |_=>.stuck).truth):=by
 cases o with
 |ok v s1=>
  have h2':=h2 s1
  show L2.PT X _ (tT X.K X.mg env s ((f2 s1).bind _).truth)
  cases hb:f2 s1 with
  |ok w s2=>
   rw[hb]at h2'
   show L2.PT X _ (tT X.K X.mg env s ((zR op v w s2).bind _).truth)
   cases hc:zR op v w s2 with
   |ok r s3=>
    cases r with
    |bool t=>
     have h3':=h3 s3
     have rule:=L2.ir (pos:=pos) (ud hr0 op k1) (ud hr0 op' k2) h1 h2' h3' (show lastMarks [op.op,op'.op] [b,c]=false from wb hm)
     refine qi rule fun σ H Q ⟨ρ,hr,er,wt⟩=>⟨ρ,hr,er,fun ρ1 x H1 x1 hr1 r1=>⟨ρ1,hr1,er.mono x1,fun ρ2 y H2 x2 hr2 r2=>⟨ρ2,s2,v,w,hr2,r1.mono x2,r2,?_⟩⟩⟩
     rw[hc]
     intro ρ3 z H3 x3 hr3 r3
     cases r3
     refine⟨t,rfl,?_⟩
     have xx:=(x1.trans hr1 x2).trans hr2 x3
     have wt':=wt.mono xx hr3
     cases t with
     |true=>
      rw[if_pos rfl]
      refine⟨ρ3,hr3,er.mono xx,?_⟩
      have wt2:yW X.K X.mg (fun _ _ a b=>a=b) ρ3 H3 ((f3 s3).bind fun z s4=>zR op' w z s4).truth Q:=wt'
      cases hz:f3 s3 with
      |ok u s4=>
       rw[hz]at wt2
       exact fun ρ4 q H4 x4 hr4 r4=>⟨ρ4,s4,w,u,hr4,(r2.mono x3).mono x4,r4,si (fun _ _ h=>qv h) (wt2.mono x4 hr4)⟩
      |exc _ _ _=>rw[hz]at wt2;exact wt2
      |stuck=>rw[hz]at wt2;exact wt2
     |false=>
      rw[if_neg Bool.false_ne_true]
      exact⟨false,rfl,wt' _ _ _ Ext.refl hr3 rfl⟩
    |_=>exact z6 nofun
   |exc _ _ _=>exact z6 nofun
   |stuck=>exact z6 nofun
  |exc _ _ _=>exact z6 nofun
  |stuck=>exact z6 nofun
 |exc _ _ _=>exact z6 nofun
 |stuck=>exact z6 nofun
theorem bY{op:Cop}{a b:Ex}(ja:JE T n a)(jb:JE T n b):JC T n (.val (.cmp op a b)):=by
 intro sc N X e o h env s
 simp only[ckC,Bool.and_eq_true,ck]at h
 obtain⟨h1,_⟩:=h
 split at h1
 . simp only[Bool.and_eq_true,decide_eq_true_eq]at h1
   obtain⟨⟨⟨⟨k1,rfl⟩,h3⟩,h4⟩,h5⟩:=h1
   exact bu k1 o.room (ja _ _ _ _ o h3 env s) (fun s1=>jb _ _ _ _ o h4 env s1) h5
 . cases h1
theorem jm{op op':Cop}{a b c:Ex}(ja:JE T n a)(jb:JE T n b)(jc:JE T n c):JC T n (.val (.chain op op' a b c)):=by
 intro sc N X e o h env s
 simp only[ckC,Bool.and_eq_true,ck]at h
 obtain⟨h1,_⟩:=h
 split at h1
 . simp only[Bool.and_eq_true,decide_eq_true_eq]at h1
   obtain⟨⟨⟨⟨⟨⟨k1,rfl⟩,k2,rfl⟩,h3⟩,h4⟩,h5⟩,h6⟩:=h1
   exact jy k1 k2 o.room (ja _ _ _ _ o h3 env s) (fun s1=>jb _ _ _ _ o h4 env s1) (fun s1=>jc _ _ _ _ o h5 env s1) h6
 . cases h1
noncomputable def Zw:Ex→Bool
 |.cmp ..|.chain ..=>true
 |_=>false
theorem zy{a:Ex}(ja:JE T n a)(hn:Zw a=false):JC T n (.val a):=by
 intro sc N X e o h env s
 simp only[ckC,Bool.and_eq_true,Bool.or_eq_true]at h
 obtain⟨h1,h2⟩:=h
 have je:=ja sc N X e o h1 env s
 rcases h2 with h2|h2
 . exact bx h2 je
 . split at h2
   . cases a<;>first|(cases hn;done)|(simp only[ck,rS]at h1;cases h1;done)|(simp only[ck,rS]at h1;split at h1<;>first|(rename_i heq;cases heq;done)|(cases h1;done))
   . cases h2
end
end M
end
section
namespace M
open PySem
section
variable {T:Tbl}{n:Nat}
theorem bI{m:Bool}{op:Bop}{a b:Ex}(ja:JE T n a)(jb:JE T n b):JE T n (.bin m op a b):=by
 intro sc N X e o h env s
 simp only[ck]at h
 split at h
 . simp only[Bool.and_eq_true,decide_eq_true_eq]at h
   obtain⟨⟨⟨k1,rfl⟩,h1⟩,h2⟩:=h
   exact cV (ja _ _ _ _ o h1 env s) (fun s1=>jb _ _ _ _ o h2 env s1) fun ta tb pa pb=>L2.Yd (aH m op k1) pa pb
 . cases h
theorem bN{a:Ex}(ja:JE T n a):JE T n (.neg a):=by
 intro sc N X e o h env s
 simp only[ck]at h
 split at h
 . exact bf (ja _ _ _ _ o h env s)
 . cases h
theorem bO{a:Ex}(ja:JE T n a):JE T n (.not a):=by
 intro sc N X e o h env s
 simp only[ck]at h
 split at h
 . exact bg (ja _ _ _ _ o h env s)
 . cases h
theorem bK{op:Cop}{a b:Ex}(ja:JE T n a)(jb:JE T n b):JE T n (.cmp op a b):=by
 intro sc N X e o h env s
 simp only[ck]at h
 split at h
 . simp only[Bool.and_eq_true,decide_eq_true_eq]at h
   obtain⟨⟨⟨⟨k1,rfl⟩,h1⟩,h2⟩,h3⟩:=h
   exact cV (ja _ _ _ _ o h1 env s) (fun s1=>jb _ _ _ _ o h2 env s1) fun ta tb pa pb=>L2.eC (ud o.room op k1) pa pb (wb h3)
 . cases h
theorem jd{op op':Cop}{a b c:Ex}(ja:JE T n a)(jb:JE T n b)(jc:JE T n c):JE T n (.chain op op' a b c):=by
 intro sc N X e o h env s
 simp only[ck]at h
 split at h
 . simp only[Bool.and_eq_true,decide_eq_true_eq]at h
   obtain⟨⟨⟨⟨⟨⟨k1,rfl⟩,k2,rfl⟩,h3⟩,h4⟩,h5⟩,h6⟩:=h
   exact jq k1 k2 o.room (ja _ _ _ _ o h3 env s) (fun s1=>jb _ _ _ _ o h4 env s1) (fun s1=>jc _ _ _ _ o h5 env s1) h6
 . cases h
theorem bH{a:Ex}{es:Exs}(ja:JE T n a)(jl:JL T n es):JE T n (.andE a es):=by
 intro sc N X e o h env s
 simp only[ck]at h
 split at h
 . rename_i x xs pos
   simp only[Bool.and_eq_true]at h
   obtain⟨h1,h2⟩:=h
   cases es with
   |nil=>
    simp only[ckL]at h2
    split at h2
    . exact L2.nH (ja _ _ _ _ o h1 env s)
    . cases h2
   |cons b es'=>
    cases xs with
    |nil=>cases h2
    |cons y ys=>exact jn (ja _ _ _ _ o h1 env s) fun s1=>(jl _ _ _ _ o h2).2.1 y ys pos rfl env s1
 . cases h
theorem bL{c:Cn}{a b:Ex}(jc:JC T n c)(ja:JE T n a)(jb:JE T n b):JE T n (.ife c a b):=by
 intro sc N X e o h env s
 simp only[ck]at h
 split at h
 . simp only[Bool.and_eq_true]at h
   exact ba (jc _ _ _ _ o h.1.1 env s) (fun s1=>ja _ _ _ _ o h.1.2 env s1) (fun s1=>jb _ _ _ _ o h.2 env s1)
 . cases h
theorem bP{es:Exs}(jl:JL T n es):JE T n (.tup es):=by
 intro sc N X e o h env s
 simp only[ck]at h
 split at h
 . simp only[Bool.and_eq_true]at h
   exact jt ((jl _ _ _ _ o h.1).1 h.2 env s)
 . cases h
theorem bM{m:Bool}{es:Exs}(jl:JL T n es):JE T n (.lst m es):=by
 intro sc N X e o h env s
 simp only[ck]at h
 split at h
 . simp only[Bool.and_eq_true]at h
   exact bc ((jl _ _ _ _ o h.1).1 h.2 env s)
 . cases h
theorem oS{f:Str}{ver:Nat}(h:T.fn f ver=none)(vs:List Val)(s:Sto):zF T n f ver vs s=.stuck:=by
 cases n with
 |zero=>rfl
 |succ n=>simp only[zF,h]
theorem fG{f:Str}{ver:Nat}{es:Exs}(jl:JL T n es):JE T n (.call f ver es):=by
 intro sc N X e o h env s
 simp only[ck]at h
 split at h
 . rename_i x p xs pos
   simp only[Bool.and_eq_true,decide_eq_true_eq,uA,Bool.not_eq_true']at h
   obtain⟨⟨⟨⟨rfl,h2⟩,h3⟩,h4⟩,h5⟩:=h
   show L2.PE X _ (tV X.K X.mg env s ((ye (zF T n) T.gl env es s).bind fun vs s1=>zF T n x ver vs s1))
   cases hf:T.fn x ver with
   |none=>
    refine zI fun v s' e=>?_
    cases hv:ye (zF T n) T.gl env es s with
    |ok vs s1=>rw[hv]at e;simp only[zK,oS hf]at e;cases e
    |exc _ _ _=>rw[hv]at e;cases e
    |stuck=>rw[hv]at e;cases e
   |some F=>
    have C:=o.fns x ver F hf
    cases xs with
    |nil=>
     cases es with
     |nil=>exact jo C o.room (o.scp.gl x h2) h3
     |cons _ _=>cases h4
    |cons y ys=>exact fO C o.room (o.scp.gl x h2) h3 h5 (by simp) ((jl _ _ _ _ o h4).1 h5 env s)
 . cases h
theorem cU(f:Bf):f.nm∈wF:=by cases f<;>decide
theorem bJ{f:Bf}{m:Bool}{es:Exs}(jl:JL T n es):JE T n (.blt f m es):=by
 intro sc N X e o h env s
 simp only[ck]at h
 split at h
 . rename_i x p y ys pos
   simp only[Bool.and_eq_true,decide_eq_true_eq,uA]at h
   obtain⟨⟨⟨⟨k1,rfl⟩,h2⟩,h3⟩,h4⟩:=h
   exact bZ k1 o.calm o.room (o.scp.gl _ h2) (o.blt _ (cU f)) h4 ((jl _ _ _ _ o h3).1 h4 env s)
 . cases h
theorem fI{f:Mf}{m:Bool}{a:Ex}{es:Exs}(ja:JE T n a)(jl:JL T n es):JE T n (.z7 f m a es):=by
 intro sc N X e o h env s
 simp only[ck]at h
 split at h
 . rename_i ob x ap y cp
   simp only[Bool.and_eq_true,decide_eq_true_eq]at h
   obtain⟨⟨⟨⟨⟨rfl,h1⟩,h2⟩,h3⟩,h4⟩,h5⟩:=h
   obtain⟨b,rfl,jb⟩:=(jl _ _ _ _ o h2).2.2.2 y rfl h3
   exact js h4 h3 h5 (ja _ _ _ _ o h1 env s) fun s1=>jb env s1
 . cases h
theorem Zz{a b:Ex}(ja:JE T n a)(jb:JE T n b):JE T n (.ix a b):=by
 intro sc N X e o h env s
 simp only[ck]at h
 split at h
 . simp only[Bool.and_eq_true]at h
   exact cV (ja _ _ _ _ o h.1.1 env s) (fun s1=>jb _ _ _ _ o h.1.2 env s1) fun ta tb pa pb=>L2.Yb Zx pa pb (p4 h.2)
 . cases h
theorem Z0{m:Bool}{a:Ex}{lo hi st:OEx}(ja:JE T n a)(j1:JO T n lo)(j2:JO T n hi)(j3:JO T n st):JE T n (.sl m a lo hi st):=by
 intro sc N X e o h env s
 simp only[ck]at h
 split at h
 . simp only[Bool.and_eq_true]at h
   obtain⟨⟨⟨h1,h2⟩,h3⟩,h4⟩:=h
   obtain⟨p3,q3⟩:=j3 _ _ _ _ o h4
   refine Z6 (ja _ _ _ _ o h1 env s) (fun s1=>(j1 _ _ _ _ o h2).1 env s1) (fun s1=>(j2 _ _ _ _ o h3).1 env s1) (fun s1=>p3 env s1) ?_
   rcases q3 with⟨e1,e2⟩|⟨e',e1,e2⟩
   . exact .inl ⟨e1,fun s1=>e2 env s1⟩
   . exact .inr ⟨e',e1,fun s1 s2=>e2 env s1 s2⟩
 . cases h
theorem fH{m:Bool}{N':List Str}{fr:List (Option Nat)}{elt:Ex}{t:Tgt}{it:Itb}{ifs:Cns}(je:JE T n elt)(ji:JI T n it)(jc:JCs T n ifs):JE T n (.comp m N' fr elt t it ifs):=by
 intro sc N X e o h env s
 simp only[ck]at h
 split at h
 . rename_i x tg iter fs csc cpos
   simp only[Bool.and_eq_true,decide_eq_true_eq]at h
   obtain⟨⟨⟨⟨⟨⟨h1,h2⟩,h3⟩,h4⟩,h5⟩,h6⟩,h7⟩:=h
   have S:=mJ o.scp h1
   have oc:=o.comp S h2
   obtain⟨g,pg,tg'⟩:∃g,(∀C s0 H0 ex,L2.PG (X.comp N' csc C s0 H0 ex) tg g)∧uV X.K X.mg t g:=by
    cases t with
    |nm i=>
     cases tg with
     |Name y p=>
      simp only[ckT,Bool.and_eq_true,Bool.or_eq_true,decide_eq_true_eq]at h3
      exact⟨_,fun C s0 H0 ex=>rn (oc C s0 H0 ex).scp h3.1 h3.2,uL⟩
     |_=>cases h3
    |nms is=>
     cases tg with
     |Tuple es k p=>
      simp only[ckT,Bool.and_eq_true,decide_eq_true_eq]at h3
      refine⟨_,fun C s0 H0 ex=>?_,wO (is:=is)⟩
      obtain⟨a,b,c⟩:=xK (oc C s0 H0 ex).scp h3.1
      exact L2.ue (X:=X.comp N' csc C s0 H0 ex) o.calm a b c
     |_=>cases h3
   have rule:L2.PE X (.ListComp x [⟨tg,iter,fs,0⟩] csc cpos) (L2.vD fr (uI X.K X.mg (zF T n) T.gl it) g (uTs X.K X.mg (zF T n) T.gl ifs) fun acc=>L2.vY acc (uE X.K X.mg (zF T n) T.gl elt)):=
    L2.mf o.calm S (nJ fun env s=>ji _ _ _ _ _ o h4 env s) pg (fun C s0 H0 ex=>(jc _ _ _ _ (oc C s0 H0 ex) h5).2.2) (fun C s0 H0 ex=>eI (X:=X.comp N' csc C s0 H0 ex) fun env s=>je _ _ _ _ (oc C s0 H0 ex) h6 env s) (yG h7)
   refine zd rule fun σ H Q hq=>vL (env:=env) (s:=s) (chk:=false) (m:=m) (body:=vZ (zF T n) T.gl elt ifs) tg' xu (fun acc ρ0 H0 hn=>sk hn) ?_ fun _ r s1 p s2 hl=>?_
   . simp only[Bool.false_eq_true,false_implies,if_true];exact hq
   . have:=uk hl
     simpa using this
 . cases h
theorem jf{m:Bool}{N':List Str}{fr:List (Option Nat)}{elt:Ex}{t t2:Tgt}{it it2:Itb}{ifs ifs2:Cns}(je:JE T n elt)(ji:JI T n it)(jc:JCs T n ifs)(ji2:JI T n it2)(jc2:JCs T n ifs2):JE T n (.comp2 m N' fr elt t it ifs t2 it2 ifs2):=by
 intro sc N X e o h env s
 simp only[ck]at h
 split at h
 . rename_i x tg iter fs tg2 iter2 fs2 csc cpos
   simp only[Bool.and_eq_true,decide_eq_true_eq]at h
   obtain⟨⟨⟨⟨⟨⟨⟨⟨⟨⟨h1,h2⟩,h3⟩,h4⟩,h5⟩,h6⟩,h7⟩,h8⟩,h9⟩,h10⟩,h11⟩:=h
   have S:=mJ o.scp h1
   have oc:=o.comp S h2
   have tgt:∀(t:Tgt) (tg:Expr),ckT csc N' t tg=true→∃g,(∀C s0 H0 ex,L2.PG (X.comp N' csc C s0 H0 ex) tg g)∧uV X.K X.mg t g:=by
    intro t tg h3
    cases t with
    |nm i=>
     cases tg with
     |Name y p=>
      simp only[ckT,Bool.and_eq_true,Bool.or_eq_true,decide_eq_true_eq]at h3
      exact⟨_,fun C s0 H0 ex=>rn (oc C s0 H0 ex).scp h3.1 h3.2,uL⟩
     |_=>cases h3
    |nms is=>
     cases tg with
     |Tuple es k p=>
      simp only[ckT,Bool.and_eq_true,decide_eq_true_eq]at h3
      refine⟨_,fun C s0 H0 ex=>?_,wO (is:=is)⟩
      obtain⟨a,b,c⟩:=xK (oc C s0 H0 ex).scp h3.1
      exact L2.ue (X:=X.comp N' csc C s0 H0 ex) o.calm a b c
     |_=>cases h3
   obtain⟨g,pg,tg'⟩:=tgt t tg h3
   obtain⟨g2,pg2,tg2'⟩:=tgt t2 tg2 h6
   have rule:=L2.pk (cpos:=cpos) (elt:=x) (ifs:=fs) (ifs2:=fs2) (ts:=uTs X.K X.mg (zF T n) T.gl ifs) (ts2:=uTs X.K X.mg (zF T n) T.gl ifs2) (wi2:=uI X.K X.mg (zF T n) T.gl it2) (te:=uE X.K X.mg (zF T n) T.gl elt) o.calm S (nJ (tg:=tg) fun env s=>ji _ _ _ _ _ o h4 env s) pg (fun C s0 H0 ex=>(jc _ _ _ _ (oc C s0 H0 ex) h5).2.2)
    (fun C s0 H0 ex=>nJ (X:=X.comp N' csc C s0 H0 ex) (tg:=tg2) fun env s=>ji2 _ _ _ _ _ (oc C s0 H0 ex) h7 env s) pg2 (fun C s0 H0 ex=>(jc2 _ _ _ _ (oc C s0 H0 ex) h8).2.2)
    (fun C s0 H0 ex=>eI (X:=X.comp N' csc C s0 H0 ex) fun env s=>je _ _ _ _ (oc C s0 H0 ex) h9 env s) (yG h10) (fun env=>yG h11)
   refine zd rule fun σ H Q hq=>vL (env:=env) (s:=s) (chk:=true) (m:=m) (body:=uj (zF T n) T.gl elt ifs t2 it2 ifs2) tg' uM (fun acc ρ0 H0 hn=>qA hn tg2') ?_ fun z=>by cases z
   simp only[true_implies];exact hq
 . cases h
theorem bR:JL T n .nil:=by
 intro sc N X es o h
 simp only[ckL]at h
 split at h
 . exact⟨fun _ env s=>fQ,⟨fun e es' pos z=>(nomatch z),⟨fun e es' pos z=>(nomatch z),fun y z=>(nomatch z)⟩⟩⟩
 . cases h
theorem fK{a:Ex}{as:Exs}(ja:JE T n a)(jl:JL T n as):JL T n (.cons a as):=by
 intro sc N X es o h
 simp only[ckL]at h
 split at h
 . rename_i e es
   simp only[Bool.and_eq_true]at h
   obtain⟨h1,h2⟩:=h
   obtain⟨l1,l2,l3,l4⟩:=jl _ _ _ _ o h2
   refine⟨fun hp env s=>?_,fun e' es' pos z env s=>?_,fun e' es' pos z env s=>?_,fun y z hp=>?_⟩
   . rw[yZ,Bool.and_eq_true]at hp
     exact ju hp.1 (ja _ _ _ _ o h1 env s) fun s1=>l1 hp.2 env s1
   . cases as with
     |nil=>
      simp only[ckL]at h2
      split at h2
      . exact L2.nH (ja _ _ _ _ o h1 env s)
      . cases h2
     |cons b as'=>
      cases es with
      |nil=>cases h2
      |cons y ys=>exact jn (ja _ _ _ _ o h1 env s) fun s1=>l2 y ys pos rfl env s1
   . cases as with
     |nil=>
      simp only[ckL]at h2
      split at h2
      . exact L2.nH (ja _ _ _ _ o h1 env s)
      . cases h2
     |cons b as'=>
      cases es with
      |nil=>cases h2
      |cons y ys=>exact Z5 (ja _ _ _ _ o h1 env s) fun s1=>l3 y ys pos rfl env s1
   . cases z
     cases as with
     |nil=>exact⟨a,rfl,fun env s=>ja _ _ _ _ o h1 env s⟩
     |cons _ _=>cases h2
 . cases h
theorem Z1:JO T n .no:=by
 intro sc N X e o h
 simp only[ckO]at h
 split at h
 . exact⟨fun env s=>Z8,.inl ⟨rfl,fun env s1=>rfl⟩⟩
 . cases h
theorem bS{a:Ex}(ja:JE T n a):JO T n (.yes a):=by
 intro sc N X e o h
 simp only[ckO]at h
 split at h
 . refine⟨fun env s=>bp (ja _ _ _ _ o h env s),.inr ⟨_,rfl,fun env s1 s2 z=>?_⟩⟩
   have z':((evE (zF T n) T.gl env a s1).bind fun v s1=>match v with|.int i=>.ok (some i) s1|_=>.stuck)=.ok none s2:=z
   cases hv:evE (zF T n) T.gl env a s1 with
   |ok v s3=>rw[hv]at z';cases v<;>cases z'
   |exc _ _ _=>rw[hv]at z';cases z'
   |stuck=>rw[hv]at z';cases z'
 . cases h
theorem bG{c:Cn}(jc:JC T n c):JC T n (.not c):=by
 intro sc N X e o h env s
 simp only[ckC]at h
 split at h
 . exact bw (jc _ _ _ _ o h env s)
 . cases h
theorem bF{c:Cn}{cs:Cns}(jc:JC T n c)(jcs:JCs T n cs):JC T n (.and c cs):=by
 intro sc N X e o h env s
 simp only[ckC]at h
 split at h
 . simp only[Bool.and_eq_true]at h
   exact(jz (jc _ _ _ _ o h.1 env s) fun s1=>(jcs _ _ _ _ o h.2).1 _ env s1).pt
 . cases h
theorem Zy{c:Cn}{cs:Cns}(jc:JC T n c)(jcs:JCs T n cs):JC T n (.or c cs):=by
 intro sc N X e o h env s
 simp only[ckC]at h
 split at h
 . simp only[Bool.and_eq_true]at h
   exact(dg (jc _ _ _ _ o h.1 env s) fun s1=>(jcs _ _ _ _ o h.2).2.1 _ env s1).pt
 . cases h
theorem fF:JCs T n .nil:=by
 intro sc N X es o h
 simp only[qR]at h
 split at h
 . exact⟨fun pos env s=>og,fun pos env s=>lQ,.nil⟩
 . cases h
theorem jZ{c:Cn}{cs:Cns}(jc:JC T n c)(jcs:JCs T n cs):JCs T n (.cons c cs):=by
 intro sc N X es o h
 simp only[qR]at h
 split at h
 . simp only[Bool.and_eq_true]at h
   obtain⟨a,b,d⟩:=jcs _ _ _ _ o h.2
   exact⟨fun pos env s=>jz (jc _ _ _ _ o h.1 env s) fun s1=>a pos env s1,fun pos env s=>dg (jc _ _ _ _ o h.1 env s) fun s1=>b pos env s1,.cons (Ym fun env s=>jc _ _ _ _ o h.1 env s) d⟩
 . cases h
theorem bQ{a:Ex}(ja:JE T n a):JI T n (.val a):=fun sc N X e tg o h env s=>bj (ja _ _ _ _ o (by simpa only[ckI] using h) env s)
theorem lM{a:Ex}(ja:JE T n a):JI T n (.range1 a):=by
 intro sc N X e tg o h env s
 simp only[ckI]at h
 split at h
 . simp only[Bool.and_eq_true,decide_eq_true_eq,uA]at h
   obtain⟨⟨⟨rfl,h1⟩,h2⟩,h3⟩:=h
   exact lO h3 (o.scp.gl _ h1) (o.blt _ (by decide)) (ja _ _ _ _ o h2 env s)
 . cases h
theorem lN{a b:Ex}(ja:JE T n a)(jb:JE T n b):JI T n (.range2 a b):=by
 intro sc N X e tg o h env s
 simp only[ckI]at h
 split at h
 . simp only[Bool.and_eq_true,decide_eq_true_eq,uA]at h
   obtain⟨⟨⟨⟨⟨rfl,h1⟩,h2⟩,h3⟩,h4⟩,h5⟩:=h
   exact lP h4 h5 (o.scp.gl _ h1) (o.blt _ (by decide)) (ja _ _ _ _ o h2 env s) fun s1=>jb _ _ _ _ o h3 env s1
 . cases h
theorem fJ{a:Ex}(ja:JE T n a):JI T n (.enum a):=by
 intro sc N X e tg o h env s
 simp only[ckI]at h
 split at h
 . simp only[Bool.and_eq_true,decide_eq_true_eq,uA]at h
   obtain⟨⟨⟨rfl,h1⟩,h2⟩,h3⟩:=h
   exact fR h3 (o.scp.gl _ h1) (o.blt _ (by decide)) (ja _ _ _ _ o h2 env s)
 . cases h
end
section
variable (T:Tbl)(n:Nat)
mutual
theorem jE:∀a:Ex,JE T n a
 |.lit _=>bb
 |.var _=>bh
 |.gl _=>Z4
 |.ty _ _=>Z7
 |.bin _ _ a b=>bI (jE a) (jE b)
 |.neg a=>bN (jE a)
 |.not a=>bO (jE a)
 |.cmp _ a b=>bK (jE a) (jE b)
 |.chain _ _ a b c=>jd (jE a) (jE b) (jE c)
 |.andE a es=>bH (jE a) (jL es)
 |.orE _ _=>fun sc N X e o h=>by cases h
 |.ife c a b=>bL (jC c) (jE a) (jE b)
 |.tup es=>bP (jL es)
 |.lst _ es=>bM (jL es)
 |.dct0=>fun sc N X e o h=>by cases h
 |.dctN _=>fP
 |.ixD a b=>jr (jE a) (jE b)
 |.call _ _ es=>fG (jL es)
 |.blt _ _ es=>bJ (jL es)
 |.maxD _ _=>fun sc N X e o h=>by cases h
 |.z7 _ _ a es=>fI (jE a) (jL es)
 |.ix a b=>Zz (jE a) (jE b)
 |.sl _ a lo hi st=>Z0 (jE a) (jO lo) (jO hi) (jO st)
 |.comp _ _ _ elt _ it ifs=>fH (jE elt) (jI it) (jCs ifs)
 |.comp2 _ _ _ elt _ it ifs _ it2 ifs2=>jf (jE elt) (jI it) (jCs ifs) (jI it2) (jCs ifs2)
 |.listRange _ _ _ _=>fun sc N X e o h=>by cases h
theorem jL:∀a:Exs,JL T n a
 |.nil=>bR
 |.cons a as=>fK (jE a) (jL as)
theorem jO:∀a:OEx,JO T n a
 |.no=>Z1
 |.yes a=>bS (jE a)
theorem jC:∀a:Cn,JC T n a
 |.val (.cmp _ a b)=>bY (jE a) (jE b)
 |.val (.chain _ _ a b c)=>jm (jE a) (jE b) (jE c)
 |.val (.lit v)=>zy (jE (.lit v)) rfl
 |.val (.var v)=>zy (jE (.var v)) rfl
 |.val (.gl v)=>zy (jE (.gl v)) rfl
 |.val (.ty v w)=>zy (jE (.ty v w)) rfl
 |.val (.bin m o a b)=>zy (jE (.bin m o a b)) rfl
 |.val (.neg a)=>zy (jE (.neg a)) rfl
 |.val (.not a)=>zy (jE (.not a)) rfl
 |.val (.andE a b)=>zy (jE (.andE a b)) rfl
 |.val (.orE a b)=>zy (jE (.orE a b)) rfl
 |.val (.ife a b c)=>zy (jE (.ife a b c)) rfl
 |.val (.tup a)=>zy (jE (.tup a)) rfl
 |.val (.lst m a)=>zy (jE (.lst m a)) rfl
 |.val .dct0=>zy (jE .dct0) rfl
 |.val (.dctN t)=>zy (jE (.dctN t)) rfl
 |.val (.ixD a b)=>zy (jr (jE a) (jE b)) rfl
 |.val (.call a b c)=>zy (jE (.call a b c)) rfl
 |.val (.blt a b c)=>zy (jE (.blt a b c)) rfl
 |.val (.maxD a b)=>zy (jE (.maxD a b)) rfl
 |.val (.z7 a b c d)=>zy (jE (.z7 a b c d)) rfl
 |.val (.ix a b)=>zy (jE (.ix a b)) rfl
 |.val (.sl a b c d e)=>zy (jE (.sl a b c d e)) rfl
 |.val (.comp a b c d e f g)=>zy (jE (.comp a b c d e f g)) rfl
 |.val (.comp2 a b c d e f g h i j)=>zy (jE (.comp2 a b c d e f g h i j)) rfl
 |.val (.listRange a b c d)=>zy (jE (.listRange a b c d)) rfl
 |.not c=>bG (jC c)
 |.and c cs=>bF (jC c) (jCs cs)
 |.or c cs=>Zy (jC c) (jCs cs)
theorem jCs:∀a:Cns,JCs T n a
 |.nil=>fF
 |.cons c cs=>jZ (jC c) (jCs cs)
theorem jI:∀a:Itb,JI T n a
 |.val a=>bQ (jE a)
 |.range1 a=>lM (jE a)
 |.range2 a b=>lN (jE a) (jE b)
 |.enum a=>fJ (jE a)
 |.zip _ _=>fun sc N X e tg o h=>by cases h
end
end
end M
end
section
namespace M
open PySem
section
variable (K:KF)(mg:Str→Option Value)
def tf(ρ:Own)(H:L2.Hp)(o:Out Fl)(D:L2.Ends):Prop:=
 match o with
 |.ok (.nx e) s'=>∀ρ' H' σ',Ext ρ H ρ' H'→HR K mg ρ' s' H'→ER K mg ρ' H' e σ'→D.nx σ' H'
 |.ok (.bk e) s'=>∀ρ' H' σ',Ext ρ H ρ' H'→HR K mg ρ' s' H'→ER K mg ρ' H' e σ'→D.bk σ' H'
 |.ok (.ct e) s'=>∀ρ' H' σ',Ext ρ H ρ' H'→HR K mg ρ' s' H'→ER K mg ρ' H' e σ'→D.ct σ' H'
 |.ok (.rt v) s'=>∀ρ' H' x,Ext ρ H ρ' H'→HR K mg ρ' s' H'→RD K mg ρ' H' v x→D.rt x H'
 |_=>False
noncomputable def tSt(env:Env)(s:Sto)(o:Out Fl):L2.TS:=fun D σ H=>∃ρ,HR K mg ρ s H∧ER K mg ρ H env σ∧tf K mg ρ H o D
end
section
variable {K:KF}{mg:Str→Option Value}{ρ ρ':Own}{H H':L2.Hp}
theorem tf.mono{s1:Sto}{o:Out Fl}{D:L2.Ends}(w:tf K mg ρ H o D)(x:Ext ρ H ρ' H')(h:HR K mg ρ' s1 H'):tf K mg ρ' H' o D:=by
 cases o with
 |ok fl s'=>
  cases fl with
  |nx e=>exact fun ρ2 H2 σ2 x2 h2 r2=>w ρ2 H2 σ2 (x.trans h x2) h2 r2
  |bk e=>exact fun ρ2 H2 σ2 x2 h2 r2=>w ρ2 H2 σ2 (x.trans h x2) h2 r2
  |ct e=>exact fun ρ2 H2 σ2 x2 h2 r2=>w ρ2 H2 σ2 (x.trans h x2) h2 r2
  |rt v=>exact fun ρ2 H2 y x2 h2 r2=>w ρ2 H2 y (x.trans h x2) h2 r2
 |exc _ _ _=>exact w
 |stuck=>exact w
end
noncomputable def vO:Expr→Bool
 |.ListComp ..|.SetComp ..|.DictComp ..=>false
 |_=>true
theorem sd{e:Expr}{t:Option Expr}{l:Nat}{env:PySem.Env}(h:vO e=true):swapsWith e t l env=pure false:=by cases e<;>first|rfl|cases h
theorem uh{e:Expr}{ts:List Expr}{k:Nat}{p:Pos}{l:Nat}{env:PySem.Env}:swapsWithSole [.Tuple ts k p] e l env=pure false:=by cases e<;>rfl
theorem kP{e o i:Expr}{p:Pos}{l:Nat}{env:PySem.Env}:swapsWithSole [.Subscript o i p] e l env=pure false:=by cases e<;>rfl
theorem oF{o i e:Expr}{p:Pos}{env:PySem.Env}:swappedStores [.Subscript o i p] e env=pure none:=by cases e<;>rfl
noncomputable def dy(sc:Scope)(ts vs:List Expr):Bool:=
 match ts with
 |[.Name x px,.Name y py]=>decide (sc.names.lookup x=some .local)&&decide (sc.names.lookup y=some .local)&&(px.line == py.line)&&decide (x≠y)&&!(vs.all (foldedForSure 8))&&!(vs.all (constantsAlone 8))
 |[.Name x px,.Name y py,.Name z pz]=>decide (sc.names.lookup x=some .local)&&decide (sc.names.lookup y=some .local)&&decide (sc.names.lookup z=some .local)&&(px.line == py.line)&&(px.line == pz.line)&&decide (x≠y)&&decide (x≠z)&&decide (y≠z)&&!(vs.all (foldedForSure 8))&&!(vs.all (constantsAlone 8))
 |_=>false
noncomputable def d9(sc:Scope)(ts:List Expr):Bool:=ts.any (fun|.Name x _=>decide (sc.names.lookup x≠some .local)|_=>false)||decide (3<ts.length)
theorem sS{vs:List Expr}(h:yZ vs=true):(vs.any fun|.Starred ..=>true|_=>false)=false:=by
 induction vs with
 |nil=>rfl
 |cons v vs ih=>
  rw[yZ,Bool.and_eq_true]at h
  rw[List.any_cons,ih h.2]
  cases v<;>first|rfl|(have z:=h.1;cases z)
theorem oG{x y:Str}{px py pt pt2:Pos}{kt k2:Nat}{a b:Expr}{env:PySem.Env}(hb:env.blockKind=.function)(hx:env.kindOf x=some .local)(hy:env.kindOf y=some .local)(hl:(px.line == py.line)=true)(hne:x≠y)(hp:yZ [a,b]=true)
 (hf:[a,b].all (foldedForSure 8)=false) (hc:[a,b].all (constantsAlone 8)=false):swappedStores [.Tuple [.Name x px,.Name y py] kt pt] (.Tuple [a,b] k2 pt2) env=pure (some [x,y]):=by
 have hs:=sS hp
 have hl':(py.line == px.line)=true:=by rw[beq_iff_eq]at hl ⊢;exact hl.symm
 unfold swappedStores
 have e1:([x,y].eraseDups.length != [x,y].length)=false:=by
  have:(y == x)=false:=by simpa using Ne.symm hne
  simp[List.eraseDups_cons,this]
 simp only[List.length_cons,List.length_nil,hb,hf,hs,hc,hx,hy,hl',List.head?_cons,Option.map_some,Option.getD_some,List.filterMap_cons,List.filterMap_nil,beq_self_eq_true,Bool.and_self,if_true]
 have hpos:(Expr.Name x px).pos.line=px.line:=rfl
 refine(if_neg (by decide)).trans ((if_neg (fun z=>Bool.false_ne_true (hs.symm.trans z))).trans ?_)
 simp only[hpos,beq_self_eq_true,hl',Bool.and_self,if_true,e1,List.length_cons,List.length_nil,bne_self_eq_false,Bool.or_self,Bool.false_eq_true,if_false]
 exact if_neg (fun z=>Bool.false_ne_true (e1.symm.trans (by rw[Bool.false_or]at z;exact z)))
theorem rG{x y z:Str}{px py pz pt pt2:Pos}{kt k2:Nat}{a b c:Expr}{env:PySem.Env}(hb:env.blockKind=.function)(hx:env.kindOf x=some .local)(hy:env.kindOf y=some .local)(hz:env.kindOf z=some .local)(hl:(px.line == py.line)=true)(hl2:(px.line == pz.line)=true)
 (hne:x≠y) (hne2:x≠z) (hne3:y≠z) (hp:yZ [a,b,c]=true) (hf:[a,b,c].all (foldedForSure 8)=false) (hc:[a,b,c].all (constantsAlone 8)=false):swappedStores [.Tuple [.Name x px,.Name y py,.Name z pz] kt pt] (.Tuple [a,b,c] k2 pt2) env=pure (some [x,y,z]):=by
 have hs:=sS hp
 have hl':(py.line == px.line)=true:=by rw[beq_iff_eq]at hl ⊢;exact hl.symm
 have hl2':(pz.line == px.line)=true:=by rw[beq_iff_eq]at hl2 ⊢;exact hl2.symm
 unfold swappedStores
 have e1:([x,y,z].eraseDups.length != [x,y,z].length)=false:=by
  have h1:(y == x)=false:=by simpa using Ne.symm hne
  have h2:(z == x)=false:=by simpa using Ne.symm hne2
  have h3:(z == y)=false:=by simpa using Ne.symm hne3
  simp[List.eraseDups_cons,h1,h2,h3]
 simp only[List.length_cons,List.length_nil,hb,hf,hs,hc,hx,hy,hz,hl',hl2',List.head?_cons,Option.map_some,Option.getD_some,List.filterMap_cons,List.filterMap_nil,beq_self_eq_true,Bool.and_self,if_true]
 have hpos:(Expr.Name x px).pos.line=px.line:=rfl
 refine(if_neg (by decide)).trans ((if_neg (fun z=>Bool.false_ne_true (hs.symm.trans z))).trans ?_)
 simp only[hpos,beq_self_eq_true,hl',hl2',Bool.and_self,if_true,e1,List.length_cons,List.length_nil,bne_self_eq_false,Bool.or_self,Bool.false_eq_true,if_false]
 exact if_neg (fun z=>Bool.false_ne_true (e1.symm.trans (by rw[Bool.false_or]at z;exact z)))
theorem v5{α β:Type}{f:α→Option β}:∀{l:List α},(∃a∈l,f a=none)→(l.filterMap f).length<l.length
 |[],⟨a,h,_⟩=>by cases h
 |b::l,⟨a,h,e⟩=>by
  rw[List.filterMap_cons]
  have hle:=List.length_filterMap_le f l
  rcases List.mem_cons.mp h with z|z
  . subst z;rw[e];simp only[List.length_cons];omega
  . have:=v5 ⟨a,z,e⟩
    cases f b with
    |none=>simp only[List.length_cons];omega
    |some _=>simp only[List.length_cons];omega
theorem kS{ts vs:List Expr}{kt k2:Nat}{pt pt2:Pos}{env:PySem.Env}(h:(∃x p,Expr.Name x p∈ts∧env.kindOf x≠some .local)∨3<ts.length):swappedStores [.Tuple ts kt pt] (.Tuple vs k2 pt2) env=pure none:=by
 unfold swappedStores
 simp only[]
 split
 . rfl
 . rename_i h1
   split
   . rfl
   . rw[if_pos]
     rcases h with⟨x,p,hm,hk⟩|h
     . rw[Bool.or_eq_true]
       left
       rw[bne_iff_ne]
       refine Nat.ne_of_lt (v5 ⟨_,hm,?_⟩)
       have:(env.kindOf x == some .local)=false:=by simpa using hk
       simp only[this,Bool.false_and,Bool.false_eq_true,if_false]
     . exfalso
       apply h1
       have:(ts.length == 2||ts.length == 3)=false:=by
        rw[Bool.or_eq_false_iff]
        constructor<;>(rw[beq_eq_false_iff_ne];omega)
       rw[this];rfl
theorem nZ{o i:Expr}{p:Pos}{env:PySem.Env}(h:plain i=true)(v:Value):assign (.Subscript o i p) env v=(do
 let ov ←holding [v] (eval o env)
 let iv ←holding [v,ov] (eval i env)
 standAt p
 holding [v,ov,iv] (setItem ov iv v)
 release [v,ov,iv] []):=by
 cases i<;>first|rfl|cases h
section
variable {X:L2.Cx}{env:Env}{s:Sto}
theorem Yk{st:Stmt}{t:L2.TS}(h:∀D σ H,¬t D σ H):L2.PS X st t:=fun pins s σ H D I q=>(h D σ H q).elim
theorem ZI{o:Out Fl}(h:∀v s',o≠.ok v s'){D:L2.Ends}{σ:L2.St}{H:L2.Hp}:¬tSt X.K X.mg env s o D σ H:=by
 rintro ⟨ρ,_,_,w⟩
 cases o with
 |ok v s'=>exact h v s' rfl
 |exc _ _ _=>exact w
 |stuck=>exact w
theorem zH{st:Stmt}{o:Out Fl}(h:∀v s',o≠.ok v s'):L2.PS X st (tSt X.K X.mg env s o):=Yk fun _ _ _=>ZI h
theorem fT{e:Expr}{o:Out Val}{pos:Pos}(hn:vO e=true)(h:L2.PE X e (tV X.K X.mg env s o)):L2.PS X (.Expr e pos) (tSt X.K X.mg env s (o.bind fun _ s1=>.ok (.nx env) s1)):=by
 cases o with
 |ok v s1=>exact xM (L2.eQ h (sd hn)) fun D σ H ⟨ρ,hr,er,w⟩=>⟨ρ,hr,er,fun ρ1 x H1 x1 hr1 r1=>w ρ1 H1 σ x1 hr1 (er.mono x1)⟩
 |exc _ _ _=>exact zH nofun
 |stuck=>exact zH nofun
theorem bt{e:Expr}{o:Out Val}{pos:Pos}(h:L2.PE X e (tV X.K X.mg env s o)):L2.PS X (.Return (some e) pos) (tSt X.K X.mg env s (o.bind fun v s1=>.ok (.rt v) s1)):=by
 cases o with
 |ok v s1=>exact xM (L2.aw h) fun D σ H ⟨ρ,hr,er,w⟩=>⟨ρ,hr,er,fun ρ1 x H1 x1 hr1 r1=>w ρ1 H1 x x1 hr1 r1⟩
 |exc _ _ _=>exact zH nofun
 |stuck=>exact zH nofun
theorem oe{i:Nat}{o:Out Val}{st:Stmt}{te:L2.TE}(rule:L2.PS X st (L2.rH te (L2.w4 i)))(h:∀σ H Q,tV X.K X.mg env s o σ H Q→te σ H Q):L2.PS X st (tSt X.K X.mg env s (o.bind fun v s1=>.ok (.nx (env.set i (some v))) s1)):=by
 cases o with
 |ok v s1=>exact xM rule fun D σ H ⟨ρ,hr,er,w⟩=>h _ _ _ ⟨ρ,hr,er,fun ρ1 x H1 x1 hr1 r1=>w ρ1 H1 _ x1 hr1 ((er.mono x1).set i r1)⟩
 |exc _ _ _=>exact zH nofun
 |stuck=>exact zH nofun
theorem fS{t:Tgt}{g:L2.TG}{o:Out Val}{st:Stmt}{te:L2.TE}(TG:uV X.K X.mg t g)(rule:L2.PS X st (L2.rH te g))(h:∀σ H Q,tV X.K X.mg env s o σ H Q→te σ H Q) :
 L2.PS X st (tSt X.K X.mg env s (o.bind fun v s1=>match yP t v env with|some env'=>.ok (.nx env') s1|Option.none=>.stuck)):=by
 cases o with
 |ok v s1=>
  show L2.PS X st (tSt X.K X.mg env s (match yP t v env with|some env'=>.ok (.nx env') s1|Option.none=>.stuck))
  cases hb:yP t v env with
  |none=>exact zH nofun
  |some env'=>exact xM rule fun D σ H ⟨ρ,hr,er,w⟩=>h _ _ _ ⟨ρ,hr,er,fun ρ1 x H1 x1 hr1 r1=>TG ρ1 s1 H1 v x env env' σ _ hr1 r1 (er.mono x1) hb fun σ' er'=>w ρ1 H1 σ' x1 hr1 er'⟩
 |exc _ _ _=>exact zH nofun
 |stuck=>exact zH nofun
theorem bA(op:Bop)(m:Bool):(∃r,L2.PIp X op.op r∧∀(i j:Int) (H:L2.Hp) (Q:L2.VK) (v:Val) (s s':Sto),binOp m op (.int i) (.int j) s=.ok v s'→(∃k:Int,v=.int k∧s'=s∧(Q (.int k) H→r (.int i) (.int j) H Q)))∨(op=.pow∨op=.shl∨op=.shr∨op=.band):=by
 cases op with
 |add=>exact .inl ⟨_,L2.g9,fun i j H Q v s s' h=>by cases h;exact⟨_,rfl,rfl,fun q=>⟨i,j,rfl,rfl,q⟩⟩⟩
 |sub=>exact .inl ⟨_,L2.fC,fun i j H Q v s s' h=>by cases h;exact⟨_,rfl,rfl,fun q=>⟨i,j,rfl,rfl,q⟩⟩⟩
 |mul=>exact .inl ⟨_,L2.fB,fun i j H Q v s s' h=>by
  simp only[binOp]at h
  split at h
  . rename_i hz;cases h;exact⟨_,rfl,rfl,fun q=>⟨i,j,rfl,rfl,hz,q⟩⟩
  . cases h⟩
 |fdiv=>exact .inl ⟨_,L2.jX,fun i j H Q v s s' h=>by
  simp only[binOp]at h
  split at h
  . rename_i hz;cases h;exact⟨_,rfl,rfl,fun q=>⟨i,j,rfl,rfl,hz,q⟩⟩
  . cases h⟩
 |mod=>exact .inl ⟨_,L2.fA,fun i j H Q v s s' h=>by
  simp only[binOp]at h
  split at h
  . rename_i hz;cases h;exact⟨_,rfl,rfl,fun q=>⟨i,j,rfl,rfl,hz,q⟩⟩
  . cases h⟩
 |pow=>exact .inr (.inl rfl)
 |shl=>exact .inr (.inr (.inl rfl))
 |shr=>exact .inr (.inr (.inr (.inl rfl)))
 |band=>exact .inr (.inr (.inr (.inr rfl)))
theorem bq{i:Nat}{x:Str}{e:Expr}{op:Bop}{f:Sto→Out Val}{pos pos':Pos}(hop:¬(op=.pow∨op=.shl∨op=.shr∨op=.band))(hN:X.N.Nodup)(hi:X.N[i]?=some x)(hx:L2.Loc X.env.scope x)(hf:X.fn x=true∨X.env.scope.names.lookup x=some .local)(h:∀s,L2.PE X e (tV X.K X.mg env s (f s))) :
 L2.PS X (.AugAssign (.Name x pos') op.op e pos) (tSt X.K X.mg env s (match env[i]? with
 |some (some (.int x))=>(f s).bind fun v s1=>match v with
  |.int y=>(binOp false op (.int x) (.int y) s1).bind fun z s2=>.ok (.nx (env.set i (some z))) s2
  |_=>.stuck
 |some (some (.tup x))=>if op=.add then (f s).bind fun v s1=>match v with
  |.tup y=>(binOp false .add (.tup x) (.tup y) s1).bind fun z s2=>.ok (.nx (env.set i (some z))) s2
  |_=>.stuck
  else .stuck
 |_=>.stuck)):=by
 rcases bA (X:=X) op false with⟨r,hr0,hq⟩|z
 . cases he:env[i]? with
   |none=>exact zH nofun
   |some ov=>
    cases ov with
    |none=>exact zH nofun
    |some v0=>
     cases v0 with
     |tup a=>
      by_cases ho:op=.add
      . subst ho
        simp only[if_true]
        have h':=h s
        cases hv:f s with
        |ok v s1=>
         rw[hv]at h'
         cases v with
         |tup b=>
          simp only[zK,binOp]
          by_cases hz:a.length+b.length≤zN
          . rw[if_pos hz,zK]
            refine xM (L2.ik hN hi hx h' L2.lK hf) fun D σ H ⟨ρ,hr,er,w⟩=>?_
            obtain⟨xv,e1,e2⟩:=er.at_ i _ he
            refine⟨_,e1,ρ,hr,er,fun ρ1 y H1 x1 hr1 r1=>?_⟩
            have e3:=e2.mono x1
            cases e3 with
            |tup n1 h1 q1=>
             cases r1 with
             |tup n2 h2 q2=>
              refine⟨_,_,_,_,rfl,rfl,h1,h2,?_,w5 hr1 (q1.append q2) fun ρ2 z H2 x2 hr2 rz=>w ρ2 H2 _ (x1.trans hr1 x2) hr2 ((er.mono (x1.trans hr1 x2)).set i rz)⟩
              rw[←q1.length,←q2.length,←yC];exact hz
          . rw[if_neg hz];exact zH nofun
         |_=>exact zH nofun
        |exc _ _ _=>exact zH nofun
        |stuck=>exact zH nofun
      . simp only[if_neg ho];exact zH nofun
     |int a=>
      have h':=h s
      simp only[]
      cases hv:f s with
      |ok v s1=>
       rw[hv]at h'
       cases v with
       |int b=>
        simp only[zK]
        cases hb:binOp false op (.int a) (.int b) s1 with
        |ok z s2=>
         obtain⟨k,rfl,rfl,q⟩:=hq a b (fun _=>none) (fun _ _=>True) z s1 s2 hb
         refine xM (L2.ik hN hi hx h' hr0 hf) fun D σ H ⟨ρ,hr,er,w⟩=>?_
         obtain⟨xv,e1,e2⟩:=er.at_ i _ he
         cases e2
         refine⟨_,e1,ρ,hr,er,fun ρ1 y H1 x1 hr1 r1=>?_⟩
         cases r1
         obtain⟨k',e3,_,q'⟩:=hq a b H1 (fun z H2=>D.nx (σ.set i (some z)) H2) _ _ _ hb
         cases e3
         exact q' (w ρ1 H1 _ x1 hr1 ((er.mono x1).set i (.int _)))
        |exc _ _ _=>exact zH nofun
        |stuck=>exact zH nofun
       |_=>exact zH nofun
      |exc _ _ _=>exact zH nofun
      |stuck=>exact zH nofun
     |_=>exact zH nofun
 . exact absurd z hop
theorem fW{k:Nat}{a i e:Expr}{o:Out Val}{f2 f3:Sto→Out Val}{p pos:Pos}(hr0:L2.yv k X.A)(hn:vO e=true)(h1:L2.PE X e (tV X.K X.mg env s o))(h2:∀s1,L2.PE X a (tV X.K X.mg env s1 (f2 s1)))(h3:∀s1,L2.PE X i (tV X.K X.mg env s1 (f3 s1))) :
 L2.PS X (.Assign [.Subscript a i p] e pos) (tSt X.K X.mg env s (o.bind fun v s1=>(f2 s1).bind fun x s2=>(f3 s2).bind fun y s3=>match putD x y v s3 with|some s4=>.ok (.nx env) s4|Option.none=>.stuck)):=by
 cases o with
 |ok v s1=>
  have h2':=h2 s1
  simp only[zK]
  cases hb:f2 s1 with
  |ok x s2=>
   rw[hb]at h2'
   have h3':=h3 s2
   simp only[zK]
   cases hc:f3 s2 with
   |ok y s3=>
    rw[hc]at h3'
    simp only[zK]
    cases hp:putD x y v s3 with
    |none=>exact zH nofun
    |some s4=>
     refine xM (L2.eP (by have:=hr0.un;omega) h2' h3' h1 (sd hn)) fun D σ H ⟨ρ,hr,er,w⟩=>⟨ρ,hr,er,fun ρ1 xv H1 x1 hr1 r1=>⟨ρ1,hr1,er.mono x1,fun ρ2 xo H2 x2 hr2 r2=>⟨ρ2,hr2,(er.mono x1).mono x2,fun ρ3 xi H3 x3 hr3 r3=>?_⟩⟩⟩
     obtain⟨b,H4,ex,g,X4,hr4⟩:=eV hr3 (r2.mono x3) r3 ((r1.mono x2).mono x3) hp
     have xx:=(x1.trans hr1 x2).trans hr2 x3
     exact⟨b,H4,ex,g,w ρ3 H4 σ (xx.trans hr3 X4) hr4 ((er.mono xx).mono X4)⟩
   |exc _ _ _=>exact zH nofun
   |stuck=>exact zH nofun
  |exc _ _ _=>exact zH nofun
  |stuck=>exact zH nofun
 |exc _ _ _=>exact zH nofun
 |stuck=>exact zH nofun
theorem jv{a i e:Expr}{o:Out Val}{f2 f3:Sto→Out Val}{p pos:Pos}(hi0:plain i=true)(h1:L2.PE X e (tV X.K X.mg env s o))(h2:∀s1,L2.PE X a (tV X.K X.mg env s1 (f2 s1)))(h3:∀s1,L2.PE X i (tV X.K X.mg env s1 (f3 s1))) :
 L2.PS X (.Assign [.Subscript a i p] e pos) (tSt X.K X.mg env s (o.bind fun v s1=>(f2 s1).bind fun x s2=>(f3 s2).bind fun y s3=>match x,y with
  |.ref r,.int k=>(match s3[r]? with
   |some (.lst vs)=>(match L2.ixN vs.length k with|some j=>.ok (.nx env) (upd s3 r (vs.set j v))|Option.none=>.stuck)
   |_=>.stuck)
  |_,_=>.stuck)):=by
 cases o with
 |ok v s1=>
  have h2':=h2 s1
  simp only[zK]
  cases hb:f2 s1 with
  |ok x s2=>
   rw[hb]at h2'
   have h3':=h3 s2
   simp only[zK]
   cases hc:f3 s2 with
   |ok y s3=>
    rw[hc]at h3'
    simp only[zK]
    have rule:L2.PS X (.Assign [.Subscript a i p] e pos) (L2.rH _ (L2.Zk _ _ L2.dr)):=L2.ij h1 (L2.aq h2' h3' L2.set_list (nZ hi0)) kP oF
    cases x with
    |ref r=>
     cases y with
     |int k=>
      simp only[]
      cases hs:s3[r]? with
      |none=>exact zH nofun
      |some cl=>
       cases cl with
       |dS _=>exact zH nofun
       |dT _=>exact zH nofun
       |lst vs=>
        simp only[]
        cases hj:L2.ixN vs.length k with
        |none=>exact zH nofun
        |some j=>
         refine xM rule fun D σ H ⟨ρ,hr,er,w⟩=>⟨ρ,hr,er,fun ρ1 xv H1 x1 hr1 r1=>⟨ρ1,hr1,er.mono x1,fun ρ2 xo H2 x2 hr2 r2=>⟨ρ2,hr2,(er.mono x1).mono x2,fun ρ3 xi H3 x3 hr3 r3=>?_⟩⟩⟩
         cases r3
         have r2':=r2.mono x3
         cases r2' with
         |ref e0 _=>
          obtain⟨b',xs,e1,e2,q⟩:=hr3.obj r _ hs
          rw[e0]at e1;cases e1
          have xx:=(x1.trans hr1 x2).trans hr2 x3
          refine⟨_,xs,k,j,rfl,rfl,e2,by rw[←q.length];exact hj,?_⟩
          exact w ρ3 _ σ (xx.trans hr3 (Ext.write hr3 e0 e2 _)) (hr3.write e0 e2 (RDs.set ((r1.mono x2).mono x3) j q)) ((er.mono xx).mono (Ext.write hr3 e0 e2 _))
     |_=>exact zH nofun
    |_=>exact zH nofun
   |exc _ _ _=>exact zH nofun
   |stuck=>exact zH nofun
  |exc _ _ _=>exact zH nofun
  |stuck=>exact zH nofun
 |exc _ _ _=>exact zH nofun
 |stuck=>exact zH nofun
end
end M
end
section
namespace M
open PySem
section
variable {X:L2.Cx}{env:Env}{s:Sto}
theorem fU{i j:Nat}{o:Out (List Val)}{st:Stmt}{ta:L2.TA}(rule:L2.PS X st (L2.Y8 i j ta))(h:∀σ H Q,tVs X.K X.mg env s o σ H Q→ta σ H Q) :
 L2.PS X st (tSt X.K X.mg env s (o.bind fun vs s1=>if vs.length=[i,j].length then .ok (.nx (([i,j].zip vs).foldl (fun e p=>e.set p.1 (some p.2)) env)) s1 else .stuck)):=by
 cases o with
 |ok vs s1=>
  show L2.PS X st (tSt X.K X.mg env s (if vs.length=[i,j].length then .ok (.nx (([i,j].zip vs).foldl (fun e p=>e.set p.1 (some p.2)) env)) s1 else .stuck))
  match vs with
  |[v,w]=>
   refine xM rule fun D σ H ⟨ρ,hr,er,wt⟩=>h _ _ _ ⟨ρ,hr,er,fun ρ1 xs H1 x1 hr1 r1=>?_⟩
   obtain⟨x,y,rfl,rx,ry⟩:=i6 r1
   exact⟨x,y,rfl,wt ρ1 H1 _ x1 hr1 (((er.mono x1).set i rx).set j ry)⟩
  |[]=>exact zH nofun
  |[_]=>exact zH nofun
  |_::_::_::r=>exact zH (fun _ _ e=>by simp at e)
 |exc _ _ _=>exact zH nofun
 |stuck=>exact zH nofun
theorem Xi{K:KF}{mg:Str→Option Value}{ρ:Own}{H:L2.Hp}{v w z:Val}{xs:List L2.V}(r:RDs K mg ρ H [v,w,z] xs):∃x y t,xs=[x,y,t]∧RD K mg ρ H v x∧RD K mg ρ H w y∧RD K mg ρ H z t:=by
 cases r with
 |cons r1 r2=>
  obtain⟨y,t,rfl,r3,r4⟩:=i6 r2
  exact⟨_,_,_,rfl,r1,r3,r4⟩
theorem fV{i j k:Nat}{o:Out (List Val)}{st:Stmt}{ta:L2.TA}(rule:L2.PS X st (L2.d2 i j k ta))(h:∀σ H Q,tVs X.K X.mg env s o σ H Q→ta σ H Q) :
 L2.PS X st (tSt X.K X.mg env s (o.bind fun vs s1=>if vs.length=[i,j,k].length then .ok (.nx (([i,j,k].zip vs).foldl (fun e p=>e.set p.1 (some p.2)) env)) s1 else .stuck)):=by
 cases o with
 |ok vs s1=>
  show L2.PS X st (tSt X.K X.mg env s (if vs.length=[i,j,k].length then .ok (.nx (([i,j,k].zip vs).foldl (fun e p=>e.set p.1 (some p.2)) env)) s1 else .stuck))
  match vs with
  |[v,w,z]=>
   refine xM rule fun D σ H ⟨ρ,hr,er,wt⟩=>h _ _ _ ⟨ρ,hr,er,fun ρ1 xs H1 x1 hr1 r1=>?_⟩
   obtain⟨x,y,t,rfl,rx,ry,rt⟩:=Xi r1
   exact⟨x,y,t,rfl,wt ρ1 H1 _ x1 hr1 ((((er.mono x1).set i rx).set j ry).set k rt)⟩
  |[]=>exact zH nofun
  |[_]=>exact zH nofun
  |[_,_]=>exact zH nofun
  |_::_::_::_::r=>exact zH (fun _ _ e=>by simp at e)
 |exc _ _ _=>exact zH nofun
 |stuck=>exact zH nofun
noncomputable def uSs(K:KF)(mg:Str→Option Value)(Φ:Calls)(G:Str→Option Val)(b:Sms):L2.TS:=fun D σ H=>∃env s,tSt K mg env s (zO Φ G env b s) D σ H
theorem Z9{c:Expr}{a b:List Stmt}{o:Out Bool}{f2 f3:Sto→Out Fl}{ta tb:L2.TS}{pos:Pos}(hc:L2.PT X c (tT X.K X.mg env s o))(ha:L2.PSs X a ta)(hb:L2.PSs X b tb)(ia:∀s1 D σ H,tSt X.K X.mg env s1 (f2 s1) D σ H→ta D σ H)(ib:∀s1 D σ H,tSt X.K X.mg env s1 (f3 s1) D σ H→tb D σ H) :
 L2.PS X (.If c a b pos) (tSt X.K X.mg env s (o.bind fun t s1=>if t then f2 s1 else f3 s1)):=by
 cases o with
 |ok v s1=>
  refine xM (L2.Yj hc ha hb) fun D σ H ⟨ρ,hr,er,wt⟩=>⟨ρ,hr,er,fun ρ1 x H1 x1 hr1 r1=>?_⟩
  have wt':=wt.mono x1 hr1
  cases r1
  cases v with
  |true=>exact L2.sy (ia s1 D σ H1 ⟨ρ1,hr1,er.mono x1,wt'⟩)
  |false=>exact L2.sx (ib s1 D σ H1 ⟨ρ1,hr1,er.mono x1,wt'⟩)
 |exc _ _ _=>exact zH nofun
 |stuck=>exact zH nofun
theorem jQ{K:KF}{mg:Str→Option Value}{r:Src}{J:L2.It}{t:Tgt}{g:L2.TG}{body:Env→Sto→Out Fl}{tb:L2.TS}{D:L2.Ends}{ρ:Own}{H:L2.Hp}{σ:L2.St}(W:Walk K mg ρ H r J)(TG:uV K mg t g)(hb:∀env s D σ H,tSt K mg env s (body env s) D σ H→tb D σ H)
 (hr:HR K mg ρ s H) (er:ER K mg ρ H env σ) (w:tf K mg ρ H (wj r t body r.xs env s) D):L2.rq J g tb D σ H:=by
 refine pG (n:=r.xs.length) (fun i σ2 H2=>∃ρ2 s2 env2,HR K mg ρ2 s2 H2∧ER K mg ρ2 H2 env2 σ2∧Ext ρ H ρ2 H2∧wj r t body (r.xs.drop i) env2 s2=wj r t body r.xs env s) ⟨ρ,s,env,hr,er,Ext.refl,by rw[List.drop_zero]⟩ ?_ ?_
 . rintro σ2 H2 ⟨ρ2,s2,env2,hr2,er2,x2,h2⟩
   rw[List.drop_length,wj]at h2
   split at h2
   . rename_i ho
     rw[←h2]at w
     exact⟨W.stop ρ2 H2 s2 _ x2.mv hr2 ho rfl,w ρ2 H2 σ2 x2 hr2 er2⟩
   . rw[←h2]at w;exact w.elim
 . rintro i σ2 H2 hi ⟨ρ2,s2,env2,hr2,er2,x2,h2⟩
   rw[List.drop_eq_getElem_cons hi,wj]at h2
   split at h2
   . rename_i ho
     obtain⟨hgo,hy⟩:=W.go ρ2 H2 s2 i (r.xs[i]) x2.mv hr2 ho (List.getElem?_eq_getElem hi)
     refine⟨hgo,fun x H3 y=>?_⟩
     obtain⟨hH,rx⟩:=hy x H3 y
     split at h2
     . rw[←h2]at w;exact w.elim
     . rename_i env' he
       have C3:HR K mg ρ2 s2 H3∧Ext ρ2 H2 ρ2 H3:=by
        rcases hH with e|⟨q,o,hq,e⟩
        . subst e;exact⟨hr2,Ext.refl⟩
        . subst e;exact⟨hr2.more hq o,Ext.new hr2 hq o⟩
       have x3:=x2.trans hr2 C3.2
       refine TG ρ2 s2 H3 _ x env2 env' σ2 _ C3.1 rx (er2.mono C3.2) he fun σ4 er4=>hb env' s2 _ σ4 H3 ⟨ρ2,C3.1,er4,?_⟩
       cases hc:body env' s2 with
       |ok fl s5=>
        rw[hc]at h2
        simp only[zK]at h2
        cases fl with
        |nx e=>exact fun ρ5 H5 σ5 x5 hr5 er5=>⟨ρ5,s5,e,hr5,er5,x3.trans C3.1 x5,h2⟩
        |ct e=>exact fun ρ5 H5 σ5 x5 hr5 er5=>⟨ρ5,s5,e,hr5,er5,x3.trans C3.1 x5,h2⟩
        |bk e=>
         simp only[]at h2
         rw[←h2]at w
         exact fun ρ5 H5 σ5 x5 hr5 er5=>w ρ5 H5 σ5 (x3.trans C3.1 x5) hr5 er5
        |rt v=>
         simp only[]at h2
         rw[←h2]at w
         exact fun ρ5 H5 y5 x5 hr5 r5=>w ρ5 H5 y5 (x3.trans C3.1 x5) hr5 r5
       |exc _ _ _=>rw[hc]at h2;simp only[tq]at h2;rw[←h2]at w;exact w.elim
       |stuck=>rw[hc]at h2;simp only[wR]at h2;rw[←h2]at w;exact w.elim
   . rw[←h2]at w;exact w.elim
theorem br{Φ:Calls}{G:Str→Option Val}{it:Itb}{t:Tgt}{b:Sms}{tg iter:Expr}{body:List Stmt}{g:L2.TG}{pos:Pos}(hx:X.xe=fun _ _=>False)(hc:X.calm=true)(hp:plain iter=true)(hi:∀env s,L2.PI X tg iter (tI (K:=X.K) (mg:=X.mg) env s (yQ Φ G env it s)))(hg:L2.PG X tg g)(TG:uV X.K X.mg t g)
 (hb:L2.PSs X body (uSs X.K X.mg Φ G b)):L2.PS X (.For tg iter body [] pos) (tSt X.K X.mg env s ((yQ Φ G env it s).bind fun r s1=>wj r t (fun e s'=>zO Φ G e b s') r.xs env s1)):=by
 have hpass:PassesOwn (model X.prog X.w) X.A X.env X.xe:=by rw[hx];exact PassesOwn.never
 refine xM (L2.au hpass hc (nJ hi) hg hb (yG hp)) fun D σ H ⟨ρ,hr,er,w⟩=>⟨env,s,ρ,hr,er,?_⟩
 cases hv:yQ Φ G env it s with
 |ok r s1=>
  rw[hv]at w
  exact fun ρ1 H1 J x1 hr1 W=>jQ W TG (fun env s D σ H h=>⟨env,s,h⟩) hr1 (er.mono x1) (w.mono x1 hr1)
 |exc _ _ _=>rw[hv]at w;exact w.elim
 |stuck=>rw[hv]at w;exact w.elim
theorem ny{K:KF}{mg:Str→Option Value}{c:Env→Sto→Out Bool}{body:Env→Sto→Out Fl}{tc:L2.TT}{tb:L2.TS}{D:L2.Ends}{ρ:Own}{H:L2.Hp}{σ:L2.St}{n:Nat}(hc:∀env s σ H Q,tT K mg env s (c env s) σ H Q→tc σ H Q)(hb:∀env s D σ H,tSt K mg env s (body env s) D σ H→tb D σ H)
 (hr:HR K mg ρ s H) (er:ER K mg ρ H env σ) (w:tf K mg ρ H (w9 c body n env s) D):L2.gO tc tb D σ H:=by
 refine⟨fun m σ2 H2=>∃ρ2 s2 env2,HR K mg ρ2 s2 H2∧ER K mg ρ2 H2 env2 σ2∧Ext ρ H ρ2 H2∧w9 c body m env2 s2=w9 c body n env s,⟨n,ρ,s,env,hr,er,Ext.refl,rfl⟩,?_⟩
 rintro m σ2 H2 ⟨ρ2,s2,env2,hr2,er2,x2,h2⟩
 cases m with
 |zero=>rw[w9]at h2;rw[←h2]at w;exact w.elim
 |succ m=>
  rw[w9]at h2
  refine hc env2 s2 σ2 H2 _ ⟨ρ2,hr2,er2,?_⟩
  cases hv:c env2 s2 with
  |ok t s3=>
   rw[hv]at h2
   simp only[zK]at h2
   intro ρ3 t' H3 x3 hr3 e3
   cases e3
   have x3':=x2.trans hr2 x3
   cases t with
   |true=>
    refine L2.sy ⟨_,fun σ' H' p=>⟨m,Nat.lt_succ_self m,p⟩,hb env2 s3 _ σ2 H3 ⟨ρ3,hr3,er2.mono x3,?_⟩⟩
    simp only[if_true]at h2
    cases hbd:body env2 s3 with
    |ok fl s5=>
     rw[hbd]at h2
     simp only[zK]at h2
     cases fl with
     |nx e=>exact fun ρ5 H5 σ5 x5 hr5 er5=>⟨ρ5,s5,e,hr5,er5,x3'.trans hr3 x5,h2⟩
     |ct e=>exact fun ρ5 H5 σ5 x5 hr5 er5=>⟨ρ5,s5,e,hr5,er5,x3'.trans hr3 x5,h2⟩
     |bk e=>
      simp only[]at h2
      rw[←h2]at w
      exact fun ρ5 H5 σ5 x5 hr5 er5=>w ρ5 H5 σ5 (x3'.trans hr3 x5) hr5 er5
     |rt v=>
      simp only[]at h2
      rw[←h2]at w
      exact fun ρ5 H5 y5 x5 hr5 r5=>w ρ5 H5 y5 (x3'.trans hr3 x5) hr5 r5
    |exc _ _ _=>rw[hbd]at h2;simp only[tq]at h2;rw[←h2]at w;exact w.elim
    |stuck=>rw[hbd]at h2;simp only[wR]at h2;rw[←h2]at w;exact w.elim
   |false=>
    simp only[Bool.false_eq_true,if_false]at h2
    rw[←h2]at w
    exact L2.sx (w ρ3 H3 σ2 x3' hr3 (er2.mono x3))
  |exc _ _ _=>rw[hv]at h2;simp only[tq]at h2;rw[←h2]at w;exact w.elim
  |stuck=>rw[hv]at h2;simp only[wR]at h2;rw[←h2]at w;exact w.elim
theorem jw{Φ:Calls}{G:Str→Option Val}{c:Cn}{b:Sms}{ce:Expr}{body:List Stmt}{pos:Pos}(hx:X.xe=fun _ _=>False)(hc:∀env s,L2.PT X ce (tT X.K X.mg env s (evT Φ G env c s)))(hb:L2.PSs X body (uSs X.K X.mg Φ G b)) :
 L2.PS X (.While ce body [] pos) (tSt X.K X.mg env s (w9 (fun e s'=>evT Φ G e c s') (fun e s'=>zO Φ G e b s') rK env s)):=by
 have hpass:PassesOwn (model X.prog X.w) X.A X.env X.xe:=by rw[hx];exact PassesOwn.never
 exact xM (L2.ip hpass (Ym hc) hb) fun D σ H ⟨ρ,hr,er,w⟩=>ny (fun env s σ H Q h=>⟨env,s,h⟩) (fun env s D σ H h=>⟨env,s,h⟩) hr er w
theorem fX:L2.PSs X [] (tSt X.K X.mg env s (.ok (.nx env) s)):=ml L2.eT fun D σ H ⟨ρ,hr,er,w⟩=>w ρ H σ Ext.refl hr er
theorem jx{st:Stmt}{rest:List Stmt}{o:Out Fl}{f:Env→Sto→Out Fl}{tr:L2.TS}(h1:L2.PS X st (tSt X.K X.mg env s o))(h2:L2.PSs X rest tr)(i2:∀env s D σ H,tSt X.K X.mg env s (f env s) D σ H→tr D σ H) :
 L2.PSs X (st::rest) (tSt X.K X.mg env s (o.bind fun fl s1=>match fl with|.nx e=>f e s1|fl=>.ok fl s1)):=by
 refine ml (L2.iq h1 h2) fun D σ H ⟨ρ,hr,er,w⟩=>⟨ρ,hr,er,?_⟩
 cases o with
 |ok fl s1=>
  simp only[zK]at w
  cases fl with
  |nx e=>exact fun ρ1 H1 σ1 x1 hr1 er1=>i2 e s1 D σ1 H1 ⟨ρ1,hr1,er1,w.mono x1 hr1⟩
  |bk e=>exact w
  |ct e=>exact w
  |rt v=>exact w
 |exc _ _ _=>exact w.elim
 |stuck=>exact w.elim
end
end M
end
section
namespace M
open PySem
mutual
noncomputable def ckS(sc:Scope)(N:List Str):Sm→Stmt→Bool
 |.expr e,st=>(match st with|.Expr x _=>ck sc N e x&&vO x|_=>false)
 |.ret e,st=>(match st with|.Return (some x) _=>ck sc N e x|_=>false)
 |.retN,_=>false
 |.asg i e,st=>(match st with|.Assign [.Name x _] v _=>decide (N[i]?=some x)&&(decide (sc.names.lookup x=some .local)||decide (sc.names.lookup x=some .cell))&&ck sc N e v|_=>false)
 |.asgT _ _,_=>false
 |.par is es,st=>(match st with|.Assign [.Tuple ts _ _] (.Tuple vs _ _) _=>yA sc N is ts&&ckL sc N es vs&&yZ vs&&decide (is.length≤8)&&decide is.Nodup&&decide (ts.length=vs.length)&&(dy sc ts vs||d9 sc ts)|_=>false)
 |.aug i op e,st=>(match st with|.AugAssign (.Name x _) o v _=>decide (N[i]?=some x)&&(decide (sc.names.lookup x=some .local)||decide (sc.names.lookup x=some .cell))&&decide (o=op.op)&&ck sc N e v&&!(decide (op=.pow)||decide (op=.shl)||decide (op=.shr)||decide (op=.band))|_=>false)
 |.setD o i e,st=>(match st with|.Assign [.Subscript a b _] v _=>ck sc N o a&&ck sc N i b&&ck sc N e v&&vO v|_=>false)
 |.setIx o i e,st=>(match st with|.Assign [.Subscript a b _] v _=>ck sc N o a&&ck sc N i b&&ck sc N e v&&plain b|_=>false)
 |.ifS c a b,st=>(match st with|.If t x y _=>ckC sc N c t&&su sc N a x&&su sc N b y|_=>false)
 |.forS t it b,st=>(match st with|.For tg iter body [] _=>ckT sc N t tg&&ckI sc N it iter tg&&su sc N b body&&plain iter|_=>false)
 |.whileS c b,st=>(match st with|.While t body [] _=>ckC sc N c t&&su sc N b body|_=>false)
 |.pass,_=>false
 |.brk,_=>false
 |.cont,_=>false
 |.raise _,_=>true
noncomputable def su(sc:Scope)(N:List Str):Sms→List Stmt→Bool
 |.nil,ss=>(match ss with|[]=>true|_=>false)
 |.cons c cs,ss=>(match ss with|t::ts=>ckS sc N c t&&su sc N cs ts|_=>false)
end
structure OkF(T:Tbl)(n:Nat)(sc:Scope)(N:List Str)(X:L2.Cx):Prop where
 ok:Ok T n sc N X
 esc:X.env.scope=sc
 bk:X.env.blockKind=.function
section
variable {T:Tbl}{n:Nat}
def JS(T:Tbl)(n:Nat)(a:Sm):Prop:=∀(sc:Scope) (N:List Str) (X:L2.Cx) (st:Stmt),OkF T n sc N X→ckS sc N a st=true→∀env s,L2.PS X st (tSt X.K X.mg env s (exS (zF T n) T.gl env a s))
def JSs(T:Tbl)(n:Nat)(a:Sms):Prop:=∀(sc:Scope) (N:List Str) (X:L2.Cx) (st:List Stmt),OkF T n sc N X→su sc N a st=true→∀env s,L2.PSs X st (tSt X.K X.mg env s (zO (zF T n) T.gl env a s))
theorem p7{X:L2.Cx}{b:Sms}{st:List Stmt}{Φ:Calls}{G:Str→Option Val}(h:∀env s,L2.PSs X st (tSt X.K X.mg env s (zO Φ G env b s))):L2.PSs X st (uSs X.K X.mg Φ G b):=fun pins s σ H D I ⟨env,t,q⟩=>h env t pins s σ H D I q
theorem fL{e:Ex}:JS T n (.expr e):=by
 intro sc N X st o h env s
 simp only[ckS]at h
 split at h
 . simp only[Bool.and_eq_true]at h
   exact fT h.2 (jE T n e _ _ _ _ o.ok h.1 env s)
 . cases h
theorem bX{e:Ex}:JS T n (.ret e):=by
 intro sc N X st o h env s
 simp only[ckS]at h
 split at h
 . exact bt (jE T n e _ _ _ _ o.ok h env s)
 . cases h
theorem sZ{elt:Expr}{gens:List Comprehension}{csc:Scope}{cpos py:Pos}{y:Str}{l:Nat}{env:PySem.Env}:∃b,swapsWith (.ListComp elt gens csc cpos) (some (.Name y py)) l env=pure b:=⟨_,rfl⟩
theorem bT{i:Nat}{e:Ex}:JS T n (.asg i e):=by
 intro sc N X st o h env s
 simp only[ckS]at h
 split at h
 . rename_i x px v pos
   simp only[Bool.and_eq_true,decide_eq_true_eq,Bool.or_eq_true]at h
   obtain⟨⟨h1,h2⟩,h3⟩:=h
   obtain⟨l1,l2⟩:=o.ok.scp.loc x h2
   have hN:X.N.Nodup:=by rw[o.ok.scp.hN];exact o.ok.scp.nd
   have hi:X.N[i]?=some x:=by rw[o.ok.scp.hN];exact h1
   by_cases hn:vO v=true
   . exact oe (L2.nN hN hi l1 (jE T n e _ _ _ _ o.ok h3 env s) (sd hn) l2) fun σ H Q q=>q
   . -- a comprehension
     cases e with
     |comp m N' fr elt t it ifs=>
      simp only[ck]at h3
      split at h3
      . rename_i x' tg iter fs csc cpos
        simp only[Bool.and_eq_true,decide_eq_true_eq]at h3
        obtain⟨⟨⟨⟨⟨⟨c1,c2⟩,c3⟩,c4⟩,c5⟩,c6⟩,c7⟩:=h3
        have S:=mJ o.ok.scp c1
        have oc:=o.ok.comp S c2
        obtain⟨g,pg,tg'⟩:∃g,(∀C s0 H0 ex,L2.PG (X.comp N' csc C s0 H0 ex) tg g)∧uV X.K X.mg t g:=by
         cases t with
         |nm i=>
          cases tg with
          |Name y p=>
           simp only[ckT,Bool.and_eq_true,Bool.or_eq_true,decide_eq_true_eq]at c3
           exact⟨_,fun C s0 H0 ex=>rn (oc C s0 H0 ex).scp c3.1 c3.2,uL⟩
          |_=>cases c3
         |nms is=>
          cases tg with
          |Tuple es k p=>
           simp only[ckT,Bool.and_eq_true,decide_eq_true_eq]at c3
           refine⟨_,fun C s0 H0 ex=>?_,wO (is:=is)⟩
           obtain⟨a,b,c⟩:=xK (oc C s0 H0 ex).scp c3.1
           exact L2.ue (X:=X.comp N' csc C s0 H0 ex) o.ok.calm a b c
          |_=>cases c3
        have hpi:L2.PI X tg iter (uI X.K X.mg (zF T n) T.gl it):=nJ fun env s=>jI T n it _ _ _ _ _ o.ok c4 env s
        have hts:∀C s0 H0 ex,L2.PTs (X.comp N' csc C s0 H0 ex) fs (uTs X.K X.mg (zF T n) T.gl ifs):=fun C s0 H0 ex=>(jCs T n ifs _ _ _ _ (oc C s0 H0 ex) c5).2.2
        have hel:∀C s0 H0 ex,L2.PE (X.comp N' csc C s0 H0 ex) x' (uE X.K X.mg (zF T n) T.gl elt):=fun C s0 H0 ex=>eI (X:=X.comp N' csc C s0 H0 ex) fun env s=>jE T n elt _ _ _ _ (oc C s0 H0 ex) c6 env s
        have rule:L2.PS X (.Assign [.Name x px] (.ListComp x' [⟨tg,iter,fs,0⟩] csc cpos) pos) (L2.rH (L2.vD fr (uI X.K X.mg (zF T n) T.gl it) g (uTs X.K X.mg (zF T n) T.gl ifs) fun acc=>L2.vY acc (uE X.K X.mg (zF T n) T.gl elt)) (L2.w4 i)):=by
         obtain⟨b,hb⟩:=sZ (elt:=x') (gens:=[⟨tg,iter,fs,0⟩]) (csc:=csc) (cpos:=cpos) (y:=x) (py:=px) (l:=pos.line) (env:=X.env)
         cases b with
         |true=>exact L2.eO o.ok.calm S hpi pg hts hel hN hi l1 hb l2 (yG c7)
         |false=>exact L2.nN hN hi l1 (L2.mf o.ok.calm S hpi pg hts hel (yG c7)) hb l2
        refine oe (o:=evE (zF T n) T.gl env (.comp m N' fr elt t it ifs) s) rule fun σ H Q hq=>vL (env:=env) (s:=s) (chk:=false) (m:=m) (body:=vZ (zF T n) T.gl elt ifs) tg' xu (fun acc ρ0 H0 hn=>sk hn) ?_ fun _ r s1 p s2 hl=>?_
        . simp only[Bool.false_eq_true,false_implies,if_true];exact hq
        . have:=uk hl
          simpa using this
      . cases h3
     |comp2 m N' fr elt t it ifs t2 it2 ifs2=>
      simp only[ck]at h3
      split at h3
      . rename_i x' tg iter fs tg2 iter2 fs2 csc cpos
        simp only[Bool.and_eq_true,decide_eq_true_eq]at h3
        obtain⟨⟨⟨⟨⟨⟨⟨⟨⟨⟨c1,c2⟩,c3⟩,c4⟩,c5⟩,c6⟩,c7⟩,c8⟩,c9⟩,c10⟩,c11⟩:=h3
        have S:=mJ o.ok.scp c1
        have oc:=o.ok.comp S c2
        have tgt:∀(t:Tgt) (tg:Expr),ckT csc N' t tg=true→∃g,(∀C s0 H0 ex,L2.PG (X.comp N' csc C s0 H0 ex) tg g)∧uV X.K X.mg t g:=by
         intro t tg c3
         cases t with
         |nm i=>
          cases tg with
          |Name y p=>
           simp only[ckT,Bool.and_eq_true,Bool.or_eq_true,decide_eq_true_eq]at c3
           exact⟨_,fun C s0 H0 ex=>rn (oc C s0 H0 ex).scp c3.1 c3.2,uL⟩
          |_=>cases c3
         |nms is=>
          cases tg with
          |Tuple es k p=>
           simp only[ckT,Bool.and_eq_true,decide_eq_true_eq]at c3
           refine⟨_,fun C s0 H0 ex=>?_,wO (is:=is)⟩
           obtain⟨a,b,c⟩:=xK (oc C s0 H0 ex).scp c3.1
           exact L2.ue (X:=X.comp N' csc C s0 H0 ex) o.ok.calm a b c
          |_=>cases c3
        obtain⟨g,pg,tg'⟩:=tgt t tg c3
        obtain⟨g2,pg2,tg2'⟩:=tgt t2 tg2 c6
        have hpi:L2.PI X tg iter (uI X.K X.mg (zF T n) T.gl it):=nJ fun env s=>jI T n it _ _ _ _ _ o.ok c4 env s
        have hts:∀C s0 H0 ex,L2.PTs (X.comp N' csc C s0 H0 ex) fs (uTs X.K X.mg (zF T n) T.gl ifs):=fun C s0 H0 ex=>(jCs T n ifs _ _ _ _ (oc C s0 H0 ex) c5).2.2
        have hpi2:∀C s0 H0 ex,L2.PI (X.comp N' csc C s0 H0 ex) tg2 iter2 (uI X.K X.mg (zF T n) T.gl it2):=fun C s0 H0 ex=>nJ (X:=X.comp N' csc C s0 H0 ex) fun env s=>jI T n it2 _ _ _ _ _ (oc C s0 H0 ex) c7 env s
        have hts2:∀C s0 H0 ex,L2.PTs (X.comp N' csc C s0 H0 ex) fs2 (uTs X.K X.mg (zF T n) T.gl ifs2):=fun C s0 H0 ex=>(jCs T n ifs2 _ _ _ _ (oc C s0 H0 ex) c8).2.2
        have hel:∀C s0 H0 ex,L2.PE (X.comp N' csc C s0 H0 ex) x' (uE X.K X.mg (zF T n) T.gl elt):=fun C s0 H0 ex=>eI (X:=X.comp N' csc C s0 H0 ex) fun env s=>jE T n elt _ _ _ _ (oc C s0 H0 ex) c9 env s
        have rule:L2.PS X (.Assign [.Name x px] (.ListComp x' [⟨tg,iter,fs,0⟩,⟨tg2,iter2,fs2,0⟩] csc cpos) pos) (L2.rH (L2.vD fr (uI X.K X.mg (zF T n) T.gl it) g (uTs X.K X.mg (zF T n) T.gl ifs) fun acc=>L2.se (uI X.K X.mg (zF T n) T.gl it2) g2 (uTs X.K X.mg (zF T n) T.gl ifs2) (L2.vY acc (uE X.K X.mg (zF T n) T.gl elt))) (L2.w4 i)):=by
         obtain⟨b,hb⟩:=sZ (elt:=x') (gens:=[⟨tg,iter,fs,0⟩,⟨tg2,iter2,fs2,0⟩]) (csc:=csc) (cpos:=cpos) (y:=x) (py:=px) (l:=pos.line) (env:=X.env)
         cases b with
         |true=>exact L2.il o.ok.calm S hpi pg hts hpi2 pg2 hts2 hel hN hi l1 hb l2 (yG c10) (fun env=>yG c11)
         |false=>exact L2.nN hN hi l1 (L2.pk o.ok.calm S hpi pg hts hpi2 pg2 hts2 hel (yG c10) (fun env=>yG c11)) hb l2
        refine oe (o:=evE (zF T n) T.gl env (.comp2 m N' fr elt t it ifs t2 it2 ifs2) s) rule fun σ H Q hq=>vL (env:=env) (s:=s) (chk:=true) (m:=m) (body:=uj (zF T n) T.gl elt ifs t2 it2 ifs2) tg' uM (fun acc ρ0 H0 hn=>qA hn tg2') ?_ fun z=>by cases z
        simp only[true_implies];exact hq
      . cases h3
     |_=>exfalso;apply hn;first|(simp only[ck,rS]at h3;cases h3;done)|(simp only[ck,rS]at h3;split at h3<;>first|rfl|(cases h3;done))
 . cases h
theorem bW{is:List Nat}{es:Exs}:JS T n (.par is es):=by
 intro sc N X st o h env s
 simp only[ckS]at h
 split at h
 . rename_i ts k p vs k2 p2 pos
   simp only[Bool.and_eq_true,decide_eq_true_eq,Bool.or_eq_true]at h
   obtain⟨⟨⟨⟨⟨⟨h1,h2⟩,h3⟩,h4⟩,h5⟩,h6⟩,h7⟩:=h
   have hes:=(jL T n es _ _ _ _ o.ok h2).1 h3 env s
   have hN:X.N.Nodup:=by rw[o.ok.scp.hN];exact o.ok.scp.nd
   have kind:∀x,X.env.kindOf x=sc.names.lookup x:=fun x=>by show X.env.scope.names.lookup x=_;rw[o.esc]
   rcases h7 with h7|h7
   . unfold dy at h7
     split at h7
     . rename_i x px y py
       simp only[Bool.and_eq_true,decide_eq_true_eq,Bool.not_eq_true']at h7
       obtain⟨⟨⟨⟨⟨q1,q2⟩,q3⟩,q4⟩,q5⟩,q6⟩:=h7
       match is,h1,h5 with
       |[i,j],h1,h5=>
        simp only[yA,Bool.and_eq_true,decide_eq_true_eq,Bool.or_eq_true]at h1
        obtain⟨⟨i1,i2⟩,⟨j1,j2⟩,_⟩:=h1
        match vs,h6 with
        |[a,b],_=>
         have hij:i≠j:=by rw[List.nodup_cons]at h5;exact fun z=>h5.1 (by rw[z];exact List.mem_singleton.mpr rfl)
         exact fU (L2.av o.ok.calm hN (by rw[o.ok.scp.hN];exact i1) (by rw[o.ok.scp.hN];exact j1) hij (by rw[o.esc];exact q1) (by rw[o.esc];exact q2) hes
          (oG o.bk (by rw[kind];exact q1) (by rw[kind];exact q2) q3 q4 h3 q5 q6) uh) fun σ H Q q=>q
       |[],h1,_=>exact absurd h1 (by simp[yA])
       |[_],h1,_=>exact absurd h1 (by simp[yA])
       |_::_::_::_,h1,_=>exact absurd h1 (by simp[yA])
     . rename_i x px y py z pz
       simp only[Bool.and_eq_true,decide_eq_true_eq,Bool.not_eq_true']at h7
       obtain⟨⟨⟨⟨⟨⟨⟨⟨⟨q1,q2⟩,q3⟩,q4⟩,q5⟩,q6⟩,q7⟩,q8⟩,q9⟩,q10⟩:=h7
       match is,h1,h5 with
       |[i,j,l],h1,h5=>
        simp only[yA,Bool.and_eq_true,decide_eq_true_eq,Bool.or_eq_true]at h1
        obtain⟨⟨i1,i2⟩,⟨j1,j2⟩,⟨l1,l2⟩,_⟩:=h1
        match vs,h6 with
        |[a,b,c],_=>
         simp only[List.nodup_cons,List.mem_cons,List.not_mem_nil,or_false,not_or]at h5
         exact fV (L2.eR o.ok.calm hN (by rw[o.ok.scp.hN];exact i1) (by rw[o.ok.scp.hN];exact j1) (by rw[o.ok.scp.hN];exact l1) h5.1.1 h5.1.2 h5.2.1 (by rw[o.esc];exact q1) (by rw[o.esc];exact q2) (by rw[o.esc];exact q3) hes
          (rG o.bk (by rw[kind];exact q1) (by rw[kind];exact q2) (by rw[kind];exact q3) q4 q5 q6 q7 q8 h3 q9 q10) uh) fun σ H Q q=>q
       |[],h1,_=>exact absurd h1 (by simp[yA])
       |[_],h1,_=>exact absurd h1 (by simp[yA])
       |[_,_],h1,_=>exact absurd h1 (by simp[yA])
       |_::_::_::_::_,h1,_=>exact absurd h1 (by simp[yA])
     . cases h7
   . have hun:(∃x p,Expr.Name x p∈ts∧X.env.kindOf x≠some .local)∨3<ts.length:=by
      unfold d9 at h7
      simp only[Bool.or_eq_true,decide_eq_true_eq,List.any_eq_true]at h7
      rcases h7 with⟨e,hm,he⟩|h7
      . cases e with
        |Name x px=>
         simp only[decide_eq_true_eq]at he
         exact .inl ⟨x,px,hm,by rw[kind];exact he⟩
        |_=>cases he
      . exact .inr h7
     obtain⟨a,b,c⟩:=xK o.ok.scp h1
     have rule:=fS (t:=.nms is) (env:=env) (s:=s) wO (L2.ij (pos:=pos) (jt (k:=k2) (pos:=p2) hes) (L2.ue (k:=k) (pos:=p) o.ok.calm a b c) uh (kS hun)) fun σ H Q q=>q
     have e:((ye (zF T n) T.gl env es s).bind fun vs s1=>if vs.length=is.length then (.ok:Fl→Sto→Out Fl) (.nx ((is.zip vs).foldl (fun e p=>e.set p.1 (some p.2)) env)) s1 else .stuck)=(((ye (zF T n) T.gl env es s).bind fun vs s1=>if vs.length≤zN then (.ok:Val→Sto→Out Val) (.tup vs) s1 else .stuck).bind fun v s1=>match yP (.nms is) v env with|some env'=>(.ok:Fl→Sto→Out Fl) (.nx env') s1|Option.none=>.stuck):=by
      cases ye (zF T n) T.gl env es s with
      |ok ws s1=>
       simp only[zK]
       by_cases hl:ws.length=is.length
       . have hz:ws.length≤zN:=by rw[hl];exact Nat.le_trans h4 (by decide)
         simp only[if_pos hl,if_pos hz,zK,yP]
       . rw[if_neg hl]
         by_cases hz:ws.length≤zN
         . simp only[if_neg hl,if_pos hz,zK,yP]
         . simp only[if_neg hz,wR]
      |exc _ _ _=>rfl
      |stuck=>rfl
     show L2.PS X _ (tSt X.K X.mg env s ((ye (zF T n) T.gl env es s).bind fun vs s1=>if vs.length=is.length then .ok (.nx ((is.zip vs).foldl (fun e p=>e.set p.1 (some p.2)) env)) s1 else .stuck))
     rw[e]
     exact rule
 . cases h
theorem bU{i:Nat}{op:Bop}{e:Ex}:JS T n (.aug i op e):=by
 intro sc N X st o h env s
 simp only[ckS]at h
 split at h
 . rename_i x px o' v pos
   simp only[Bool.and_eq_true,decide_eq_true_eq,Bool.or_eq_true,Bool.not_eq_true',Bool.or_eq_false_iff,decide_eq_false_iff_not]at h
   obtain⟨⟨⟨⟨h1,h2⟩,rfl⟩,h3⟩,h4⟩:=h
   obtain⟨l1,l2⟩:=o.ok.scp.loc x h2
   exact bq (f:=evE (zF T n) T.gl env e) (by rintro (z|z|z|z);exact h4.1.1.1 z;exact h4.1.1.2 z;exact h4.1.2 z;exact h4.2 z) (by rw[o.ok.scp.hN];exact o.ok.scp.nd) (by rw[o.ok.scp.hN];exact h1) l1 l2 fun s=>jE T n e _ _ _ _ o.ok h3 env s
 . cases h
theorem jh{a i e:Ex}:JS T n (.setIx a i e):=by
 intro sc N X st o h env s
 simp only[ckS]at h
 split at h
 . simp only[Bool.and_eq_true]at h
   exact jv h.2 (jE T n e _ _ _ _ o.ok h.1.2 env s) (fun s1=>jE T n a _ _ _ _ o.ok h.1.1.1 env s1) fun s1=>jE T n i _ _ _ _ o.ok h.1.1.2 env s1
 . cases h
theorem Z2{c:Cn}{a b:Sms}(ja:JSs T n a)(jb:JSs T n b):JS T n (.ifS c a b):=by
 intro sc N X st o h env s
 simp only[ckS]at h
 split at h
 . simp only[Bool.and_eq_true]at h
   exact Z9 (jC T n c _ _ _ _ o.ok h.1.1 env s) (p7 fun env s=>ja _ _ _ _ o h.1.2 env s) (p7 fun env s=>jb _ _ _ _ o h.2 env s) (fun s1 D σ H q=>⟨env,s1,q⟩) fun s1 D σ H q=>⟨env,s1,q⟩
 . cases h
theorem bV{t:Tgt}{it:Itb}{b:Sms}(jb:JSs T n b):JS T n (.forS t it b):=by
 intro sc N X st o h env s
 simp only[ckS]at h
 split at h
 . simp only[Bool.and_eq_true]at h
   obtain⟨g,pg,tg⟩:=Yh o.ok.scp o.ok.calm h.1.1.1
   exact br o.ok.xe o.ok.calm h.2 (fun env s=>jI T n it _ _ _ _ _ o.ok h.1.1.2 env s) pg tg (p7 fun env s=>jb _ _ _ _ o h.1.2 env s)
 . cases h
theorem jj{c:Cn}{b:Sms}(jb:JSs T n b):JS T n (.whileS c b):=by
 intro sc N X st o h env s
 simp only[ckS]at h
 split at h
 . simp only[Bool.and_eq_true]at h
   exact jw o.ok.xe (fun env s=>jC T n c _ _ _ _ o.ok h.1 env s) (p7 fun env s=>jb _ _ _ _ o h.2 env s)
 . cases h
theorem fM{a i e:Ex}:JS T n (.setD a i e):=by
 intro sc N X st o h env s
 simp only[ckS]at h
 split at h
 . simp only[Bool.and_eq_true]at h
   exact fW o.ok.room h.2 (jE T n e _ _ _ _ o.ok h.1.2 env s) (fun s1=>jE T n a _ _ _ _ o.ok h.1.1.1 env s1) fun s1=>jE T n i _ _ _ _ o.ok h.1.1.2 env s1
 . cases h
theorem jg{e:Ex}:JS T n (.raise e):=fun sc N X st o h env s=>zH nofun
theorem fN:JSs T n .nil:=by
 intro sc N X st o h env s
 simp only[su]at h
 split at h
 . exact fX
 . cases h
theorem jk{c:Sm}{cs:Sms}(jc:JS T n c)(jcs:JSs T n cs):JSs T n (.cons c cs):=by
 intro sc N X st o h env s
 simp only[su]at h
 split at h
 . simp only[Bool.and_eq_true]at h
   exact jx (f:=fun e s=>zO (zF T n) T.gl e cs s) (jc _ _ _ _ o h.1 env s) (p7 fun env s=>jcs _ _ _ _ o h.2 env s) fun env s D σ H q=>⟨env,s,q⟩
 . cases h
end
section
variable (T:Tbl)(n:Nat)
mutual
theorem jS:∀a:Sm,JS T n a
 |.expr _=>fL
 |.ret _=>bX
 |.retN=>fun sc N X e o h=>by cases h
 |.asg _ _=>bT
 |.asgT _ _=>fun sc N X e o h=>by cases h
 |.par _ _=>bW
 |.aug _ _ _=>bU
 |.setIx _ _ _=>jh
 |.setD _ _ _=>fM
 |.ifS _ a b=>Z2 (jSs a) (jSs b)
 |.forS _ _ b=>bV (jSs b)
 |.whileS _ b=>jj (jSs b)
 |.pass=>fun sc N X e o h=>by cases h
 |.brk=>fun sc N X e o h=>by cases h
 |.cont=>fun sc N X e o h=>by cases h
 |.raise _=>jg
theorem jSs:∀a:Sms,JSs T n a
 |.nil=>fN
 |.cons c cs=>jk (jS c) (jSs cs)
end
end
end M
end
section
namespace M
open PySem
mutual
noncomputable def xW(n:Nat):Val→Bool
 |.ref i|.dref i=>decide (i<n)
 |.tup vs=>wB n vs
 |.lst vs=>wB n vs
 |.none|.bool _|.int _|.str _|.dct0|.ctup _|.scr _|.fn _|.ty _=>true
noncomputable def wB(n:Nat):List Val→Bool
 |[]=>true
 |v::vs=>xW n v&&wB n vs
end
mutual
theorem vE:∀{n:Nat} {v:Val},v.noRef=true→xW n v=true
 |_,.ref _,h=>by cases h
 |_,.dref _,h=>by cases h
 |n,.tup vs,h=>by rw[xW];exact wK (by simpa only[Val.noRef] using h)
 |n,.lst vs,h=>by rw[xW];exact wK (by simpa only[Val.noRef] using h)
 |_,.none,_=>rfl
 |_,.bool _,_=>rfl
 |_,.int _,_=>rfl
 |_,.str _,_=>rfl
 |_,.dct0,_=>rfl
 |_,.ctup _,_=>rfl
 |_,.scr _,_=>rfl
 |_,.fn _,_=>rfl
 |_,.ty _,_=>rfl
theorem wK:∀{n:Nat} {vs:List Val},zj vs=true→wB n vs=true
 |_,[],_=>rfl
 |n,v::vs,h=>by
  rw[zj,Bool.and_eq_true]at h
  rw[wB,vE h.1,wK h.2];rfl
end
section
variable {K:KF}{mg:Str→Option Value}
mutual
theorem RD.refs{ρ:Own}{H:L2.Hp}:∀{v:Val} {x:L2.V},RD K mg ρ H v x→xW ρ.o.length v=true
 |_,_,.none=>rfl
 |_,_,.bool _=>rfl
 |_,_,.int _=>rfl
 |_,_,.str _=>rfl
 |_,_,.tup _ _ r=>by rw[xW];exact RDs.refs r
 |_,_,.lst _ _ r=>by rw[xW];exact RDs.refs r
 |_,_,.dct0 _ _=>rfl
 |_,_,.ctup _=>rfl
 |_,_,.scr _=>rfl
 |_,_,.ref e _=>by rw[xW];exact decide_eq_true (List.getElem?_eq_some_iff.mp e).1
 |_,_,.dref e _=>by rw[xW];exact decide_eq_true (List.getElem?_eq_some_iff.mp e).1
 |_,_,.fn _=>rfl
 |_,_,.ty _=>rfl
theorem RDs.refs{ρ:Own}{H:L2.Hp}:∀{v:List Val} {x:List L2.V},RDs K mg ρ H v x→wB ρ.o.length v=true
 |_,_,.nil=>rfl
 |_,_,.cons r rs=>by rw[wB,RD.refs r,RDs.refs rs];rfl
end
structure Cut(ρ ρ':Own):Prop where
 pre:∃new,ρ'.o=ρ.o++new
 hid:ρ'.h=ρ.h
theorem Cut.no{ρ ρ':Own}(c:Cut ρ ρ'){a:Addr}(n:ρ'.no a):ρ.no a:=by
 obtain⟨new,e⟩:=c.pre
 exact⟨fun h=>n.1 (by rw[e];exact List.mem_append_left _ h),by rw[←c.hid];exact n.2⟩
mutual
theorem RD.xS{ρ ρ':Own}{H:L2.Hp}(c:Cut ρ ρ'):∀{v:Val} {x:L2.V},RD K mg ρ' H v x→xW ρ.o.length v=true→RD K mg ρ H v x
 |_,_,.none,_=>.none
 |_,_,.bool b,_=>.bool b
 |_,_,.int i,_=>.int i
 |_,_,.str t,_=>.str t
 |_,_,.tup n e r,h=>.tup (c.no n) e (RDs.xS c r (by simpa only[xW] using h))
 |_,_,.lst n e r,h=>.lst (c.no n) e (RDs.xS c r (by simpa only[xW] using h))
 |_,_,.dct0 n e,_=>.dct0 (c.no n) e
 |_,_,.ctup h,_=>.ctup h
 |_,_,.scr h,_=>.scr (by
    rcases h with⟨n,h⟩|h
    . exact .inl ⟨c.no n,h⟩
    . exact .inr h)
 |_,_,.ref (i:=i) e k,h=>.ref (by
    obtain⟨new,e'⟩:=c.pre
    rw[xW]at h
    rw[e',List.getElem?_append_left (of_decide_eq_true h)]at e
    exact e) k
 |_,_,.dref (i:=i) e k,h=>.dref (by
    obtain⟨new,e'⟩:=c.pre
    rw[xW]at h
    rw[e',List.getElem?_append_left (of_decide_eq_true h)]at e
    exact e) k
 |_,_,.fn e,_=>.fn e
 |_,_,.ty n,_=>.ty n
theorem RDs.xS{ρ ρ':Own}{H:L2.Hp}(c:Cut ρ ρ'):∀{v:List Val} {x:List L2.V},RDs K mg ρ' H v x→wB ρ.o.length v=true→RDs K mg ρ H v x
 |_,_,.nil,_=>.nil
 |_,_,.cons r rs,h=>by
  rw[wB,Bool.and_eq_true]at h
  exact .cons (RD.xS c r h.1) (RDs.xS c rs h.2)
end
noncomputable def qP:Cel→List Val
 |.lst vs=>vs
 |.dS kvs=>kvs.map (·.2)
 |.dT kvs=>kvs.map (·.2)
theorem CR.vals{ρ:Own}{H:L2.Hp}{a:Addr}{c:Cel}(h:CR K mg ρ H a c):∃xs,RDs K mg ρ H (qP c) xs:=by
 cases c with
 |lst vs=>obtain⟨xs,_,r⟩:=h;exact⟨_,r⟩
 |dS kvs=>obtain⟨xs,_,_,r⟩:=h;exact⟨_,r⟩
 |dT kvs=>obtain⟨xs,_,_,r⟩:=h;exact⟨_,r⟩
theorem lE{c:Cel}(h:c.noRef=true):zj (qP c)=true:=by cases c<;>exact h
theorem CR.xS{ρ ρ':Own}{H:L2.Hp}{a:Addr}(c:Cut ρ ρ'){o:Cel}(h:CR K mg ρ' H a o)(hb:wB ρ.o.length (qP o)=true):CR K mg ρ H a o:=by
 cases o with
 |lst vs=>obtain⟨xs,e,r⟩:=h;exact⟨xs,e,RDs.xS c r hb⟩
 |dS kvs=>obtain⟨xs,e,k,r⟩:=h;exact⟨xs,e,k,RDs.xS c r hb⟩
 |dT kvs=>obtain⟨xs,e,k,r⟩:=h;exact⟨xs,e,k,RDs.xS c r hb⟩
theorem qh{α β:Type}:∀{a b:List (α × β)},a.map (·.1)=b.map (·.1)→a.map (·.2)=b.map (·.2)→a=b
 |[],[],_,_=>rfl
 |[],_::_,h,_=>by cases h
 |_::_,[],h,_=>by cases h
 |x::xs,y::ys,h1,h2=>by
  rw[List.map_cons,List.map_cons]at h1 h2
  injection h1 with a1 a2
  injection h2 with b1 b2
  rw[qh a2 b2,Prod.ext a1 b1]
theorem pX:∀{s s':Sto} {i:Nat} {o':Cel},xV s s'=true→i<s.length→s'[i]?=some o'→o'.noRef=true∨s[i]?=some o'
 |[],_,_,_,_,h,_=>by cases h
 |o::r,[],_,_,h,_,_=>by cases h
 |o::r,o'::r',0,q,h,_,e=>by
  rw[xV,Bool.and_eq_true,Bool.or_eq_true]at h
  simp only[List.getElem?_cons_zero,Option.some.injEq]at e
  subst e
  rcases h.1 with z|z
  . exact .inl z
  . right
    cases o' with
    |lst a=>cases o with
     |lst b=>simp only[Cel.beq]at z;rw[xk z];rfl
     |_=>cases z
    |dS a=>cases o with
     |dS b=>simp only[Cel.beq,Bool.and_eq_true,decide_eq_true_eq]at z;rw[qh z.1 (xk z.2)];rfl
     |_=>cases z
    |dT a=>cases o with
     |dT b=>simp only[Cel.beq,Bool.and_eq_true,decide_eq_true_eq]at z;rw[qh z.1 (xk z.2)];rfl
     |_=>cases z
 |o::r,o'::r',i+1,q,h,hi,e=>by
  rw[xV,Bool.and_eq_true]at h
  have:=pX (i:=i) h.2 (by simpa using hi) (by simpa using e)
  simpa using this
mutual
theorem sA{ρ ρ':Own}{H:L2.Hp}{s:Sto}(c:Cut ρ ρ')(hr:HR K mg ρ' s H):∀{k:Nat} {v v':Val} {x:L2.V},RD K mg ρ' H v x→tN ρ.o.length s k v=some v'→RD K mg ρ H v' x
 |k,.ref i,v',x,r,h=>by
  have h':(if i<ρ.o.length then some (Val.ref i) else match s[i]? with
   |some (.lst vs)=>if zj vs then some (.lst vs) else Option.none
   |_=>Option.none)=some v':=by cases k<;>exact h
  cases r with
  |ref e hkd=>
   by_cases hi:i<ρ.o.length
   . rw[if_pos hi]at h'
     cases h'
     exact RD.xS c (.ref e hkd) (by rw[xW];exact decide_eq_true hi)
   . rw[if_neg hi]at h'
     split at h'
     . rename_i vs hs
       split at h'
       . rename_i hn
         cases h'
         obtain⟨a,xs,e1,e2,q⟩:=hr.obj i vs hs
         rw[e]at e1;cases e1
         obtain⟨new,e'⟩:=c.pre
         have hm:=List.mem_of_getElem? e
         refine .lst ⟨fun hm'=>?_,fun hh=>?_⟩ e2 (RDs.xS c q (wK hn))
         . obtain⟨j,hj,ej⟩:=List.getElem_of_mem hm'
           have ej':ρ'.o[j]?=ρ'.o[i]?:=by rw[e,e',List.getElem?_append_left hj,List.getElem?_eq_getElem hj,ej]
           have:=iA hr.nd e (ej'.trans e)
           omega
         . exact(hr.hid _ (by rw[c.hid];exact hh)).2 hm
       . cases h'
     . cases h'
 |k,.dref i,v',x,r,h=>by
  have h':(if i<ρ.o.length then some (Val.dref i) else Option.none)=some v':=by cases k<;>exact h
  split at h'
  . rename_i hi
    cases h'
    exact RD.xS c r (by rw[xW];exact decide_eq_true hi)
  . cases h'
 |k+1,.tup vs,v',x,r,h=>by
  rw[tN,Option.map_eq_some_iff]at h
  obtain⟨ws,h1,rfl⟩:=h
  cases r with
  |tup n e q=>exact .tup (c.no n) e (t9 c hr q h1)
 |0,.tup vs,v',x,r,h=>by
  have h':(if (Val.tup vs).noRef then some (Val.tup vs) else Option.none)=some v':=h
  split at h'
  . rename_i hn;cases h';exact RD.xS c r (vE hn)
  . cases h'
 |k,.lst vs,v',x,r,h=>by
  have h':(if (Val.lst vs).noRef then some (Val.lst vs) else Option.none)=some v':=by cases k<;>exact h
  split at h'
  . rename_i hn;cases h';exact RD.xS c r (vE hn)
  . cases h'
 |k,.none,v',x,r,h=>by
  have h':some Val.none=some v':=by cases k<;>exact h
  cases h';exact RD.xS c r rfl
 |k,.bool b,v',x,r,h=>by
  have h':some (Val.bool b)=some v':=by cases k<;>exact h
  cases h';exact RD.xS c r rfl
 |k,.int b,v',x,r,h=>by
  have h':some (Val.int b)=some v':=by cases k<;>exact h
  cases h';exact RD.xS c r rfl
 |k,.str b,v',x,r,h=>by
  have h':some (Val.str b)=some v':=by cases k<;>exact h
  cases h';exact RD.xS c r rfl
 |k,.dct0,v',x,r,h=>by
  have h':some Val.dct0=some v':=by cases k<;>exact h
  cases h';exact RD.xS c r rfl
 |k,.ctup b,v',x,r,h=>by
  have h':some (Val.ctup b)=some v':=by cases k<;>exact h
  cases h';exact RD.xS c r rfl
 |k,.scr b,v',x,r,h=>by
  have h':some (Val.scr b)=some v':=by cases k<;>exact h
  cases h';exact RD.xS c r rfl
 |k,.fn b,v',x,r,h=>by
  have h':some (Val.fn b)=some v':=by cases k<;>exact h
  cases h';exact RD.xS c r rfl
 |k,.ty b,v',x,r,h=>by
  have h':some (Val.ty b)=some v':=by cases k<;>exact h
  cases h';exact RD.xS c r rfl
theorem t9{ρ ρ':Own}{H:L2.Hp}{s:Sto}(c:Cut ρ ρ')(hr:HR K mg ρ' s H):∀{k:Nat} {v v':List Val} {x:List L2.V},RDs K mg ρ' H v x→tM ρ.o.length s k v=some v'→RDs K mg ρ H v' x
 |k,[],v',x,r,h=>by
  have h':some ([]:List Val)=some v':=by cases k<;>exact h
  cases h';cases r;exact .nil
 |0,_::_,v',x,r,h=>by cases h
 |k+1,v::vs,v',x,r,h=>by
  rw[tM]at h
  cases r with
  |cons r1 r2=>
   split at h
   . rename_i a b ha hb
     cases h
     refine .cons ?_ (t9 c hr r2 hb)
     by_cases hn:v.noRef=true
     . rw[if_pos hn]at ha;cases ha;exact RD.xS c r1 (vE hn)
     . rw[if_neg hn]at ha;exact sA c hr r1 ha
   . cases h
end
theorem pN{F:Fn}{ρ ρ':Own}{H H':L2.Hp}{s s1:Sto}{v:Val}{x:L2.V}{Q:L2.VK}(h0:HR K mg ρ s H)(w:yW K mg (RD K mg) ρ H (leave F s v s1) Q)(X:Ext ρ H ρ' H')(hr:HR K mg ρ' s1 H')(r:RD K mg ρ' H' v x):Q x H':=by
 unfold leave at w
 by_cases hk:F.keep=true
 . rw[if_pos hk]at w;exact w ρ' x H' X hr r
 . rw[if_neg hk]at w
   by_cases ho:xV s s1=true
   . rw[if_pos ho]at w
     have c:Cut ρ ρ':=⟨by obtain⟨new,e,_⟩:=X.pre;exact⟨new,e⟩,X.hid⟩
     cases hf:freeze s.length s1 v with
     |none=>rw[hf]at w;exact w.elim
     |some v'=>
      rw[hf]at w
      have hlen:s.length≤s1.length:=by
       obtain⟨new,e,_⟩:=X.pre
       rw[←h0.len,←hr.len,e,List.length_append];omega
      refine w ρ x H' ⟨⟨[],by simp,fun a ha=>by cases ha⟩,rfl,X.keep,X.kd⟩ ⟨?_,h0.nd,fun i vs e=>?_,fun a ha=>?_⟩ ?_
      . rw[List.length_take,h0.len];omega
      . have hi:i<s.length:=by
         have:=(List.getElem?_eq_some_iff.mp e).1
         rw[List.length_take]at this;omega
        rw[List.getElem?_take_of_lt hi]at e
        obtain⟨a,e1,q⟩:=hr.cel i vs e
        have e3:ρ.o[i]?=some a:=by
         obtain⟨new,e',_⟩:=X.pre
         rw[e',List.getElem?_append_left (by rw[h0.len];exact hi)]at e1
         exact e1
        refine⟨a,e3,q.xS c ?_⟩
        rcases pX ho hi e with z|z
        . exact wK (lE z)
        . obtain⟨b,_,q'⟩:=h0.cel i vs z
          obtain⟨xs,q2⟩:=q'.vals
          exact RDs.refs q2
      . obtain⟨z,n⟩:=hr.hid a (by rw[X.hid];exact ha)
        exact⟨z,(h0.hid a ha).2⟩
      . unfold freeze at hf
        by_cases hn:v.noRef=true
        . rw[if_pos hn]at hf;cases hf;exact RD.xS c r (vE hn)
        . rw[if_neg hn,←h0.len]at hf
          exact sA c hr r hf
   . rw[if_neg ho]at w;exact w.elim
theorem gL{ρ:Own}{H:L2.Hp}{args:List Val}{vs:List L2.V}{N:List Str}(r:RDs K mg ρ H args vs):ER K mg ρ H (yH N args) (L2.start N vs):=by
 refine⟨by unfold yH L2.start;rw[List.length_append,List.length_append,List.length_map,List.length_map,List.length_replicate,List.length_replicate,r.length],fun i v e=>?_⟩
 unfold yH at e
 unfold L2.start
 by_cases hi:i<args.length
 . rw[List.getElem?_append_left (by simpa using hi),List.getElem?_map]at e
   rw[List.getElem?_append_left (by rw[List.length_map,←r.length];exact hi),List.getElem?_map]
   cases ha:args[i]? with
   |none=>rw[ha]at e;cases e
   |some a=>
    rw[ha]at e
    have:a=v:=Option.some.inj (Option.some.inj e)
    subst this
    obtain⟨x,h1,h2⟩:=r.get ha
    exact⟨x,by rw[h1];rfl,h2⟩
 . rw[List.getElem?_append_right (by simpa using hi),List.getElem?_replicate]at e
   split at e<;>cases e
end
noncomputable def argNames(a:Arguments):Option (List Str):=
 if a.posonlyargs.isEmpty&&a.vararg.isNone&&a.kwonlyargs.isEmpty&&a.kw_defaults.isEmpty&&a.kwarg.isNone&&a.defaults.isEmpty then some (a.args.map (·.arg)) else none
noncomputable def kz(st:Stmt)(F:Fn):Bool:=
 match st with
 |.FunctionDef _ args body _ _ _ sc _ _ _=>decide (argNames args=some F.ps)&&decide (sc.kind=.function)&&!sc.isCoroutine&&!sc.isGenerator&&decide F.N.Nodup&&decide (F.N.take F.ps.length=F.ps) &&
  F.ps.all (fun x=>decide (sc.names.lookup x=some .local)||decide (sc.names.lookup x=some .cell))&&sc.names.all (fun y=>decide (y.2≠.free))&&su sc F.N F.body body
 |_=>false
theorem om:∀{ps:List Str} {us:List Value},ps.Nodup→us.length=ps.length→ps.filterMap (fun n=>((ps.zip us).lookup n).map (n,·))=ps.zip us:=by
 have key:∀(ps qs:List Str) (us ws:List Value),(qs++ps).Nodup→us.length=ps.length→ws.length=qs.length→ps.filterMap (fun n=>(((qs++ps).zip (ws++us)).lookup n).map (n,·))=ps.zip us:=by
  intro ps
  induction ps with
  |nil=>intro qs us ws _ _ _;rfl
  |cons p ps ih=>
   intro qs us ws nd h1 h2
   cases us with
   |nil=>cases h1
   |cons u us=>
    have hl:((qs++p::ps).zip (ws++u::us)).lookup p=some u:=by
     rw[List.zip_append h2.symm]
     have:∀(qs:List Str) (ws:List Value),p ∉ qs→((qs.zip ws)++(p::ps).zip (u::us)).lookup p=some u:=by
      intro qs
      induction qs with
      |nil=>intro ws _;simp
      |cons q qs ih2=>
       intro ws hn
       cases ws with
       |nil=>simp
       |cons w ws=>
        have hpq:(p == q)=false:=by
         have:p≠q:=fun z=>hn (by rw[z];exact List.mem_cons_self)
         simpa using this
        rw[List.zip_cons_cons,List.cons_append,List.lookup_cons,hpq]
        exact ih2 ws fun z=>hn (List.mem_cons_of_mem _ z)
     refine this qs ws fun z=>?_
     rw[List.nodup_append]at nd
     exact nd.2.2 p z p List.mem_cons_self rfl
    rw[List.filterMap_cons,hl]
    have:=ih (qs++[p]) us (ws++[u]) (by simpa using nd) (by simpa using h1) (by simp[h2])
    rw[List.append_assoc,List.append_assoc]at this
    exact congrArg ((p,u)::·) this
 intro ps us nd h
 simpa using key ps [] us [] (by simpa using nd) h rfl
theorem lookup_some:∀{ps:List Str} {us:List Value},us.length=ps.length→∀n∈ps,((ps.zip us).lookup n).isNone=false
 |[],_,_,n,h=>by cases h
 |p::ps,[],h,_,_=>by cases h
 |p::ps,u::us,h,n,hn=>by
  rw[List.zip_cons_cons,List.lookup_cons]
  cases hb:(n == p) with
  |true=>rfl
  |false=>
   have:n≠p:=by simpa using hb
   rcases List.mem_cons.mp hn with z|z
   . exact absurd z this
   . exact lookup_some (by simpa using h) n z
theorem qr{x qual:Str}{a:Arguments}{body:List Stmt}{sc:Scope}{kV doc pm cdv ct:Value}{an:Option Addr}{ps:List Str}(h:argNames a=some ps)(nd:ps.Nodup)(us:List Value)(hl:us.length=ps.length) :
 bindArgs (PySem.W.fnOf x qual a body sc .none kV doc pm an cdv ct) ⟨us,[]⟩=pure (ps.zip us):=by
 unfold argNames at h
 split at h
 . rename_i hc
   simp only[Bool.and_eq_true,List.isEmpty_iff,Option.isNone_iff_eq_none]at hc
   obtain⟨⟨⟨⟨⟨h1,h2⟩,h3⟩,h4⟩,h5⟩,h6⟩:=hc
   cases h
   obtain⟨po,ar,va,ko,kd,kw,df⟩:=a
   simp only at h1 h2 h3 h4 h5 h6 hl nd ⊢
   subst h1 h2 h3 h4 h5 h6
   have hm:((ar.map (·.arg)).take ((ar.map (·.arg)).length-0)).filter (fun n=>(((ar.map (·.arg)).zip us).lookup n).isNone)=[]:=by
    rw[List.filter_eq_nil_iff]
    intro n hn
    rw[lookup_some hl n (List.mem_of_mem_take hn)]
    decide
   unfold bindArgs
   have hd:seqItems? Value.none=pure none:=rfl
   have hg:¬(us.length > (ar.map (·.arg)).length∧True):=by rintro ⟨z,_⟩;omega
   simp only[PySem.W.fnOf,List.map_nil,List.nil_append,List.append_nil,List.forIn_nil,pure_bind,hd,Option.getD_none,List.toList_toArray,List.length_nil,List.drop_nil,Nat.sub_zero,Option.isNone_none,Bool.and_true]
   rw[if_neg (by rw[List.length_map]at hl;simp;omega)]
   have hm':(List.filter (fun n=>(List.lookup n ((List.map (fun x=>x.arg) ar).zip us)).isNone) (List.take (List.map (fun x=>x.arg) ar).length (List.map (fun x=>x.arg) ar)))=[]:=hm
   rw[hm',if_neg (by decide),List.zip_nil_right,List.forIn_nil,pure_bind,if_neg (by decide),om nd hl]
 . cases h
def qp(K:KF)(x:Str)(st:Stmt):Prop:=∃f fd,PySem.W.nsIn K mainGlobals x=some (some (.ref f))∧L2.Fun K x x st f fd
theorem cg{K:KF}{x:Str}{st:Stmt}{f:Addr}{oc:Value}{od an:Option Addr}{osl:Array (Option Value)}{kV doc pm cdv ct:Value}(a:PySem.W.nsIn K mainGlobals x=some (some (.ref f)))
 (l:K.lookup f=some ⟨oc,od,.func (PySem.W.fnOf x x (L2.wU st) (L2.xP st) (L2.zm st) .none kV doc pm an cdv ct),osl⟩) (c:PySem.W.codeIn K cdv x=true) (k:PySem.W.keepIn K (.ref f)=true):qp K x st:=
 ⟨f,_,a,L2.cx l c k⟩
section
variable {P:Program}{w:World}{K:KF}{mg:Str→Option Value}{base:Heap}{T:Tbl}
structure Top(T:Tbl)(K:KF)(mg:Str→Option Value):Prop where
 defs:∀f v F,T.fn f v=some F→∃st fa fd,mg f=some (.ref fa)∧L2.Fun K f f st fa fd∧kz st F=true
 gls:∀x v,T.gl x=some v→∃u xv,mg x=some u∧L2.RelV xv u∧∀ρ H,RD K mg ρ H v xv
 blt:∀x∈wF,mg x=none
theorem vd{st:Stmt}{F:Fn}(h:kz st F=true):argNames (L2.wU st)=some F.ps∧L2.tL F.N F.ps (L2.zm st)∧su (L2.zm st) F.N F.body (L2.xP st)=true:=by
 unfold kz at h
 split at h
 . simp only[Bool.and_eq_true,decide_eq_true_eq,Bool.not_eq_true',List.all_eq_true,Bool.or_eq_true]at h
   obtain⟨⟨⟨⟨⟨⟨⟨⟨h1,h2⟩,h3⟩,h4⟩,h5⟩,h6⟩,h7⟩,h8⟩,h9⟩:=h
   exact⟨h1,⟨h2,h3,h4,h5,h6,h7,h8⟩,h9⟩
 . cases h
theorem dX(top:Top T K mg):∀(n:Nat) (f:Str) (v:Nat) (F:Fn) (st:Stmt) (fa:Addr) (fd:FuncData),T.fn f v=some F→L2.Fun K f f st fa fd→kz st F=true→L2.u7 P w K mg base L2.CX0 n fa fd F.ps (spN T K mg n f v)
 |0,f,v,F,st,fa,fd,h,e2,e3=>by
  refine⟨fun vs H Q E q=>?_,fun A outer s H args us vs Q E _ _ _ _ q=>?_⟩
  . obtain⟨ρ,t,as,_,_,z⟩:=q;exact z.elim
  . obtain⟨ρ,t,as,_,_,z⟩:=q;exact z.elim
 |n+1,f,v,F,st,fa,fd,h,e2,e3=>by
  obtain⟨p1,p2,p3⟩:=vd e3
  have hcall:∀(vs:List Val) (s:Sto),zF T (n+1) f v vs s=run T (zF T n) F vs s:=fun vs s=>by simp only[zF,h]
  refine e2.ok p2 (fun vs H Q E q=>?_) fun cdv A outer s H vs Q E hr q=>?_
  . obtain⟨ρ,t,as,_,r,z⟩:=q
    rw[hcall]at z
    unfold run at z
    split at z
    . rename_i hl;rw[←r.length];exact hl
    . exact z.elim
  . obtain⟨ρ,t,as,h0,r,z⟩:=q
    rw[hcall]at z
    unfold run at z
    have hl:as.length=F.ps.length:=by
     by_cases hl:as.length=F.ps.length
     . exact hl
     . rw[if_neg hl]at z;exact z.elim
    rw[if_pos hl]at z
    have okf:OkF T n (L2.zm st) F.N (L2.oW L2.CX0 P w K mg base F.N f (L2.zm st) fa cdv A outer s H E).nox:=by
     refine⟨⟨rfl,hr,⟨rfl,p2.nd,fun x hx=>hx,fun x hx=>⟨hx,.inl rfl⟩,fun x hx=>hx,fun x hx=>hx⟩,fun g v' G hg=>?_,top.gls,top.blt,rfl⟩,rfl,?_⟩
     . obtain⟨st2,ga,gd,q1,q2,q3⟩:=top.defs g v' G hg
       obtain⟨r1,r2,r3⟩:=vd q3
       have nd:G.ps.Nodup:=by rw[←r2.pre];exact r2.nd.sublist (List.take_sublist _ _)
       exact⟨ga,gd,q1,q2.kp,q2.binds fun kV doc pm an cdv ct us hl=>qr r1 nd us hl,dX top n g v' G st2 ga gd hg q2 q3⟩
     . show (if (L2.zm st).kind.isAnnotationScope then ScopeKind.function else (L2.zm st).kind)=.function
       rw[p2.kind];rfl
    refine⟨_,jSs T n F.body (L2.zm st) F.N _ (L2.xP st) okf p3 (yH F.N as) t,ρ,h0,gL r,?_⟩
    show tf K mg ρ H (zO (zF T n) T.gl (yH F.N as) F.body t) _
    cases hx:zO (zF T n) T.gl (yH F.N as) F.body t with
    |ok fl s1=>
     rw[hx]at z
     cases fl with
     |nx e=>exact fun ρ1 H1 σ1 x1 hr1 er1=>pN h0 z x1 hr1 .none
     |rt v'=>exact fun ρ1 H1 x x1 hr1 r1=>pN h0 z x1 hr1 r1
     |bk e=>exact z.elim
     |ct e=>exact z.elim
    |exc _ _ _=>rw[hx]at z;exact z.elim
    |stuck=>rw[hx]at z;exact z.elim
end
end M
end
section
namespace M
open PySem Hd
noncomputable def m9(K:KF)(x:Str):Val→Prop
 |.int i=>∃t,PySem.W.nsIn K mainGlobals x=some (some (.int i t))
 |.str y=>∃t,PySem.W.nsIn K mainGlobals x=some (some (.str y t))
 |.ctup ns=>∃a,PySem.W.nsIn K mainGlobals x=some (some (.ref a))∧KT K a (ns.map L2.V.int)
 |_=>False
noncomputable def tbl(fnL:List ((Str × Nat) × Fn))(glL:List (Str × Val)):Tbl:=⟨fun f v=>fnL.lookup (f,v),fun x=>glL.lookup x⟩
noncomputable def my(fnL:List ((Str × Nat) × Fn))(D:List (Str × Stmt)):Bool:=fnL.all fun p=>match D.lookup p.1.1 with|some st=>kz st p.2|none=>false
theorem sN{α β:Type} [BEq α] [LawfulBEq α]:∀{l:List (α × β)} {a:α} {b:β},l.lookup a=some b→(a,b)∈l
 |[],_,_,h=>by cases h
 |(c,d)::l,a,b,h=>by
  rw[List.lookup_cons]at h
  cases hb:(a == c) with
  |true=>rw[hb]at h;cases h;rw[eq_of_beq hb];exact List.mem_cons_self
  |false=>rw[hb]at h;exact List.mem_cons_of_mem _ (sN h)
theorem ZN{K:KF}{mg:Str→Option Value}{h:Heap}{fnL:List ((Str × Nat) × Fn)}{glL:List (Str × Val)}{D:List (Str × Stmt)}(X:K.In h)(G:h.Ns mainGlobals mg)(hd:∀p∈D,qp K p.1 p.2)(hg:∀p∈glL,m9 K p.1 p.2)(hb:∀x∈wF,PySem.W.nsIn K mainGlobals x=some none)
 (hc:my fnL D=true):Top (tbl fnL glL) K mg:=by
 refine⟨fun f v F e=>?_,fun x v e=>?_,fun x hx=>PySem.W.mg_none_of X G (hb x hx)⟩
 . have hm:((f,v),F)∈fnL:=sN e
   unfold my at hc
   rw[List.all_eq_true]at hc
   have h1:=hc _ hm
   split at h1
   . rename_i st hs
     obtain⟨fa,fd,a,F'⟩:=hd _ (sN hs)
     exact⟨st,fa,fd,PySem.W.mg_of X G a,F',h1⟩
   . cases h1
 . have hm:(x,v)∈glL:=sN e
   have h1:=hg _ hm
   cases v with
   |int i=>
    obtain⟨t,a⟩:=h1
    exact⟨_,.int i,PySem.W.mg_of X G a,⟨t,rfl⟩,fun ρ H=>.int i⟩
   |str y=>
    obtain⟨t,a⟩:=h1
    exact⟨_,.str y,PySem.W.mg_of X G a,⟨t,rfl⟩,fun ρ H=>.str y⟩
   |ctup ns=>
    obtain⟨a,h2,h3⟩:=h1
    exact⟨_,.ref a,PySem.W.mg_of X G h2,rfl,fun ρ H=>.ctup h3⟩
   |_=>exact h1.elim
theorem int_mk{K:KF}{x:Str}{i:Int}{t:Tok}(a:PySem.W.nsIn K mainGlobals x=some (some (.int i t))):m9 K x (.int i):=⟨t,a⟩
theorem str_mk{K:KF}{x y:Str}{t:Tok}(a:PySem.W.nsIn K mainGlobals x=some (some (.str y t))):m9 K x (.str y):=⟨t,a⟩
theorem sF:∀{us:List Value} {ns:List Int},pH us=some ns→L2.Vals (ns.map L2.V.int) us
 |[],_,h=>by cases h;exact .nil
 |u::us,ns,h=>by
  cases u with
  |int i t=>
   simp only[pH,Option.map_eq_some_iff]at h
   obtain⟨ms,h1,rfl⟩:=h
   exact .cons ⟨t,rfl⟩ (sF h1)
  |_=>cases h
theorem gs{K:KF}{x:Str}{a:Addr}{od:Option Addr}{us:List Value}{n:Nat}{sl:Array (Option Value)}{ns:List Int}(h:PySem.W.nsIn K mainGlobals x=some (some (.ref a)))
 (l:K.lookup a=some ⟨.type "tuple",od,.seq us.toArray n,sl⟩) (hz:us.length≤1000) (hi:pH us=some ns):m9 K x (.ctup ns):=
 ⟨a,h,_,us.toArray,n,l,rfl,rfl,by rw[List.size_toArray,sizeLine_eq];omega,by simpa using sF hi⟩
noncomputable def Y1(K:KF):L2.Sp:=fun vs H Q _=>∃(a:Addr) (ns:List Int),vs=[.ref a]∧L2.SqL K H a (ns.map L2.V.int)∧ns.length≤63∧∀H',Q (.bl true) H'
theorem walk{l:PySem.W.OpenLaw}{q:Program}{loose:List Str}{XP:(Str→Option Value)→Heap→Prop}{YP:World→Heap→Prop}{d:DefRec}{K:Params→KF}{T:Tbl}{F:Fn}{n:Nat}{x:Str}(hn:l.most=some 63)(hdf:d.params.defaults=[])(hr:L2.yv n callerA)
 (hY:∀(w:World) (h:Heap),YP w h→(K w.params).In h) (hF:T.fn d.name 0=some F) (hx:F.ps=[x])
 (TOP:∀(w:World) (mg:Str→Option Value) (h:Heap),(K w.params).In h→h.Ns mainGlobals mg→Top T (K w.params) mg)
 (HL:∀ns:List Int,ns.length≤63→∃s',zF T n d.name 0 [.scr ns] []=.ok (.bool true) s') :
 PySem.W.WalkO q loose XP YP l.row.toRowW d [] (fun f vs=>PySem.call f vs):=by
 refine L2.dI (n:=63) (k:=n) (x:=x) (CX:=fun _=>L2.CX0) (sp:=fun w=>Y1 (K w.params)) hn (by decide) hdf hr hY (fun w mg fa h KX G hmg=>?_) (fun _ _ a ns hl _ hS=>⟨a,ns,rfl,hS,hl,fun _=>rfl⟩) fun _ _ _ _ _ z=>z
 have top:=TOP w mg h KX G
 obtain⟨st,fa',fd',e1,e2,e3⟩:=top.defs _ _ _ hF
 obtain⟨p1,p2,p3⟩:=vd e3
 have nd:F.ps.Nodup:=by rw[←p2.pre];exact p2.nd.sublist (List.take_sublist _ _)
 rw[e1]at hmg
 cases hmg
 refine⟨fd',fun s u=>?_,fun base kb nb=>?_⟩
 . obtain⟨oc,od,kV,doc,pm,an,cdv,ct,osl,e,_⟩:=e2.ex
   subst e
   refine .of_eq ?_
   have:=qr (x:=d.name) (qual:=d.name) (body:=L2.xP st) (sc:=L2.zm st) (kV:=kV) (doc:=doc) (pm:=pm) (cdv:=cdv) (ct:=ct) (an:=an) p1 nd [u] (by rw[hx];rfl)
   rw[hx]at this
   exact this
 . have f4:=dX (P:=l.prog) (w:=w) (base:=base) top n d.name 0 F st _ fd' hF e2 e3
   rw[hx]at f4
   refine f4.imp fun vs H Q E ⟨a,ns,e,hS,hl,hq⟩=>?_
   subst e
   obtain⟨s',hs⟩:=HL ns hl
   refine⟨⟨[],[]⟩,[],[.scr ns],⟨rfl,List.nodup_nil,fun i vs z=>by simp at z,fun a z=>by cases z⟩,.cons (.scr ?_) .nil,?_⟩
   . rcases hS with hS|hS
     . exact .inl ⟨⟨by simp,by simp⟩,hS⟩
     . exact .inr hS
   . rw[hs]
     intro ρ' x' H' _ _ r
     cases r
     exact hq H'
end M
end
section
namespace F
open PySem M
noncomputable def z5:Fn:=⟨["_law_script","_law_k"],["_law_script","_law_k"],false,(.cons (.ifS (.val (.cmp .lt (.var 1) (.blt .len false (.cons (.var 0) .nil)))) (.cons (.ret (.ix (.var 0) (.var 1))) .nil) .nil) (.cons (.ret (.lit (.int 0))) .nil))⟩
noncomputable def yd:Fn:=⟨["_law_pen_here","_law_many","_law_left","_law_found","_law_mixed"],["_law_pen_here","_law_many"],false,(.cons (.ifS (.val (.cmp .gt (.ix (.var 0) (.lit (.int 0))) (.lit (.int 0)))) (.cons (.asgT [2,3] (.blt .divmod false (.cons (.ix (.var 0) (.lit (.int 0))) (.cons (.var 1) .nil)))) (.cons (.setIx (.var 0) (.lit (.int 0)) (.var 2)) (.cons (.ret (.var 3)) .nil))) .nil) (.cons (.setIx (.var 0) (.lit (.int 1)) (.bin false .mod (.bin false .add (.bin false .mul (.ix (.var 0) (.lit (.int 1))) (.lit (.int 48271))) (.lit (.int 30269))) (.lit (.int 2147483629)))) (.cons (.asg 4 (.bin false .mod (.bin false .add (.bin false .add (.bin false .mul (.ix (.var 0) (.lit (.int 1))) (.ix (.var 0) (.lit (.int 1)))) (.bin false .mul (.lit (.int 40692)) (.ix (.var 0) (.lit (.int 1))))) (.lit (.int 7))) (.lit (.int 2147483587)))) (.cons (.ret (.bin false .mod (.bin false .fdiv (.var 4) (.lit (.int 64))) (.var 1))) .nil))))⟩
noncomputable def yM:Fn:=⟨["_law_cell","_law_left"],["_law_cell"],true,(.cons (.asg 1 (.blt .max false (.cons (.var 0) (.cons (.bin false .sub (.lit (.int 0)) (.var 0)) .nil)))) (.cons (.ret (.lst true (.cons (.bin false .mul (.var 1) (.blt .int false (.cons (.cmp .ge (.var 1) (.bin false .pow (.lit (.int 10)) (.lit (.int 18)))) .nil))) (.cons (.bin false .mod (.var 1) (.lit (.int 2147483629))) .nil)))) .nil))⟩
noncomputable def yt:Fn:=⟨["_law_draft_here","_law_place","_law_hue"],["_law_draft_here","_law_place","_law_hue"],false,(.cons (.ret (.bin false .add (.bin false .add (.sl false (.var 0) .no (.yes (.var 1)) .no) (.tup (.cons (.var 2) .nil))) (.sl false (.var 0) (.yes (.bin false .add (.var 1) (.lit (.int 1)))) .no .no))) .nil)⟩
noncomputable def yh:Fn:=⟨["things","least","most"],["things","least","most"],false,(.cons (.ret (.blt .all false (.cons (.comp false ["thing","least","most"] [none,some 1,some 2] (.call "is_whole" 0 (.cons (.var 0) (.cons (.var 1) (.cons (.var 2) .nil)))) (.nm 0) (.val (.var 0)) .nil) .nil))) .nil)⟩
noncomputable def yj:Fn:=⟨["hues","first","step","size"],["hues","first","step","size"],false,(.cons (.ret (.cmp .eq (.z7 .count false (.sl false (.var 0) (.yes (.var 1)) (.yes (.bin false .add (.var 1) (.bin false .mul (.var 2) (.var 3)))) (.yes (.var 2))) (.cons (.ix (.var 0) (.var 1)) .nil)) (.var 3))) .nil)⟩
noncomputable def xG:Fn:=⟨["thing","least","most"],["thing","least","most"],false,(.cons (.ret (.andE (.blt .isi false (.cons (.var 0) (.cons (.ty "int" "int") .nil))) (.cons (.not (.blt .isi false (.cons (.var 0) (.cons (.ty "bool" "bool") .nil)))) (.cons (.chain .le .le (.var 1) (.var 0) (.var 2)) .nil)))) .nil)⟩
noncomputable def y3:Fn:=⟨["length","first","size"],["length","first","size"],false,(.cons (.ret (.bin false .fdiv (.bin false .sub (.bin false .sub (.var 0) (.lit (.int 1))) (.var 1)) (.bin false .sub (.var 2) (.lit (.int 1))))) .nil)⟩
noncomputable def yV:Fn:=⟨["thing"],["thing"],false,(.cons (.expr (.call "need_whole" 0 (.cons (.var 0) (.cons (.lit (.int 0)) (.cons (.gl "MOST_PLACES") .nil))))) .nil)⟩
noncomputable def y4:Fn:=⟨["thing"],["thing"],false,(.cons (.expr (.call "need_whole" 0 (.cons (.var 0) (.cons (.gl "LEAST_SIZE") (.cons (.gl "MOST_SIZE") .nil))))) .nil)⟩
noncomputable def yl:Fn:=⟨["thing","least","most"],["thing","least","most"],false,(.cons (.ifS (.not (.val (.call "is_whole" 0 (.cons (.var 0) (.cons (.var 1) (.cons (.var 2) .nil)))))) (.cons (.raise (.lit .none)) .nil) .nil) .nil)⟩
end F
end
section
namespace M
open PySem L2
noncomputable def tH(n s f:Nat):List (Nat × Nat):=(List.range ((n-1-f)/(s-1))).map fun j=>(f,j+1)
noncomputable def y7(n s:Nat):List (Nat × Nat):=(List.range n).flatMap (tH n s)
theorem hV(n s f:Nat):(tH n s f).length=(n-1-f)/(s-1):=by unfold tH;rw[List.length_map,List.length_range]
theorem eX(n s f:Nat):(tH n s f).length≤n:=by
 rw[hV];have:=Nat.div_le_self (n-1-f) (s-1);omega
theorem mU(n s:Nat):∀i,((List.range i).flatMap (tH n s)).length≤i*n
 |0=>by simp
 |i+1=>by
  rw[List.range_succ,List.flatMap_append,List.length_append]
  have h1:=mU n s i
  have h2:=eX n s i
  have e:List.flatMap (tH n s) [i]=tH n s i:=by simp
  rw[e,Nat.succ_mul];omega
theorem lW{n s:Nat}{r:Nat × Nat}(hs:2≤s)(h:r∈y7 n s):0<r.2∧r.1+r.2*(s-1)<n:=by
 unfold y7 tH at h
 obtain⟨f,hf,h⟩:=List.mem_flatMap.mp h
 obtain⟨j,hj,rfl⟩:=List.mem_map.mp h
 rw[List.mem_range]at hf hj
 have:(j+1)*(s-1)≤n-1-f:=(Nat.le_div_iff_mul_le (by omega)).mp hj
 refine⟨Nat.succ_pos _,?_⟩
 show f+(j+1)*(s-1)<n
 omega
noncomputable def vB(ns:List Int)(f d s:Nat):Bool:=(List.range s).all fun k=>decide (ns[f+k*d]?=ns[f]?)
theorem gx{n f d s:Nat}(hd:0<d)(hs:1≤s)(h:f+d*(s-1)<n):yn n (some (f:Int)) (some ((f:Int)+(d:Int)*(s:Int))) (d:Int)=((f:Int),s):=by
 have hmul:d*s=d*(s-1)+d:=by rw[←Nat.mul_succ];congr 1;omega
 have e0:(d:Int)*(s:Int)=((d*s:Nat):Int):=(Int.natCast_mul d s).symm
 have e1:Builtin.Slice.sliceAdjust (some (f:Int)) (some ((f:Int)+(d:Int)*(s:Int))) (d:Int) (n:Int)=((f:Int),((min (f+d*s) n:Nat):Int)):=by
  rw[e0]
  unfold Builtin.Slice.sliceAdjust
  simp only[if_neg (show ¬(d:Int)<0 by omega),if_neg (show ¬(f:Int)<0 by omega),if_neg (show ¬((f:Int)+((d*s:Nat):Int))<0 by omega)]
  refine Prod.ext ?_ ?_
  . show min (f:Int) (n:Int)=f;omega
  . show min ((f:Int)+((d*s:Nat):Int)) (n:Int)=_;omega
 unfold yn
 rw[e1]
 refine Prod.ext rfl ?_
 show Builtin.Slice.slicePlaces (f:Int) ((min (f+d*s) n:Nat):Int) (d:Int)=s
 unfold Builtin.Slice.slicePlaces
 rw[if_pos (by omega),if_pos (by omega)]
 have e2:(((min (f+d*s) n:Nat):Int)-(f:Int)-1)=((min (f+d*s) n-f-1:Nat):Int):=by omega
 rw[e2,←Int.natCast_ediv]
 have e3:(min (f+d*s) n-f-1)/d=s-1:=by
  refine Nat.div_eq_of_lt_le ?_ ?_
  . rw[Nat.mul_comm];omega
  . have:(s-1+1)*d=d*s:=by rw[show s-1+1=s by omega,Nat.mul_comm]
    omega
 rw[e3];omega
theorem jP{α β:Type}{f:α→Option β}{g:α→β}:∀{l:List α},(∀x∈l,f x=some (g x))→l.filterMap f=l.map g
 |[],_=>rfl
 |x::l,h=>by rw[List.filterMap_cons,h x (List.mem_cons_self ..),List.map_cons,jP fun y hy=>h y (List.mem_cons_of_mem _ hy)]
theorem ie{ns:List Int}{f d s:Nat}(h:f+d*(s-1)<ns.length):zo ns (f:Int) (d:Int) s=(List.range s).map fun k=>ns.getD (f+k*d) 0:=by
 unfold zo
 refine jP fun k hk=>?_
 rw[List.mem_range]at hk
 have h1:k*d≤d*(s-1):=by rw[Nat.mul_comm];exact Nat.mul_le_mul_left d (by omega)
 have e:((f:Int)+(k:Int)*(d:Int)).toNat=f+k*d:=by
  rw[show (k:Int)*(d:Int)=((k*d:Nat):Int) from (Int.natCast_mul k d).symm];omega
 have hlt:f+k*d<ns.length:=by omega
 rw[e,List.getElem?_eq_getElem hlt]
 rw[List.getD_eq_getElem?_getD,List.getElem?_eq_getElem hlt];rfl
theorem fg{ns:List Int}{f d s:Nat}(h:f+d*(s-1)<ns.length):vB ns f d s=true↔∀x∈(List.range s).map (fun k=>ns.getD (f+k*d) 0),x=ns.getD f 0:=by
 unfold vB
 rw[List.all_eq_true]
 constructor
 . intro h1 x hx
   obtain⟨k,hk,rfl⟩:=List.mem_map.mp hx
   have:=of_decide_eq_true (h1 k hk)
   rw[List.getD_eq_getElem?_getD,this,←List.getD_eq_getElem?_getD]
 . intro h1 k hk
   have:=h1 _ (List.mem_map.mpr ⟨k,hk,rfl⟩)
   rw[List.mem_range]at hk
   have h2:k*d≤d*(s-1):=by rw[Nat.mul_comm];exact Nat.mul_le_mul_left d (by omega)
   have hlt:f+k*d<ns.length:=by omega
   have hf:f<ns.length:=by omega
   rw[List.getD_eq_getElem?_getD,List.getD_eq_getElem?_getD,List.getElem?_eq_getElem hlt,List.getElem?_eq_getElem hf]at this
   refine decide_eq_true ?_
   rw[List.getElem?_eq_getElem hlt,List.getElem?_eq_getElem hf]
   exact congrArg some this
noncomputable def XS(z p:Nat)(r:Nat × Nat):Bool:=(List.range z).any fun k=>decide (r.1+k*r.2=p)
noncomputable def atP(n z p:Nat):List (Nat × Nat):=(y7 n z).filter (XS z p)
theorem sO{n z:Nat}(hz:2≤z){f d:Nat}:(f,d)∈y7 n z↔0<d∧f+d*(z-1)<n:=by
 constructor
 . exact fun h=>lW hz h
 . rintro ⟨h1,h2⟩
   unfold y7 tH
   refine List.mem_flatMap.mpr ⟨f,List.mem_range.mpr (by omega),List.mem_map.mpr ⟨d-1,List.mem_range.mpr ?_,?_⟩⟩
   . have:d≤(n-1-f)/(z-1):=(Nat.le_div_iff_mul_le (by omega)).mpr (by omega)
     omega
   . show (f,d-1+1)=(f,d)
     rw[show d-1+1=d by omega]
noncomputable def putL(ns:List Int)(p:Nat)(h:Int):List Int:=ns.take p++h::ns.drop (p+1)
theorem iw{ns:List Int}{p:Nat}{h:Int}(hp:p<ns.length):(putL ns p h).length=ns.length:=by
 unfold putL;rw[List.length_append,List.length_cons,List.length_take,List.length_drop];omega
noncomputable def XN(ns:List Int)(z p:Nat)(h:Int):List (Nat × Nat):=(atP ns.length z p).filter fun r=>vB (putL ns p h) r.1 r.2 z
noncomputable def Yz(zs:List Int)(h:Nat):Nat:=(zs.getD h 0).toNat
noncomputable def YM(zs ns:List Int)(p:Nat):List Nat:=(List.range zs.length).filter fun h=>(XN ns (Yz zs h) p h).isEmpty
noncomputable def yr(f d z:Nat):List Int:=(List.range z).map fun k=>((f+k*d:Nat):Int)
end M
end
section
namespace M
open PySem
def Out.post{α:Type}(o:Out α)(P:α→Sto→Prop):Prop:=∃a s,o=.ok a s∧P a s
theorem zC{α:Type}{a:α}{s:Sto}{P:α→Sto→Prop}:(Out.ok a s).post P↔P a s:=
 ⟨fun⟨_,_,e,h⟩=>(by cases e;exact h),fun h=>⟨a,s,rfl,h⟩⟩
theorem zG{α β:Type}{o:Out α}{f:α→Sto→Out β}{P:β→Sto→Prop}:(o.bind f).post P↔o.post fun a s=>(f a s).post P:=by
 cases o with
 |ok a s=>exact(zC (P:=fun a s=>(f a s).post P)).symm
 |exc c as s=>exact⟨fun⟨_,_,e,_⟩=>(by cases e),fun⟨_,_,e,_⟩=>(by cases e)⟩
 |stuck=>exact⟨fun⟨_,_,e,_⟩=>(by cases e),fun⟨_,_,e,_⟩=>(by cases e)⟩
theorem zE{α:Type}{o:Out α}{P Q:α→Sto→Prop}(h:o.post P)(i:∀a s,P a s→Q a s):o.post Q:=by
 obtain⟨a,s,e,h⟩:=h
 exact⟨a,s,e,i a s h⟩
theorem zk{α:Type}{o:Out α}{P Q:α→Sto→Prop}(h:∀a s,P a s↔Q a s):o.post P↔o.post Q:=⟨fun k=>zE k fun a s=>(h a s).mp,fun k=>zE k fun a s=>(h a s).mpr⟩
theorem zV{α:Type}{P:α→Sto→Prop}:(Out.stuck:Out α).post P↔False:=⟨fun⟨_,_,e,_⟩=>(by cases e),False.elim⟩
theorem xB{α:Type}{c:Prop} [Decidable c] {a b:Out α}{P:α→Sto→Prop}:(if c then a else b).post P↔if c then a.post P else b.post P:=by split<;>exact Iff.rfl
theorem post_eq{α:Type}{o:Out α}{a:α}{s:Sto}:o=.ok a s↔o.post fun x t=>x=a∧t=s:=⟨fun h=>⟨a,s,h,rfl,rfl⟩,fun⟨_,_,h,e1,e2⟩=>(by rw[h,e1,e2])⟩
section
variable {Φ:Calls}{G:Str→Option Val}{env:Env}{s:Sto}
theorem YT{v:Val}{P:Val→Sto→Prop}:(evE Φ G env (.lit v) s).post P↔P v s:=zC
theorem md{i:Nat}{P:Val→Sto→Prop}:(evE Φ G env (.var i) s).post P↔∃v,env[i]?=some (some v)∧P v s:=by
 show (match env[i]? with|some (some v)=>Out.ok v s|_=>.stuck).post P↔_
 split
 . rename_i v e
   refine zC.trans ⟨fun h=>⟨_,e,h⟩,fun⟨u,h1,h2⟩=>?_⟩
   rw[e]at h1;cases h1;exact h2
 . rename_i hn
   exact⟨fun⟨_,_,e,_⟩=>(by cases e),fun⟨u,h1,h2⟩=>absurd h1 (hn u)⟩
theorem YR{x:Str}{P:Val→Sto→Prop}:(evE Φ G env (.gl x) s).post P↔∃v,G x=some v∧P v s:=by
 show (match G x with|some v=>Out.ok v s|Option.none=>.stuck).post P↔_
 split
 . rename_i v e
   refine zC.trans ⟨fun h=>⟨_,e,h⟩,fun⟨u,h1,h2⟩=>?_⟩
   rw[e]at h1;cases h1;exact h2
 . rename_i e
   exact⟨fun⟨_,_,e,_⟩=>(by cases e),fun⟨u,h1,h2⟩=>(by rw[e]at h1;cases h1)⟩
theorem Xa{x:Str}{n:String}{P:Val→Sto→Prop}:(evE Φ G env (.ty x n) s).post P↔P (.ty n) s:=zC
theorem iG{m:Bool}{op:Bop}{a b:Ex}{P:Val→Sto→Prop}:(evE Φ G env (.bin m op a b) s).post P↔(evE Φ G env a s).post fun x s1=>(evE Φ G env b s1).post fun y s2=>(binOp m op x y s2).post P:=by
 show (Out.bind _ _).post P↔_
 simp only[zG]
theorem YU{a:Ex}{P:Val→Sto→Prop}:(evE Φ G env (.neg a) s).post P↔(evE Φ G env a s).post fun x s1=>∃i,x=.int i∧P (.int (-i)) s1:=by
 show (Out.bind _ _).post P↔_
 simp only[zG]
 exact zk fun x s1=>by cases x<;>simp[zC,zV]
theorem YV{a:Ex}{P:Val→Sto→Prop}:(evE Φ G env (.not a) s).post P↔(evE Φ G env a s).post fun x s1=>∃b,x=.bool b∧P (.bool !b) s1:=by
 show (Out.bind _ _).post P↔_
 simp only[zG]
 exact zk fun x s1=>by cases x<;>simp[zC,zV]
theorem mZ{op:Cop}{a b:Ex}{P:Val→Sto→Prop}:(evE Φ G env (.cmp op a b) s).post P↔(evE Φ G env a s).post fun x s1=>(evE Φ G env b s1).post fun y s2=>(zR op x y s2).post P:=by
 show (Out.bind _ _).post P↔_
 simp only[zG]
theorem fu{op op':Cop}{a b c:Ex}{P:Val→Sto→Prop}:(evE Φ G env (.chain op op' a b c) s).post P↔(evE Φ G env a s).post fun x s1=>(evE Φ G env b s1).post fun y s2=>(zR op x y s2).post fun r s3=>∃t,r=.bool t∧if t=true then (evE Φ G env c s3).post fun z s4=>(zR op' y z s4).post P else P (.bool false) s3:=by
 show (Out.bind _ _).post P↔_
 simp only[zG]
 refine zk fun x s1=>zk fun y s2=>zk fun r s3=>?_
 cases r with
 |bool t=>cases t<;>simp[zC,zV,zG]
 |_=>simp[zV]
theorem YN{a b:Ex}{es:Exs}{P:Val→Sto→Prop}:(evE Φ G env (.andE a (.cons b es)) s).post P↔(evE Φ G env a s).post fun x s1=>∃t,x=.bool t∧if t=true then (uv Φ G env (.cons b es) s1).post P else P (.bool false) s1:=by
 show (Out.bind _ _).post P↔_
 simp only[zG]
 refine zk fun x s1=>?_
 cases x with
 |bool t=>cases t<;>simp[zC,zV]
 |_=>simp[zV]
theorem aP{a:Ex}{P:Val→Sto→Prop}:(uv Φ G env (.cons a .nil) s).post P↔(evE Φ G env a s).post P:=Iff.rfl
theorem aQ{a b:Ex}{es:Exs}{P:Val→Sto→Prop}:(uv Φ G env (.cons a (.cons b es)) s).post P↔(evE Φ G env a s).post fun x s1=>∃t,x=.bool t∧if t=true then (uv Φ G env (.cons b es) s1).post P else P (.bool false) s1:=by
 show ((evE Φ G env a s).bind fun x s1=>match x with
  |.bool true=>uv Φ G env (.cons b es) s1
  |.bool false=>.ok (.bool false) s1
  |_=>.stuck).post P↔_
 simp only[zG]
 refine zk fun x s1=>?_
 cases x with
 |bool t=>cases t<;>simp[zC,zV]
 |_=>simp[zV]
theorem XY{a b:Ex}{es:Exs}{P:Val→Sto→Prop}:(evE Φ G env (.orE a (.cons b es)) s).post P↔(evE Φ G env a s).post fun x s1=>∃t,truth s1 x=some t∧if t=true then P x s1 else (pE Φ G env (.cons b es) s1).post P:=by
 show (Out.bind _ _).post P↔_
 simp only[zG]
 refine zk fun x s1=>?_
 cases truth s1 x with
 |some t=>cases t<;>simp[zC,zV]
 |none=>simp[zV]
theorem YW{a:Ex}{P:Val→Sto→Prop}:(pE Φ G env (.cons a .nil) s).post P↔(evE Φ G env a s).post P:=Iff.rfl
theorem YX{a b:Ex}{es:Exs}{P:Val→Sto→Prop}:(pE Φ G env (.cons a (.cons b es)) s).post P↔(evE Φ G env a s).post fun x s1=>∃t,truth s1 x=some t∧if t=true then P x s1 else (pE Φ G env (.cons b es) s1).post P:=by
 show ((evE Φ G env a s).bind fun x s1=>match truth s1 x with
  |some false=>pE Φ G env (.cons b es) s1
  |some true=>.ok x s1
  |Option.none=>.stuck).post P↔_
 simp only[zG]
 refine zk fun x s1=>?_
 cases truth s1 x with
 |some t=>cases t<;>simp[zC,zV]
 |none=>simp[zV]
theorem YS{c:Cn}{a b:Ex}{P:Val→Sto→Prop}:(evE Φ G env (.ife c a b) s).post P↔(evT Φ G env c s).post fun t s1=>if t=true then (evE Φ G env a s1).post P else (evE Φ G env b s1).post P:=by
 show (Out.bind _ _).post P↔_
 simp only[zG,xB]
theorem YY{es:Exs}{P:Val→Sto→Prop}:(evE Φ G env (.tup es) s).post P↔(ye Φ G env es s).post fun vs s1=>(if vs.length≤zN then Out.ok (Val.tup vs) s1 else .stuck).post P:=by
 show (Out.bind _ _).post P↔_
 simp only[zG]
theorem di{m:Bool}{es:Exs}{P:Val→Sto→Prop}:(evE Φ G env (.lst m es) s).post P↔(ye Φ G env es s).post fun vs s1=>(if vs.length≤zN then newList m vs s1 else .stuck).post P:=by
 show (Out.bind _ _).post P↔_
 simp only[zG]
theorem qg{f:Str}{v:Nat}{es:Exs}{P:Val→Sto→Prop}:(evE Φ G env (.call f v es) s).post P↔(ye Φ G env es s).post fun vs s1=>(Φ f v vs s1).post P:=by
 show (Out.bind _ _).post P↔_
 simp only[zG]
theorem iH{f:Bf}{m:Bool}{es:Exs}{P:Val→Sto→Prop}:(evE Φ G env (.blt f m es) s).post P↔(ye Φ G env es s).post fun vs s1=>(blt f m vs s1).post P:=by
 show (Out.bind _ _).post P↔_
 simp only[zG]
theorem iM{f:Mf}{m:Bool}{o:Ex}{es:Exs}{P:Val→Sto→Prop}:(evE Φ G env (.z7 f m o es) s).post P↔(evE Φ G env o s).post fun x s1=>(ye Φ G env es s1).post fun vs s2=>(z7 f x vs s2).post P:=by
 show (Out.bind _ _).post P↔_
 simp only[zG]
theorem iL{m:Bool}{a b c:Ex}{P:Val→Sto→Prop}:(evE Φ G env (.listRange m a b c) s).post P↔(evE Φ G env a s).post fun x s1=>(evE Φ G env b s1).post fun y s2=>(evE Φ G env c s2).post fun z s3=>(YD m x y z s3).post P:=by
 show (Out.bind _ _).post P↔_
 simp only[zG]
theorem aU{a b:Ex}{P:Val→Sto→Prop}:(evE Φ G env (.ix a b) s).post P↔(evE Φ G env a s).post fun x s1=>(evE Φ G env b s1).post fun y s2=>(x9 x y s2).post P:=by
 show (Out.bind _ _).post P↔_
 simp only[zG]
theorem XZ{m:Bool}{a:Ex}{lo hi st:OEx}{P:Val→Sto→Prop}:(evE Φ G env (.sl m a lo hi st) s).post P↔(evE Φ G env a s).post fun x s1=>(evO Φ G env lo s1).post fun l s2=>(evO Φ G env hi s2).post fun h s3=>(evO Φ G env st s3).post fun c s4=>(ug m x l h c s4).post P:=by
 show (Out.bind _ _).post P↔_
 simp only[zG]
theorem aV{P:Option Int→Sto→Prop}:(evO Φ G env .no s).post P↔P none s:=zC
theorem aW{e:Ex}{P:Option Int→Sto→Prop}:(evO Φ G env (.yes e) s).post P↔(evE Φ G env e s).post fun v s1=>∃i,v=.int i∧P (some i) s1:=by
 show (Out.bind _ _).post P↔_
 simp only[zG]
 exact zk fun x s1=>by cases x<;>simp[zC,zV]
theorem uy{P:List Val→Sto→Prop}:(ye Φ G env .nil s).post P↔P [] s:=zC
theorem wa{e:Ex}{es:Exs}{P:List Val→Sto→Prop}:(ye Φ G env (.cons e es) s).post P↔(evE Φ G env e s).post fun v s1=>(ye Φ G env es s1).post fun vs s2=>P (v::vs) s2:=by
 show (Out.bind _ _).post P↔_
 simp only[zG,zC]
theorem pf{e:Ex}{P:Bool→Sto→Prop}:(evT Φ G env (.val e) s).post P↔(evE Φ G env e s).post fun v s1=>∃b,truth s1 v=some b∧P b s1:=by
 show (Out.bind (evE Φ G env e s) _).post P↔_
 simp only[zG]
 refine⟨fun h=>zE h fun v s1 h=>?_,fun h=>zE h fun v s1 h=>?_⟩
 . split at h
   . rename_i b e;exact⟨b,e,zC.mp h⟩
   . obtain⟨_,_,e,_⟩:=h;cases e
 . obtain⟨b,e,h⟩:=h
   rw[e];exact zC.mpr h
theorem aa{c:Cn}{P:Bool→Sto→Prop}:(evT Φ G env (.not c) s).post P↔(evT Φ G env c s).post fun b s1=>P (!b) s1:=by
 show (Out.bind _ _).post P↔_
 simp only[zG,zC]
theorem aZ{c:Cn}{cs:Cns}{P:Bool→Sto→Prop}:(evT Φ G env (.and c cs) s).post P↔(evT Φ G env c s).post fun b s1=>if b=true then (yo Φ G env cs s1).post P else P false s1:=by
 show (Out.bind _ _).post P↔_
 simp only[zG,xB,zC]
theorem dk{c:Cn}{cs:Cns}{P:Bool→Sto→Prop}:(evT Φ G env (.or c cs) s).post P↔(evT Φ G env c s).post fun b s1=>if b=true then P true s1 else (tD Φ G env cs s1).post P:=by
 show (Out.bind _ _).post P↔_
 simp only[zG,xB,zC]
theorem xZ{P:Bool→Sto→Prop}:(yo Φ G env .nil s).post P↔P true s:=zC
theorem fz{P:Bool→Sto→Prop}:(tD Φ G env .nil s).post P↔P false s:=zC
theorem pe{c:Cn}{cs:Cns}{P:Bool→Sto→Prop}:(yo Φ G env (.cons c cs) s).post P↔(evT Φ G env c s).post fun b s1=>if b=true then (yo Φ G env cs s1).post P else P false s1:=by
 show (Out.bind _ _).post P↔_
 simp only[zG,xB,zC]
theorem iP{c:Cn}{cs:Cns}{P:Bool→Sto→Prop}:(tD Φ G env (.cons c cs) s).post P↔(evT Φ G env c s).post fun b s1=>if b=true then P true s1 else (tD Φ G env cs s1).post P:=by
 show (Out.bind _ _).post P↔_
 simp only[zG,xB,zC]
theorem iK{e:Ex}{P:Src→Sto→Prop}:(yQ Φ G env (.val e) s).post P↔(evE Φ G env e s).post fun v s1=>∃r,srcOf s1 v=some r∧P r s1:=by
 show (Out.bind _ _).post P↔_
 simp only[zG]
 refine⟨fun h=>zE h fun v s1 h=>?_,fun h=>zE h fun v s1 h=>?_⟩
 . split at h
   . rename_i b e;exact⟨b,e,zC.mp h⟩
   . obtain⟨_,_,e,_⟩:=h;cases e
 . obtain⟨b,e,h⟩:=h
   rw[e];exact zC.mpr h
theorem pZ{a:Ex}{P:Src→Sto→Prop}:(yQ Φ G env (.range1 a) s).post P↔(evE Φ G env a s).post fun x s1=>∃j,x=.int j∧(-(2 ^ 62)≤j∧j≤zN)∧P ⟨yp 0 j.toNat,Option.none⟩ s1:=by
 show (Out.bind _ _).post P↔_
 simp only[zG]
 refine⟨fun h=>zE h fun v s1 h=>?_,fun h=>zE h fun v s1 h=>?_⟩
 . split at h
   . rw[xB]at h
     split at h
     . rename_i j z;exact⟨_,rfl,z,zC.mp h⟩
     . obtain⟨_,_,e,_⟩:=h;cases e
   . obtain⟨_,_,e,_⟩:=h;cases e
 . obtain⟨j,rfl,z,h⟩:=h
   simp only[if_pos z]
   exact zC.mpr h
theorem pd{a b:Ex}{P:Src→Sto→Prop}:(yQ Φ G env (.range2 a b) s).post P↔(evE Φ G env a s).post fun x s1=>(evE Φ G env b s1).post fun y s2=>∃i j,x=.int i∧y=.int j∧(-(2 ^ 62)≤i∧i<2 ^ 62∧-(2 ^ 62)≤j∧j<2 ^ 62∧j-i≤zN)∧P ⟨yp i (j-i).toNat,Option.none⟩ s2:=by
 show (Out.bind _ _).post P↔_
 simp only[zG]
 refine⟨fun h=>zE h fun v s1 h=>zE h fun w s2 h=>?_,fun h=>zE h fun v s1 h=>zE h fun w s2 h=>?_⟩
 . split at h
   . rw[xB]at h
     split at h
     . rename_i z;exact⟨_,_,rfl,rfl,z,zC.mp h⟩
     . obtain⟨_,_,e,_⟩:=h;cases e
   . obtain⟨_,_,e,_⟩:=h;cases e
 . obtain⟨i,j,rfl,rfl,z,h⟩:=h
   simp only[if_pos z]
   exact zC.mpr h
theorem aT{a:Ex}{P:Src→Sto→Prop}:(yQ Φ G env (.enum a) s).post P↔(evE Φ G env a s).post fun x s1=>∃vs,(x=.tup vs∨x=.lst vs)∧P ⟨yq 0 vs,Option.none⟩ s1:=by
 show (Out.bind _ _).post P↔_
 simp only[zG]
 refine⟨fun h=>zE h fun v s1 h=>?_,fun h=>zE h fun v s1 h=>?_⟩
 . split at h
   . exact⟨_,.inl rfl,zC.mp h⟩
   . exact⟨_,.inr rfl,zC.mp h⟩
   . obtain⟨_,_,e,_⟩:=h;cases e
 . obtain⟨j,rfl|rfl,h⟩:=h<;>exact zC.mpr h
theorem nF{e:Ex}{P:Fl→Sto→Prop}:(exS Φ G env (.expr e) s).post P↔(evE Φ G env e s).post fun _ s1=>P (.nx env) s1:=by
 show (Out.bind _ _).post P↔_
 simp only[zG,zC]
theorem sV{e:Ex}{P:Fl→Sto→Prop}:(exS Φ G env (.ret e) s).post P↔(evE Φ G env e s).post fun v s1=>P (.rt v) s1:=by
 show (Out.bind _ _).post P↔_
 simp only[zG,zC]
theorem aY{P:Fl→Sto→Prop}:(exS Φ G env .retN s).post P↔P (.rt .none) s:=zC
theorem iF{i:Nat}{e:Ex}{P:Fl→Sto→Prop}:(exS Φ G env (.asg i e) s).post P↔(evE Φ G env e s).post fun v s1=>P (.nx (env.set i (some v))) s1:=by
 show (Out.bind _ _).post P↔_
 simp only[zG,zC]
theorem aR{is:List Nat}{e:Ex}{P:Fl→Sto→Prop}:(exS Φ G env (.asgT is e) s).post P↔(evE Φ G env e s).post fun v s1=>∃env',yP (.nms is) v env=some env'∧P (.nx env') s1:=by
 show (Out.bind _ _).post P↔_
 simp only[zG]
 refine⟨fun h=>zE h fun v s1 h=>?_,fun h=>zE h fun v s1 h=>?_⟩
 . split at h
   . rename_i b e;exact⟨b,e,zC.mp h⟩
   . obtain⟨_,_,e,_⟩:=h;cases e
 . obtain⟨b,e,h⟩:=h
   rw[e];exact zC.mpr h
theorem dj{is:List Nat}{es:Exs}{P:Fl→Sto→Prop}:(exS Φ G env (.par is es) s).post P↔(ye Φ G env es s).post fun vs s1=>(if vs.length=is.length then Out.ok (Fl.nx ((is.zip vs).foldl (fun e p=>e.set p.1 (some p.2)) env)) s1 else .stuck).post P:=by
 show (Out.bind _ _).post P↔_
 simp only[zG]
theorem fw{o i e:Ex}{P:Fl→Sto→Prop}:(exS Φ G env (.setIx o i e) s).post P↔(evE Φ G env e s).post fun v s1=>(evE Φ G env o s1).post fun x s2=>(evE Φ G env i s2).post fun y s3=>∃r k vs j,x=.ref r∧y=.int k∧s3[r]?=some (.lst vs)∧L2.ixN vs.length k=some j∧P (.nx env) (upd s3 r (vs.set j v)):=by
 show (Out.bind _ _).post P↔_
 simp only[zG]
 refine zk fun v s1=>zk fun x s2=>zk fun y s3=>⟨fun h=>?_,fun⟨r,k,vs,j,h1,h2,h3,h4,h5⟩=>?_⟩
 . split at h
   . split at h
     . rename_i e3
       split at h
       . rename_i e4;exact⟨_,_,_,_,rfl,rfl,e3,e4,zC.mp h⟩
       . exact(zV.mp h).elim
     . exact(zV.mp h).elim
   . exact(zV.mp h).elim
 . subst h1;subst h2
   simp only[h3,h4]
   exact zC.mpr h5
theorem iJ{c:Cn}{a b:Sms}{P:Fl→Sto→Prop}:(exS Φ G env (.ifS c a b) s).post P↔(evT Φ G env c s).post fun t s1=>if t=true then (zO Φ G env a s1).post P else (zO Φ G env b s1).post P:=by
 show (Out.bind _ _).post P↔_
 simp only[zG,xB]
theorem aX{P:Fl→Sto→Prop}:(exS Φ G env .pass s).post P↔P (.nx env) s:=zC
theorem YO{P:Fl→Sto→Prop}:(exS Φ G env .brk s).post P↔P (.bk env) s:=zC
theorem aS{P:Fl→Sto→Prop}:(exS Φ G env .cont s).post P↔P (.ct env) s:=zC
theorem nG{P:Fl→Sto→Prop}:(zO Φ G env .nil s).post P↔P (.nx env) s:=zC
noncomputable def u5(Φ:Calls)(G:Str→Option Val)(cs:Sms)(P:Fl→Sto→Prop):Fl→Sto→Prop
 |.nx e,s1=>(zO Φ G e cs s1).post P
 |fl,s1=>P fl s1
theorem zX{c:Sm}{cs:Sms}{P:Fl→Sto→Prop}:(zO Φ G env (.cons c cs) s).post P↔(exS Φ G env c s).post (u5 Φ G cs P):=by
 show (Out.bind _ _).post P↔_
 simp only[zG]
 have:∀fl s1,(match fl with|.nx e=>zO Φ G e cs s1|fl=>Out.ok fl s1:Out Fl).post P↔u5 Φ G cs P fl s1:=fun fl s1=>by
  cases fl with
  |nx e=>exact Iff.rfl
  |_=>exact zC
 exact⟨fun h=>zE h fun fl s1 h=>(this fl s1).mp h,fun h=>zE h fun fl s1 h=>(this fl s1).mpr h⟩
theorem dE{cs:Sms}{P:Fl→Sto→Prop}{e:Env}:u5 Φ G cs P (.nx e) s↔(zO Φ G e cs s).post P:=Iff.rfl
theorem dF{cs:Sms}{P:Fl→Sto→Prop}{v:Val}:u5 Φ G cs P (.rt v) s↔P (.rt v) s:=Iff.rfl
theorem dC{cs:Sms}{P:Fl→Sto→Prop}{v:Env}:u5 Φ G cs P (.bk v) s↔P (.bk v) s:=Iff.rfl
theorem dD{cs:Sms}{P:Fl→Sto→Prop}{v:Env}:u5 Φ G cs P (.ct v) s↔P (.ct v) s:=Iff.rfl
theorem wY{I:Env→Prop}{g:Val→List Val}{r:Src}{t:Tgt}{body:Env→Sto→List Val→Out (List Val × Env)}(hr:r.ok s=true):∀(xs:List Val),(∀x∈xs,∀e acc,I e→∃e1 e2,yP t x e=some e1∧body e1 s acc=.ok (acc++g x,e2) s∧I e2)→∀e acc,I e→∃e',I e'∧yR r t body xs e s acc=.ok (acc++xs.flatMap g,e') s
 |[],_,e,acc,h0=>⟨e,h0,by simp[yR,hr]⟩
 |x::xs,h,e,acc,h0=>by
  obtain⟨e1,e2,h1,h2,h3⟩:=h x (.head _) e acc h0
  obtain⟨e',h4,h5⟩:=wY hr xs (fun y hy=>h y (.tail _ hy)) e2 (acc++g x) h3
  refine⟨e',h4,?_⟩
  simp only[yR,hr,if_true,h1,h2,zK,h5,List.flatMap_cons,List.append_assoc]
theorem iI{m:Bool}{N:List Str}{fr:List (Option Nat)}{elt:Ex}{t:Tgt}{it:Itb}{ifs:Cns}{P:Val→Sto→Prop}(I:Env→Prop)(g:Val→List Val)
 (h:(yQ Φ G env it s).post fun r s1=>r.ok s1=true∧I (zZ fr env)∧(∀x∈r.xs,∀e,I e→∃e1,yP t x e=some e1∧I e1∧(yo Φ G e1 ifs s1).post fun b s2=>s2=s1∧if b=true then (evE Φ G e1 elt s1).post (fun v s2=>s2=s1∧g x=[v]) else g x=[])∧(newList m (r.xs.flatMap g) s1).post P) :
 (evE Φ G env (.comp m N fr elt t it ifs) s).post P:=by
 obtain⟨r,s1,ei,h1,h2,h3,h4⟩:=h
 obtain⟨e',_,h5⟩:=wY (I:=I) (g:=g) (body:=fun e s' acc=>(yo Φ G e ifs s').bind fun b s2=>if b then (evE Φ G e elt s2).bind fun v s3=>.ok (acc++[v],e) s3 else .ok (acc,e) s2) h1 r.xs (fun x hx e acc he=>by
  obtain⟨e1,k1,k2,b,s2,k3,rfl,k4⟩:=h3 x hx e he
  refine⟨e1,e1,k1,?_,k2⟩
  rw[k3,zK]
  cases b with
  |true=>
   rw[if_pos rfl]at k4 ⊢
   obtain⟨v,s3,kw,rfl,kv⟩:=k4
   rw[kw,zK,kv]
  |false=>
   rw[if_neg Bool.false_ne_true]at k4 ⊢
   rw[k4,List.append_nil]) (zZ fr env) [] h2
 show (Out.bind (yQ Φ G env it s) _).post P
 rw[ei,zK]
 rw[h5,zK]
 exact h4
def Small(l:List Val):Prop:=l.length≤zN
theorem fv{m:Bool}{N:List Str}{fr:List (Option Nat)}{elt:Ex}{t t2:Tgt}{it it2:Itb}{ifs ifs2:Cns}{P:Val→Sto→Prop}(I:Env→Prop)(g:Val→List Val)(J:Val→Env→Prop)(g2:Val→Val→List Val)
 (h:(yQ Φ G env it s).post fun r s1=>r.ok s1=true∧I (zZ fr env)∧(∀x∈r.xs,∀e,I e→∃e1,yP t x e=some e1∧(yo Φ G e1 ifs s1).post fun b s2=>s2=s1∧if b=true then (yQ Φ G e1 it2 s1).post (fun r2 s2=>s2=s1∧r2.ok s1=true∧J x e1∧(∀e,J x e→I e)∧g x=r2.xs.flatMap (g2 x)∧∀y∈r2.xs,∀e,J x e→∃e2,yP t2 y e=some e2∧J x e2∧(yo Φ G e2 ifs2 s1).post fun b s2=>s2=s1∧if b=true then (evE Φ G e2 elt s1).post (fun v s2=>s2=s1∧g2 x y=[v]) else g2 x y=[]) else g x=[]∧I e1)∧Small (r.xs.flatMap g)∧(newList m (r.xs.flatMap g) s1).post P) :
 (evE Φ G env (.comp2 m N fr elt t it ifs t2 it2 ifs2) s).post P:=by
 obtain⟨r,s1,ei,h1,h2,h3,hl,h4⟩:=h
 obtain⟨e',_,h5⟩:=wY (I:=I) (g:=g) (body:=fun e s' acc=>(yo Φ G e ifs s').bind fun b s2=>if b then (yQ Φ G e it2 s2).bind fun r2 s3=>
        yR r2 t2 (fun e' s4 acc'=>(yo Φ G e' ifs2 s4).bind fun b' s5=>if b' then (evE Φ G e' elt s5).bind fun v s6=>.ok (acc'++[v],e') s6 else .ok (acc',e') s5) r2.xs e s3 acc
  else .ok (acc,e) s2) h1 r.xs (fun x hx e acc he=>by
  obtain⟨e1,k1,b,s2,k3,rfl,k4⟩:=h3 x hx e he
  cases b with
  |true=>
   rw[if_pos rfl]at k4
   obtain⟨r2,s3,k5,rfl,k6,k7,k8,k9,k10⟩:=k4
   obtain⟨e2,k11,k12⟩:=wY (I:=J x) (g:=g2 x) (body:=fun e' s4 acc'=>(yo Φ G e' ifs2 s4).bind fun b' s5=>if b' then (evE Φ G e' elt s5).bind fun v s6=>.ok (acc'++[v],e') s6 else .ok (acc',e') s5) k6 r2.xs (fun y hy e acc he=>by
    obtain⟨e1,k1,k2,b,s2,k3,rfl,k4⟩:=k10 y hy e he
    refine⟨e1,e1,k1,?_,k2⟩
    rw[k3,zK]
    cases b with
    |true=>
     rw[if_pos rfl]at k4 ⊢
     obtain⟨v,s3,kw,rfl,kv⟩:=k4
     rw[kw,zK,kv]
    |false=>
     rw[if_neg Bool.false_ne_true]at k4 ⊢
     rw[k4,List.append_nil]) e1 acc k7
   refine⟨e1,e2,k1,?_,k8 _ k11⟩
   rw[k3,zK,if_pos rfl,k5,zK,k12,k9]
  |false=>
   rw[if_neg Bool.false_ne_true]at k4
   refine⟨e1,e1,k1,?_,k4.2⟩
   rw[k3,zK,if_neg Bool.false_ne_true,k4.1,List.append_nil]) (zZ fr env) [] h2
 show (Out.bind (yQ Φ G env it s) _).post P
 rw[ei,zK]
 rw[h5,zK]
 simp only[List.nil_append]
 rw[if_pos (show (r.xs.flatMap g).length≤zN from hl)]
 exact h4
theorem rj(Q:List Val→Env→Sto→List Val→Prop){r:Src}{t:Tgt}{body:Env→Sto→List Val→Out (List Val × Env)}:∀(xs:List Val),(∀e s acc,Q [] e s acc→r.ok s=true)→(∀x rest e s acc,Q (x::rest) e s acc→r.ok s=true∧∃e1,yP t x e=some e1∧(body e1 s acc).post fun p s2=>Q rest p.2 s2 p.1)→∀e s acc,Q xs e s acc→(yR r t body xs e s acc).post fun p s2=>Q [] p.2 s2 p.1
 |[],h0,_,e,s,acc,q=>by
  simp only[yR,h0 e s acc q,if_true]
  exact zC.mpr q
 |x::xs,h0,h,e,s,acc,q=>by
  obtain⟨h1,e1,h2,h3⟩:=h x xs e s acc q
  simp only[yR,h1,if_true,h2,zG]
  exact zE h3 fun p s2 q=>rj Q xs h0 h p.2 s2 p.1 q
theorem ma{m:Bool}{N:List Str}{fr:List (Option Nat)}{elt:Ex}{t:Tgt}{it:Itb}{ifs:Cns}{P:Val→Sto→Prop}(Q:List Val→Env→Sto→List Val→Prop)
 (h:(yQ Φ G env it s).post fun r s1=>Q r.xs (zZ fr env) s1 []∧(∀rest e s acc,Q rest e s acc→r.ok s=true)∧(∀x rest e s acc,Q (x::rest) e s acc→∃e1,yP t x e=some e1∧(yo Φ G e1 ifs s).post fun b s2=>if b=true then (evE Φ G e1 elt s2).post (fun v s3=>Q rest e1 s3 (acc++[v])) else Q rest e1 s2 acc)∧∀e s acc,Q [] e s acc→(newList m acc s).post P) :
 (evE Φ G env (.comp m N fr elt t it ifs) s).post P:=by
 obtain⟨r,s1,ei,h1,h2,h3,h4⟩:=h
 show (Out.bind (yQ Φ G env it s) _).post P
 rw[ei,zK,zG]
 refine zE (rj Q r.xs (fun e s acc q=>h2 _ e s acc q) (fun x rest e s acc q=>⟨h2 _ e s acc q,?_⟩) _ _ _ h1) fun p s2 q=>h4 _ _ _ q
 obtain⟨e1,k1,k2⟩:=h3 x rest e s acc q
 refine⟨e1,k1,?_⟩
 simp only[zG]
 refine zE k2 fun b s2 k=>?_
 cases b with
 |true=>
  rw[if_pos rfl]at k ⊢
  simp only[zG,zC]
  exact k
 |false=>
  rw[if_neg Bool.false_ne_true]at k ⊢
  exact zC.mpr k
theorem ua(Q:List Val→Env→Sto→Prop)(R:Fl→Sto→Prop){r:Src}{t:Tgt}{body:Env→Sto→Out Fl}(h0:∀e s,Q [] e s→R (.nx e) s):∀(xs:List Val),(∀rest e s,Q rest e s→r.ok s=true)→(∀x rest e s,Q (x::rest) e s→∃e1,yP t x e=some e1∧(body e1 s).post fun fl s2=>match fl with|.nx e=>Q rest e s2|.ct e=>Q rest e s2|.bk e=>R (.nx e) s2|.rt v=>R (.rt v) s2)→∀e s,Q xs e s→(wj r t body xs e s).post R
 |[],hk,_,e,s,q=>by
  simp only[wj,hk _ _ _ q,if_true]
  exact zC.mpr (h0 _ _ q)
 |x::xs,hk,h,e,s,q=>by
  obtain⟨e1,h2,h3⟩:=h x xs e s q
  simp only[wj,hk _ _ _ q,if_true,h2,zG]
  refine zE h3 fun fl s2 q=>?_
  cases fl with
  |nx e=>exact ua Q R h0 xs hk h e s2 q
  |ct e=>exact ua Q R h0 xs hk h e s2 q
  |bk e=>exact zC.mpr q
  |rt v=>exact zC.mpr q
noncomputable def vX(Q:Env→Sto→Prop)(R:Fl→Sto→Prop):Fl→Sto→Prop
 |.nx e,s=>Q e s
 |.ct e,s=>Q e s
 |.bk e,s=>R (.nx e) s
 |.rt v,s=>R (.rt v) s
theorem et{Q:Env→Sto→Prop}{R:Fl→Sto→Prop}{e:Env}:vX Q R (.nx e) s↔Q e s:=Iff.rfl
theorem el{Q:Env→Sto→Prop}{R:Fl→Sto→Prop}{e:Env}:vX Q R (.ct e) s↔Q e s:=Iff.rfl
theorem ek{Q:Env→Sto→Prop}{R:Fl→Sto→Prop}{e:Env}:vX Q R (.bk e) s↔R (.nx e) s:=Iff.rfl
theorem eu{Q:Env→Sto→Prop}{R:Fl→Sto→Prop}{v:Val}:vX Q R (.rt v) s↔R (.rt v) s:=Iff.rfl
theorem YQ{t:Tgt}{it:Itb}{b:Sms}{R:Fl→Sto→Prop}(Q:List Val→Env→Sto→Prop)
 (h:(yQ Φ G env it s).post fun r s1=>Q r.xs env s1∧(∀rest e s,Q rest e s→r.ok s=true)∧(∀x rest e s,Q (x::rest) e s→∃e1,yP t x e=some e1∧(zO Φ G e1 b s).post (vX (Q rest) R))∧∀e s,Q [] e s→R (.nx e) s) :
 (exS Φ G env (.forS t it b) s).post R:=by
 obtain⟨r,s1,ei,h1,h2,h3,h4⟩:=h
 show (Out.bind (yQ Φ G env it s) _).post R
 rw[ei,zK]
 refine ua Q R h4 r.xs h2 (fun x rest e s q=>?_) _ _ h1
 obtain⟨e1,k1,k2⟩:=h3 x rest e s q
 refine⟨e1,k1,zE k2 fun fl s2 k=>?_⟩
 cases fl<;>exact k
theorem vC{t:Tgt}{it:Itb}{b:Sms}{R:Fl→Sto→Prop}(Q:List Val→Env→Sto→Prop)(xs:List Val){s1:Sto}(hi:yQ Φ G env it s=.ok ⟨xs,Option.none⟩ s1)(h0:Q xs env s1)
 (h1:∀x rest e s,Q (x::rest) e s→∃e1,yP t x e=some e1∧(zO Φ G e1 b s).post (vX (Q rest) R)) (h2:∀e s,Q [] e s→R (.nx e) s) :
 (exS Φ G env (.forS t it b) s).post R:=YQ Q ⟨_,_,hi,h0,fun _ _ _ _=>rfl,h1,h2⟩
theorem vQ{m:Bool}{N:List Str}{fr:List (Option Nat)}{elt:Ex}{t:Tgt}{it:Itb}{ifs:Cns}{P:Val→Sto→Prop}(I:Env→Prop)(g:Val→List Val)(xs:List Val){s1:Sto}(hi:yQ Φ G env it s=.ok ⟨xs,Option.none⟩ s1)(h0:I (zZ fr env))
 (h1:∀x∈xs,∀e,I e→∃e1,yP t x e=some e1∧I e1∧(yo Φ G e1 ifs s1).post fun b s2=>s2=s1∧if b=true then (evE Φ G e1 elt s1).post (fun v s2=>s2=s1∧g x=[v]) else g x=[]) (h2:(newList m (xs.flatMap g) s1).post P) :
 (evE Φ G env (.comp m N fr elt t it ifs) s).post P:=iI I g ⟨_,_,hi,rfl,h0,h1,h2⟩
theorem lV(Q:Nat→Env→Sto→Prop)(R:Fl→Sto→Prop){c:Env→Sto→Out Bool}{body:Env→Sto→Out Fl}:∀(n k:Nat),n<k→(∀n e s,Q n e s→(c e s).post fun b s1=>if b=true then (body e s1).post (vX (fun e s=>∃m,m<n∧Q m e s) R) else R (.nx e) s1)→∀e s,Q n e s→(w9 c body k e s).post R:=by
 intro n
 induction n using Nat.strongRecOn with
 |ind n ih=>
  intro k hk h e s q
  cases k with
  |zero=>omega
  |succ k=>
   simp only[w9,zG]
   refine zE (h n e s q) fun b s1 z=>?_
   cases b with
   |true=>
    rw[if_pos rfl]at z ⊢
    simp only[zG]
    refine zE z fun fl s2 z=>?_
    cases fl with
    |nx e=>
     obtain⟨m,h1,h2⟩:=z
     exact ih m h1 k (by omega) h e s2 h2
    |ct e=>
     obtain⟨m,h1,h2⟩:=z
     exact ih m h1 k (by omega) h e s2 h2
    |bk e=>exact zC.mpr z
    |rt v=>exact zC.mpr z
   |false=>
    rw[if_neg Bool.false_ne_true]at z ⊢
    exact zC.mpr z
theorem me{c:Cn}{b:Sms}{R:Fl→Sto→Prop}(n:Nat)(Q:Nat→Env→Sto→Prop)(hn:n<rK)(q:Q n env s)
 (h:∀n e s,Q n e s→(evT Φ G e c s).post fun t s1=>if t=true then (zO Φ G e b s1).post (vX (fun e s=>∃m,m<n∧Q m e s) R) else R (.nx e) s1) :
 (exS Φ G env (.whileS c b) s).post R:=lV Q R n rK hn h env s q
end
theorem dG{s:Sto}:truth s .none=some false:=rfl
theorem zW{s:Sto}{b:Bool}:truth s (.bool b)=some b:=rfl
theorem ZO{s:Sto}{i:Int}:truth s (.int i)=some (i != 0):=rfl
theorem gS{s:Sto}{vs:List Val}:truth s (.tup vs)=some !vs.isEmpty:=rfl
theorem gR{s:Sto}{vs:List Val}:truth s (.lst vs)=some !vs.isEmpty:=rfl
theorem ZF{s:Sto}{vs:List Val}:srcOf s (.tup vs)=some ⟨vs,Option.none⟩:=rfl
theorem ZE{s:Sto}{vs:List Val}:srcOf s (.lst vs)=some ⟨vs,Option.none⟩:=rfl
theorem eh{s:Sto}{ns:List Int}:srcOf s (.ctup ns)=some ⟨ns.map .int,Option.none⟩:=rfl
theorem gJ{s:Sto}{xs:List Val}:Src.ok ⟨xs,Option.none⟩ s=true:=rfl
theorem Zd{i:Nat}{v:Val}{env:Env}:yP (.nm i) v env=some (env.set i (some v)):=rfl
theorem cY{is:List Nat}{vs:List Val}{env:Env}:yP (.nms is) (.tup vs) env=if vs.length=is.length then some ((is.zip vs).foldl (fun e p=>e.set p.1 (some p.2)) env) else Option.none:=rfl
mutual
theorem gn:∀v:Val,v.beq v=true
 |.none=>rfl|.bool b=>by simp[Val.beq]|.int i=>by simp[Val.beq]|.str x=>by simp[Val.beq]|.dct0=>rfl
 |.tup vs=>by simp[Val.beq,vy vs]|.lst vs=>by simp[Val.beq,vy vs]
 |.ctup _=>by simp[Val.beq]|.scr _=>by simp[Val.beq]|.ref _=>by simp[Val.beq]|.fn _=>by simp[Val.beq]|.ty _=>by simp[Val.beq]|.dref _=>by simp[Val.beq]
theorem vy:∀vs:List Val,tm vs vs=true
 |[]=>rfl
 |v::vs=>by simp[tm,gn v,vy vs]
end
theorem qt(c:Cel):c.beq c=true:=by cases c<;>simp[Cel.beq,vy]
theorem vP:∀(s t:Sto),xV s (s++t)=true
 |[],_=>rfl
 |c::r,t=>by simp[xV,qt c,vP r t]
theorem ox(s:Sto):xV s s=true:=by have:=vP s [];rwa [List.append_nil]at this
theorem vn:∀(s t:Sto) (i:Nat) (c:Cel),c.noRef=true→xV s (s.set i c++t)=true
 |[],_,_,_,_=>by simp[xV]
 |_::r,t,0,c,h=>by simp[xV,h,vP r t]
 |o::r,t,i+1,c,h=>by simp[xV,qt o,vn r t i c h]
theorem lg(s t:Sto)(i:Nat)(vs:List Val)(h:zj vs=true):xV s (s.set i (.lst vs)++t)=true:=vn s t i _ h
theorem qb:Val.none.noRef=true:=by rw[Val.noRef]
theorem xr{b:Bool}:(Val.bool b).noRef=true:=by rw[Val.noRef]
theorem yY{b:Int}:(Val.int b).noRef=true:=by rw[Val.noRef]
theorem iC{b:Str}:(Val.str b).noRef=true:=by rw[Val.noRef]
theorem qc{vs:List Val}:(Val.tup vs).noRef=zj vs:=by rw[Val.noRef]
theorem iB{vs:List Val}:(Val.lst vs).noRef=zj vs:=by rw[Val.noRef]
theorem qd:zj []=true:=by rw[zj]
theorem uD{v:Val}{vs:List Val}:zj (v::vs)=(v.noRef&&zj vs):=by rw[zj]
theorem xq:∀ns:List Int,zj (ns.map .int)=true
 |[]=>rfl
 |_::ns=>by simp[zj,Val.noRef,xq ns]
theorem sR:∀zs:List (Int × Int),zj (zs.map prV)=true
 |[]=>rfl
 |_::zs=>by simp[zj,Val.noRef,prV,sR zs]
noncomputable def zP(k:Bool)(s0:Sto)(v:Val)(s:Sto):Out Val:=
 if k then .ok v s
 else if xV s0 s then (match freeze s0.length s v with|some v'=>.ok v' (s.take s0.length)|Option.none=>.stuck) else .stuck
theorem pM{s0 s:Sto}{v:Val}:zP true s0 v s=.ok v s:=rfl
theorem zS{k:Bool}{s:Sto}{v:Val}(h:v.noRef=true):zP k s v s=.ok v s:=by
 unfold zP
 cases k
 . simp[ox,freeze,h]
 . rfl
theorem vj{s t:Sto}{v:Val}(h:v.noRef=true):zP false s v (s++t)=.ok v s:=by
 unfold zP
 simp[vP,freeze,h]
theorem oj{s t:Sto}{v:Val}{i:Nat}{vs:List Val}(h:v.noRef=true)(hv:zj vs=true):zP false s v (s.set i (.lst vs)++t)=.ok v (s.set i (.lst vs)):=by
 unfold zP
 have e:s.length=(s.set i (.lst vs)).length:=by rw[List.length_set]
 simp only[lg s t i vs hv,freeze,h,if_true,Bool.false_eq_true,if_false,e,List.take_left']
theorem lT{s:Sto}{v:Val}{i:Nat}{vs:List Val}(h:v.noRef=true)(hv:zj vs=true):zP false s v (s.set i (.lst vs))=.ok v (s.set i (.lst vs)):=by
 have:=oj (s:=s) (t:=[]) (i:=i) h hv
 rwa [List.append_nil]at this
noncomputable def fin(k:Bool)(s:Sto)(P:Val→Sto→Prop):Fl→Sto→Prop
 |.nx _,s1=>(zP k s .none s1).post P
 |.rt v,s1=>(zP k s v s1).post P
 |_,_=>False
theorem cu{k:Bool}{s s1:Sto}{P:Val→Sto→Prop}{e:Env}:fin k s P (.nx e) s1↔(zP k s .none s1).post P:=Iff.rfl
theorem cw{k:Bool}{s s1:Sto}{P:Val→Sto→Prop}{v:Val}:fin k s P (.rt v) s1↔(zP k s v s1).post P:=Iff.rfl
theorem z0{T:Tbl}{Φ:Calls}{N ps:List Str}{k:Bool}{b:Sms}{vs:List Val}{s:Sto}{P:Val→Sto→Prop}:(run T Φ ⟨N,ps,k,b⟩ vs s).post P↔vs.length=ps.length∧(zO Φ T.gl (yH N vs) b s).post (fin k s P):=by
 unfold run
 by_cases hl:vs.length=ps.length
 . rw[if_pos hl,zG]
   refine⟨fun h=>⟨hl,zE h fun fl s1 h=>?_⟩,fun h=>zE h.2 fun fl s1 h=>?_⟩
   . cases fl<;>first|exact h|exact(zV.mp h).elim
   . cases fl<;>first|exact h|exact h.elim
 . rw[if_neg hl]
   exact⟨fun h=>(zV.mp h).elim,fun h=>absurd h.1 hl⟩
theorem zM{T:Tbl}{n:Nat}{f:Str}{v:Nat}{F:Fn}(h:T.fn f v=some F)(vs:List Val)(s:Sto):zF T (n+1) f v vs s=run T (zF T n) F vs s:=by
 show (match T.fn f v with|some F=>run T (zF T n) F vs s|Option.none=>.stuck)=_
 rw[h]
def At(T:Tbl)(k:Nat)(C:Calls→Prop):Prop:=∀n,k≤n→C (zF T n)
noncomputable def EVl:=And.intro @YT <| And.intro @md <| And.intro @YR <| And.intro @Xa <| And.intro @iG <| And.intro @YU <| And.intro @YV <| And.intro @mZ <| And.intro @fu <| And.intro @YN <| And.intro @aP <| And.intro @aQ <| And.intro @XY <| And.intro @YW <| And.intro @YX <| And.intro @YS <| And.intro @YY <| And.intro @di <| And.intro @qg <| And.intro @iH <| And.intro @iM <| And.intro @iL <| And.intro @aU <| And.intro @XZ <| And.intro @aV <| And.intro @aW <| And.intro @uy <| And.intro @wa <| And.intro @pf <| And.intro @aa <| And.intro @aZ <| And.intro @dk <| And.intro @xZ <| And.intro @fz <| And.intro @pe <| And.intro @iP <| And.intro @iK <| And.intro @pZ <| And.intro @pd <| And.intro @aT <| And.intro @nF <| And.intro @sV <| And.intro @aY <| And.intro @iF <| And.intro @aR <| And.intro @dj <| And.intro @fw <| And.intro @iJ <| And.intro @aX <| And.intro @YO <| And.intro @aS <| And.intro @nG <| And.intro @zX <| And.intro @dE <| And.intro @dF <| And.intro @dC <| And.intro @dD <| And.intro @et <| And.intro @el <| And.intro @ek <| And.intro @eu <| And.intro @zC <| And.intro @xB <| And.intro @zV <| And.intro @dG <| And.intro @zW <| And.intro @ZO <| And.intro @gS <| And.intro @gR <| And.intro @ZF <| And.intro @ZE <| And.intro @eh <| And.intro @gJ <| And.intro @Zd <| And.intro @cY <| And.intro @z0 <| And.intro @cu <| And.intro @cw <| And.intro @pM <| And.intro @zS <| And.intro @qb <| And.intro @xr <| And.intro @yY <| And.intro @iC <| And.intro @qc <| And.intro @iB <| And.intro @qd <| And.intro @uD <| And.intro @xq <| @sR
end M
end
section
namespace M
open PySem
theorem bnd{α β:Type}{o:Out α}{a:α}{s:Sto}{f:α→Sto→Out β}{r:Out β}(h:o=.ok a s)(k:f a s=r):o.bind f=r:=by rw[h];exact k
section
variable {Φ:Calls}{G:Str→Option Val}{env:Env}{s s1 s2 s3 s4:Sto}
theorem zJ{v:Val}:evE Φ G env (.lit v) s=.ok v s:=rfl
theorem zB{i:Nat}{v:Val}(h:env[i]?=some (some v)):evE Φ G env (.var i) s=.ok v s:=post_eq.mpr (md.mpr ⟨v,h,rfl,rfl⟩)
theorem kX{x:Str}{n:String}:evE Φ G env (.ty x n) s=.ok (.ty n) s:=rfl
theorem m6{a b:Ex}{r:Out Val}(h1:evE Φ G env a s=.ok (.bool true) s1)(h2:evE Φ G env b s1=r):evE Φ G env (.andE a (.cons b .nil)) s=r:=bnd h1 h2
theorem vq{x:Str}{v:Val}(h:G x=some v):evE Φ G env (.gl x) s=.ok v s:=post_eq.mpr (YR.mpr ⟨v,h,rfl,rfl⟩)
theorem gc{a b:Ex}{es:Exs}(h1:evE Φ G env a s=.ok (.bool false) s1):evE Φ G env (.andE a (.cons b es)) s=.ok (.bool false) s1:=bnd h1 rfl
theorem ZT{a b c:Ex}{es:Exs}(h1:evE Φ G env a s=.ok (.bool true) s1)(h2:evE Φ G env b s1=.ok (.bool false) s2):evE Φ G env (.andE a (.cons b (.cons c es))) s=.ok (.bool false) s2:=bnd h1 (show (evE Φ G env b s1).bind _=_ from bnd h2 rfl)
theorem gf{a b c:Ex}{r:Out Val}(h1:evE Φ G env a s=.ok (.bool true) s1)(h2:evE Φ G env b s1=.ok (.bool true) s2)(h3:evE Φ G env c s2=r):evE Φ G env (.andE a (.cons b (.cons c .nil))) s=r:=bnd h1 (show (evE Φ G env b s1).bind _=_ from bnd h2 h3)
theorem XE{a:Ex}{i:Int}(h:evE Φ G env a s=.ok (.int i) s1):evE Φ G env (.neg a) s=.ok (.int (-i)) s1:=bnd h rfl
theorem zu{m:Bool}{op:Bop}{a b:Ex}{x y:Val}{r:Out Val}(h1:evE Φ G env a s=.ok x s1)(h2:evE Φ G env b s1=.ok y s2)(h3:binOp m op x y s2=r):evE Φ G env (.bin m op a b) s=r:=bnd h1 (bnd h2 h3)
theorem yL{op:Cop}{a b:Ex}{x y:Val}{r:Out Val}(h1:evE Φ G env a s=.ok x s1)(h2:evE Φ G env b s1=.ok y s2)(h3:zR op x y s2=r):evE Φ G env (.cmp op a b) s=r:=bnd h1 (bnd h2 h3)
theorem xO{a b:Ex}{x y:Val}{r:Out Val}(h1:evE Φ G env a s=.ok x s1)(h2:evE Φ G env b s1=.ok y s2)(h3:x9 x y s2=r):evE Φ G env (.ix a b) s=r:=bnd h1 (bnd h2 h3)
theorem la:evO Φ G env .no s=.ok none s:=rfl
theorem iD{e:Ex}{i:Int}(h:evE Φ G env e s=.ok (.int i) s1):evO Φ G env (.yes e) s=.ok (some i) s1:=bnd h rfl
theorem ZU{m:Bool}{a:Ex}{lo hi st:OEx}{x:Val}{l h c:Option Int}{r:Out Val}(h0:evE Φ G env a s=.ok x s1)(h1:evO Φ G env lo s1=.ok l s2)(h2:evO Φ G env hi s2=.ok h s3)(h3:evO Φ G env st s3=.ok c s4)(h4:ug m x l h c s4=r):evE Φ G env (.sl m a lo hi st) s=r:=bnd h0 (bnd h1 (bnd h2 (bnd h3 h4)))
theorem zD:ye Φ G env .nil s=.ok [] s:=rfl
theorem zA{e:Ex}{es:Exs}{v:Val}{vs:List Val}(h1:evE Φ G env e s=.ok v s1)(h2:ye Φ G env es s1=.ok vs s2):ye Φ G env (.cons e es) s=.ok (v::vs) s2:=bnd h1 (bnd h2 rfl)
theorem xY{e:Ex}{es:Exs}{v:Val}{P:List Val→Sto→Prop}(h:evE Φ G env e s=.ok v s1)(k:(ye Φ G env es s1).post fun vs s2=>P (v::vs) s2):(ye Φ G env (.cons e es) s).post P:=wa.mpr (by rw[h];exact zC.mpr k)
theorem x8{es:Exs}{vs:List Val}(h:ye Φ G env es s=.ok vs s1)(hl:vs.length≤zN):evE Φ G env (.tup es) s=.ok (.tup vs) s1:=bnd h (if_pos hl)
theorem m7{es:Exs}{vs:List Val}(h:ye Φ G env es s=.ok vs s1)(hl:vs.length≤zN):evE Φ G env (.lst false es) s=.ok (.lst vs) s1:=bnd h (if_pos hl)
theorem yc{f:Bf}{m:Bool}{es:Exs}{vs:List Val}{r:Out Val}(h:ye Φ G env es s=.ok vs s1)(k:blt f m vs s1=r):evE Φ G env (.blt f m es) s=r:=bnd h k
theorem x_call{f:Str}{v:Nat}{es:Exs}{vs:List Val}{r:Out Val}(h:ye Φ G env es s=.ok vs s1)(k:Φ f v vs s1=r):evE Φ G env (.call f v es) s=r:=bnd h k
theorem zr{f:Str}{v:Nat}{es:Exs}{vs:List Val}{P:Val→Sto→Prop}(h:ye Φ G env es s=.ok vs s1)(k:(Φ f v vs s1).post P):(evE Φ G env (.call f v es) s).post P:=by rw[x_call h rfl];exact k
theorem yb{i:Nat}{e:Ex}{cs:Sms}{v:Val}{P:Fl→Sto→Prop}(h:evE Φ G env e s=.ok v s1)(k:(zO Φ G (env.set i (some v)) cs s1).post P):(zO Φ G env (.cons (.asg i e) cs) s).post P:=zX.mpr (iF.mpr (by rw[h];exact zC.mpr k))
theorem xh{i:Nat}{e:Ex}{cs:Sms}{P:Fl→Sto→Prop}(h:(evE Φ G env e s).post fun v s1=>(zO Φ G (env.set i (some v)) cs s1).post P):(zO Φ G env (.cons (.asg i e) cs) s).post P:=zX.mpr (iF.mpr h)
theorem wd{e:Ex}{cs:Sms}{v:Val}{P:Fl→Sto→Prop}(h:evE Φ G env e s=.ok v s1)(k:(zO Φ G env cs s1).post P):(zO Φ G env (.cons (.expr e) cs) s).post P:=zX.mpr (nF.mpr (by rw[h];exact zC.mpr k))
theorem ze{e:Ex}{cs:Sms}{v:Val}{P:Fl→Sto→Prop}(h:evE Φ G env e s=.ok v s1)(k:P (.rt v) s1):(zO Φ G env (.cons (.ret e) cs) s).post P:=zX.mpr (sV.mpr (by rw[h];exact zC.mpr k))
theorem wX{e:Ex}{v:Val}{xs:List Val}(h:evE Φ G env e s=.ok v s1)(k:srcOf s1 v=some ⟨xs,none⟩):yQ Φ G env (.val e) s=.ok ⟨xs,none⟩ s1:=post_eq.mpr (iK.mpr (by rw[h];exact zC.mpr ⟨_,k,rfl,rfl⟩))
theorem yD{e:Ex}{v:Val}{b:Bool}(h:evE Φ G env e s=.ok v s1)(k:truth s1 v=some b):evT Φ G env (.val e) s=.ok b s1:=post_eq.mpr (pf.mpr (by rw[h];exact zC.mpr ⟨_,k,rfl,rfl⟩))
theorem d5{c:Cn}{b:Bool}(h:evT Φ G env c s=.ok b s1):evT Φ G env (.not c) s=.ok (!b) s1:=bnd h rfl
theorem dB{c:Cn}{cs:Cns}{b:Bool}(h:evT Φ G env c s=.ok false s1)(k:tD Φ G env cs s1=.ok b s2):evT Φ G env (.or c cs) s=.ok b s2:=bnd h k
theorem ng:tD Φ G env .nil s=.ok false s:=rfl
theorem qo{c:Cn}{cs:Cns}{b:Bool}(h:evT Φ G env c s=.ok false s1)(k:tD Φ G env cs s1=.ok b s2):tD Φ G env (.cons c cs) s=.ok b s2:=bnd h k
theorem d6{c:Cn}{cs:Cns}(h:evT Φ G env c s=.ok true s1):evT Φ G env (.or c cs) s=.ok true s1:=bnd h rfl
theorem oJ{c:Cn}{cs:Cns}(h:evT Φ G env c s=.ok true s1):tD Φ G env (.cons c cs) s=.ok true s1:=bnd h rfl
theorem wL{c:Cn}{a cs:Sms}{P:Fl→Sto→Prop}(h:evT Φ G env c s=.ok false s1)(k:(zO Φ G env cs s1).post P):(zO Φ G env (.cons (.ifS c a .nil) cs) s).post P:=zX.mpr (iJ.mpr (by rw[h];refine zC.mpr ?_;rw[if_neg Bool.false_ne_true];exact nG.mpr k))
theorem vF{c:Cn}{a b cs:Sms}{P:Fl→Sto→Prop}(h:evT Φ G env c s=.ok true s1)(k:(zO Φ G env a s1).post (u5 Φ G cs P)):(zO Φ G env (.cons (.ifS c a b) cs) s).post P:=zX.mpr (iJ.mpr (by rw[h];refine zC.mpr ?_;rw[if_pos rfl];exact k))
theorem gG{J:Env→Sto→Prop}{c:Cn}{a cs:Sms}{b:Bool}{P:Fl→Sto→Prop}(h:evT Φ G env c s=.ok b s1)(k1:b=true→(zO Φ G env a s1).post fun fl s2=>∃e,fl=.nx e∧J e s2)(k0:b=false→J env s1)(k:∀e s2,J e s2→(zO Φ G e cs s2).post P):(zO Φ G env (.cons (.ifS c a .nil) cs) s).post P:=by
 cases b with
 |true=>exact vF h (zE (k1 rfl) fun fl s2 ⟨e,he,j⟩=>by subst he;exact k e s2 j)
 |false=>exact wL h (k env s1 (k0 rfl))
theorem fD{e:Ex}{vs:List Val}(h:evE Φ G env e s=.ok (.tup vs) s1):yQ Φ G env (.enum e) s=.ok ⟨yq 0 vs,none⟩ s1:=bnd h rfl
theorem gg{a:Ex}{b:Bool}(h:evE Φ G env a s=.ok (.bool b) s1):evE Φ G env (.not a) s=.ok (.bool !b) s1:=bnd h rfl
theorem uo{c:Cn}{a b:Ex}{r:Out Val}(h:evT Φ G env c s=.ok true s1)(k:evE Φ G env a s1=r):evE Φ G env (.ife c a b) s=r:=bnd h k
theorem sq{c:Cn}{a b:Ex}{r:Out Val}(h:evT Φ G env c s=.ok false s1)(k:evE Φ G env b s1=r):evE Φ G env (.ife c a b) s=r:=bnd h k
theorem xC{P:Fl→Sto→Prop}(k:P (.nx env) s):(zO Φ G env .nil s).post P:=nG.mpr k
theorem f7{is:List Nat}{vs:List Val}{P:Fl→Sto→Prop}(hl:vs.length=is.length)(k:P (.nx ((is.zip vs).foldl (fun e p=>e.set p.1 (some p.2)) env)) s):(if vs.length=is.length then Out.ok (Fl.nx ((is.zip vs).foldl (fun e p=>e.set p.1 (some p.2)) env)) s else .stuck).post P:=by
 rw[if_pos hl];exact zC.mpr k
theorem pI{e:Ex}{k:Nat}(h:evE Φ G env e s=.ok (.int (k:Int)) s1)(hk:k≤zN):yQ Φ G env (.range1 e) s=.ok ⟨yp 0 k,none⟩ s1:=by
 rw[post_eq]
 refine pZ.mpr ?_
 rw[h]
 exact zC.mpr ⟨_,rfl,⟨by omega,by omega⟩,by rw[Int.toNat_natCast],rfl⟩
theorem de{a b:Ex}{i j:Nat}(h:evE Φ G env a s=.ok (.int (i:Int)) s1)(h':evE Φ G env b s1=.ok (.int (j:Int)) s2)(hi:i≤1000)(hj:j≤1000):yQ Φ G env (.range2 a b) s=.ok ⟨yp i (j-i),none⟩ s2:=by
 rw[post_eq]
 refine pd.mpr ?_
 rw[h]
 refine zC.mpr ?_
 rw[h']
 exact zC.mpr ⟨_,_,rfl,rfl,⟨by omega,by omega,by omega,by omega,by unfold zN;omega⟩,by congr 2;omega,rfl⟩
theorem ZL{c d:Cn}{a b:Bool}(h:evT Φ G env c s=.ok a s)(k:evT Φ G env d s=.ok b s):evT Φ G env (.and c (.cons d .nil)) s=.ok (a&&b) s:=bnd h (by
 cases a with
 |false=>rfl
 |true=>exact bnd k (by cases b<;>rfl))
theorem sj{c:Cn}{b:Bool}(h:evT Φ G env c s=.ok b s):yo Φ G env (.cons c .nil) s=.ok b s:=bnd h (by cases b<;>rfl)
end
end M
end
section
namespace M
open PySem
noncomputable def xN(l m:Int):Val→Bool
 |.int i=>decide (l≤i)&&decide (i≤m)
 |_=>false
theorem kW{l m i:Int}(h1:l≤i)(h2:i≤m):xN l m (.int i)=true:=by simp[xN,h1,h2]
def oO(Φ:Calls):Prop:=∀(v:Val) (l m:Int) (s:Sto),kindOf v≠none→Φ "is_whole" 0 [v,.int l,.int m] s=.ok (.bool (xN l m v)) s
def mC(Φ:Calls):Prop:=∀(vs:List Val) (l m:Int) (s:Sto),(∀v∈vs,kindOf v≠none)→Φ "are_wholes" 0 [.tup vs,.int l,.int m] s=.ok (.bool (vs.all (xN l m))) s
def vb(Φ:Calls):Prop:=∀(i l m:Int) (s:Sto),l≤i→i≤m→Φ "need_whole" 0 [.int i,.int l,.int m] s=.ok .none s
def uQ(Φ:Calls):Prop:=∀(i:Int) (s:Sto),2≤i→i≤8→Φ "need_size" 0 [.int i] s=.ok .none s
def uq(Φ:Calls):Prop:=∀(i:Int) (s:Sto),0≤i→i≤40→Φ "need_length" 0 [.int i] s=.ok .none s
def dO(Φ:Calls):Prop:=∀(n i z:Nat) (s:Sto),i<n→2≤z→z≤8→Φ "most_step" 0 [.int n,.int i,.int z] s=.ok (.int ((n-1-i)/(z-1):Nat)) s
theorem pL{m:Bool}{vs:List Val}{s:Sto}:blt .len m [.tup vs] s=.ok (.int vs.length) s:=rfl
theorem j0{m:Bool}{ns:List Int}{s:Sto}:blt .len m [.scr ns] s=.ok (.int ns.length) s:=by simp[blt,wM]
theorem le_int{a b:Int}{s:Sto}:zR .le (.int a) (.int b) s=.ok (.bool (decide (a≤b))) s:=rfl
theorem lt_int{a b:Int}{s:Sto}:zR .lt (.int a) (.int b) s=.ok (.bool (decide (a<b))) s:=rfl
theorem ge_int{a b:Int}{s:Sto}:zR .ge (.int a) (.int b) s=.ok (.bool (decide (b≤a))) s:=rfl
theorem gt_int{a b:Int}{s:Sto}:zR .gt (.int a) (.int b) s=.ok (.bool (decide (b<a))) s:=rfl
theorem wu{α:Type}(f:α→Bool):∀xs:List α,boolsOf (xs.map fun x=>Val.bool (f x))=some (xs.map f)
 |[]=>rfl
 |x::xs=>by simp[boolsOf,wu f xs]
theorem rW{α β:Type}(f:α→β)(xs:List α):xs.flatMap (fun x=>[f x])=xs.map f:=by
 induction xs with
 |nil=>rfl
 |cons x xs ih=>simp[ih]
theorem u9{m:Bool}{i j:Int}{s:Sto}:binOp m .add (.int i) (.int j) s=.ok (.int (i+j)) s:=by simp only[binOp]
theorem kl{m:Bool}{i j:Int}{s:Sto}:binOp m .sub (.int i) (.int j) s=.ok (.int (i-j)) s:=by simp only[binOp]
theorem kj{m:Bool}{i j:Int}{s:Sto}(h:-1000000≤i∧i≤1000000):binOp m .mul (.int i) (.int j) s=.ok (.int (i*j)) s:=by
 simp only[binOp]
 rw[if_pos (.inl (by omega))]
theorem Zc{m:Bool}{i j:Int}{s:Sto}(h:-1000000≤j∧j≤1000000):binOp m .mul (.int i) (.int j) s=.ok (.int (i*j)) s:=by
 simp only[binOp]
 rw[if_pos (.inr (by omega))]
section
variable {T:Tbl}{Φ:Calls}{s:Sto}
theorem jY{v:Val}{m:Bool}{n:String}{a c:L2.Kd}{s:Sto}(h:kindOf v=some a)(h':uY n=some c):blt .isi m [v,.ty n] s=.ok (.bool (a.sub c)) s:=by
 simp only[blt];rw[h,h']
theorem bz{v:Val}{a:L2.Kd}(h:kindOf v=some a):(∃i,v=.int i)∨(∃b,v=.bool b)∨(a.sub .int=false∧∀l m,xN l m v=false):=by
 cases v with
 |int i=>exact .inl ⟨i,rfl⟩
 |bool b=>exact .inr (.inl ⟨b,rfl⟩)
 |_=>cases h<;>exact .inr (.inr ⟨rfl,fun _ _=>rfl⟩)
theorem fY{v:Val}(h:kindOf v≠none):∃a,kindOf v=some a:=Option.ne_none_iff_exists'.mp h
theorem kK{v:Val}{l m:Int}(hk:kindOf v≠none):run T Φ F.xG [v,.int l,.int m] s=.ok (.bool (xN l m v)) s:=by
 obtain⟨a,ha⟩:=fY hk
 have e1:=jY (m:=false) (s:=s) ha (show uY "int"=some .int from rfl)
 have e2:=jY (m:=false) (s:=s) ha (show uY "bool"=some .bl from rfl)
 have end':∀{b:Bool},b=xN l m v→(zP false s (.bool b) s).post fun x t=>x=.bool (xN l m v)∧t=s:=fun{b} e=>by
  rw[zS xr,e];exact zC.mpr ⟨rfl,rfl⟩
 rw[post_eq,F.xG,z0]
 refine⟨rfl,?_⟩
 show (zO Φ T.gl [some v,some (.int l),some (.int m)] _ s).post _
 rcases bz ha with⟨i,rfl⟩|⟨b,rfl⟩|⟨h1,h2⟩
 . cases ha
   have hc:evE Φ T.gl [some (.int i),some (.int l),some (.int m)] (.chain .le .le (.var 1) (.var 0) (.var 2)) s=.ok (.bool (xN l m (.int i))) s:=by
    refine bnd (zB rfl) (bnd (zB rfl) (bnd le_int ?_))
    show (match Val.bool (decide (l≤i)) with
     |.bool true=>(evE Φ T.gl [some (.int i),some (.int l),some (.int m)] (.var 2) s).bind fun z s4=>zR .le (.int i) z s4
     |.bool false=>.ok (.bool false) s
     |_=>.stuck)=Out.ok (.bool (decide (l≤i)&&decide (i≤m))) s
    cases decide (l≤i) with
    |true=>exact bnd (zB rfl) le_int
    |false=>rfl
   exact ze (gf (yc (zA (zB rfl) (zA kX zD)) e1) (gg (yc (zA (zB rfl) (zA kX zD)) e2)) hc) (end' rfl)
 . cases ha
   exact ze (ZT (yc (zA (zB rfl) (zA kX zD)) e1) (gg (yc (zA (zB rfl) (zA kX zD)) e2))) (end' rfl)
 . rw[h1]at e1
   exact ze (gc (yc (zA (zB rfl) (zA kX zD)) e1)) (end' (h2 _ _).symm)
theorem nU(c:oO Φ){vs:List Val}{l m:Int}(hk:∀v∈vs,kindOf v≠none):run T Φ F.yh [.tup vs,.int l,.int m] s=.ok (.bool (vs.all (xN l m))) s:=by
 rw[post_eq]
 simp[F.yh,EVl,yH,zZ]
 refine iI (fun e=>∃o,e=[o,some (.int l),some (.int m)]) (fun x=>[.bool (xN l m x)]) ?_
 simp[EVl,yH,zZ]
 refine⟨?_,?_⟩
 . intro x hx
   simp[EVl,yH,zZ,c x l m s (hk x hx)]
 . simp[newList,EVl,yH,zZ,blt,rW,yf,wu]
theorem rD(c:oO Φ){i l m:Int}(h1:l≤i)(h2:i≤m):run T Φ F.yl [.int i,.int l,.int m] s=.ok .none s:=by
 rw[post_eq]
 simp[F.yl,EVl,yH,zZ,c (.int i) l m s (by simp[kindOf]),kW h1 h2]
theorem gE{n i z:Nat}(h1:i<n)(h2:2≤z)(h3:z≤8):run T Φ F.y3 [.int n,.int i,.int z] s=.ok (.int ((n-1-i)/(z-1):Nat)) s:=by
 rw[post_eq]
 have a1:(0:Int)<(z:Int)-1∧(z:Int)-1<1073741824:=by omega
 have a2:((n:Int)-1-(i:Int))/((z:Int)-1)=(((n-1-i)/(z-1):Nat):Int):=by
  rw[Int.natCast_ediv]
  congr 1<;>omega
 simp[F.y3,EVl,yH,zZ,binOp]
 refine⟨by omega,?_⟩
 rw[a2];simp
end
end M
end
section
namespace M
open PySem
noncomputable def sX(r:Nat × Nat):Val:=.tup [.int r.1,.int r.2]
theorem tR{lo:Int}{n:Nat}{x:Val}(h:x∈yp lo n):∃k:Nat,k<n∧x=.int (lo+k):=by
 unfold yp at h
 obtain⟨k,h1,rfl⟩:=List.mem_map.mp h
 exact⟨k,List.mem_range.mp h1,rfl⟩
theorem Yi(ns:List Int)(lo st:Int)(n:Nat):L2.zo (ns.map Val.int) lo st n=(L2.zo ns lo st n).map Val.int:=by
 unfold L2.zo
 rw[List.map_filterMap]
 congr 1
 funext k
 simp[List.getElem?_map]
theorem mT(a b:Int):PyData.eqv (.int a) (.int b)=decide (a=b):=by
 by_cases h:a=b<;>simp[PyData.eqv,h]
theorem eq_int{a b:Int}{s:Sto}:zR .eq (.int a) (.int b) s=.ok (.bool (decide (a=b))) s:=by
 simp[zR,zq,yX,qT,Val.isD,Val.d,PyData.depth,mT]
theorem ne_int{a b:Int}{s:Sto}:zR .ne (.int a) (.int b) s=.ok (.bool !(decide (a=b))) s:=by
 simp[zR,zq,yX,qT,Val.isD,Val.d,PyData.depth,mT]
theorem oa{vs:List Val}{k:Nat}{v:Val}{s:Sto}(h:vs[k]?=some v):x9 (.tup vs) (.int k) s=.ok v s:=by
 simp[x9,wM,L2.qL h]
theorem qY{ns:List Int}{k:Nat}{i:Int}{s:Sto}(h:ns[k]?=some i):x9 (.tup (ns.map .int)) (.int k) s=.ok (.int i) s:=oa (by rw[List.getElem?_map,h];rfl)
theorem vM(ns:List Int):(ns.map Val.int).all flat=true:=by
 rw[List.all_map];simp[flat]
theorem vg(ns:List Int)(y:Int):(ns.map Val.int).countP (fun z=>eqF z (.int y))=ns.count y:=by
 rw[List.countP_map];rfl
section
variable {T:Tbl}{Φ:Calls}{s:Sto}
def ZW(Φ:Calls):Prop:=∀(ns:List Int) (f d z:Nat) (s:Sto),0<d→1≤z→f+d*(z-1)<ns.length→z≤zN→Φ "is_one_hue" 0 [.tup (ns.map .int),.int f,.int d,.int z] s=.ok (.bool (vB ns f d z)) s
theorem ed{ns:List Int}{f d z:Nat}(hd:0<d)(hz:1≤z)(h:f+d*(z-1)<ns.length)(hl:z≤zN):run T Φ F.yj [.tup (ns.map .int),.int f,.int d,.int z] s=.ok (.bool (vB ns f d z)) s:=by
 have hf:f<ns.length:=by
  have:0≤d*(z-1):=Nat.zero_le _
  omega
 have a1:=gx hd hz h
 have hdI:(d:Int)≠0:=by omega
 rw[post_eq]
 have hm:-(2 ^ 64)<(z:Int)∧(z:Int)<2 ^ 64:=by
  unfold zN at hl;omega
 have hmul:binOp false .mul (.int d) (.int z) s=.ok (.int ((d:Int)*z)) s:=by
  simp only[binOp]
  rw[if_pos (.inr hm)]
 have hix:x9 (.tup (ns.map .int)) (.int f) s=.ok (.int (ns.getD f 0)) s:=qY (by rw[List.getElem?_eq_getElem hf,List.getD_eq_getElem?_getD,List.getElem?_eq_getElem hf];rfl)
 have hadd:binOp false .add (.int f) (.int ((d:Int)*z)) s=.ok (.int ((f:Int)+(d:Int)*z)) s:=by simp only[binOp]
 have hsl:ug false (.tup (ns.map .int)) (some (f:Int)) (some ((f:Int)+(d:Int)*z)) (some (d:Int)) s=.ok (.tup (((List.range z).map fun k=>ns.getD (f+k*d) 0).map .int)) s:=by
  simp only[ug,List.length_map]
  rw[a1,if_pos ⟨hdI,hl⟩]
  simp only[Yi,ie h]
 have key:decide ((((List.range z).map fun k=>ns.getD (f+k*d) 0).count (ns.getD f 0):Int)=(z:Int))=vB ns f d z:=by
  rw[Bool.eq_iff_iff,fg h,decide_eq_true_iff]
  have hl:((List.range z).map fun k=>ns.getD (f+k*d) 0).length=z:=by rw[List.length_map,List.length_range]
  constructor
  . intro e x hx
    exact(List.count_eq_length.mp (by rw[hl];exact Int.ofNat.inj e) x hx).symm
  . intro e
    rw[List.count_eq_length.mpr fun x hx=>(e x hx).symm,hl]
 generalize hy:ns.getD f 0=y at hix key
 generalize hxs:(List.range z).map (fun k=>ns.getD (f+k*d) 0)=xs at hsl key
 simp only[F.yj,EVl,yH,zZ]
 simp[EVl,yH,zZ,hmul,hadd,hix,hsl,z7,vM,vg,eq_int,flat]
 exact key
end
end M
end
section
namespace M
open PySem
theorem mK{α:Type}{xs:List α}{p:Nat}(hp:p≤xs.length):wk xs none (some (p:Int))=xs.take p:=by
 unfold wk
 have h1:HT.sIx xs.length 0 none=0:=rfl
 have h2:HT.sIx xs.length xs.length (some (p:Int))=p:=by rw[HT.mq];omega
 rw[h1,h2,List.drop_zero,Nat.sub_zero]
theorem gu{α:Type}{xs:List α}{p:Nat}(hp:p≤xs.length):wk xs (some (p:Int)) none=xs.drop p:=by
 unfold wk
 have h1:HT.sIx xs.length 0 (some (p:Int))=p:=by rw[HT.mq];omega
 have h2:HT.sIx xs.length xs.length none=xs.length:=rfl
 rw[h1,h2,List.take_of_length_le (by rw[List.length_drop];omega)]
noncomputable abbrev tpI(ns:List Int):Val:=.tup (ns.map .int)
section
variable {T:Tbl}{Φ:Calls}{s:Sto}
theorem qI{m:Bool}{a b:List Val}{s:Sto}(h:a.length+b.length≤zN):binOp m .add (.tup a) (.tup b) s=.ok (.tup (a++b)) s:=by
 simp only[binOp];rw[if_pos h]
end
end M
end
section
namespace M
open PySem
theorem g6{α β:Type}(f:α→Bool)(g:α→β)(xs:List α):xs.flatMap (fun x=>if f x then [g x] else [])=(xs.filter f).map g:=by
 induction xs with
 |nil=>rfl
 |cons x xs ih=>
  rw[List.flatMap_cons,ih]
  cases h:f x<;>simp[h]
section
variable {T:Tbl}{Φ:Calls}{s:Sto}
noncomputable def zx(hs:List Nat):Val:=.tup (hs.map fun(k:Nat)=>Val.int k)
end
end M
end
section
namespace M
open PySem
noncomputable def Yg(a b:Int):Cel:=.lst [.int a,.int b]
def ZZ(s:Sto)(p:Nat):Prop:=∃a b,s[p]?=some (Yg a b)∧0≤b∧b<2147483629
def dQ(s:Sto)(p:Nat)(s':Sto):Prop:=∃a b,s'=s.set p (Yg a b)∧0≤b∧b<2147483629
theorem dQ.at_{s s':Sto}{p:Nat}(h:dQ s p s')(hp:p<s.length):ZZ s' p:=by
 obtain⟨a,b,rfl,h1⟩:=h
 exact⟨a,b,List.getElem?_set_self hp,h1⟩
theorem bmod{m:Bool}{i j:Int}{s:Sto}(h:0<j):binOp m .mod (.int i) (.int j) s=.ok (.int (i%j)) s:=by
 simp only[binOp];rw[if_pos h]
theorem bdiv{m:Bool}{i j:Int}{s:Sto}(h:0<j∧j<1073741824):binOp m .fdiv (.int i) (.int j) s=.ok (.int (i/j)) s:=by
 simp only[binOp];rw[if_pos h]
theorem bB{vs:List Val}{i k:Nat}{v:Val}{s:Sto}(hs:s[i]?=some (.lst vs))(h:vs[k]?=some v):x9 (.ref i) (.int k) s=.ok v s:=by
 simp[x9,wM,hs,L2.qL h]
section
variable {T:Tbl}{Φ:Calls}{s:Sto}
def dM(Φ:Calls):Prop:=∀(ns:List Int) (k:Nat) (s:Sto),∃c,Φ "_law_cell_at" 0 [.scr ns,.int k] s=.ok (.int c) s
theorem hZ(ns:List Int)(k:Nat):∃c,run T Φ F.z5 [.scr ns,.int k] s=.ok (.int c) s:=by
 by_cases h:k<ns.length
 . refine⟨ns[k],?_⟩
   rw[post_eq]
   have h':(k:Int)<ns.length:=by omega
   have e:(ns.map Val.int)[k]?=some (.int ns[k]):=by rw[List.getElem?_map,List.getElem?_eq_getElem h];rfl
   have c1:x9 (.scr ns) (.int k) s=.ok (.int ns[k]) s:=by simp[x9,wM,L2.qL e]
   simp[F.z5,EVl,yH,zZ,j0,lt_int,h',h,c1]
 . refine⟨0,?_⟩
   rw[post_eq]
   have h':¬(k:Int)<ns.length:=by omega
   simp[F.z5,EVl,yH,zZ,j0,lt_int,h',h]
end
end M
end
section
namespace M
open PySem
theorem vN:∀ks:List Int,vT (ks.map .int)=true
 |[]=>by rw[List.map_nil,vT]
 |k::ks=>by rw[List.map_cons,vT,vN ks,Val.isD];rfl
theorem eq_nil{vs:List Val}{s:Sto}(h:vT vs=true):zR .eq (.lst vs) (.lst []) s=.ok (.bool vs.isEmpty) s:=by
 have h1:(Val.lst vs).isD=true:=by rw[Val.isD];exact h
 have h2:(Val.lst []).isD=true:=by rw[Val.isD,vT]
 have h3:(Val.lst []).d=.list []:=by rw[Val.d,ds]
 have h4:(Val.lst vs).d=.list (ds vs):=by rw[Val.d]
 have h5:PyData.eqv (.list (ds vs)) (.list [])=vs.isEmpty:=by
  cases vs with
  |nil=>rw[ds];rfl
  |cons v vs=>rw[ds];rfl
 simp only[zR,zq,yX,qT,h1,h2,h3,h4,h5]
 rfl
theorem uH{ns:List Int}{p:Nat}{h:Int}(hp:p<ns.length):putL ns p h=ns.set p h:=by
 rw[List.set_eq_take_append_cons_drop,if_pos hp];rfl
noncomputable def Zh(bad:Int→Bool):Val→List Val
 |.int x=>if bad x then [.int x] else []
 |_=>[]
theorem gz(bad:Int→Bool)(ks:List Int):(ks.map Val.int).flatMap (Zh bad)=(ks.filter bad).map .int:=by
 rw[List.flatMap_map,←g6];rfl
section
variable {T:Tbl}{Φ:Calls}{s:Sto}
theorem cA{G:Str→Option Val}{env:Env}{N:List Str}{fr:List (Option Nat)}{it:Itb}{ifs:Cns}{ks:List Int}{bad:Int→Bool}{e0:Env}(hi:yQ Φ G env it s=.ok ⟨ks.map .int,none⟩ s)(h0:zZ fr env=none::e0)(h:∀k∈ks,yo Φ G (some (.int k)::e0) ifs s=.ok (bad k) s):evE Φ G env (.comp false N fr (.var 0) (.nm 0) it ifs) s=.ok (.lst ((ks.filter bad).map .int)) s:=by
 refine post_eq.mpr (vQ (fun e=>∃o,e=o::e0) (Zh bad) (ks.map .int) (s1:=s) hi ⟨none,h0⟩ ?_ (by rw[gz];exact zC.mpr ⟨rfl,rfl⟩))
 rintro v hv e ⟨o,rfl⟩
 obtain⟨k,hk,rfl⟩:=List.mem_map.mp hv
 refine⟨_,rfl,⟨_,rfl⟩,?_⟩
 show (yo Φ G (some (.int k)::e0) ifs s).post _
 rw[h k hk]
 refine zC.mpr ⟨rfl,?_⟩
 show if bad k=true then _ else (if bad k then [Val.int k] else [])=[]
 cases hb:bad k with
 |true=>
  rw[if_pos rfl]
  refine md.mpr ⟨_,rfl,rfl,?_⟩
  show (if bad k then [Val.int k] else [])=_
  rw[hb,if_pos rfl]
 |false=>rw[if_neg Bool.false_ne_true,if_neg Bool.false_ne_true]
theorem qX{x:Int}{ks:List Int}{s:Sto}:zR .in_ (.int x) (.lst (ks.map .int)) s=.ok (.bool (ks.any fun z=>z == x)) s:=by
 have h1:(ks.map Val.int).all flat=true:=vM ks
 have h2:(ks.map Val.int).any (fun z=>eqF z (.int x))=ks.any fun z=>z == x:=by rw[List.any_map];rfl
 simp only[zR,wM,h1,h2,flat]
 rfl
end
end M
end
section
namespace M
open PySem
theorem lh{k w:Nat}{d:PyData}(L:L2.oP k w d)(hk:k≤50)(hw:w≤300000)(hd:d.hasDict=false):uc d=true:=by
 have:=L.dp
 have:=L.wt
 unfold uc
 rw[L.sh,L.lf,hd,decide_eq_true (show d.depth≤50 by omega),decide_eq_true (show d.weight≤300000 by omega)]
 rfl
theorem qS:∀ks:List Int,ds (ks.map .int)=ks.map PyData.int
 |[]=>by rw[List.map_nil,ds];rfl
 |k::ks=>by rw[List.map_cons,ds,qS ks,Val.d];rfl
theorem rX:∀ks:List Int,tF (ks.map .int)=true
 |[]=>by rw[List.map_nil,tF]
 |k::ks=>by rw[List.map_cons,tF,rX ks,Val.isR];rfl
theorem eW{m:Bool}{s:Sto}{ks:List Int}(h1:ks.length≤1000)(h2:∀k∈ks,0≤k∧k≤100000):blt .repr m [tpI ks] s=.ok (.str (PyData.tuple (ks.map PyData.int)).shown) s:=by
 have hd:(Val.tup (ks.map .int)).d=.tuple (ks.map PyData.int):=by rw[Val.d,qS]
 have hr:(Val.tup (ks.map .int)).isR=true:=by rw[Val.isR];exact rX ks
 have ok:uc (.tuple (ks.map PyData.int))=true:=lh (L2.oi (n:=1000) (k:=0) (w:=100) (fun d hd=>by obtain⟨r,hr,rfl⟩:=List.mem_map.mp hd;exact L2.j6 (by have:=h2 r hr;omega) (by have:=h2 r hr;omega)) (by rw[List.length_map];exact h1)) (by decide) (by decide) (by
  rw[PyData.hasDict]
  exact L2.rm fun d hd=>by obtain⟨r,hr,rfl⟩:=List.mem_map.mp hd;rfl)
 have hx:zq s (tpI ks)=.tup (ks.map .int):=by
  show Val.tup ((ks.map Val.int).map (yX s))=_
  rw[List.map_map];rfl
 simp only[blt]
 rw[hx,hd,hr,ok]
 rfl
theorem tP(hs:List Nat):zx hs=tpI (hs.map fun(k:Nat)=>(k:Int)):=by
 unfold zx tpI
 rw[List.map_map];rfl
theorem ne_str{a b:Str}{s:Sto}:zR .ne (.str a) (.str b) s=.ok (.bool !(decide (a=b))) s:=rfl
theorem pR:∀{n:Nat} {vs:List Val} {x:Val},x∈yq n vs→∃k v,vs[k]?=some v∧x=.tup [.int ((n+k:Nat):Int),v]
 |_,[],_,h=>by cases h
 |n,v::vs,x,h=>by
  rw[yq]at h
  rcases List.mem_cons.mp h with e|h
  . exact⟨0,v,rfl,e⟩
  . obtain⟨k,w,h1,h2⟩:=pR h
    refine⟨k+1,w,by simpa using h1,?_⟩
    rw[h2]
    congr 3;omega
theorem max2{m:Bool}{i j:Int}{s:Sto}:blt .max m [.int i,.int j] s=.ok (.int (if j > i then j else i)) s:=rfl
theorem min2{m:Bool}{i j:Int}{s:Sto}:blt .min m [.int i,.int j] s=.ok (.int (if j<i then j else i)) s:=rfl
theorem jN{Φ:Calls}{G:Str→Option Val}{env:Env}{s:Sto}{ns:List Int}{K:Nat}(h0:env[0]?=some (some (.scr ns)))(hK:K≤100) :
 yQ Φ G env (.range1 (.blt .max false (.cons (.lit (.int 1)) (.cons (.blt .min false (.cons (.blt .len false (.cons (.var 0) .nil)) (.cons (.lit (.int K)) .nil))) .nil)))) s=.ok ⟨yp 0 (max 1 (min ns.length K)),none⟩ s:=by
 rw[post_eq]
 simp only[EVl,yH,zZ]
 refine⟨_,h0,?_⟩
 rw[j0];simp only[zC]
 rw[min2];simp only[zC]
 rw[max2];simp only[zC]
 have e:(if (if (K:Int)<(ns.length:Int) then (K:Int) else (ns.length:Int)) > 1 then (if (K:Int)<(ns.length:Int) then (K:Int) else (ns.length:Int)) else 1)=((max 1 (min ns.length K):Nat):Int):=by
  split<;>split<;>omega
 rw[e]
 refine⟨_,rfl,⟨by omega,by unfold zN;omega⟩,?_⟩
 simp
theorem leave_top{v:Val}{s:Sto}(h:v.noRef=true):zP false [] v s=.ok v []:=by
 unfold zP
 simp[xV,freeze,h]
end M
end
section
namespace M
open L2
noncomputable def xQ(ns:List Int)(f d z:Nat)(h:Int):Bool:=(List.range z).all fun k=>decide (ns[f+k*d]?=some h)
theorem kg{ns:List Int}{f d z:Nat}{h:Int}:xQ ns f d z h=true↔∀k<z,ns[f+k*d]?=some h:=by
 unfold xQ
 rw[List.all_eq_true]
 exact⟨fun H k hk=>of_decide_eq_true (H k (List.mem_range.mpr hk)),fun H k hk=>decide_eq_true (H k (List.mem_range.mp hk))⟩
end M
end
section
namespace M
open PySem
section
variable {T:Tbl}{Φ:Calls}{s:Sto}
theorem nM{ns:List Int}{r:Nat × Nat}{z h:Nat}:(((yr r.1 r.2 z).filter fun x=>!decide (ns[x.toNat]?=some (h:Int))).map Val.int).isEmpty=xQ ns r.1 r.2 z h:=by
 rw[Bool.eq_iff_iff,List.isEmpty_iff,List.map_eq_nil_iff,List.filter_eq_nil_iff,kg]
 unfold yr
 constructor
 . intro H k hk
   have:=H _ (List.mem_map.mpr ⟨k,List.mem_range.mpr hk,rfl⟩)
   rw[Int.toNat_natCast]at this
   simpa using this
 . intro H x hx
   obtain⟨k,hk,rfl⟩:=List.mem_map.mp hx
   have:=H k (List.mem_range.mp hk)
   rw[Int.toNat_natCast]
   simpa using this
end
end M
end
section
namespace M
open PySem
noncomputable def endOf(ms:List Int)(st:List (Nat × Nat)):List Int:=st.foldl (fun ms q=>putL ms q.1 q.2) ms
noncomputable def SO(zs:List Int):List Int→List (Nat × Nat)→Prop
 |_,[]=>True
 |ms,(p,h)::st=>ms[p]?=some (-1)∧YM zs ms p=[h]∧SO zs (putL ms p h) st
theorem SO.append{zs:List Int}:∀{st st':List (Nat × Nat)} {ms:List Int},SO zs ms st→SO zs (endOf ms st) st'→SO zs ms (st++st')
 |[],_,_,_,h=>h
 |(p,h)::st,st',ms,⟨a,b,c⟩,d=>⟨a,b,SO.append c d⟩
end M
end
section
namespace M
open PySem
theorem mL{α:Type}{xs:List α}{lo hi:Option Int}:(wk xs lo hi).length≤xs.length:=by
 unfold wk
 rw[List.length_take,List.length_drop]
 omega
end M
end
section
namespace M
open PySem
theorem gb{l m i:Int}:xN l m (.int i)=(decide (l≤i)&&decide (i≤m)):=rfl
section
variable {Φ:Calls}{G:Str→Option Val}{env:Env}{s s1 s2 s3 s4:Sto}
noncomputable def a0(f:Nat→Int):Val→List Val
 |.int k=>[.int (f k.toNat)]
 |_=>[]
theorem hG{f:Nat→Int}{n:Nat}:(yp 0 n).flatMap (a0 f)=((List.range n).map f).map .int:=by
 unfold yp
 rw[List.flatMap_map,List.map_map]
 have:(fun(k:Nat)=>a0 f (.int (0+(k:Int))))=fun k=>[(Val.int∘f) k]:=by
  funext k
  show [Val.int (f (0+(k:Int)).toNat)]=_
  rw[Int.zero_add,Int.toNat_natCast];rfl
 rw[this,rW]
theorem XF{N:List Str}{fr:List (Option Nat)}{elt:Ex}{it:Itb}{n:Nat}{f:Nat→Int}{e0:Env}(hi:yQ Φ G env it s=.ok ⟨yp 0 n,none⟩ s)(h0:zZ fr env=none::e0)(h:∀(k:Nat) (o:Option Val),k<n→evE Φ G (some (.int k)::e0) elt s=.ok (.int (f k)) s)(hl:n≤zN):evE Φ G env (.comp false N fr elt (.nm 0) it .nil) s=.ok (.lst (((List.range n).map f).map .int)) s:=by
 rw[post_eq]
 refine vQ (fun e=>∃o,e=o::e0) (a0 f) (yp 0 n) (s1:=s) hi ⟨none,h0⟩ ?_ ?_
 . rintro x hx e ⟨o,rfl⟩
   obtain⟨k,hk,rfl⟩:=tR hx
   refine⟨_,rfl,⟨_,rfl⟩,xZ.mpr ⟨rfl,?_⟩⟩
   rw[if_pos rfl,Int.zero_add]
   show (evE Φ G (some (.int (k:Int))::e0) elt s).post _
   rw[h k none hk]
   refine zC.mpr ⟨rfl,?_⟩
   show [Val.int (f (k:Int).toNat)]=_
   rw[Int.toNat_natCast]
 . rw[hG]
   exact zC.mpr ⟨rfl,rfl⟩
end
theorem gw{α β:Type}{f:α→β}{xs:List α}{lo hi:Option Int}:wk (xs.map f) lo hi=(wk xs lo hi).map f:=by
 unfold wk
 rw[List.length_map,List.map_take,List.map_drop]
theorem gI{m:Bool}{ns:List Int}{lo hi:Option Int}{s:Sto}:ug m (tpI ns) lo hi none s=.ok (tpI (wk ns lo hi)) s:=by
 show Out.ok (Val.tup (wk (ns.map .int) lo hi)) s=_
 rw[gw]
theorem fb{vs:List Val}{k:Nat}{m:Bool}{s:Sto}(h:k≤1000)(h1:vs≠[])(h2:vs.length≤1000):binOp m .mul (.tup vs) (.int k) s=.ok (.tup (List.replicate k vs).flatten) s:=by
 simp only[binOp]
 rw[if_pos ⟨by omega,by omega,h1,h2⟩,Int.toNat_natCast]
end M
end
section
namespace M
open PySem
theorem kh{ds:List Int}{f d z:Nat}{h:Int}(hf:ds[f]?=some h):xQ ds f d z h=vB ds f d z:=by
 unfold xQ vB
 rw[hf]
theorem oh{f d z:Nat}{s:Sto}(hz:1≤z):x9 (.lst ((yr f d z).map .int)) (.int (-1)) s=.ok (.int ((f+(z-1)*d:Nat):Int)) s:=by
 obtain⟨z,rfl⟩:∃k,z=k+1:=⟨z-1,by omega⟩
 show (match L2.atI ((yr f d (z+1)).map Val.int) (-1) with|some v=>Out.ok v s|Option.none=>.stuck)=_
 unfold yr
 rw[List.range_succ,List.map_append,List.map_append,List.map_singleton,List.map_singleton,L2.ki];rfl
section
variable {T:Tbl}{Φ:Calls}{s:Sto}
theorem iy{G:Str→Option Val}{env:Env}{i:Nat}{e e':Ex}{ds:List Int}{f:Nat}{h:Int}(hi:env[i]?=some (some (tpI ds)))(he:evE Φ G env e s=.ok (.int (f:Int)) s)(he':evE Φ G env e' s=.ok (.int h) s)(hf:f<ds.length)(hd:ds.length≤40):evE Φ G env (.bin false .add (.bin false .add (.sl false (.var i) .no (.yes e) .no) (.tup (.cons e' .nil))) (.sl false (.var i) (.yes (.bin false .add e (.lit (.int 1)))) .no .no)) s=.ok (tpI (putL ds f h)) s:=by
 have c1:=mL (xs:=ds) (lo:=none) (hi:=some (f:Int))
 have c2:=mL (xs:=ds) (lo:=some ((f:Int)+1)) (hi:=none)
 refine(zu (zu (ZU (zB hi) la (iD he) la gI) (x8 (zA he' zD) (by show 1≤zN;unfold zN;omega)) (qI (by rw[List.length_map];show _+1≤zN;unfold zN;omega))) (ZU (zB hi) (iD (zu he zJ u9)) la la gI) (qI (by rw[List.length_append,List.length_map,List.length_map];show _+1+_≤zN;unfold zN;omega))).trans ?_
 have e1:wk ds none (some (f:Int))=ds.take f:=mK (by omega)
 have e2:wk ds (some ((f:Int)+1)) none=ds.drop (f+1):=by
  rw[show ((f:Int)+1)=((f+1:Nat):Int) by omega]
  exact gu (by omega)
 rw[e1,e2]
 unfold putL
 show Out.ok (Val.tup (((ds.take f).map Val.int++[Val.int h])++(ds.drop (f+1)).map Val.int)) s=Out.ok (Val.tup ((ds.take f++h::ds.drop (f+1)).map Val.int)) s
 rw[List.map_append,List.append_assoc];rfl
end
end M
end
section
namespace F75
open PySem M
noncomputable def yd:Fn:=⟨["_law_pen_here","_law_bound","_law_found","_law_stir"],["_law_pen_here","_law_bound"],false,(.cons (.ifS (.and (.val (.cmp .eq (.ix (.var 0) (.lit (.int 1))) (.lit (.int 1)))) (.cons (.val (.cmp .gt (.ix (.var 0) (.lit (.int 0))) (.lit (.int 0)))) .nil)) (.cons (.asg 2 (.bin false .mod (.ix (.var 0) (.lit (.int 0))) (.var 1))) (.cons (.setIx (.var 0) (.lit (.int 0)) (.bin false .fdiv (.ix (.var 0) (.lit (.int 0))) (.var 1))) (.cons (.ret (.var 2)) .nil))) .nil) (.cons (.setIx (.var 0) (.lit (.int 2)) (.bin false .add (.ix (.var 0) (.lit (.int 2))) (.lit (.int 1)))) (.cons (.asg 3 (.bin false .mod (.bin false .mul (.bin false .add (.ix (.var 0) (.lit (.int 3))) (.lit (.int 17))) (.bin false .add (.lit (.int 69621)) (.bin false .mul (.lit (.int 2)) (.ix (.var 0) (.lit (.int 2)))))) (.lit (.int 2147483647)))) (.cons (.asg 3 (.bin false .mod (.bin false .add (.bin false .add (.bin false .mul (.var 3) (.var 3)) (.bin false .mul (.lit (.int 40503)) (.ix (.var 0) (.lit (.int 2))))) (.lit (.int 5))) (.lit (.int 2147483629)))) (.cons (.ret (.bin false .mod (.bin false .fdiv (.bin false .mod (.bin false .mul (.var 3) (.lit (.int 48271))) (.lit (.int 2147483647))) (.lit (.int 32))) (.var 1))) .nil)))))⟩
noncomputable def yz:Fn:=⟨["_law_size","_law_stand"],["_law_size","_law_stand"],false,(.cons (.ifS (.or (.val (.call "_law_has" 0 (.cons (.var 0) (.cons (.var 1) (.cons (.lit (.int 1)) .nil))))) (.cons (.val (.call "_law_has" 0 (.cons (.var 0) (.cons (.var 1) (.cons (.lit (.int 2)) .nil))))) .nil)) (.cons (.ret (.tup .nil)) .nil) .nil) (.cons (.ret (.blt .tuple false (.cons (.comp false ["_law_place","_law_stand"] [none,some 1] (.var 0) (.nm 0) (.range1 (.blt .len false (.cons (.var 1) .nil))) (.cons (.val (.cmp .eq (.ix (.var 1) (.var 0)) (.lit (.int 0)))) .nil)) .nil))) .nil))⟩
noncomputable def y0:Fn:=⟨["_law_stand"],["_law_stand"],false,(.cons (.ret (.bin false .sub (.bin false .add (.lit (.int 1)) (.z7 .count false (.var 0) (.cons (.lit (.int 1)) .nil))) (.z7 .count false (.var 0) (.cons (.lit (.int 2)) .nil)))) .nil)⟩
noncomputable def xD:Fn:=⟨["_law_size","_law_stand","_law_hand_here","_law_first","_law_step","_law_row"],["_law_size","_law_stand","_law_hand_here"],false,(.cons (.forS (.nm 3) (.range1 (.blt .len false (.cons (.var 1) .nil))) (.cons (.forS (.nm 4) (.range2 (.lit (.int 1)) (.blt .len false (.cons (.var 1) .nil))) (.cons (.asg 5 (.comp false ["_law_k","_law_first","_law_step"] [none,some 3,some 4] (.bin false .add (.var 1) (.bin false .mul (.var 0) (.var 2))) (.nm 0) (.range1 (.var 0)) .nil)) (.cons (.ifS (.and (.val (.cmp .lt (.ix (.var 5) (.neg (.lit (.int 1)))) (.blt .len false (.cons (.var 1) .nil)))) (.cons (.val (.cmp .eq (.comp false ["_law_place","_law_hand_here","_law_stand"] [none,some 2,some 1] (.var 0) (.nm 0) (.val (.var 5)) (.cons (.val (.cmp .ne (.ix (.var 2) (.var 0)) (.var 1))) .nil)) (.lst false .nil))) .nil)) (.cons (.ret (.lit (.bool true))) .nil) .nil) .nil))) .nil)) (.cons (.ret (.lit (.bool false))) .nil))⟩
noncomputable def yM:Fn:=⟨["_law_cell"],["_law_cell"],true,(.cons (.ret (.lst true (.cons (.var 0) (.cons (.blt .int false (.cons (.cmp .ge (.var 0) (.bin false .pow (.lit (.int 10)) (.lit (.int 18)))) .nil)) (.cons (.lit (.int 0)) (.cons (.bin false .mod (.var 0) (.lit (.int 1000000007))) .nil)))))) .nil)⟩
noncomputable def yS:Fn:=⟨["_law_pen_here","_law_size","_law_many","_law_steps","_law_stand","_law_turn","_law_some"],["_law_pen_here","_law_size","_law_many","_law_steps"],false,(.cons (.asg 4 (.bin false .mul (.tup (.cons (.lit (.int 0)) .nil)) (.var 2))) (.cons (.forS (.nm 5) (.range1 (.var 3)) (.cons (.asg 6 (.call "_law_free" 0 (.cons (.var 1) (.cons (.var 4) .nil)))) (.cons (.ifS (.val (.cmp .ne (.var 6) (.tup .nil))) (.cons (.asg 4 (.call "_law_put" 0 (.cons (.var 4) (.cons (.ix (.var 6) (.call "_law_draw" 0 (.cons (.var 0) (.cons (.blt .len false (.cons (.var 6) .nil)) .nil)))) .nil)))) .nil) .nil) .nil))) (.cons (.ret (.var 4)) .nil)))⟩
noncomputable def yt:Fn:=⟨["_law_stand","_law_place"],["_law_stand","_law_place"],false,(.cons (.ret (.bin false .add (.bin false .add (.sl false (.var 0) .no (.yes (.var 1)) .no) (.tup (.cons (.call "_law_hand" 0 (.cons (.var 0) .nil)) .nil))) (.sl false (.var 0) (.yes (.bin false .add (.var 1) (.lit (.int 1)))) .no .no))) .nil)⟩
noncomputable def zw:Fn:=⟨["_law_size","_law_stand","_law_contrary","_law_known","_law_hand_here","_law_some","_law_place"],["_law_size","_law_stand","_law_contrary","_law_known"],false,(.cons (.forS (.nm 4) (.val (.tup (.cons (.lit (.int 1)) (.cons (.lit (.int 2)) .nil)))) (.cons (.ifS (.val (.call "_law_has" 0 (.cons (.var 0) (.cons (.var 1) (.cons (.var 4) .nil))))) (.cons (.ret (.ix (.lst false (.cons (.var 4) (.cons (.bin false .sub (.lit (.int 3)) (.var 4)) .nil))) (.var 2))) .nil) .nil) .nil)) (.cons (.asg 4 (.call "_law_hand" 0 (.cons (.var 1) .nil))) (.cons (.asg 5 (.lst true .nil)) (.cons (.forS (.nm 6) (.val (.call "_law_free" 0 (.cons (.var 0) (.cons (.var 1) .nil)))) (.cons (.expr (.z7 .append false (.var 5) (.cons (.call "_law_worth" 0 (.cons (.var 0) (.cons (.call "_law_put" 0 (.cons (.var 1) (.cons (.var 6) .nil))) (.cons (.var 2) (.cons (.var 3) .nil))))) .nil))) .nil)) (.cons (.ifS (.val (.cmp .in_ (.var 4) (.var 5))) (.cons (.ret (.var 4)) .nil) .nil) (.cons (.ret (.ife (.or (.val (.cmp .eq (.var 5) (.lst false .nil))) (.cons (.val (.cmp .in_ (.lit (.int 0)) (.var 5))) .nil)) (.lit (.int 0)) (.bin false .sub (.lit (.int 3)) (.var 4)))) .nil))))))⟩
noncomputable def y1:Fn:=⟨["_law_stand"],["_law_stand"],false,(.cons (.ret (.z7 .join false (.lit (.str "")) (.cons (.comp false ["_law_one"] [none] (.blt .str false (.cons (.var 0) .nil)) (.nm 0) (.val (.var 0)) .nil) .nil))) .nil)⟩
noncomputable def yN:Fn:=⟨["_law_size","_law_stand","_law_contrary","_law_known","_law_key"],["_law_size","_law_stand","_law_contrary","_law_known"],false,(.cons (.asg 4 (.call "_law_text" 0 (.cons (.var 1) .nil))) (.cons (.ifS (.val (.cmp .notInD (.var 4) (.var 3))) (.cons (.setD (.var 3) (.var 4) (.call "_law_reckoned" 0 (.cons (.var 0) (.cons (.var 1) (.cons (.var 2) (.cons (.var 3) .nil)))))) .nil) .nil) (.cons (.ret (.ixD (.var 3) (.var 4))) .nil)))⟩
noncomputable def z9:Fn:=⟨["stand","place"],["stand","place"],false,(.cons (.ret (.bin false .add (.bin false .add (.sl false (.var 0) .no (.yes (.var 1)) .no) (.tup (.cons (.call "hand_due" 0 (.cons (.var 0) .nil)) .nil))) (.sl false (.var 0) (.yes (.bin false .add (.var 1) (.lit (.int 1)))) .no .no))) .nil)⟩
noncomputable def yE:Fn:=⟨["size","stand","contrary","known","won","behind"],["size","stand","contrary","known"],false,(.cons (.asg 4 (.call "winner" 0 (.cons (.var 0) (.cons (.var 1) .nil)))) (.cons (.ifS (.val (.cmp .isNot (.var 4) (.lit .none))) (.cons (.ret (.ife (.val (.var 2)) (.call "other_hand" 0 (.cons (.var 4) .nil)) (.var 4))) .nil) .nil) (.cons (.asg 5 (.comp false ["place","stand"] [none,some 1] (.call "behind_taking" 0 (.cons (.var 1) (.cons (.var 0) .nil))) (.nm 0) (.val (.call "free_places" 0 (.cons (.var 0) (.cons (.var 1) .nil)))) .nil)) (.cons (.ifS (.not (.val (.var 5))) (.cons (.ret (.gl "NEITHER")) .nil) .nil) (.cons (.ret (.call "wished_worth" 0 (.cons (.call "hand_due" 0 (.cons (.var 1) .nil)) (.cons (.comp false ["now","size","contrary","known"] [none,some 0,some 2,some 3] (.call "worth_of" 0 (.cons (.var 1) (.cons (.var 0) (.cons (.var 2) (.cons (.var 3) .nil))))) (.nm 0) (.val (.var 5)) .nil) .nil)))) .nil)))))⟩
noncomputable def yU:Fn:=⟨["size","stand"],["size","stand"],false,(.cons (.ifS (.val (.cmp .isNot (.call "winner" 0 (.cons (.var 0) (.cons (.var 1) .nil))) (.lit .none))) (.cons (.ret (.tup .nil)) .nil) .nil) (.cons (.ret (.blt .tuple false (.cons (.comp false ["place","mark"] [none,none] (.var 0) (.nms [0,1]) (.enum (.var 1)) (.cons (.val (.cmp .eq (.var 1) (.gl "FREE"))) .nil)) .nil))) .nil))⟩
noncomputable def xE:Fn:=⟨["stand"],["stand"],false,(.cons (.ret (.ife (.val (.cmp .eq (.z7 .count false (.var 0) (.cons (.ix (.gl "HANDS") (.lit (.int 0))) .nil)) (.z7 .count false (.var 0) (.cons (.ix (.gl "HANDS") (.lit (.int 1))) .nil)))) (.ix (.gl "HANDS") (.lit (.int 0))) (.ix (.gl "HANDS") (.lit (.int 1))))) .nil)⟩
noncomputable def xc:Fn:=⟨["size","stand","hand","rows"],["size","stand","hand"],false,(.cons (.asg 3 (.call "rows_in" 0 (.cons (.blt .len false (.cons (.var 1) .nil)) (.cons (.var 0) .nil)))) (.cons (.ret (.blt .any false (.cons (.comp false ["first","step","hand","stand","size"] [none,none,some 2,some 1,some 0] (.andE (.cmp .eq (.ix (.var 3) (.var 0)) (.var 2)) (.cons (.call "is_one_hue" 0 (.cons (.var 3) (.cons (.var 0) (.cons (.var 1) (.cons (.var 4) .nil))))) .nil)) (.nms [0,1]) (.val (.var 3)) .nil) .nil))) .nil))⟩
noncomputable def yi:Fn:=⟨["size","stand","more"],["size","stand"],false,(.cons (.asg 2 (.bin false .sub (.z7 .count false (.var 1) (.cons (.ix (.gl "HANDS") (.lit (.int 0))) .nil)) (.z7 .count false (.var 1) (.cons (.ix (.gl "HANDS") (.lit (.int 1))) .nil)))) (.cons (.ret (.andE (.chain .le .le (.lit (.int 0)) (.var 2) (.lit (.int 1))) (.cons (.not (.call "has_row" 0 (.cons (.var 0) (.cons (.var 1) (.cons (.call "hand_due" 0 (.cons (.var 1) .nil)) .nil))))) .nil))) .nil))⟩
noncomputable def y2:Fn:=⟨["thing"],["thing"],false,(.cons (.ret (.andE (.blt .isi false (.cons (.var 0) (.cons (.ty "tuple" "tuple") .nil))) (.cons (.chain .le .le (.lit (.int 1)) (.blt .len false (.cons (.var 0) .nil)) (.gl "MOST_STAND_PLACES")) (.cons (.call "are_wholes" 0 (.cons (.var 0) (.cons (.gl "FREE") (.cons (.ix (.gl "HANDS") (.lit (.int 1))) .nil)))) .nil)))) .nil)⟩
noncomputable def xF:Fn:=⟨["size","thing"],["size","thing"],false,(.cons (.expr (.call "need_size" 0 (.cons (.var 0) .nil))) (.cons (.ret (.andE (.call "is_marked" 0 (.cons (.var 1) .nil)) (.cons (.call "is_in_turn" 0 (.cons (.var 0) (.cons (.var 1) .nil))) .nil))) .nil))⟩
noncomputable def yk:Fn:=⟨["size","thing"],["size","thing"],false,(.cons (.ifS (.not (.val (.call "is_stand" 0 (.cons (.var 0) (.cons (.var 1) .nil))))) (.cons (.raise (.lit .none)) .nil) .nil) .nil)⟩
noncomputable def ym:Fn:=⟨["hand"],["hand"],false,(.cons (.ret (.bin false .sub (.bin false .add (.ix (.gl "HANDS") (.lit (.int 0))) (.ix (.gl "HANDS") (.lit (.int 1)))) (.var 0))) .nil)⟩
noncomputable def xf:Fn:=⟨["length","size"],["length","size"],false,(.cons (.expr (.call "need_length" 0 (.cons (.var 0) .nil))) (.cons (.expr (.call "need_size" 0 (.cons (.var 1) .nil))) (.cons (.ret (.comp2 false ["first","step","length","size"] [none,none,some 0,some 1] (.tup (.cons (.var 0) (.cons (.var 1) .nil))) (.nm 0) (.range1 (.var 0)) .nil (.nm 1) (.range2 (.lit (.int 1)) (.bin false .add (.call "most_step" 0 (.cons (.var 2) (.cons (.var 0) (.cons (.var 3) .nil)))) (.lit (.int 1)))) .nil)) .nil)))⟩
noncomputable def wD:Fn:=⟨["size","stand","last"],["size","stand"],false,(.cons (.asg 2 (.call "other_hand" 0 (.cons (.call "hand_due" 0 (.cons (.var 1) .nil)) .nil))) (.cons (.ret (.ife (.val (.call "has_row" 0 (.cons (.var 0) (.cons (.var 1) (.cons (.var 2) .nil))))) (.var 2) (.lit .none))) .nil))⟩
noncomputable def yI:Fn:=⟨["hand","worths"],["hand","worths"],false,(.cons (.ifS (.val (.cmp .in_ (.var 0) (.var 1))) (.cons (.ret (.var 0)) .nil) .nil) (.cons (.ret (.ife (.val (.cmp .in_ (.gl "NEITHER") (.var 1))) (.gl "NEITHER") (.call "other_hand" 0 (.cons (.var 0) .nil)))) .nil))⟩
noncomputable def vK:Fn:=⟨["size","stand"],["size","stand"],false,(.cons (.expr (.call "need_stand" 0 (.cons (.var 0) (.cons (.var 1) .nil)))) (.cons (.ret (.call "worth_of" 0 (.cons (.var 0) (.cons (.var 1) (.cons (.lit (.bool false)) (.cons (.dctN true) .nil)))))) .nil))⟩
noncomputable def yu:Fn:=⟨["size","stand","contrary","known"],["size","stand","contrary","known"],false,(.cons (.ifS (.val (.cmp .notInD (.var 1) (.var 3))) (.cons (.setD (.var 3) (.var 1) (.call "found_worth" 0 (.cons (.var 0) (.cons (.var 1) (.cons (.var 2) (.cons (.var 3) .nil)))))) .nil) .nil) (.cons (.ret (.ixD (.var 3) (.var 1))) .nil))⟩
end F75
end
section
namespace M
open PySem
noncomputable def rA(a b c d:Int):Cel:=.lst [.int a,.int b,.int c,.int d]
def tY(s:Sto)(p:Nat):Prop:=∃a b c d,s[p]?=some (rA a b c d)∧0≤d∧d<1000000007
def wq(s:Sto)(p:Nat)(s':Sto):Prop:=∃a b c d,s'=s.set p (rA a b c d)∧0≤d∧d<1000000007
theorem tY.lt{s:Sto}{p:Nat}(h:tY s p):p<s.length:=by
 obtain⟨a,b,c,d,h,_⟩:=h
 exact(List.getElem?_eq_some_iff.mp h).1
theorem wq.at_{s s':Sto}{p:Nat}(h:wq s p s')(hp:p<s.length):tY s' p:=by
 obtain⟨a,b,c,d,rfl,h1⟩:=h
 exact⟨a,b,c,d,List.getElem?_set_self hp,h1⟩
theorem wq.trans{s s1 s2:Sto}{p:Nat}(h:wq s p s1)(k:wq s1 p s2):wq s p s2:=by
 obtain⟨a,b,c,d,rfl,h1⟩:=h
 obtain⟨a',b',c',d',rfl,h2⟩:=k
 exact⟨a',b',c',d',by rw[List.set_set],h2⟩
theorem tY.refl{s:Sto}{p:Nat}(h:tY s p):wq s p s:=by
 obtain⟨a,b,c,d,h,h1⟩:=h
 obtain⟨hp,e⟩:=List.getElem?_eq_some_iff.mp h
 exact⟨a,b,c,d,by rw[←e,List.set_getElem_self],h1⟩
theorem pO{s s':Sto}{p:Nat}{v:Val}(h:wq s p s')(hv:v.noRef=true):zP false s v s'=.ok v s':=by
 obtain⟨a,b,c,d,rfl,_⟩:=h
 exact lT hv rfl
section
variable {T:Tbl}{Φ:Calls}{G:Str→Option Val}{env:Env}{s s1 s2 s3:Sto}
theorem nz{es:Exs}{vs:List Val}(h:ye Φ G env es s=.ok vs s1)(hl:vs.length≤zN):evE Φ G env (.lst true es) s=.ok (.ref s1.length) (s1++[.lst vs]):=bnd h (if_pos hl)
theorem ZK{c:Cn}{cs:Cns}(h:evT Φ G env c s=.ok false s1):evT Φ G env (.and c cs) s=.ok false s1:=bnd h rfl
theorem gP{c:Cn}{cs:Cns}{b:Bool}(h:evT Φ G env c s=.ok true s1)(k:yo Φ G env cs s1=.ok b s2):evT Φ G env (.and c cs) s=.ok b s2:=bnd h k
theorem mr{o i e:Ex}{cs:Sms}{v:Val}{r j:Nat}{k:Int}{vs:List Val}{P:Fl→Sto→Prop}(he:evE Φ G env e s=.ok v s1)(ho:evE Φ G env o s1=.ok (.ref r) s1)(hi:evE Φ G env i s1=.ok (.int k) s1)(hs:s1[r]?=some (.lst vs))(hj:L2.ixN vs.length k=some j)
 (q:(zO Φ G env cs (s1.set r (.lst (vs.set j v)))).post P):(zO Φ G env (.cons (.setIx o i e) cs) s).post P:=by
 have e0:exS Φ G env (.setIx o i e) s=.ok (.nx env) (s1.set r (.lst (vs.set j v))):=by
  show ((evE Φ G env e s).bind _)=_
  rw[he,zK,ho,zK,hi,zK]
  simp only[hs,hj]
  rfl
 refine zX.mpr ?_
 rw[e0]
 exact zC.mpr q
def dP(Φ:Calls):Prop:=∀(c:Int) (s:Sto),∃a b e d,Φ "_law_pen" 1 [.int c] s=.ok (.ref s.length) (s++[rA a b e d])∧0≤d∧d<1000000007
theorem gF(c:Int):∃a b e d,run T Φ F75.yM [.int c] s=.ok (.ref s.length) (s++[rA a b e d])∧0≤d∧d<1000000007:=by
 refine⟨c,if decide ((10:Int) ^ 18≤c) then 1 else 0,0,c%1000000007,?_,Int.emod_nonneg _ (by omega),Int.emod_lt_of_pos _ (by omega)⟩
 rw[post_eq,F75.yM,z0]
 refine⟨rfl,?_⟩
 show (zO Φ T.gl [some (.int c)] _ s).post _
 refine ze (nz (zA (zB rfl) (zA (yc (zA (yL (zB rfl) (zu zJ zJ rfl) ge_int) zD) rfl) (zA zJ (zA (zu (zB rfl) zJ (bmod (by omega))) zD)))) (show 4≤zN by unfold zN;omega)) ?_
 exact zC.mpr ⟨rfl,rfl⟩
def qD(Φ:Calls):Prop:=∀(p:Nat) (m:Int) (s:Sto),tY s p→0<m→m<1000000→(Φ "_law_draw" 0 [.ref p,.int m] s).post fun v s'=>∃r:Nat,v=.int r∧(r:Int)<m∧wq s p s'
theorem kC{p:Nat}{m:Int}(hp:tY s p)(h1:0<m)(h2:m<1000000):(run T Φ F75.yd [.ref p,.int m] s).post fun v s'=>∃r:Nat,v=.int r∧(r:Int)<m∧wq s p s':=by
 have hpl:=hp.lt
 obtain⟨a,b,c,d,hs,hd0,hd1⟩:=hp
 have ix:∀{s:Sto} {a b c d:Int} {k:Nat} {v:Val},s[p]?=some (rA a b c d)→[Val.int a,.int b,.int c,.int d][k]?=some v→x9 (.ref p) (.int k) s=.ok v s:=fun h h'=>bB h h'
 rw[F75.yd,z0]
 refine⟨rfl,?_⟩
 show (zO Φ T.gl [some (.ref p),some (.int m),none,none] _ s).post _
 have tc:evT Φ T.gl [some (.ref p),some (.int m),none,none] (.and (.val (.cmp .eq (.ix (.var 0) (.lit (.int 1))) (.lit (.int 1)))) (.cons (.val (.cmp .gt (.ix (.var 0) (.lit (.int 0))) (.lit (.int 0)))) .nil)) s=.ok (decide (b=1)&&decide (0<a)) s:=ZL (yD (yL (xO (zB rfl) zJ (ix (k:=1) hs rfl)) zJ eq_int) zW) (yD (yL (xO (zB rfl) zJ (ix (k:=0) hs rfl)) zJ gt_int) zW)
 have fin':∀{x:Int} {s':Sto},wq s p s'→(zP false s (.int (x%m)) s').post fun v s'=>∃r:Nat,v=.int r∧(r:Int)<m∧wq s p s':=fun{x s'} t=>by
  rw[pO t yY]
  have h3:=Int.emod_nonneg x (show m≠0 by omega)
  have h4:=Int.emod_lt_of_pos x h1
  exact zC.mpr ⟨(x%m).toNat,by congr 1;omega,by omega,t⟩
 cases hb:(decide (b=1)&&decide (0<a)) with
 |true=>
  rw[hb]at tc
  refine vF tc (yb (zu (xO (zB rfl) zJ (ix (k:=0) hs rfl)) (zB rfl) (bmod h1)) ?_)
  refine mr (j:=0) (zu (xO (zB rfl) zJ (ix (k:=0) hs rfl)) (zB rfl) (bdiv ⟨h1,by omega⟩)) (zB rfl) zJ hs rfl (ze (zB rfl) ?_)
  exact fin' ⟨a/m,b,c,d,rfl,hd0,hd1⟩
 |false=>
  rw[hb]at tc
  refine wL tc ?_
  refine mr (j:=2) (zu (xO (zB rfl) zJ (ix (k:=2) hs rfl)) zJ u9) (zB rfl) zJ hs rfl ?_
  have hs':(s.set p (rA a b (c+1) d))[p]?=some (rA a b (c+1) d):=List.getElem?_set_self hpl
  show (zO Φ T.gl [some (.ref p),some (.int m),none,none] _ (s.set p (rA a b (c+1) d))).post _
  refine yb (zu (zu (zu (xO (zB rfl) zJ (ix (k:=3) hs' rfl)) zJ u9) (zu zJ (zu zJ (xO (zB rfl) zJ (ix (k:=2) hs' rfl)) (kj (by omega))) u9) (show binOp false .mul (.int (d+17)) _ _=_ by simp only[binOp];rw[if_pos (.inl (by omega))])) zJ (bmod (by omega))) ?_
  generalize hx:(d+17)*(69621+2*(c+1))%2147483647=x
  have x0:0≤x:=by rw[←hx];exact Int.emod_nonneg _ (by omega)
  have x1:x<2147483647:=by rw[←hx];exact Int.emod_lt_of_pos _ (by omega)
  refine yb (zu (zu (zu (zu (zB rfl) (zB rfl) (show binOp false .mul (.int x) (.int x) _=_ by simp only[binOp];rw[if_pos (.inl (by omega))])) (zu zJ (xO (zB rfl) zJ (ix (k:=2) hs' rfl)) (kj (by omega))) u9) zJ u9) zJ (bmod (by omega))) ?_
  generalize hy:(x*x+40503*(c+1)+5)%2147483629=y
  refine ze (zu (zu (zu (zu (zB rfl) zJ (Zc (by omega))) zJ (bmod (by omega))) zJ (bdiv ⟨by omega,by omega⟩)) (zB rfl) (bmod h1)) ?_
  exact fin' ⟨a,b,c+1,d,rfl,hd0,hd1⟩
end
end M
end
section
namespace M
open PySem
theorem uC:∀{vs:List Val},(∀v∈vs,v.noRef=true)→zj vs=true
 |[],_=>qd
 |v::vs,h=>by rw[uD,h v (.head _),uC fun w hw=>h w (.tail _ hw)];rfl
noncomputable def hasB(z:Nat)(st:List Int)(h:Int):Bool:=(y7 st.length z).any fun r=>xQ st r.1 r.2 z h
noncomputable def zg(st:List Int):Nat:=if st.count 1=st.count 2 then 1 else 2
noncomputable def zY(st:List Int):Nat:=3-zg st
noncomputable def za(st:List Int):List Nat:=(List.range st.length).filter fun p=>decide (st[p]?=some 0)
noncomputable def zb(st:List Int)(p:Nat):List Int:=putL st p (zg st)
structure Stn(z:Nat)(st:List Int):Prop where
 z2:2≤z
 z8:z≤8
 n1:1≤st.length
 n8:st.length≤8
 ms:∀x∈st,0≤x∧x≤2
 lo:st.count 2≤st.count 1
 hi:st.count 1≤st.count 2+1
 nw:hasB z st (zg st)=false
theorem v9(st:List Int):(zg st=1∧zY st=2)∨(zg st=2∧zY st=1):=by
 unfold zY zg
 by_cases h:st.count 1=st.count 2
 . rw[if_pos h];exact .inl ⟨rfl,rfl⟩
 . rw[if_neg h];exact .inr ⟨rfl,rfl⟩
theorem yg{st:List Int}{p:Nat}:p∈za st↔st[p]?=some 0:=by
 unfold za
 rw[List.mem_filter,List.mem_range]
 constructor
 . rintro ⟨_,h⟩;exact of_decide_eq_true h
 . intro h;exact⟨(List.getElem?_eq_some_iff.mp h).1,decide_eq_true h⟩
theorem mG{st:List Int}{f d z:Nat}{h:Int}(hz:1≤z)(ha:xQ st f d z h=true):st[f]?=some h:=by
 unfold xQ at ha
 have:=List.all_eq_true.mp ha 0 (List.mem_range.mpr (by omega))
 rw[Nat.zero_mul,Nat.add_zero]at this
 exact of_decide_eq_true this
theorem w6{z:Nat}{st:List Int}{h:Int}(hz:2≤z):hasB z st h=true↔∃f d,0<d∧f+d*(z-1)<st.length∧xQ st f d z h=true:=by
 unfold hasB
 rw[List.any_eq_true]
 constructor
 . rintro ⟨⟨f,d⟩,h1,h2⟩
   obtain⟨a,b⟩:=(sO hz).mp h1
   exact⟨f,d,a,b,h2⟩
 . rintro ⟨f,d,a,b,c⟩
   exact⟨(f,d),(sO hz).mpr ⟨a,b⟩,c⟩
theorem vh{st:List Int}{p:Nat}{y a:Int}(hp:st[p]?=some 0):(putL st p y).count a+(if (0:Int)=a then 1 else 0)=st.count a+(if y=a then 1 else 0):=by
 obtain⟨hl,e⟩:=List.getElem?_eq_some_iff.mp hp
 rw[uH hl,List.count_set hl,e]
 have e1:((0:Int) == a)=decide ((0:Int)=a):=rfl
 have e2:(y == a)=decide (y=a):=rfl
 rw[e1,e2]
 have:(0:Int)=a→1≤st.count a:=fun z=>by
  rw[←z];exact List.count_pos_iff.mpr (List.mem_of_getElem? hp)
 by_cases h1:(0:Int)=a
 . have:=this h1
   by_cases h2:y=a<;>simp[h1,h2]<;>omega
 . by_cases h2:y=a<;>simp[h1,h2]
theorem Stn.put{z:Nat}{st:List Int}{p:Nat}(h:Stn z st)(hw:hasB z st (zY st)=false)(hp:st[p]?=some 0):Stn z (zb st p)∧zg (zb st p)=zY st∧(zb st p).count 0+1=st.count 0∧(zb st p).length=st.length:=by
 obtain⟨hl,e⟩:=List.getElem?_eq_some_iff.mp hp
 have hlen:(zb st p).length=st.length:=by unfold zb;rw[uH hl,List.length_set]
 have c0:=vh (y:=zg st) (a:=0) hp
 have c1:=vh (y:=zg st) (a:=1) hp
 have c2:=vh (y:=zg st) (a:=2) hp
 have c0:(zb st p).count 0+(if (0:Int)=0 then 1 else 0)=st.count 0+(if ((zg st:Nat):Int)=0 then 1 else 0):=c0
 have c1:(zb st p).count 1+(if (0:Int)=1 then 1 else 0)=st.count 1+(if ((zg st:Nat):Int)=1 then 1 else 0):=c1
 have c2:(zb st p).count 2+(if (0:Int)=2 then 1 else 0)=st.count 2+(if ((zg st:Nat):Int)=2 then 1 else 0):=c2
 have lo:=h.lo
 have hi:=h.hi
 have hh:∃k:Nat,zg st=k∧zY st=3-k∧(k=1∧st.count 1=st.count 2∨k=2∧st.count 1=st.count 2+1):=by
  refine⟨_,rfl,rfl,?_⟩
  unfold zg
  by_cases q:st.count 1=st.count 2
  . rw[if_pos q];exact .inl ⟨rfl,q⟩
  . rw[if_neg q];exact .inr ⟨rfl,by omega⟩
 obtain⟨k,hk,hlk,hk2⟩:=hh
 rw[hk]at c0 c1 c2
 have nh:zg (zb st p)=zY st:=by
  rw[hlk]
  unfold zg
  rcases hk2 with⟨rfl,q⟩|⟨rfl,q⟩
  . simp at c1 c2
    rw[if_neg (by omega)]
  . simp at c1 c2
    rw[if_pos (by omega)]
 refine⟨⟨h.z2,h.z8,by rw[hlen];exact h.n1,by rw[hlen];exact h.n8,fun x hx=>?_,?_,?_,?_⟩,nh,?_,hlen⟩
 . unfold zb at hx
   rw[uH hl]at hx
   rcases List.mem_or_eq_of_mem_set hx with hx|rfl
   . exact h.ms x hx
   . rw[hk];omega
 . rcases hk2 with⟨rfl,q⟩|⟨rfl,q⟩<;>simp at c1 c2<;>omega
 . rcases hk2 with⟨rfl,q⟩|⟨rfl,q⟩<;>simp at c1 c2<;>omega
 . rw[nh]
   cases hb:hasB z (zb st p) (zY st) with
   |false=>rfl
   |true=>
    obtain⟨f,d,h1,h2,h3⟩:=(w6 h.z2).mp hb
    have:hasB z st (zY st)=true:=(w6 h.z2).mpr ⟨f,d,h1,by rw[←hlen];exact h2,by
     unfold xQ at h3 ⊢
     rw[List.all_eq_true]at h3 ⊢
     intro j hj
     have:=of_decide_eq_true (h3 j hj)
     refine decide_eq_true ?_
     unfold zb at this
     rw[uH hl]at this
     by_cases q:p=f+j*d
     . rw[←q,List.getElem?_set_self hl]at this
       have:=Option.some.inj this
       rw[hk,hlk]at this
       omega
     . rw[List.getElem?_set_ne q]at this
       exact this⟩
    rw[hw]at this;cases this
 . rcases hk2 with⟨rfl,q⟩|⟨rfl,q⟩<;>simp at c0<;>omega
noncomputable def xa(h:Int)(ws:List Int):Int:=if h∈ws then h else if 0∈ws then 0 else 3-h
noncomputable def W(z:Nat)(c:Bool):Nat→List Int→Int
 |0,_=>0
 |n+1,st=>if hasB z st (zY st) then (if c then 3-(zY st:Int) else zY st) else if (za st).isEmpty then 0 else xa (zg st) ((za st).map fun p=>W z c n (zb st p))
noncomputable def Wd(z:Nat)(c:Bool)(st:List Int):Int:=W z c (st.count 0+1) st
theorem kf{z:Nat}{c:Bool}{st:List Int}(h:hasB z st (zY st)=true):Wd z c st=if c then 3-(zY st:Int) else zY st:=by
 show (if hasB z st (zY st) then _ else _)=_
 rw[if_pos h]
theorem dU{z:Nat}{c:Bool}{st:List Int}(hS:Stn z st)(h:hasB z st (zY st)=false):Wd z c st=if (za st).isEmpty then 0 else xa (zg st) ((za st).map fun p=>Wd z c (zb st p)):=by
 show (if hasB z st (zY st) then _ else _)=_
 rw[if_neg (by rw[h];exact Bool.false_ne_true)]
 congr 2
 refine List.map_congr_left fun p hp=>?_
 obtain⟨_,_,q,_⟩:=hS.put h (yg.mp hp)
 unfold Wd
 rw[q]
section
variable {T:Tbl}{Φ:Calls}{s:Sto}
theorem ui{st:List Int}{h:Int}:z7 .count (tpI st) [.int h] s=.ok (.int (st.count h)) s:=by
 have e:∀l:List Int,(l.map Val.int).countP (fun z=>eqF z (.int h))=l.count h:=by
  intro l
  induction l with
  |nil=>rfl
  |cons a l ih=>rw[List.map_cons,List.countP_cons,ih,List.count_cons];rfl
 have f:(st.map Val.int).all flat=true:=List.all_eq_true.mpr fun v hv=>by obtain⟨i,_,rfl⟩:=List.mem_map.mp hv;rfl
 show (if (flat (.int h)&&(st.map Val.int).all flat)=true then Out.ok (Val.int ((st.map Val.int).countP fun z=>eqF z (.int h):Nat)) s else .stuck)=_
 rw[f,e];rfl
structure GlS(T:Tbl):Prop where
 mp:T.gl "MOST_PLACES"=some (.int 40)
 ls:T.gl "LEAST_SIZE"=some (.int 2)
 ms:T.gl "MOST_SIZE"=some (.int 8)
 fr:T.gl "FREE"=some (.int 0)
 ha:T.gl "HANDS"=some (.ctup [1,2])
 mo:T.gl "MOST_STAND_PLACES"=some (.int 8)
 ne:T.gl "NEITHER"=some (.int 0)
theorem ha0:x9 (.ctup [1,2]) (.int 0) s=.ok (.int 1) s:=rfl
theorem ha1:x9 (.ctup [1,2]) (.int 1) s=.ok (.int 2) s:=rfl
def qF(Φ:Calls):Prop:=∀(h:Int) (s:Sto),Φ "other_hand" 0 [.int h] s=.ok (.int (3-h)) s
theorem kI(g:GlS T){h:Int}:run T Φ F75.ym [.int h] s=.ok (.int (3-h)) s:=by
 rw[post_eq,F75.ym,z0]
 refine⟨rfl,?_⟩
 show (zO Φ T.gl [some (.int h)] _ s).post _
 refine ze (zu (zu (xO (vq g.ha) zJ ha0) (xO (vq g.ha) zJ ha1) u9) (zB rfl) kl) ?_
 show (zP false s _ s).post _
 rw[zS yY]
 exact zC.mpr ⟨rfl,rfl⟩
def kY(Φ:Calls):Prop:=∀(st:List Int) (s:Sto),Φ "hand_due" 0 [tpI st] s=.ok (.int (zg st)) s
theorem x6{G:Str→Option Val}{env:Env}{f:Mf}{m:Bool}{o:Ex}{es:Exs}{x:Val}{vs:List Val}{s1 s2:Sto}{r:Out Val}(h1:evE Φ G env o s=.ok x s1)(h2:ye Φ G env es s1=.ok vs s2)(h3:z7 f x vs s2=r):evE Φ G env (.z7 f m o es) s=r:=bnd h1 (bnd h2 h3)
theorem eY(g:GlS T){st:List Int}:run T Φ F75.xE [tpI st] s=.ok (.int (zg st)) s:=by
 rw[post_eq,F75.xE,z0]
 refine⟨rfl,?_⟩
 show (zO Φ T.gl [some (tpI st)] _ s).post _
 have tc:=yD (Φ:=Φ) (G:=T.gl) (env:=[some (tpI st)]) (s:=s) (yL (x6 (f:=.count) (m:=false) (o:=.var 0) (zB rfl) (zA (xO (a:=.gl "HANDS") (vq g.ha) (b:=.lit (.int 0)) zJ ha0) zD) ui) (x6 (f:=.count) (m:=false) (o:=.var 0) (zB rfl) (zA (xO (a:=.gl "HANDS") (vq g.ha) (b:=.lit (.int 1)) zJ ha1) zD) ui) eq_int) zW
 have fin':∀{k:Nat},zg st=k→(zP false s (.int (k:Int)) s).post fun x t=>x=.int (zg st)∧t=s:=fun{k} e=>by
  rw[zS yY,e];exact zC.mpr ⟨rfl,rfl⟩
 by_cases h:st.count 1=st.count 2
 . rw[decide_eq_true (show ((st.count 1:Nat):Int)=(st.count 2:Nat) by omega)]at tc
   exact ze (uo tc (xO (vq g.ha) zJ ha0)) (fin' (k:=1) (by unfold zg;rw[if_pos h]))
 . rw[decide_eq_false (show ¬((st.count 1:Nat):Int)=(st.count 2:Nat) by omega)]at tc
   exact ze (sq tc (xO (vq g.ha) zJ ha1)) (fin' (k:=2) (by unfold zg;rw[if_neg h]))
def mB(Φ:Calls):Prop:=∀(n z:Nat) (s:Sto),n≤40→2≤z→z≤8→Φ "rows_in" 0 [.int n,.int z] s=.ok (.lst ((y7 n z).map sX)) s
noncomputable def riG(n z:Nat):Val→List Val
 |.int f=>(tH n z f.toNat).map sX
 |_=>[]
theorem nT(cL:uq Φ)(cS:uQ Φ)(cM:dO Φ){n z:Nat}(hn:n≤40)(hz:2≤z)(hz8:z≤8):run T Φ F75.xf [.int n,.int z] s=.ok (.lst ((y7 n z).map sX)) s:=by
 have hfl:(yp 0 n).flatMap (riG n z)=(y7 n z).map sX:=by
  unfold yp y7
  rw[List.flatMap_map,List.map_flatMap]
  congr 1
  funext a
  rw[Int.zero_add];rfl
 have hlen:((y7 n z).map sX).length≤zN:=by
  rw[List.length_map]
  have h1:=mU n z n
  have h2:n*n≤40*40:=Nat.mul_le_mul hn hn
  unfold y7 zN
  omega
 rw[post_eq,F75.xf,z0]
 refine⟨rfl,?_⟩
 show (zO Φ T.gl [some (.int n),some (.int z)] _ s).post _
 refine wd (x_call (zA (zB rfl) zD) (cL n s (by omega) (by omega))) (wd (x_call (zA (zB rfl) zD) (cS z s (by omega) (by omega))) ?_)
 refine zX.mpr (sV.mpr ?_)
 refine fv (fun e=>∃o1 o2,e=[o1,o2,some (.int n),some (.int z)]) (riG n z) (fun x e=>∃o2,e=[some x,o2,some (.int n),some (.int z)]) (fun x y=>[.tup [x,y]]) ⟨_,_,pI (zB rfl) (by unfold zN;omega),rfl,⟨_,_,rfl⟩,?_,?_,?_⟩
 . rintro x hx e ⟨o1,o2,rfl⟩
   obtain⟨a,ha,rfl⟩:=tR hx
   have hq:(n-1-a)/(z-1)≤40:=Nat.le_trans (Nat.div_le_self _ _) (by omega)
   refine⟨_,rfl,xZ.mpr ⟨rfl,?_⟩⟩
   rw[if_pos rfl]
   have c4:Φ "most_step" 0 [.int n,.int (0+(a:Int)),.int z] s=.ok (.int ((n-1-a)/(z-1):Nat)) s:=by rw[Int.zero_add];exact cM n a z s ha hz hz8
   refine⟨_,_,de (i:=1) (j:=(n-1-a)/(z-1)+1) zJ (zu (x_call (zA (zB rfl) (zA (zB rfl) (zA (zB rfl) zD))) c4) zJ u9) (by omega) (by omega),rfl,rfl,⟨_,rfl⟩,?_,?_,?_⟩
   . rintro e ⟨o,rfl⟩;exact⟨_,_,rfl⟩
   . show (tH n z (0+(a:Int)).toNat).map sX=_
     rw[Int.zero_add,Int.toNat_natCast]
     unfold tH yp
     rw[List.map_map,List.flatMap_map]
     rw[show (fun(k:Nat)=>[Val.tup [.int (a:Int),.int (((1:Nat):Int)+(k:Int))]])=fun k=>[(fun(k:Nat)=>Val.tup [.int (a:Int),.int (((1:Nat):Int)+(k:Int))]) k] from rfl,rW]
     refine List.map_congr_left fun j _=>?_
     show Val.tup [.int (a:Int),.int ((j+1:Nat):Int)]=_
     rw[show ((j+1:Nat):Int)=((1:Nat):Int)+(j:Int) by omega]
   . rintro y hy e ⟨o,rfl⟩
     obtain⟨d,hd,rfl⟩:=tR hy
     refine⟨_,rfl,⟨_,rfl⟩,xZ.mpr ⟨rfl,?_⟩⟩
     rw[if_pos rfl]
     show (evE Φ T.gl [some (.int (0+(a:Int))),some (.int (((1:Nat):Int)+(d:Int))),some (.int n),some (.int z)] _ s).post _
     rw[x8 (zA (zB rfl) (zA (zB rfl) zD)) (show 2≤zN by unfold zN;omega)]
     exact zC.mpr ⟨rfl,rfl⟩
 . show Small ((yp 0 n).flatMap _)
   rw[hfl];exact hlen
 . show (newList false ((yp 0 n).flatMap _) s).post _
   rw[hfl]
   refine zC.mpr ?_
   show (zP false s _ s).post _
   rw[zS (by rw[iB];exact uC fun v hv=>by obtain⟨r,_,rfl⟩:=List.mem_map.mp hv;rw[sX,qc,uD,uD,qd,yY,yY];rfl)]
   exact zC.mpr ⟨rfl,rfl⟩
def m8(f:Str)(Φ:Calls):Prop:=∀(z:Nat) (st:List Int) (h:Nat) (s:Sto),2≤z→z≤8→st.length≤40→Φ f 0 [.int z,tpI st,.int h] s=.ok (.bool (hasB z st h)) s
theorem eZ(cR:mB Φ)(cO:ZW Φ){z h:Nat}{st:List Int}(hz:2≤z)(hz8:z≤8)(hn:st.length≤40):run T Φ F75.xc [.int z,tpI st,.int h] s=.ok (.bool (hasB z st h)) s:=by
 have hl:blt .len false [tpI st] s=.ok (.int st.length) s:=by rw[pL,List.length_map]
 rw[post_eq,F75.xc,z0]
 refine⟨rfl,?_⟩
 show (zO Φ T.gl [some (.int z),some (tpI st),some (.int h),none] _ s).post _
 refine yb (x_call (zA (yc (zA (zB rfl) zD) hl) (zA (zB rfl) zD)) (cR st.length z s hn hz hz8)) ?_
 have hc:evE Φ T.gl [some (.int z),some (tpI st),some (.int h),some (.lst ((y7 st.length z).map sX))] (.comp false ["first","step","hand","stand","size"] [none,none,some 2,some 1,some 0] (.andE (.cmp .eq (.ix (.var 3) (.var 0)) (.var 2)) (.cons (.call "is_one_hue" 0 (.cons (.var 3) (.cons (.var 0) (.cons (.var 1) (.cons (.var 4) .nil))))) .nil)) (.nms [0,1]) (.val (.var 3)) .nil) s=.ok (.lst ((y7 st.length z).map fun r=>.bool (xQ st r.1 r.2 z h))) s:=by
  rw[post_eq]
  refine vQ (fun e=>∃a b,e=[a,b,some (.int h),some (tpI st),some (.int z)]) (fun x=>match x with|.tup [.int f,.int d]=>[.bool (xQ st f.toNat d.toNat z h)]|_=>[]) ((y7 st.length z).map sX) (s1:=s) (wX (zB rfl) rfl) ⟨_,_,rfl⟩ ?_ ?_
  . rintro x hx e ⟨a,b,rfl⟩
    obtain⟨⟨f,d⟩,hr,rfl⟩:=List.mem_map.mp hx
    obtain⟨hd,hb⟩:=(sO hz).mp hr
    have hf:f<st.length:=by omega
    refine⟨[some (.int (f:Int)),some (.int (d:Int)),some (.int h),some (tpI st),some (.int z)],rfl,⟨_,_,rfl⟩,xZ.mpr ⟨rfl,?_⟩⟩
    rw[if_pos rfl]
    have hx:=qY (s:=s) (List.getElem?_eq_getElem hf)
    have c1:=cO st f d z s hd (by omega) hb (by unfold zN;omega)
    have e1:(match sX (f,d) with|.tup [.int f,.int d]=>[Val.bool (xQ st f.toNat d.toNat z h)]|_=>[])=[Val.bool (xQ st f d z h)]:=by
     show [Val.bool (xQ st (f:Int).toNat (d:Int).toNat z h)]=_
     rw[Int.toNat_natCast,Int.toNat_natCast]
    by_cases q:st[f]=(h:Int)
    . have hq:st[f]?=some (h:Int):=by rw[List.getElem?_eq_getElem hf,q]
      rw[m6 (yL (xO (zB rfl) (zB rfl) hx) (zB rfl) (by rw[eq_int,decide_eq_true q])) (x_call (zA (zB rfl) (zA (zB rfl) (zA (zB rfl) (zA (zB rfl) zD)))) c1)]
      exact zC.mpr ⟨rfl,by rw[e1,kh hq]⟩
    . rw[gc (yL (xO (zB rfl) (zB rfl) hx) (zB rfl) (by rw[eq_int,decide_eq_false q]))]
      refine zC.mpr ⟨rfl,?_⟩
      rw[e1]
      cases hA:xQ st f d z h with
      |false=>rfl
      |true=>
       have:=mG (by omega) hA
       rw[List.getElem?_eq_getElem hf]at this
       exact absurd (Option.some.inj this) q
  . have:((y7 st.length z).map sX).flatMap (fun x=>match x with|.tup [.int f,.int d]=>[Val.bool (xQ st f.toNat d.toNat z h)]|_=>[])=(y7 st.length z).map fun r=>Val.bool (xQ st r.1 r.2 z h):=by
     rw[List.flatMap_map,←rW]
     rfl
    rw[this]
    exact zC.mpr ⟨rfl,rfl⟩
 have ha:blt .any false [.lst ((y7 st.length z).map fun r=>Val.bool (xQ st r.1 r.2 z h))] s=.ok (.bool (hasB z st h)) s:=by
  show (match boolsOf ((y7 st.length z).map fun r=>Val.bool (xQ st r.1 r.2 z h)) with|some bs=>Out.ok (Val.bool (bs.any id)) s|Option.none=>.stuck)=_
  rw[wu]
  show Out.ok (Val.bool (((y7 st.length z).map _).any id)) s=_
  rw[List.any_map]
  rfl
 refine ze (yc (zA hc zD) ha) ?_
 show (zP false s _ s).post _
 rw[zS xr]
 exact zC.mpr ⟨rfl,rfl⟩
end
end M
end
section
namespace M
open PySem
noncomputable def A:Nat→Nat
 |0=>1
 |n+1=>1+(n+1)*A n
theorem XH:∀n,n≤8→A n≤109601:=by decide
theorem wz:∀(st:List Int),(za st).length=st.count 0
 |[]=>rfl
 |a::st=>by
  have ih:=wz st
  unfold za at ih ⊢
  rw[List.length_cons,List.range_succ_eq_map,List.filter_cons,List.filter_map,List.count_cons]
  have e:((fun p=>decide ((a::st)[p]?=some 0))∘Nat.succ)=fun p=>decide (st[p]?=some 0):=by
   funext p;rfl
  rw[e]
  have e0:decide ((a::st)[0]?=some 0)=(a == 0):=by
   show decide (some a=some 0)=(a == 0)
   by_cases h:a=0
   . subst h;rfl
   . rw[decide_eq_false (fun q=>h (Option.some.inj q))];simp[h]
  rw[e0]
  cases a == 0 with
  |true=>simp[ih]
  |false=>simp[ih]
theorem sG:∀ns:List Int,intsOf (ns.map .int)=some ns
 |[]=>rfl
 |n::ns=>by show (intsOf (ns.map .int)).map _=_;rw[sG ns];rfl
noncomputable def frG:Val→List Val
 |.tup [.int p,.int m]=>if m=0 then [.int p] else []
 |_=>[]
theorem dY:∀(st:List Int) (n:Nat),(yq n (st.map .int)).flatMap frG=((List.range st.length).filter fun p=>decide (st[p]?=some 0)).map fun(p:Nat)=>Val.int ((n+p:Nat):Int)
 |[],_=>rfl
 |a::st,n=>by
  rw[List.map_cons,yq,List.flatMap_cons,dY st (n+1),List.length_cons,List.range_succ_eq_map,List.filter_cons,List.filter_map]
  have e:((fun p=>decide ((a::st)[p]?=some 0))∘Nat.succ)=fun p=>decide (st[p]?=some 0):=by
   funext p;rfl
  have e0:decide ((a::st)[0]?=some 0)=decide (a=0):=by
   show decide (some a=some 0)=_
   by_cases h:a=0
   . subst h;rfl
   . rw[decide_eq_false (fun q=>h (Option.some.inj q)),decide_eq_false h]
  rw[e,e0]
  have m1:∀l:List Nat,(l.map fun(p:Nat)=>Val.int ((n+1+p:Nat):Int))=(l.map Nat.succ).map fun(p:Nat)=>Val.int ((n+p:Nat):Int):=fun l=>by
   rw[List.map_map]
   refine List.map_congr_left fun p _=>?_
   show Val.int ((n+1+p:Nat):Int)=Val.int ((n+(p+1):Nat):Int)
   rw[show n+1+p=n+(p+1) by omega]
  rw[m1]
  show (if a=0 then [Val.int (n:Int)] else [])++_=_
  by_cases h:a=0
  . rw[if_pos h,decide_eq_true h,if_pos rfl,List.map_cons];rfl
  . rw[if_neg h,decide_eq_false h,if_neg Bool.false_ne_true];rfl
section
variable {T:Tbl}{Φ:Calls}{s:Sto}
theorem vk{s t:Sto}{v:Val}{i:Nat}{c:Cel}(h:v.noRef=true)(hc:c.noRef=true):zP false s v (s.set i c++t)=.ok v (s.set i c):=by
 unfold zP
 have e:s.length=(s.set i c).length:=by rw[List.length_set]
 simp only[vn s t i c hc,freeze,h,if_true,Bool.false_eq_true,if_false,e,List.take_left']
theorem xn{s:Sto}{v:Val}{i:Nat}{c:Cel}(h:v.noRef=true)(hc:c.noRef=true):zP false s v (s.set i c)=.ok v (s.set i c):=by
 have:=vk (s:=s) (t:=[]) (i:=i) h hc
 rwa [List.append_nil]at this
noncomputable def vI(z:Nat)(st:List Int):Val:=if hasB z st (zY st) then .int (zY st) else .none
def qG(Φ:Calls):Prop:=∀(z:Nat) (st:List Int) (s:Sto),2≤z→z≤8→st.length≤40→Φ "winner" 0 [.int z,tpI st] s=.ok (vI z st) s
theorem last_eq(st:List Int):(3:Int)-(zg st:Nat)=(zY st:Nat):=by
 rcases v9 st with⟨h1,h2⟩|⟨h1,h2⟩<;>rw[h1,h2]<;>rfl
theorem nV(cO:qF Φ)(cD:kY Φ)(cH:m8 "has_row" Φ){z:Nat}{st:List Int}(hz:2≤z)(hz8:z≤8)(hn:st.length≤40):run T Φ F75.wD [.int z,tpI st] s=.ok (vI z st) s:=by
 rw[post_eq,F75.wD,z0]
 refine⟨rfl,?_⟩
 show (zO Φ T.gl [some (.int z),some (tpI st),none] _ s).post _
 refine yb (x_call (zA (x_call (zA (zB rfl) zD) (cD st s)) zD) (cO _ s)) ?_
 rw[last_eq]
 have tc:evT Φ T.gl [some (.int z),some (tpI st),some (.int (zY st:Nat))] (.val (.call "has_row" 0 (.cons (.var 0) (.cons (.var 1) (.cons (.var 2) .nil))))) s=.ok (hasB z st (zY st)) s:=yD (x_call (zA (zB rfl) (zA (zB rfl) (zA (zB rfl) zD))) (cH z st (zY st) s hz hz8 hn)) zW
 have fin':∀{v:Val},v=vI z st→(zP false s v s).post fun x t=>x=vI z st∧t=s:=fun{v} e=>by
  rw[zS (by rw[e];unfold vI;split;exact yY;exact qb),e];exact zC.mpr ⟨rfl,rfl⟩
 cases hb:hasB z st (zY st) with
 |true=>rw[hb]at tc;exact ze (uo tc (zB rfl)) (fin' (by unfold vI;rw[if_pos hb]))
 |false=>rw[hb]at tc;exact ze (sq tc zJ) (fin' (by unfold vI;rw[if_neg (by rw[hb];exact Bool.false_ne_true)]))
theorem m5{z:Nat}{st:List Int}:zR .isNot (vI z st) .none s=.ok (.bool (hasB z st (zY st))) s:=by
 unfold vI
 cases hb:hasB z st (zY st)<;>rfl
noncomputable def zh(z:Nat)(st:List Int):List Nat:=if hasB z st (zY st) then [] else za st
def tX(f:Str)(Φ:Calls):Prop:=∀(z:Nat) (st:List Int) (s:Sto),Stn z st→Φ f 0 [.int z,tpI st] s=.ok (zx (zh z st)) s
theorem ub{hs:List Nat}:(zx hs).noRef=true:=by rw[tP,qc];exact xq _
theorem gB(g:GlS T)(cW:qG Φ){z:Nat}{st:List Int}(h:Stn z st):run T Φ F75.yU [.int z,tpI st] s=.ok (zx (zh z st)) s:=by
 have h8:=h.n8
 rw[post_eq,F75.yU,z0]
 refine⟨rfl,?_⟩
 show (zO Φ T.gl [some (.int z),some (tpI st)] _ s).post _
 have tc:evT Φ T.gl [some (.int z),some (tpI st)] (.val (.cmp .isNot (.call "winner" 0 (.cons (.var 0) (.cons (.var 1) .nil))) (.lit .none))) s=.ok (hasB z st (zY st)) s:=yD (yL (x_call (zA (zB rfl) (zA (zB rfl) zD)) (cW z st s h.z2 h.z8 (by omega))) zJ m5) zW
 have fin':∀{v:Val},v=zx (zh z st)→(zP false s v s).post fun x t=>x=zx (zh z st)∧t=s:=fun{v} e=>by
  rw[zS (by rw[e];exact ub),e];exact zC.mpr ⟨rfl,rfl⟩
 cases hb:hasB z st (zY st) with
 |true=>
  rw[hb]at tc
  exact vF tc (ze (x8 zD (Nat.zero_le _)) (fin' (by unfold zh;rw[if_pos hb];rfl)))
 |false=>
  rw[hb]at tc
  refine wL tc ?_
  have hc:evE Φ T.gl [some (.int z),some (tpI st)] (.comp false ["place","mark"] [none,none] (.var 0) (.nms [0,1]) (.enum (.var 1)) (.cons (.val (.cmp .eq (.var 1) (.gl "FREE"))) .nil)) s=.ok (.lst ((za st).map fun(p:Nat)=>Val.int p)) s:=by
   rw[post_eq]
   refine vQ (fun e=>∃a b,e=[a,b]) frG (yq 0 (st.map .int)) (s1:=s) (fD (zB rfl)) ⟨_,_,rfl⟩ ?_ ?_
   . rintro x hx e ⟨a,b,rfl⟩
     obtain⟨k,v,hv,rfl⟩:=pR hx
     rw[List.getElem?_map]at hv
     obtain⟨m,hm,rfl⟩:=Option.map_eq_some_iff.mp hv
     refine⟨[some (.int ((0+k:Nat):Int)),some (.int m)],rfl,⟨_,_,rfl⟩,?_⟩
     rw[sj (yD (yL (zB rfl) (vq g.fr) eq_int) zW)]
     refine zC.mpr ⟨rfl,?_⟩
     show if decide (m=0)=true then _ else (if m=0 then [Val.int ((0+k:Nat):Int)] else [])=[]
     by_cases q:m=0
     . rw[decide_eq_true q,if_pos rfl]
       refine md.mpr ⟨_,rfl,rfl,?_⟩
       show (if m=0 then [Val.int ((0+k:Nat):Int)] else [])=_
       rw[if_pos q]
     . rw[decide_eq_false q,if_neg Bool.false_ne_true,if_neg q]
   . rw[dY]
     refine zC.mpr ⟨?_,rfl⟩
     show Val.lst (((List.range st.length).filter _).map _)=_
     congr 1
     refine List.map_congr_left fun p _=>?_
     show Val.int ((0+p:Nat):Int)=_
     rw[Nat.zero_add]
  exact ze (yc (zA hc zD) rfl) (fin' (by unfold zh;rw[if_neg (by rw[hb];exact Bool.false_ne_true)];rfl))
def y8(f:Str)(Φ:Calls):Prop:=∀(st:List Int) (p:Nat) (s:Sto),p<st.length→st.length≤40→st.count 2≤st.count 1→st.count 1≤st.count 2+1→Φ f 0 [tpI st,.int p] s=.ok (tpI (zb st p)) s
theorem ow{ns:List Int}:(tpI ns).noRef=true:=by rw[qc];exact xq _
theorem oC(cD:kY Φ){st:List Int}{p:Nat}(hp:p<st.length)(hn:st.length≤40):run T Φ F75.z9 [tpI st,.int p] s=.ok (tpI (zb st p)) s:=by
 rw[post_eq,F75.z9,z0]
 refine⟨rfl,?_⟩
 show (zO Φ T.gl [some (tpI st),some (.int p)] _ s).post _
 refine ze (iy (f:=p) (h:=zg st) rfl (zB rfl) (x_call (zA (zB rfl) zD) (cD st s)) hp hn) ?_
 show (zP false s _ s).post _
 rw[zS ow]
 exact zC.mpr ⟨rfl,rfl⟩
def mD(Φ:Calls):Prop:=∀(h:Int) (ws:List Int) (s:Sto),Φ "wished_worth" 0 [.int h,.lst (ws.map .int)] s=.ok (.int (xa h ws)) s
theorem mH{x:Int}{ws:List Int}:(ws.any fun z=>z == x)=decide (x∈ws):=by
 rw[Bool.eq_iff_iff,List.any_eq_true,decide_eq_true_iff]
 constructor
 . rintro ⟨y,h,e⟩;rw[←eq_of_beq e];exact h
 . intro h;exact⟨x,h,beq_self_eq_true x⟩
theorem nW(g:GlS T)(cO:qF Φ){h:Int}{ws:List Int}:run T Φ F75.yI [.int h,.lst (ws.map .int)] s=.ok (.int (xa h ws)) s:=by
 rw[post_eq,F75.yI,z0]
 refine⟨rfl,?_⟩
 show (zO Φ T.gl [some (.int h),some (.lst (ws.map .int))] _ s).post _
 have fin':∀{i:Int},i=xa h ws→(zP false s (.int i) s).post fun x t=>x=.int (xa h ws)∧t=s:=fun{i} e=>by
  rw[zS yY,e];exact zC.mpr ⟨rfl,rfl⟩
 have t1:=yD (Φ:=Φ) (G:=T.gl) (env:=[some (.int h),some (.lst (ws.map .int))]) (s:=s) (yL (a:=.var 0) (b:=.var 1) (zB rfl) (zB rfl) qX) zW
 have t2:=yD (Φ:=Φ) (G:=T.gl) (env:=[some (.int h),some (.lst (ws.map .int))]) (s:=s) (yL (a:=.gl "NEITHER") (b:=.var 1) (vq g.ne) (zB rfl) qX) zW
 rw[mH]at t1 t2
 by_cases h1:h∈ws
 . rw[decide_eq_true h1]at t1
   exact vF t1 (ze (zB rfl) (fin' (by unfold xa;rw[if_pos h1])))
 . rw[decide_eq_false h1]at t1
   refine wL t1 ?_
   by_cases h2:0∈ws
   . rw[decide_eq_true h2]at t2
     exact ze (uo t2 (vq g.ne)) (fin' (by unfold xa;rw[if_neg h1,if_pos h2]))
   . rw[decide_eq_false h2]at t2
     exact ze (sq t2 (x_call (zA (zB rfl) zD) (cO h s))) (fin' (by unfold xa;rw[if_neg h1,if_neg h2]))
theorem oM{G:Str→Option Val}{env:Env}{a b c:Ex}{i j k:Int}(h1:evE Φ G env a s=.ok (.int i) s)(h2:evE Φ G env b s=.ok (.int j) s)(h3:evE Φ G env c s=.ok (.int k) s)(h4:i≤j)(h5:j≤k):evE Φ G env (.chain .le .le a b c) s=.ok (.bool true) s:=by
 refine bnd h1 (bnd h2 (bnd le_int ?_))
 rw[decide_eq_true h4]
 show (evE Φ G env c s).bind (fun z s4=>zR .le (.int j) z s4)=_
 exact bnd h3 (by rw[le_int,decide_eq_true h5])
def n6(Φ:Calls):Prop:=∀(z:Nat) (st:List Int) (s:Sto),Stn z st→Φ "is_marked" 0 [tpI st] s=.ok (.bool true) s
theorem nR(g:GlS T)(cW:mC Φ){z:Nat}{st:List Int}(h:Stn z st):run T Φ F75.y2 [tpI st] s=.ok (.bool true) s:=by
 have hl:blt .len false [tpI st] s=.ok (.int st.length) s:=by rw[pL,List.length_map]
 have h1:=h.n1
 have h8:=h.n8
 have c1:=cW (st.map .int) 0 2 s (fun v hv=>by obtain⟨i,_,rfl⟩:=List.mem_map.mp hv;exact nofun)
 have e:(st.map Val.int).all (xN 0 2)=true:=List.all_eq_true.mpr fun v hv=>by
  obtain⟨i,hi,rfl⟩:=List.mem_map.mp hv
  obtain⟨a,b⟩:=h.ms i hi
  rw[gb,decide_eq_true a,decide_eq_true b];rfl
 rw[e]at c1
 rw[post_eq,F75.y2,z0]
 refine⟨rfl,?_⟩
 show (zO Φ T.gl [some (tpI st)] _ s).post _
 refine ze (gf (yc (zA (zB rfl) (zA kX zD)) rfl) (oM zJ (yc (zA (zB rfl) zD) hl) (vq g.mo) (by omega) (by omega)) (x_call (zA (zB rfl) (zA (vq g.fr) (zA (xO (vq g.ha) zJ ha1) zD))) c1)) ?_
 show (zP false s _ s).post _
 rw[zS xr]
 exact zC.mpr ⟨rfl,rfl⟩
def n5(Φ:Calls):Prop:=∀(z:Nat) (st:List Int) (s:Sto),Stn z st→Φ "is_in_turn" 0 [.int z,tpI st] s=.ok (.bool true) s
theorem nQ(g:GlS T)(cD:kY Φ)(cH:m8 "has_row" Φ){z:Nat}{st:List Int}(h:Stn z st):run T Φ F75.yi [.int z,tpI st] s=.ok (.bool true) s:=by
 have h8:=h.n8
 have lo:=h.lo
 have hi:=h.hi
 have c1:=cH z st (zg st) s h.z2 h.z8 (by omega)
 rw[h.nw]at c1
 rw[post_eq,F75.yi,z0]
 refine⟨rfl,?_⟩
 show (zO Φ T.gl [some (.int z),some (tpI st),none] _ s).post _
 refine yb (zu (x6 (zB rfl) (zA (xO (vq g.ha) zJ ha0) zD) ui) (x6 (zB rfl) (zA (xO (vq g.ha) zJ ha1) zD) ui) kl) ?_
 refine ze (m6 (oM zJ (zB rfl) zJ (by omega) (by omega)) (gg (x_call (zA (zB rfl) (zA (zB rfl) (zA (x_call (zA (zB rfl) zD) (cD st s)) zD))) c1))) ?_
 show (zP false s _ s).post _
 rw[zS xr]
 exact zC.mpr ⟨rfl,rfl⟩
def kc(Φ:Calls):Prop:=∀(z:Nat) (st:List Int) (s:Sto),Stn z st→Φ "is_stand" 0 [.int z,tpI st] s=.ok (.bool true) s
theorem kJ(cS:uQ Φ)(cM:n6 Φ)(cI:n5 Φ){z:Nat}{st:List Int}(h:Stn z st):run T Φ F75.xF [.int z,tpI st] s=.ok (.bool true) s:=by
 have z2:=h.z2
 have z8:=h.z8
 rw[post_eq,F75.xF,z0]
 refine⟨rfl,?_⟩
 show (zO Φ T.gl [some (.int z),some (tpI st)] _ s).post _
 refine wd (x_call (zA (zB rfl) zD) (cS z s (by omega) (by omega))) ?_
 refine ze (m6 (x_call (zA (zB rfl) zD) (cM z st s h)) (x_call (zA (zB rfl) (zA (zB rfl) zD)) (cI z st s h))) ?_
 show (zP false s _ s).post _
 rw[zS xr]
 exact zC.mpr ⟨rfl,rfl⟩
def wQ(Φ:Calls):Prop:=∀(z:Nat) (st:List Int) (s:Sto),Stn z st→Φ "need_stand" 0 [.int z,tpI st] s=.ok .none s
theorem rC(cS:kc Φ){z:Nat}{st:List Int}(h:Stn z st):run T Φ F75.yk [.int z,tpI st] s=.ok .none s:=by
 rw[post_eq,F75.yk,z0]
 refine⟨rfl,?_⟩
 show (zO Φ T.gl [some (.int z),some (tpI st)] _ s).post _
 refine wL (d5 (yD (x_call (zA (zB rfl) (zA (zB rfl) zD)) (cS z st s h)) zW)) (xC ?_)
 show (zP false s _ s).post _
 rw[zS qb]
 exact zC.mpr ⟨rfl,rfl⟩
end
end M
end
section
namespace M
open PySem
theorem t6{κ:Type} [DecidableEq κ]:∀{kvs:List (κ × Val)} {k:κ} {v:Val},yw kvs k=some v→(k,v)∈kvs
 |[],_,_,h=>by cases h
 |p::r,k,v,h=>by
  rw[yw]at h
  by_cases e:p.1=k
  . rw[if_pos e]at h
    have:=Option.some.inj h
    rw[←this,←e];exact .head _
  . rw[if_neg e]at h;exact .tail _ (t6 h)
theorem qx{κ:Type} [DecidableEq κ] {k:κ}{v:Val}:∀{kvs:List (κ × Val)},(yw kvs k).isSome=true→yw (kvs.map fun p=>if p.1=k then (p.1,v) else p) k=some v
 |[],h=>by cases h
 |p::r,h=>by
  rw[List.map_cons,yw]
  by_cases e:p.1=k
  . rw[if_pos e,if_pos e]
  . rw[if_neg e,if_neg e]
    rw[yw,if_neg e]at h
    exact qx h
theorem qw{κ:Type} [DecidableEq κ] {k:κ}{v:Val}:∀{kvs:List (κ × Val)},(yw kvs k).isSome=false→yw (kvs++[(k,v)]) k=some v
 |[],_=>by show (if k=k then some v else none)=some v;rw[if_pos rfl]
 |p::r,h=>by
  rw[List.cons_append,yw]
  by_cases e:p.1=k
  . rw[yw,if_pos e]at h;cases h
  . rw[if_neg e]
    rw[yw,if_neg e]at h
    exact qw h
theorem qy{κ:Type} [DecidableEq κ] {k:κ}{v:Val}{kvs:List (κ × Val)}:yw (vi kvs k v) k=some v:=by
 unfold vi
 cases h:(yw kvs k).isSome with
 |true=>rw[if_pos rfl];exact qx h
 |false=>rw[if_neg Bool.false_ne_true];exact qw h
theorem q0{κ:Type} [DecidableEq κ] {k:κ}{v:Val}{kvs:List (κ × Val)}:(vi kvs k v).length≤kvs.length+1:=by
 unfold vi
 split
 . rw[List.length_map];omega
 . rw[List.length_append];exact Nat.le_refl _
theorem qz{κ:Type} [DecidableEq κ] {P:κ→Val→Prop}{k:κ}{v:Val}{kvs:List (κ × Val)}(h:∀p∈kvs,P p.1 p.2)(hv:P k v):∀p∈vi kvs k v,P p.1 p.2:=by
 intro p hp
 unfold vi at hp
 split at hp
 . obtain⟨q,hq,rfl⟩:=List.mem_map.mp hp
   by_cases e:q.1=k
   . rw[if_pos e];show P q.1 v;rw[e];exact hv
   . rw[if_neg e];exact h q hq
 . rcases List.mem_append.mp hp with hp|hp
   . exact h p hp
   . rw[List.mem_singleton.mp hp];exact hv
def Kn(z:Nat)(c:Bool)(kvs:List (List Int × Val)):Prop:=∀p∈kvs,p.2=.int (Wd z c p.1)
theorem Kn.nr{z:Nat}{c:Bool}{kvs:List (List Int × Val)}(h:Kn z c kvs):(Cel.dT kvs).noRef=true:=by
 show zj (kvs.map (·.2))=true
 exact uC fun v hv=>by
  obtain⟨p,hp,rfl⟩:=List.mem_map.mp hv
  rw[h p hp];exact yY
section
variable {T:Tbl}{Φ:Calls}{s:Sto}
theorem cC{G:Str→Option Val}{env:Env}{a b:Ex}{x y:Val}{s1 s2:Sto}{r:Out Val}(h1:evE Φ G env a s=.ok x s1)(h2:evE Φ G env b s1=.ok y s2)(h3:ixD x y s2=r):evE Φ G env (.ixD a b) s=r:=bnd h1 (bnd h2 h3)
theorem iO{G:Str→Option Val}{env:Env}{o i e:Ex}{cs:Sms}{P:Fl→Sto→Prop}(h:(evE Φ G env e s).post fun v s1=>∃x y s4,evE Φ G env o s1=.ok x s1∧evE Φ G env i s1=.ok y s1∧putD x y v s1=some s4∧(zO Φ G env cs s4).post P):(zO Φ G env (.cons (.setD o i e) cs) s).post P:=by
 obtain⟨v,s1,e1,x,y,s4,h1,h2,h3,h4⟩:=h
 have e0:exS Φ G env (.setD o i e) s=.ok (.nx env) s4:=by
  show ((evE Φ G env e s).bind _)=_
  rw[e1,zK,h1,zK,h2,zK,h3]
 refine zX.mpr ?_
 rw[e0]
 exact zC.mpr h4
theorem Zn{d:Nat}{kvs:List (List Int × Val)}{st:List Int}(h:s[d]?=some (.dT kvs)):getD (.dref d) (tpI st) s=some (yw kvs st):=by
 show ((s[d]?).map fun c=>(d,c)).bind _=_
 rw[h]
 show (intsOf (st.map .int)).map _=_
 rw[sG];rfl
theorem Xb{d:Nat}{kvs:List (List Int × Val)}{st:List Int}{v:Val}(h:s[d]?=some (.dT kvs))(hl:kvs.length<zN):putD (.dref d) (tpI st) v s=some (s.set d (.dT (vi kvs st v))):=by
 show ((s[d]?).map fun c=>(d,c)).bind _=_
 rw[h]
 show (Option.map _ ((intsOf (st.map .int)).bind _))=_
 rw[sG]
 show (Option.map _ (if kvs.length<zN then some (Cel.dT (vi kvs st v)) else none))=_
 rw[if_pos hl];rfl
theorem aE{d:Nat}{kvs:List (List Int × Val)}{st:List Int}(h:s[d]?=some (.dT kvs)):zR .notInD (tpI st) (.dref d) s=.ok (.bool !(yw kvs st).isSome) s:=by
 show (match getD (.dref d) (tpI st) s with|some o=>Out.ok (Val.bool !o.isSome) s|Option.none=>.stuck)=_
 rw[Zn h]
theorem ixT{d:Nat}{kvs:List (List Int × Val)}{st:List Int}{v:Val}(h:s[d]?=some (.dT kvs))(k:yw kvs st=some v):ixD (.dref d) (tpI st) s=.ok v s:=by
 unfold ixD
 rw[Zn h,k]
def WT(z:Nat)(c:Bool)(d b:Nat)(s s':Sto):Prop:=∃kvs,s'=s.set d (.dT kvs)∧Kn z c kvs∧kvs.length≤b
def wm(z:Nat)(c:Bool)(n:Nat)(Φ:Calls):Prop:=∀(st:List Int) (d:Nat) (kvs:List (List Int × Val)) (s:Sto),Stn z st→st.count 0≤n→s[d]?=some (.dT kvs)→Kn z c kvs→kvs.length+A n≤zN→(Φ "worth_of" 0 [.int z,tpI st,.bool c,.dref d] s).post fun v s'=>v=.int (Wd z c st)∧WT z c d (kvs.length+A n) s s'
def CFound(z:Nat)(c:Bool)(n:Nat)(Φ:Calls):Prop:=∀(st:List Int) (d:Nat) (kvs:List (List Int × Val)) (s:Sto),Stn z st→st.count 0≤n→s[d]?=some (.dT kvs)→Kn z c kvs→kvs.length+A n≤zN→(Φ "found_worth" 0 [.int z,tpI st,.bool c,.dref d] s).post fun v s'=>v=.int (Wd z c st)∧WT z c d (kvs.length+A n-1) s s'
theorem n4:∀n,1≤A n
 |0=>Nat.le_refl _
 |n+1=>by show 1≤1+_;omega
theorem uz{z:Nat}{c:Bool}{n:Nat}(cF:CFound z c n Φ){st:List Int}{d:Nat}{kvs:List (List Int × Val)}(hS:Stn z st)(hn:st.count 0≤n)(hd:s[d]?=some (.dT kvs))(hk:Kn z c kvs)(hl:kvs.length+A n≤zN):(run T Φ F75.yu [.int z,tpI st,.bool c,.dref d] s).post fun v s'=>v=.int (Wd z c st)∧WT z c d (kvs.length+A n) s s':=by
 have hdl:=(List.getElem?_eq_some_iff.mp hd).1
 have hA:=n4 n
 rw[F75.yu,z0]
 refine⟨rfl,?_⟩
 show (zO Φ T.gl [some (.int z),some (tpI st),some (.bool c),some (.dref d)] _ s).post _
 refine gG (J:=fun e s'=>e=[some (.int z),some (tpI st),some (.bool c),some (.dref d)]∧∃kvs',s'=s.set d (.dT kvs')∧Kn z c kvs'∧kvs'.length≤kvs.length+A n∧(yw kvs' st).isSome=true) (yD (yL (zB rfl) (zB rfl) (aE hd)) zW) (fun hN=>?_) (fun hN=>?_) ?_
 . refine iO (zr (zA (zB rfl) (zA (zB rfl) (zA (zB rfl) (zA (zB rfl) zD)))) (zE (cF st d kvs s hS hn hd hk hl) ?_))
   rintro v s1 ⟨rfl,kvs1,rfl,hk1,hl1⟩
   refine⟨_,_,_,zB rfl,zB rfl,Xb (List.getElem?_set_self hdl) (by omega),xC ⟨_,rfl,rfl,_,by rw[List.set_set],qz (P:=fun k v=>v=.int (Wd z c k)) hk1 rfl,?_,?_⟩⟩
   . have:=q0 (k:=st) (v:=.int (Wd z c st)) (kvs:=kvs1);omega
   . rw[qy];rfl
 . refine⟨rfl,kvs,?_,hk,by omega,?_⟩
   . obtain⟨h1,h2⟩:=List.getElem?_eq_some_iff.mp hd
     rw[←h2,List.set_getElem_self]
   . cases q:(yw kvs st).isSome with
     |true=>rfl
     |false=>rw[q]at hN;cases hN
 . rintro e s' ⟨rfl,kvs',rfl,hk',hl',hs'⟩
   obtain⟨v,hv⟩:=Option.isSome_iff_exists.mp hs'
   have ev:=hk' _ (t6 hv)
   refine ze (cC (zB rfl) (zB rfl) (ixT (List.getElem?_set_self hdl) hv)) ?_
   show (zP false s v _).post _
   have ev:v=.int (Wd z c st):=ev
   rw[xn (by rw[ev];exact yY) hk'.nr]
   exact zC.mpr ⟨ev,kvs',rfl,hk',hl'⟩
theorem r0{z:Nat}{c:Bool}{n:Nat}(g:GlS T)(cW:qG Φ)(cO:qF Φ)(cD:kY Φ)(cFr:tX "free_places" Φ)(cB:y8 "behind_taking" Φ)(cWi:mD Φ)(cR:∀m,n=m+1→wm z c m Φ){st:List Int}{d:Nat}{kvs:List (List Int × Val)}(hS:Stn z st)(hn:st.count 0≤n)(hd:s[d]?=some (.dT kvs))(hk:Kn z c kvs)(hl:kvs.length+A n≤zN):(run T Φ F75.yE [.int z,tpI st,.bool c,.dref d] s).post fun v s'=>v=.int (Wd z c st)∧WT z c d (kvs.length+A n-1) s s':=by
 have hdl:=(List.getElem?_eq_some_iff.mp hd).1
 have hA:=n4 n
 have h8:=hS.n8
 have same:s=s.set d (.dT kvs):=by
  obtain⟨h1,h2⟩:=List.getElem?_eq_some_iff.mp hd
  rw[←h2,List.set_getElem_self]
 have fin0:∀{v:Val},v=.int (Wd z c st)→(zP false s v s).post fun v s'=>v=.int (Wd z c st)∧WT z c d (kvs.length+A n-1) s s':=fun{v} e=>by
  rw[zS (by rw[e];exact yY)]
  exact zC.mpr ⟨e,kvs,same,hk,by omega⟩
 rw[F75.yE,z0]
 refine⟨rfl,?_⟩
 show (zO Φ T.gl [some (.int z),some (tpI st),some (.bool c),some (.dref d),none,none] _ s).post _
 refine yb (x_call (zA (zB rfl) (zA (zB rfl) zD)) (cW z st s hS.z2 hS.z8 (by omega))) ?_
 have tc:=yD (Φ:=Φ) (G:=T.gl) (env:=[some (.int z),some (tpI st),some (.bool c),some (.dref d),some (vI z st),none]) (s:=s) (yL (a:=.var 4) (b:=.lit .none) (zB rfl) zJ m5) zW
 have tv:=yD (Φ:=Φ) (G:=T.gl) (env:=[some (.int z),some (tpI st),some (.bool c),some (.dref d),some (vI z st),none]) (s:=s) (e:=.var 2) (zB rfl) zW
 cases hb:hasB z st (zY st) with
 |true=>
  rw[hb]at tc
  have hw:=kf (c:=c) hb
  have ew:vI z st=.int (zY st:Nat):=by unfold vI;rw[if_pos hb]
  rw[ew]at tc tv ⊢
  refine vF tc ?_
  cases c with
  |true=>exact ze (uo tv (x_call (zA (zB rfl) zD) (cO _ s))) (fin0 (by rw[hw];rfl))
  |false=>exact ze (sq tv (zB rfl)) (fin0 (by rw[hw];rfl))
 |false=>
  rw[hb]at tc
  have hw:=dU (c:=c) hS hb
  refine wL tc ?_
  have eo:zh z st=za st:=by unfold zh;rw[if_neg (by rw[hb];exact Bool.false_ne_true)]
  have c1:=cFr z st s hS
  rw[eo]at c1
  have hc:evE Φ T.gl [some (.int z),some (tpI st),some (.bool c),some (.dref d),some (vI z st),none] (.comp false ["place","stand"] [none,some 1] (.call "behind_taking" 0 (.cons (.var 1) (.cons (.var 0) .nil))) (.nm 0) (.val (.call "free_places" 0 (.cons (.var 0) (.cons (.var 1) .nil)))) .nil) s=.ok (.lst ((za st).map fun p=>tpI (zb st p))) s:=by
   rw[post_eq]
   refine vQ (fun e=>∃a,e=[a,some (tpI st)]) (fun x=>match x with|.int p=>[tpI (zb st p.toNat)]|_=>[]) ((za st).map fun(p:Nat)=>Val.int p) (s1:=s) (wX (x_call (zA (zB rfl) (zA (zB rfl) zD)) c1) rfl) ⟨_,rfl⟩ ?_ ?_
   . rintro x hx e ⟨a,rfl⟩
     obtain⟨p,hp,rfl⟩:=List.mem_map.mp hx
     have hpl:=(List.getElem?_eq_some_iff.mp (yg.mp hp)).1
     refine⟨[some (.int (p:Int)),some (tpI st)],rfl,⟨_,rfl⟩,xZ.mpr ⟨rfl,?_⟩⟩
     rw[if_pos rfl,x_call (zA (zB rfl) (zA (zB rfl) zD)) (cB st p s hpl (by omega) hS.lo hS.hi)]
     exact zC.mpr ⟨rfl,rfl⟩
   . rw[List.flatMap_map,show (fun(a:Nat)=>(match Val.int (a:Int) with|.int p=>[tpI (zb st p.toNat)]|_=>[]:List Val))=fun a=>[(fun a=>tpI (zb st a)) a] from rfl,rW]
     exact zC.mpr ⟨rfl,rfl⟩
  refine yb hc ?_
  show (zO Φ T.gl [some (.int z),some (tpI st),some (.bool c),some (.dref d),some (vI z st),some (.lst ((za st).map fun p=>tpI (zb st p)))] _ s).post _
  have te:=d5 (yD (Φ:=Φ) (G:=T.gl) (env:=[some (.int z),some (tpI st),some (.bool c),some (.dref d),some (vI z st),some (.lst ((za st).map fun p=>tpI (zb st p)))]) (s:=s) (e:=.var 5) (zB rfl) gR)
  cases hf:(za st) with
  |nil=>
   rw[hf]at te hw
   exact vF te (ze (vq g.ne) (fin0 (by rw[hw];rfl)))
  |cons p0 ps=>
   have hne:za st≠[]:=by rw[hf];exact nofun
   rw[←hf]
   have te':evT Φ T.gl [some (.int z),some (tpI st),some (.bool c),some (.dref d),some (vI z st),some (.lst ((za st).map fun p=>tpI (zb st p)))] (.not (.val (.var 5))) s=.ok false s:=by
    rw[te,hf];rfl
   refine wL te' ?_
   have hlen:=wz st
   obtain⟨m,rfl⟩:∃m,n=m+1:=⟨n-1,by rw[hf,List.length_cons]at hlen;omega⟩
   have cR:=cR m rfl
   have eA:A (m+1)=1+(m+1)*A m:=rfl
   refine zX.mpr (sV.mpr (qg.mpr (xY (x_call (zA (zB rfl) zD) (cD st s)) (wa.mpr ?_))))
   refine ma (fun rest e s' acc=>(∃o,e=[o,some (.int z),some (.bool c),some (.dref d)])∧∃done todo,done++todo=za st∧rest=todo.map (fun p=>tpI (zb st p))∧acc=(done.map fun p=>Wd z c (zb st p)).map .int∧WT z c d (kvs.length+done.length*A m) s s') ?_
   refine⟨⟨(za st).map fun p=>tpI (zb st p),none⟩,s,wX (zB rfl) rfl,⟨⟨_,rfl⟩,[],za st,rfl,rfl,rfl,kvs,same,hk,by rw[List.length_nil,Nat.zero_mul];exact Nat.le_refl _⟩,fun _ _ _ _ _=>rfl,?_,?_⟩
   . rintro x rest e s' acc ⟨⟨o,rfl⟩,done,todo,hdt,hr,rfl,kvs1,rfl,hk1,hl1⟩
     cases todo with
     |nil=>cases hr
     |cons p todo=>
      rw[List.map_cons]at hr
      obtain⟨rfl,rfl⟩:=List.cons.inj hr
      have hp:p∈za st:=by rw[←hdt];exact List.mem_append_right _ (.head _)
      obtain⟨q1,q2,q3,q4⟩:=hS.put hb (yg.mp hp)
      have hdl2:done.length+1≤m+1:=by
       have:=congrArg List.length hdt
       rw[List.length_append,List.length_cons,hlen]at this
       omega
      have hmul:(done.length+1)*A m≤(m+1)*A m:=Nat.mul_le_mul_right _ hdl2
      have hmul2:(done.length+1)*A m=done.length*A m+A m:=Nat.succ_mul _ _
      refine⟨_,rfl,xZ.mpr ?_⟩
      rw[if_pos rfl]
      show (evE Φ T.gl [some (tpI (zb st p)),some (.int z),some (.bool c),some (.dref d)] _ _).post _
      refine zr (zA (zB rfl) (zA (zB rfl) (zA (zB rfl) (zA (zB rfl) zD)))) (zE (cR (zb st p) d kvs1 _ q1 (by omega) (List.getElem?_set_self hdl) hk1 (by omega)) ?_)
      rintro v s2 ⟨rfl,kvs2,rfl,hk2,hl2⟩
      refine⟨⟨_,rfl⟩,done++[p],todo,by rw[List.append_assoc];exact hdt,rfl,by rw[List.map_append,List.map_append];rfl,kvs2,by rw[List.set_set],hk2,?_⟩
      rw[List.length_append,List.length_singleton,hmul2];omega
   . rintro e s' acc ⟨⟨o,rfl⟩,done,todo,hdt,hr,rfl,kvs1,rfl,hk1,hl1⟩
     cases todo with
     |cons p todo=>cases hr
     |nil=>
      rw[List.append_nil]at hdt
      subst hdt
      refine zC.mpr (uy.mpr ?_)
      rw[cWi _ _ _]
      refine zC.mpr ?_
      show (zP false s _ _).post _
      have hmul:(za st).length*A m≤(m+1)*A m:=Nat.mul_le_mul_right _ (by omega)
      rw[xn yY hk1.nr]
      refine zC.mpr ⟨?_,kvs1,rfl,hk1,by omega⟩
      rw[hw,if_neg (by rw[List.isEmpty_iff];exact hne)]
def mE(f:Str)(c:Bool)(Φ:Calls):Prop:=∀(z:Nat) (st:List Int) (s:Sto),Stn z st→Φ f 0 [.int z,tpI st] s=.ok (.int (Wd z c st)) s
theorem count_le{st:List Int}{z:Nat}(h:Stn z st):st.count 0≤8:=Nat.le_trans List.count_le_length h.n8
theorem jH{z:Nat}{c:Bool}{st:List Int}{n:Nat}(cW:wm z c 8 Φ)(h:Stn z st):(Φ "worth_of" 0 [.int z,tpI st,.bool c,.dref s.length] (s++[.dT []])).post fun v s'=>v=.int (Wd z c st)∧∃t,s'=s++t:=by
 have hA:=XH 8 (Nat.le_refl _)
 refine zE (cW st s.length [] (s++[.dT []]) h (count_le h) (by simp) nofun (by show 0+A 8≤zN;unfold zN;omega)) ?_
 rintro v s' ⟨e,kvs,rfl,_,_⟩
 refine⟨e,[.dT kvs],?_⟩
 rw[List.set_append_right _ _ (Nat.le_refl _),Nat.sub_self];rfl
theorem kL(cN:wQ Φ)(cW:∀z,wm z false 8 Φ){z:Nat}{st:List Int}(h:Stn z st):run T Φ F75.vK [.int z,tpI st] s=.ok (.int (Wd z false st)) s:=by
 rw[post_eq,F75.vK,z0]
 refine⟨rfl,?_⟩
 show (zO Φ T.gl [some (.int z),some (tpI st)] _ s).post _
 refine wd (x_call (zA (zB rfl) (zA (zB rfl) zD)) (cN z st s h)) (zX.mpr (sV.mpr (zr (zA (zB rfl) (zA (zB rfl) (zA zJ (zA rfl zD)))) (zE (jH (n:=0) (cW z) h) ?_))))
 rintro v s' ⟨rfl,t,rfl⟩
 show (zP false s _ _).post _
 rw[vj yY]
 exact zC.mpr ⟨rfl,rfl⟩
end
end M
end
section
namespace M
open PySem
theorem hU(lo n:Nat):yp (lo:Int) n=(List.range' lo n).map fun(k:Nat)=>Val.int k:=by
 unfold yp
 rw[List.range'_eq_map_range,List.map_map]
 refine List.map_congr_left fun k _=>?_
 show Val.int ((lo:Int)+k)=Val.int ((lo+k:Nat):Int)
 congr 1
theorem mX{ns:List Int}{s:Sto}:zR .ne (tpI ns) (.tup []) s=.ok (.bool !ns.isEmpty) s:=by
 cases ns with
 |nil=>rfl
 |cons a ns=>
  have e0:zq s (tpI (a::ns))=tpI (a::ns):=by
   show Val.tup (((a::ns).map Val.int).map (yX s))=_
   rw[List.map_map];rfl
  have h1:(tpI (a::ns)).isD=true:=by rw[Val.isD];exact vN _
  have h2:(Val.tup []).isD=true:=by rw[Val.isD,vT]
  have h3:(Val.tup []).d=.tuple []:=by rw[Val.d,ds]
  have h4:(tpI (a::ns)).d=.tuple (.int a::ns.map PyData.int):=by rw[Val.d,qS];rfl
  show (match qT (zq s (tpI (a::ns))) (.tup []) with|some b=>Out.ok (Val.bool !b) s|Option.none=>.stuck)=_
  rw[e0]
  unfold qT
  rw[h1,h2,h3,h4]
  rfl
section
variable {T:Tbl}{Φ:Calls}{s:Sto}
theorem gC{z h:Nat}{st:List Int}(hz:2≤z)(hz8:z≤8)(hn:st.length≤40):run T Φ F75.xD [.int z,tpI st,.int h] s=.ok (.bool (hasB z st h)) s:=by
 have hl:∀s,blt .len false [tpI st] s=.ok (.int st.length) s:=fun s=>by rw[pL,List.length_map]
 rw[post_eq,F75.xD,z0]
 refine⟨rfl,?_⟩
 show (zO Φ T.gl [some (.int z),some (tpI st),some (.int h),none,none,none] _ s).post _
 have fin':∀{b:Bool},hasB z st h=b→(zP false s (.bool b) s).post fun x t=>x=.bool (hasB z st h)∧t=s:=fun{b} e=>by
  rw[zS xr,e];exact zC.mpr ⟨rfl,rfl⟩
 refine zX.mpr (vC (fun rest e s'=>s'=s∧(∃o1 o2 o3,e=[some (.int z),some (tpI st),some (.int h),o1,o2,o3])∧∃j m,j+m=st.length∧rest=(List.range' j m).map (fun(k:Nat)=>Val.int k)∧∀f d,f<j→0<d→f+d*(z-1)<st.length→xQ st f d z h=false) ((List.range' 0 st.length).map fun(k:Nat)=>Val.int k) (s1:=s) (by rw[←hU];exact pI (yc (zA (zB rfl) zD) (hl s)) (by unfold zN;omega)) ⟨rfl,⟨_,_,_,rfl⟩,0,st.length,by omega,rfl,fun f d q=>by omega⟩ ?_ ?_)
 . rintro x rest e s' ⟨rfl,⟨o1,o2,o3,rfl⟩,j,m,hjm,hr,hno⟩
   cases m with
   |zero=>cases hr
   |succ m=>
    rw[List.range'_succ,List.map_cons]at hr
    obtain⟨rfl,rfl⟩:=List.cons.inj hr
    refine⟨_,rfl,?_⟩
    show (zO Φ T.gl [some (.int z),some (tpI st),some (.int h),some (.int (j:Int)),o2,o3] _ s').post _
    refine zX.mpr (vC (fun rest2 e s2=>s2=s'∧(∃o2 o3,e=[some (.int z),some (tpI st),some (.int h),some (.int (j:Int)),o2,o3])∧∃i k,i+k=st.length∧1≤i∧rest2=(List.range' i k).map (fun(k:Nat)=>Val.int k)∧∀d,d<i→0<d→j+d*(z-1)<st.length→xQ st j d z h=false) ((List.range' 1 (st.length-1)).map fun(k:Nat)=>Val.int k) (s1:=s') (by rw[←hU];exact de (i:=1) zJ (yc (zA (zB rfl) zD) (hl s')) (by omega) (by omega)) ⟨rfl,⟨_,_,rfl⟩,1,st.length-1,by omega,by omega,rfl,fun d q1 q2=>by omega⟩ ?_ ?_)
    . rintro x rest2 e s2 ⟨rfl,⟨o2,o3,rfl⟩,i,k,hik,hi1,hr2,hno2⟩
      cases k with
      |zero=>cases hr2
      |succ k=>
       rw[List.range'_succ,List.map_cons]at hr2
       obtain⟨rfl,rfl⟩:=List.cons.inj hr2
       refine⟨_,rfl,?_⟩
       show (zO Φ T.gl [some (.int z),some (tpI st),some (.int h),some (.int (j:Int)),some (.int (i:Int)),o3] _ s2).post _
       refine yb (XF (e0:=[some (.int (j:Int)),some (.int (i:Int))]) (n:=z) (f:=fun k=>((j+k*i:Nat):Int)) (pI (zB rfl) (by unfold zN;omega)) rfl (fun k o hk=>?_) (by unfold zN;omega)) ?_
       . rw[zu (zB rfl) (zu (zB rfl) (zB rfl) (kj (by omega))) u9]
         congr 2
       . show (zO Φ T.gl [some (.int z),some (tpI st),some (.int h),some (.int (j:Int)),some (.int (i:Int)),some (.lst ((yr j i z).map .int))] _ s2).post _
         have lp:=oh (s:=s2) (f:=j) (d:=i) (z:=z) (by omega)
         have next:∀{o:Option Val},(j+i*(z-1)<st.length→xQ st j i z h=false)→s2=s2∧(∃o2 o3,[some (.int z),some (tpI st),some (.int h),some (.int (j:Int)),some (.int (i:Int)),o]=[some (.int z),some (tpI st),some (.int h),some (.int (j:Int)),o2,o3])∧∃i' k',i'+k'=st.length∧1≤i'∧(List.range' (i+1) k).map (fun(k:Nat)=>Val.int k)=(List.range' i' k').map (fun(k:Nat)=>Val.int k)∧∀d,d<i'→0<d→j+d*(z-1)<st.length→xQ st j d z h=false:=fun{o} q=>⟨rfl,⟨_,_,rfl⟩,i+1,k,by omega,by omega,rfl,fun d h1 h2 h3=>by
          rcases Nat.lt_or_ge d i with q1|q1
          . exact hno2 d q1 h2 h3
          . obtain rfl:d=i:=by omega
            exact q h3⟩
         have t1:evT Φ T.gl [some (.int z),some (tpI st),some (.int h),some (.int (j:Int)),some (.int (i:Int)),some (.lst ((yr j i z).map .int))] (.val (.cmp .lt (.ix (.var 5) (.neg (.lit (.int 1)))) (.blt .len false (.cons (.var 1) .nil)))) s2=.ok (decide (((j+(z-1)*i:Nat):Int)<(st.length:Int))) s2:=yD (yL (xO (zB rfl) (XE zJ) lp) (yc (zA (zB rfl) zD) (hl s2)) lt_int) zW
         have hcm:(z-1)*i=i*(z-1):=Nat.mul_comm _ _
         by_cases hin:j+i*(z-1)<st.length
         . rw[decide_eq_true (by omega)]at t1
           have inr:∀x∈yr j i z,∃y,st[x.toNat]?=some y∧0≤x:=fun x hx=>by
            unfold yr at hx
            obtain⟨k,hk,rfl⟩:=List.mem_map.mp hx
            have hk:=List.mem_range.mp hk
            have:k*i≤(z-1)*i:=Nat.mul_le_mul_right _ (by omega)
            have hlt:j+k*i<st.length:=by omega
            rw[Int.toNat_natCast]
            exact⟨_,List.getElem?_eq_getElem hlt,by omega⟩
           have hc:=cA (Φ:=Φ) (G:=T.gl) (env:=[some (.int z),some (tpI st),some (.int h),some (.int (j:Int)),some (.int (i:Int)),some (.lst ((yr j i z).map .int))]) (s:=s2) (N:=["_law_place","_law_hand_here","_law_stand"]) (fr:=[none,some 2,some 1]) (it:=.val (.var 5)) (ifs:=.cons (.val (.cmp .ne (.ix (.var 2) (.var 0)) (.var 1))) .nil) (ks:=yr j i z) (bad:=fun x=>!decide (st[x.toNat]?=some (h:Int))) (e0:=[some (.int h),some (tpI st)]) (wX (zB rfl) rfl) rfl (fun x hx=>by
            obtain⟨y,hy,h0⟩:=inr x hx
            have ix:=qY (s:=s2) hy
            rw[Int.toNat_of_nonneg h0]at ix
            rw[sj (yD (yL (xO (zB rfl) (zB rfl) ix) (zB rfl) ne_int) zW),hy]
            congr 2
            by_cases q:y=(h:Int)
            . rw[decide_eq_true q,decide_eq_true (by rw[q])]
            . rw[decide_eq_false q,decide_eq_false (fun z=>q (Option.some.inj z))])
           have t2:evT Φ T.gl [some (.int z),some (tpI st),some (.int h),some (.int (j:Int)),some (.int (i:Int)),some (.lst ((yr j i z).map .int))] (.val (.cmp .eq (.comp false ["_law_place","_law_hand_here","_law_stand"] [none,some 2,some 1] (.var 0) (.nm 0) (.val (.var 5)) (.cons (.val (.cmp .ne (.ix (.var 2) (.var 0)) (.var 1))) .nil)) (.lst false .nil))) s2=.ok (xQ st j i z h) s2:=by
            have:=yD (yL hc (m7 zD (Nat.zero_le _)) (eq_nil (s:=s2) (vN _))) zW
            rw[nM (r:=(j,i))]at this
            exact this
           cases ha:xQ st j i z h with
           |true=>
            rw[ha]at t2
            refine vF (gP t1 (sj t2)) (ze zJ (fin' ?_))
            exact(w6 hz).mpr ⟨j,i,by omega,hin,ha⟩
           |false=>
            rw[ha]at t2
            exact wL (gP t1 (sj t2)) (xC (next fun _=>ha))
         . rw[decide_eq_false (by omega)]at t1
           exact wL (ZK t1) (xC (next fun q=>absurd q hin))
    . rintro e s2 ⟨rfl,⟨o2,o3,rfl⟩,i,k,hik,hi1,hr2,hno2⟩
      have hk0:k=0:=by
       cases k with
       |zero=>rfl
       |succ k=>rw[List.range'_succ]at hr2;cases hr2
      refine xC ⟨rfl,⟨_,_,_,rfl⟩,j+1,m,by omega,rfl,fun f d h1 h2 h3=>?_⟩
      rcases Nat.lt_or_ge f j with q1|q1
      . exact hno f d q1 h2 h3
      . obtain rfl:f=j:=by omega
        have:d*1≤d*(z-1):=Nat.mul_le_mul_left _ (by omega)
        exact hno2 d (by omega) h2 h3
 . rintro e s' ⟨rfl,⟨o1,o2,o3,rfl⟩,j,m,hjm,hr,hno⟩
   have hm0:m=0:=by
    cases m with
    |zero=>rfl
    |succ m=>rw[List.range'_succ]at hr;cases hr
   refine ze zJ (fin' ?_)
   cases hb:hasB z st h with
   |false=>rfl
   |true=>
    obtain⟨f,d,h1,h2,h3⟩:=(w6 hz).mp hb
    rw[hno f d (by omega) h1 h2]at h3;cases h3
theorem m4{z:Nat}{st:List Int}(h:Stn z st):(hasB z st (1:Nat)||hasB z st (2:Nat))=hasB z st (zY st):=by
 have nw:=h.nw
 rcases v9 st with⟨h1,h2⟩|⟨h1,h2⟩
 . rw[h1]at nw;rw[h2,nw];rfl
 . rw[h1]at nw;rw[h2,nw,Bool.or_false]
theorem kE(cH:m8 "_law_has" Φ){z:Nat}{st:List Int}(h:Stn z st):run T Φ F75.yz [.int z,tpI st] s=.ok (zx (zh z st)) s:=by
 have h8:=h.n8
 have hl:blt .len false [tpI st] s=.ok (.int st.length) s:=by rw[pL,List.length_map]
 have fin':∀{v:Val},v=zx (zh z st)→(zP false s v s).post fun x t=>x=zx (zh z st)∧t=s:=fun{v} e=>by
  rw[zS (by rw[e];exact ub),e];exact zC.mpr ⟨rfl,rfl⟩
 have c1:=cH z st 1 s h.z2 h.z8 (by omega)
 have c2:=cH z st 2 s h.z2 h.z8 (by omega)
 have t1:=yD (Φ:=Φ) (G:=T.gl) (env:=[some (.int z),some (tpI st)]) (s:=s) (x_call (zA (e:=.var 0) (zB rfl) (zA (e:=.var 1) (zB rfl) (zA (e:=.lit (.int 1)) zJ zD))) c1) zW
 have t2:=yD (Φ:=Φ) (G:=T.gl) (env:=[some (.int z),some (tpI st)]) (s:=s) (x_call (zA (e:=.var 0) (zB rfl) (zA (e:=.var 1) (zB rfl) (zA (e:=.lit (.int 2)) zJ zD))) c2) zW
 have tw:=m4 h
 rw[post_eq,F75.yz,z0]
 refine⟨rfl,?_⟩
 show (zO Φ T.gl [some (.int z),some (tpI st)] _ s).post _
 have yes:hasB z st (zY st)=true→(fin false s (fun x t=>x=zx (zh z st)∧t=s)) (.rt (.tup [])) s:=fun e=>fin' (by unfold zh;rw[if_pos e];rfl)
 cases b1:hasB z st (1:Nat) with
 |true=>
  rw[b1]at t1 tw
  exact vF (d6 t1) (ze (x8 zD (Nat.zero_le _)) (yes (by rw[←tw];rfl)))
 |false=>
  rw[b1]at t1 tw
  cases b2:hasB z st (2:Nat) with
  |true=>
   rw[b2]at t2 tw
   exact vF (dB t1 (oJ t2)) (ze (x8 zD (Nat.zero_le _)) (yes (by rw[←tw];rfl)))
  |false=>
   rw[b2]at t2 tw
   refine wL (dB t1 (qo t2 ng)) ?_
   have hc:=cA (Φ:=Φ) (G:=T.gl) (env:=[some (.int z),some (tpI st)]) (s:=s) (N:=["_law_place","_law_stand"]) (fr:=[none,some 1]) (it:=.range1 (.blt .len false (.cons (.var 1) .nil))) (ifs:=.cons (.val (.cmp .eq (.ix (.var 1) (.var 0)) (.lit (.int 0)))) .nil) (ks:=(List.range st.length).map fun(k:Nat)=>(k:Int)) (bad:=fun x=>decide (st[x.toNat]?=some 0)) (e0:=[some (tpI st)]) (by
    rw[pI (yc (zA (zB rfl) zD) hl) (by unfold zN;omega)]
    unfold yp
    rw[List.map_map]
    congr 3
    funext k
    show Val.int (0+(k:Int))=Val.int (k:Int)
    rw[Int.zero_add]) rfl (fun x hx=>by
    obtain⟨k,hk,rfl⟩:=List.mem_map.mp hx
    have hk:=List.mem_range.mp hk
    have hy:=List.getElem?_eq_getElem hk
    rw[sj (yD (yL (xO (zB rfl) (zB rfl) (qY hy)) zJ eq_int) zW),Int.toNat_natCast,hy]
    congr 1
    by_cases q:st[k]=0
    . rw[decide_eq_true q,decide_eq_true (by rw[q])]
    . rw[decide_eq_false q,decide_eq_false (fun z=>q (Option.some.inj z))])
   refine ze (yc (zA hc zD) rfl) (fin' ?_)
   unfold zh
   rw[←tw,if_neg (show ¬(false||false)=true from Bool.false_ne_true)]
   show Val.tup _=Val.tup _
   congr 1
   unfold za
   rw[List.filter_map,List.map_map]
   congr 1
def oN(Φ:Calls):Prop:=∀(st:List Int) (s:Sto),st.count 2≤st.count 1→st.count 1≤st.count 2+1→Φ "_law_hand" 0 [tpI st] s=.ok (.int (zg st)) s
theorem kF{st:List Int}(h1:st.count 2≤st.count 1)(h2:st.count 1≤st.count 2+1):run T Φ F75.y0 [tpI st] s=.ok (.int (zg st)) s:=by
 rw[post_eq,F75.y0,z0]
 refine⟨rfl,?_⟩
 show (zO Φ T.gl [some (tpI st)] _ s).post _
 refine ze (zu (zu zJ (x6 (zB rfl) (zA zJ zD) ui) u9) (x6 (zB rfl) (zA zJ zD) ui) kl) ?_
 show (zP false s _ s).post _
 rw[zS yY]
 refine zC.mpr ⟨?_,rfl⟩
 congr 1
 unfold zg
 by_cases q:st.count 1=st.count 2
 . rw[if_pos q];omega
 . rw[if_neg q];omega
theorem kG(cD:oN Φ){st:List Int}{p:Nat}(hp:p<st.length)(hn:st.length≤40)(h1:st.count 2≤st.count 1)(h2:st.count 1≤st.count 2+1):run T Φ F75.yt [tpI st,.int p] s=.ok (tpI (zb st p)) s:=by
 rw[post_eq,F75.yt,z0]
 refine⟨rfl,?_⟩
 show (zO Φ T.gl [some (tpI st),some (.int p)] _ s).post _
 refine ze (iy (f:=p) (h:=zg st) rfl (zB rfl) (x_call (zA (zB rfl) zD) (cD st s h1 h2)) hp hn) ?_
 show (zP false s _ s).post _
 rw[zS ow]
 exact zC.mpr ⟨rfl,rfl⟩
noncomputable def tS(i:Int):Str:=toString i
noncomputable def xt(st:List Int):Str:=L2.pJ "" (st.map tS)
theorem nc{i:Int}(h0:0≤i)(h2:i≤2):(tS i).cps=#[48+i.toNat]:=by
 have:i=0∨i=1∨i=2:=by omega
 rcases this with rfl|rfl|rfl<;>rfl
theorem pF:∀(st:List Int) (acc:Array Nat),(∀x∈st,0≤x∧x≤2)→((st.map tS).foldl (fun acc p=>acc++("":Str).cps++p.cps) acc).toList=acc.toList++st.map fun x=>48+x.toNat
 |[],acc,_=>by rw[List.map_nil,List.map_nil,List.append_nil];rfl
 |x::st,acc,h=>by
  rw[List.map_cons,List.foldl_cons,pF st _ fun y hy=>h y (.tail _ hy),nc (h x (.head _)).1 (h x (.head _)).2,List.map_cons]
  have e:("":Str).cps=#[]:=rfl
  rw[e]
  simp
theorem oI{st:List Int}(h:∀x∈st,0≤x∧x≤2):(xt st).cps.toList=st.map fun x=>48+x.toNat:=by
 cases st with
 |nil=>rfl
 |cons x st=>
  show (((st.map tS).foldl (fun acc p=>acc++("":Str).cps++p.cps) (tS x).cps)).toList=_
  rw[pF st _ fun y hy=>h y (.tail _ hy),nc (h x (.head _)).1 (h x (.head _)).2]
  rfl
theorem gQ{a b:List Int}(ha:∀x∈a,0≤x∧x≤2)(hb:∀x∈b,0≤x∧x≤2)(e:xt a=xt b):a=b:=by
 have e1:(a.map fun x=>48+x.toNat)=b.map fun x=>48+x.toNat:=by rw[←oI ha,←oI hb,e]
 have e2:=congrArg (List.map fun(n:Nat)=>((n:Int)-48)) e1
 rw[List.map_map,List.map_map]at e2
 have id':∀l:List Int,(∀x∈l,0≤x∧x≤2)→l.map ((fun(n:Nat)=>((n:Int)-48))∘fun x=>48+x.toNat)=l:=fun l hl=>by
  conv=>rhs;rw[←List.map_id l]
  refine List.map_congr_left fun x hx=>?_
  have:=hl x hx
  show (((48+x.toNat:Nat):Int)-48)=x
  omega
 rw[id' a ha,id' b hb]at e2
 exact e2
theorem mx:∀xs:List Str,strsOf (xs.map .str)=some xs
 |[]=>rfl
 |x::xs=>by show (strsOf (xs.map .str)).map _=_;rw[mx xs];rfl
def ka(Φ:Calls):Prop:=∀(st:List Int) (s:Sto),st.length≤8→(∀x∈st,0≤x∧x≤2)→Φ "_law_text" 0 [tpI st] s=.ok (.str (xt st)) s
theorem kH{st:List Int}(hl:st.length≤8)(h:∀x∈st,0≤x∧x≤2):run T Φ F75.y1 [tpI st] s=.ok (.str (xt st)) s:=by
 rw[post_eq,F75.y1,z0]
 refine⟨rfl,?_⟩
 show (zO Φ T.gl [some (tpI st)] _ s).post _
 have hc:evE Φ T.gl [some (tpI st)] (.comp false ["_law_one"] [none] (.blt .str false (.cons (.var 0) .nil)) (.nm 0) (.val (.var 0)) .nil) s=.ok (.lst ((st.map tS).map .str)) s:=by
  rw[post_eq]
  refine vQ (fun e=>∃o,e=[o]) (fun x=>match x with|.int i=>[.str (tS i)]|_=>[]) (st.map .int) (s1:=s) (wX (zB rfl) rfl) ⟨_,rfl⟩ ?_ ?_
  . rintro x hx e ⟨o,rfl⟩
    obtain⟨i,hi,rfl⟩:=List.mem_map.mp hx
    refine⟨[some (.int i)],rfl,⟨_,rfl⟩,xZ.mpr ⟨rfl,?_⟩⟩
    have h2:=h i hi
    have hb:blt .str false [.int i] s=.ok (.str (tS i)) s:=by
     have:i=0∨i=1∨i=2:=by omega
     rcases this with rfl|rfl|rfl<;>rfl
    rw[if_pos rfl,yc (zA (zB rfl) zD) hb]
    exact zC.mpr ⟨rfl,rfl⟩
  . rw[List.flatMap_map,show (fun(a:Int)=>(match Val.int a with|.int i=>[Val.str (tS i)]|_=>[]:List Val))=fun a=>[(fun a=>Val.str (tS a)) a] from rfl,rW,List.map_map]
    exact zC.mpr ⟨rfl,rfl⟩
 have hj:z7 .join (.str "") [.lst ((st.map tS).map .str)] s=.ok (.str (xt st)) s:=by
  show (match strsOf ((st.map tS).map .str) with|some ys=>if (ys.map (fun(x:Str)=>x.length)).sum+ys.length*("":Str).length≤16777216 then Out.ok (Val.str (L2.pJ "" ys)) s else .stuck|Option.none=>.stuck)=_
  rw[mx]
  have e1:((st.map tS).map (·.length)).sum≤8:=by
   have:∀l:List Int,(∀x∈l,0≤x∧x≤2)→((l.map tS).map (·.length)).sum=l.length:=by
    intro l hl
    induction l with
    |nil=>rfl
    |cons x l ih=>
     rw[List.map_cons,List.map_cons,List.sum_cons,ih fun y hy=>hl y (.tail _ hy),List.length_cons]
     have:(tS x).length=1:=by show (tS x).cps.size=1;rw[nc (hl x (.head _)).1 (hl x (.head _)).2];rfl
     omega
   rw[this st h];exact hl
  have e2:("":Str).length=0:=rfl
  show (if ((st.map tS).map (·.length)).sum+(st.map tS).length*("":Str).length≤16777216 then Out.ok (Val.str (L2.pJ "" (st.map tS))) s else .stuck)=_
  rw[e2,Nat.mul_zero,Nat.add_zero,if_pos (by omega)];rfl
 refine ze (x6 zJ (zA hc zD) hj) ?_
 show (zP false s _ s).post _
 rw[zS iC]
 exact zC.mpr ⟨rfl,rfl⟩
end
end M
end
section
namespace M
open PySem
def aB(st:List Int):Prop:=∀x∈st,0≤x∧x≤2
def KnS(z:Nat)(c:Bool)(kvs:List (Str × Val)):Prop:=∀p∈kvs,∃st,aB st∧p.1=xt st∧p.2=.int (Wd z c st)
theorem KnS.nr{z:Nat}{c:Bool}{kvs:List (Str × Val)}(h:KnS z c kvs):(Cel.dS kvs).noRef=true:=by
 show zj (kvs.map (·.2))=true
 exact uC fun v hv=>by
  obtain⟨p,hp,rfl⟩:=List.mem_map.mp hv
  obtain⟨_,_,_,e⟩:=h p hp
  rw[e];exact yY
theorem KnS.get{z:Nat}{c:Bool}{kvs:List (Str × Val)}{st:List Int}{v:Val}(h:KnS z c kvs)(hm:aB st)(hg:yw kvs (xt st)=some v):v=.int (Wd z c st):=by
 obtain⟨st',h1,h2,h3⟩:=h _ (t6 hg)
 have:=gQ hm h1 h2
 rw[this];exact h3
section
variable {T:Tbl}{Φ:Calls}{s:Sto}
theorem Zm{d:Nat}{kvs:List (Str × Val)}{k:Str}(h:s[d]?=some (.dS kvs)):getD (.dref d) (.str k) s=some (yw kvs k):=by
 show ((s[d]?).map fun c=>(d,c)).bind _=_
 rw[h];rfl
theorem Yn{d:Nat}{kvs:List (Str × Val)}{k:Str}{v:Val}(h:s[d]?=some (.dS kvs))(hl:kvs.length<zN):putD (.dref d) (.str k) v s=some (s.set d (.dS (vi kvs k v))):=by
 show ((s[d]?).map fun c=>(d,c)).bind _=_
 rw[h]
 show (Option.map _ (if kvs.length<zN then some (Cel.dS (vi kvs k v)) else none))=_
 rw[if_pos hl];rfl
theorem aD{d:Nat}{kvs:List (Str × Val)}{k:Str}(h:s[d]?=some (.dS kvs)):zR .notInD (.str k) (.dref d) s=.ok (.bool !(yw kvs k).isSome) s:=by
 show (match getD (.dref d) (.str k) s with|some o=>Out.ok (Val.bool !o.isSome) s|Option.none=>.stuck)=_
 rw[Zm h]
theorem ixS{d:Nat}{kvs:List (Str × Val)}{k:Str}{v:Val}(h:s[d]?=some (.dS kvs))(hk:yw kvs k=some v):ixD (.dref d) (.str k) s=.ok v s:=by
 unfold ixD
 rw[Zm h,hk]
def WS(z:Nat)(c:Bool)(d b:Nat)(s s':Sto):Prop:=∃kvs,s'=s.set d (.dS kvs)∧KnS z c kvs∧kvs.length≤b
noncomputable def cI(c:Bool):Int:=if c then 1 else 0
def tK(z:Nat)(c:Bool)(n:Nat)(Φ:Calls):Prop:=∀(st:List Int) (d:Nat) (kvs:List (Str × Val)) (s:Sto),Stn z st→st.count 0≤n→s[d]?=some (.dS kvs)→KnS z c kvs→kvs.length+A n≤zN→(Φ "_law_worth" 0 [.int z,tpI st,.int (cI c),.dref d] s).post fun v s'=>v=.int (Wd z c st)∧WS z c d (kvs.length+A n) s s'
def qE(z:Nat)(c:Bool)(n:Nat)(Φ:Calls):Prop:=∀(st:List Int) (d:Nat) (kvs:List (Str × Val)) (s:Sto),Stn z st→st.count 0≤n→s[d]?=some (.dS kvs)→KnS z c kvs→kvs.length+A n≤zN→(Φ "_law_reckoned" 0 [.int z,tpI st,.int (cI c),.dref d] s).post fun v s'=>v=.int (Wd z c st)∧WS z c d (kvs.length+A n-1) s s'
theorem sY{z:Nat}{c:Bool}{n:Nat}(cT:ka Φ)(cF:qE z c n Φ){st:List Int}{d:Nat}{kvs:List (Str × Val)}(hS:Stn z st)(hn:st.count 0≤n)(hd:s[d]?=some (.dS kvs))(hk:KnS z c kvs)(hl:kvs.length+A n≤zN):(run T Φ F75.yN [.int z,tpI st,.int (cI c),.dref d] s).post fun v s'=>v=.int (Wd z c st)∧WS z c d (kvs.length+A n) s s':=by
 have hdl:=(List.getElem?_eq_some_iff.mp hd).1
 have hA:=n4 n
 rw[F75.yN,z0]
 refine⟨rfl,?_⟩
 show (zO Φ T.gl [some (.int z),some (tpI st),some (.int (cI c)),some (.dref d),none] _ s).post _
 refine yb (x_call (zA (zB rfl) zD) (cT st s hS.n8 hS.ms)) ?_
 show (zO Φ T.gl [some (.int z),some (tpI st),some (.int (cI c)),some (.dref d),some (.str (xt st))] _ s).post _
 refine gG (J:=fun e s'=>e=[some (.int z),some (tpI st),some (.int (cI c)),some (.dref d),some (.str (xt st))]∧∃kvs',s'=s.set d (.dS kvs')∧KnS z c kvs'∧kvs'.length≤kvs.length+A n∧(yw kvs' (xt st)).isSome=true) (yD (yL (zB rfl) (zB rfl) (aD hd)) zW) (fun hN=>?_) (fun hN=>?_) ?_
 . refine iO (zr (zA (zB rfl) (zA (zB rfl) (zA (zB rfl) (zA (zB rfl) zD)))) (zE (cF st d kvs s hS hn hd hk hl) ?_))
   rintro v s1 ⟨rfl,kvs1,rfl,hk1,hl1⟩
   refine⟨_,_,_,zB rfl,zB rfl,Yn (List.getElem?_set_self hdl) (by omega),xC ⟨_,rfl,rfl,_,by rw[List.set_set],qz (P:=fun k v=>∃st,aB st∧k=xt st∧v=.int (Wd z c st)) hk1 ⟨st,hS.ms,rfl,rfl⟩,?_,?_⟩⟩
   . have:=q0 (k:=xt st) (v:=.int (Wd z c st)) (kvs:=kvs1);omega
   . rw[qy];rfl
 . refine⟨rfl,kvs,?_,hk,by omega,?_⟩
   . obtain⟨h1,h2⟩:=List.getElem?_eq_some_iff.mp hd
     rw[←h2,List.set_getElem_self]
   . cases q:(yw kvs (xt st)).isSome with
     |true=>rfl
     |false=>rw[q]at hN;cases hN
 . rintro e s' ⟨rfl,kvs',rfl,hk',hl',hs'⟩
   obtain⟨v,hv⟩:=Option.isSome_iff_exists.mp hs'
   have ev:=hk'.get hS.ms hv
   refine ze (cC (zB rfl) (zB rfl) (ixS (List.getElem?_set_self hdl) hv)) ?_
   show (zP false s v _).post _
   rw[xn (by rw[ev];exact yY) hk'.nr]
   exact zC.mpr ⟨ev,kvs',rfl,hk',hl'⟩
theorem jV{i:Nat}{x:Int}{ws:List Int}(h:s[i]?=some (.lst (ws.map .int))):zR .in_ (.int x) (.ref i) s=.ok (.bool (decide (x∈ws))) s:=by
 have e:=qX (x:=x) (ks:=ws) (s:=s)
 rw[mH]at e
 rw[←e]
 simp only[zR,wM,h]
theorem cq{i:Nat}{ws:List Int}(h:s[i]?=some (.lst (ws.map .int))):zR .eq (.ref i) (.lst []) s=.ok (.bool ws.isEmpty) s:=by
 have e:=eq_nil (s:=s) (vN ws)
 rw[show (ws.map Val.int).isEmpty=ws.isEmpty by cases ws<;>rfl]at e
 rw[←e]
 simp only[zR,zq,yX,h]
theorem oD{z:Nat}{c:Bool}{n:Nat}(cH:m8 "_law_has" Φ)(cD:oN Φ)(cFr:tX "_law_free" Φ)(cB:y8 "_law_put" Φ)(cR:∀m,n=m+1→tK z c m Φ){st:List Int}{d:Nat}{kvs:List (Str × Val)}(hS:Stn z st)(hn:st.count 0≤n)(hd:s[d]?=some (.dS kvs))(hk:KnS z c kvs)(hl:kvs.length+A n≤zN):(run T Φ F75.zw [.int z,tpI st,.int (cI c),.dref d] s).post fun v s'=>v=.int (Wd z c st)∧WS z c d (kvs.length+A n-1) s s':=by
 have hdl:=(List.getElem?_eq_some_iff.mp hd).1
 have hA:=n4 n
 have h8:=hS.n8
 have nw:=hS.nw
 have same:s=s.set d (.dS kvs):=by
  obtain⟨h1,h2⟩:=List.getElem?_eq_some_iff.mp hd
  rw[←h2,List.set_getElem_self]
 have fin0:∀{v:Val},v=.int (Wd z c st)→(zP false s v s).post fun v s'=>v=.int (Wd z c st)∧WS z c d (kvs.length+A n-1) s s':=fun{v} e=>by
  rw[zS (by rw[e];exact yY)]
  exact zC.mpr ⟨e,kvs,same,hk,by omega⟩
 rw[F75.zw,z0]
 refine⟨rfl,?_⟩
 show (zO Φ T.gl [some (.int z),some (tpI st),some (.int (cI c)),some (.dref d),none,none,none] _ s).post _
 have turn:∀(h:Nat) (o:Option Val),(h=1∨h=2)→(hasB z st h=false→vX (fun e s'=>s'=s∧∃o,e=[some (.int z),some (tpI st),some (.int (cI c)),some (.dref d),o,none,none] ) (fun _ _=>True) (.nx [some (.int z),some (tpI st),some (.int (cI c)),some (.dref d),some (.int h),none,none]) s):=fun h o _ _=>⟨rfl,_,rfl⟩
 have won:∀h:Nat,(h=1∨h=2)→hasB z st h=true→∃i,x9 (.lst [.int (h:Int),.int (3-(h:Int))]) (.int (cI c)) s=.ok (.int i) s∧i=Wd z c st:=fun h hh hb=>by
  have hlast:h=zY st:=by
   rcases v9 st with⟨h1,h2⟩|⟨h1,h2⟩
   . rw[h1]at nw;rw[h2]
     rcases hh with rfl|rfl
     . rw[show (((1:Nat):Int))=(1:Int) from rfl]at nw hb;rw[nw]at hb;cases hb
     . rfl
   . rw[h1]at nw;rw[h2]
     rcases hh with rfl|rfl
     . rfl
     . rw[nw]at hb;cases hb
  rw[hlast]at hb
  have hw:=kf (c:=c) hb
  rw[←hlast]at hw
  cases c with
  |true=>exact⟨_,rfl,hw.symm⟩
  |false=>exact⟨_,rfl,hw.symm⟩
 refine zX.mpr (vC (fun rest e s'=>s'=s∧(∃o,e=[some (.int z),some (tpI st),some (.int (cI c)),some (.dref d),o,none,none])∧(rest=[.int (1:Nat),.int (2:Nat)]∨(rest=[.int (2:Nat)]∧hasB z st (1:Nat)=false)∨(rest=[]∧hasB z st (1:Nat)=false∧hasB z st (2:Nat)=false))) [.int 1,.int 2] (s1:=s) (wX (x8 (zA zJ (zA zJ zD)) (by show 2≤zN;unfold zN;omega)) rfl) ⟨rfl,⟨_,rfl⟩,.inl rfl⟩ ?_ ?_)
 . rintro x rest e s' ⟨rfl,⟨o,rfl⟩,hr⟩
   have go:∀h:Nat,(h=1∨h=2)→(hasB z st h=false→(rest=[.int (1:Nat),.int (2:Nat)]∨(rest=[.int (2:Nat)]∧hasB z st (1:Nat)=false)∨(rest=[]∧hasB z st (1:Nat)=false∧hasB z st (2:Nat)=false)))→x=.int (h:Int)→∃e1,yP (.nm 4) x [some (.int z),some (tpI st),some (.int (cI c)),some (.dref d),o,none,none]=some e1∧(zO Φ T.gl e1 (.cons (.ifS (.val (.call "_law_has" 0 (.cons (.var 0) (.cons (.var 1) (.cons (.var 4) .nil))))) (.cons (.ret (.ix (.lst false (.cons (.var 4) (.cons (.bin false .sub (.lit (.int 3)) (.var 4)) .nil))) (.var 2))) .nil) .nil) .nil) s').post (vX (fun e s2=>s2=s'∧(∃o,e=[some (.int z),some (tpI st),some (.int (cI c)),some (.dref d),o,none,none])∧(rest=[.int (1:Nat),.int (2:Nat)]∨(rest=[.int (2:Nat)]∧hasB z st (1:Nat)=false)∨(rest=[]∧hasB z st (1:Nat)=false∧hasB z st (2:Nat)=false))) (u5 Φ T.gl (.cons (.asg 4 (.call "_law_hand" 0 (.cons (.var 1) .nil))) (.cons (.asg 5 (.lst true .nil)) (.cons (.forS (.nm 6) (.val (.call "_law_free" 0 (.cons (.var 0) (.cons (.var 1) .nil)))) (.cons (.expr (.z7 .append false (.var 5) (.cons (.call "_law_worth" 0 (.cons (.var 0) (.cons (.call "_law_put" 0 (.cons (.var 1) (.cons (.var 6) .nil))) (.cons (.var 2) (.cons (.var 3) .nil))))) .nil))) .nil)) (.cons (.ifS (.val (.cmp .in_ (.var 4) (.var 5))) (.cons (.ret (.var 4)) .nil) .nil) (.cons (.ret (.ife (.or (.val (.cmp .eq (.var 5) (.lst false .nil))) (.cons (.val (.cmp .in_ (.lit (.int 0)) (.var 5))) .nil)) (.lit (.int 0)) (.bin false .sub (.lit (.int 3)) (.var 4)))) .nil))))) (fin false s' fun v s''=>v=.int (Wd z c st)∧WS z c d (kvs.length+A n-1) s' s''))):=by
    rintro h hh hnext rfl
    refine⟨_,rfl,?_⟩
    show (zO Φ T.gl [some (.int z),some (tpI st),some (.int (cI c)),some (.dref d),some (.int (h:Int)),none,none] _ s').post _
    have tc:=yD (Φ:=Φ) (G:=T.gl) (env:=[some (.int z),some (tpI st),some (.int (cI c)),some (.dref d),some (.int (h:Int)),none,none]) (s:=s') (x_call (zA (e:=.var 0) (zB rfl) (zA (e:=.var 1) (zB rfl) (zA (e:=.var 4) (zB rfl) zD))) (cH z st h s' hS.z2 hS.z8 (by omega))) zW
    cases hb:hasB z st h with
    |true=>
     rw[hb]at tc
     obtain⟨i,hi,e⟩:=won h hh hb
     refine vF tc (ze (xO (m7 (zA (zB rfl) (zA (zu zJ (zB rfl) kl) zD)) (by show 2≤zN;unfold zN;omega)) (zB rfl) hi) ?_)
     exact fin0 (by rw[e])
    |false=>
     rw[hb]at tc
     exact wL tc (xC ⟨rfl,⟨_,rfl⟩,hnext hb⟩)
   rcases hr with hr|⟨hr,h1⟩|⟨hr,_⟩
   . obtain⟨hx,hr⟩:=List.cons.inj hr
     exact go 1 (.inl rfl) (fun q=>.inr (.inl ⟨hr,q⟩)) hx
   . obtain⟨hx,hr⟩:=List.cons.inj hr
     exact go 2 (.inr rfl) (fun q=>.inr (.inr ⟨hr,h1,q⟩)) hx
   . cases hr
 . rintro e s' ⟨rfl,⟨o,rfl⟩,hr⟩
   have hr:hasB z st (1:Nat)=false∧hasB z st (2:Nat)=false:=by
    rcases hr with hr|⟨hr,_⟩|⟨_,hr⟩
    . cases hr
    . cases hr
    . exact hr
   have hb:hasB z st (zY st)=false:=by rw[←m4 hS,hr.1,hr.2];rfl
   have hw:=dU (c:=c) hS hb
   have eo:zh z st=za st:=by unfold zh;rw[if_neg (by rw[hb];exact Bool.false_ne_true)]
   have c1:=cFr z st (s'++[.lst []]) hS
   rw[eo]at c1
   refine yb (x_call (zA (zB rfl) zD) (cD st s' hS.lo hS.hi)) (yb (nz zD (Nat.zero_le _)) ?_)
   show (zO Φ T.gl [some (.int z),some (tpI st),some (.int (cI c)),some (.dref d),some (.int (zg st:Nat)),some (.ref s'.length),none] _ (s'++[.lst []])).post _
   have hlen:=wz st
   refine zX.mpr (vC (fun rest e s2=>(∃o,e=[some (.int z),some (tpI st),some (.int (cI c)),some (.dref d),some (.int (zg st:Nat)),some (.ref s'.length),o])∧∃done todo kvs1,done++todo=za st∧rest=todo.map (fun(p:Nat)=>Val.int p)∧s2=s'.set d (.dS kvs1)++[.lst ((done.map fun p=>Wd z c (zb st p)).map .int)]∧KnS z c kvs1∧kvs1.length+1≤kvs.length+1+done.length*A (n-1)) ((za st).map fun(p:Nat)=>Val.int p) (s1:=s'++[.lst []]) (wX (x_call (zA (zB rfl) (zA (zB rfl) zD)) c1) rfl) ⟨⟨_,rfl⟩,[],za st,kvs,rfl,rfl,by rw[←same];rfl,hk,by omega⟩ ?_ ?_)
   . rintro x rest e s2 ⟨⟨o,rfl⟩,done,todo,kvs1,hdt,hrr,rfl,hk1,hl1⟩
     cases todo with
     |nil=>cases hrr
     |cons p todo=>
      rw[List.map_cons]at hrr
      obtain⟨rfl,rfl⟩:=List.cons.inj hrr
      have hp:p∈za st:=by rw[←hdt];exact List.mem_append_right _ (.head _)
      have hpl:=(List.getElem?_eq_some_iff.mp (yg.mp hp)).1
      obtain⟨q1,q2,q3,q4⟩:=hS.put hb (yg.mp hp)
      have hdl2:done.length+1≤n:=by
       have:=congrArg List.length hdt
       rw[List.length_append,List.length_cons,hlen]at this
       omega
      obtain⟨m,rfl⟩:∃m,n=m+1:=⟨n-1,by omega⟩
      have eA:A (m+1)=1+(m+1)*A m:=rfl
      rw[Nat.add_sub_cancel]at hl1 ⊢
      have hmul:(done.length+1)*A m≤(m+1)*A m:=Nat.mul_le_mul_right _ hdl2
      have hmul2:(done.length+1)*A m=done.length*A m+A m:=Nat.succ_mul _ _
      have hdl3:d<(s'.set d (.dS kvs1)).length:=by rw[List.length_set];exact hdl
      refine⟨_,rfl,?_⟩
      show (zO Φ T.gl [some (.int z),some (tpI st),some (.int (cI c)),some (.dref d),some (.int (zg st:Nat)),some (.ref s'.length),some (.int (p:Int))] _ _).post _
      refine zX.mpr (nF.mpr (iM.mpr ?_))
      rw[zB (v:=.ref s'.length) rfl]
      refine zC.mpr (wa.mpr (zr (zA (zB rfl) (zA (x_call (zA (zB rfl) (zA (zB rfl) zD)) (cB st p _ hpl (by omega) hS.lo hS.hi)) (zA (zB rfl) (zA (zB rfl) zD)))) (zE (cR m rfl (zb st p) d kvs1 _ q1 (by omega) (by rw[List.getElem?_append_left hdl3];exact List.getElem?_set_self hdl) hk1 (by omega)) ?_)))
      rintro v s3 ⟨rfl,kvs2,rfl,hk2,hl2⟩
      refine uy.mpr ?_
      have eS:(s'.set d (.dS kvs1)++[Cel.lst ((done.map fun p=>Wd z c (zb st p)).map .int)]).set d (.dS kvs2)=s'.set d (.dS kvs2)++[Cel.lst ((done.map fun p=>Wd z c (zb st p)).map .int)]:=by
       rw[List.set_append_left _ _ hdl3,List.set_set]
      rw[eS]
      have hi:(s'.set d (.dS kvs2)++[Cel.lst ((done.map fun p=>Wd z c (zb st p)).map .int)])[s'.length]?=some (.lst ((done.map fun p=>Wd z c (zb st p)).map .int)):=by
       rw[List.getElem?_append_right (by rw[List.length_set];exact Nat.le_refl _),List.length_set,Nat.sub_self];rfl
      have hdl8:done.length≤8:=by
       have h5:=count_le hS
       have h6:=congrArg List.length hdt
       rw[List.length_append,List.length_cons,hlen]at h6
       omega
      have hap:z7 .append (.ref s'.length) [.int (Wd z c (zb st p))] (s'.set d (.dS kvs2)++[Cel.lst ((done.map fun p=>Wd z c (zb st p)).map .int)])=.ok .none (s'.set d (.dS kvs2)++[Cel.lst (((done++[p]).map fun p=>Wd z c (zb st p)).map .int)]):=by
       simp only[z7,hi]
       rw[if_pos (by rw[List.length_map,List.length_map];unfold zN;omega)]
       congr 1
       unfold upd
       rw[List.set_append_right _ _ (by rw[List.length_set];exact Nat.le_refl _),List.length_set,Nat.sub_self,List.map_append,List.map_append]
       rfl
      rw[hap]
      refine zC.mpr (xC ⟨⟨_,rfl⟩,done++[p],todo,kvs2,by rw[List.append_assoc];exact hdt,rfl,rfl,hk2,?_⟩)
      rw[List.length_append,List.length_singleton,hmul2];omega
   . rintro e s2 ⟨⟨o,rfl⟩,done,todo,kvs1,hdt,hrr,rfl,hk1,hl1⟩
     cases todo with
     |cons p todo=>cases hrr
     |nil=>
      rw[List.append_nil]at hdt
      subst hdt
      have hi:(s'.set d (.dS kvs1)++[Cel.lst (((za st).map fun p=>Wd z c (zb st p)).map .int)])[s'.length]?=some (.lst (((za st).map fun p=>Wd z c (zb st p)).map .int)):=by
       rw[List.getElem?_append_right (by rw[List.length_set];exact Nat.le_refl _),List.length_set,Nat.sub_self];rfl
      have hlb:kvs1.length≤kvs.length+A n-1:=by
       cases n with
       |zero=>rw[show (za st).length=0 by omega,Nat.zero_mul]at hl1;omega
       |succ m=>
        have eA:A (m+1)=1+(m+1)*A m:=rfl
        rw[Nat.add_sub_cancel]at hl1
        have hmul:(za st).length*A m≤(m+1)*A m:=Nat.mul_le_mul_right _ (by omega)
        omega
      have fin1:∀{v:Val},v=.int (Wd z c st)→(zP false s' v (s'.set d (.dS kvs1)++[Cel.lst (((za st).map fun p=>Wd z c (zb st p)).map .int)])).post fun v s''=>v=.int (Wd z c st)∧WS z c d (kvs.length+A n-1) s' s'':=fun{v} e=>by
       rw[vk (by rw[e];exact yY) hk1.nr]
       exact zC.mpr ⟨e,kvs1,rfl,hk1,hlb⟩
      have t1:=yD (Φ:=Φ) (G:=T.gl) (env:=[some (.int z),some (tpI st),some (.int (cI c)),some (.dref d),some (.int (zg st:Nat)),some (.ref s'.length),o]) (yL (a:=.var 4) (b:=.var 5) (zB rfl) (zB rfl) (jV hi)) zW
      have t2:=yD (Φ:=Φ) (G:=T.gl) (env:=[some (.int z),some (tpI st),some (.int (cI c)),some (.dref d),some (.int (zg st:Nat)),some (.ref s'.length),o]) (yL (a:=.var 5) (b:=.lst false .nil) (zB rfl) (m7 zD (Nat.zero_le _)) (cq hi)) zW
      have t3:=yD (Φ:=Φ) (G:=T.gl) (env:=[some (.int z),some (tpI st),some (.int (cI c)),some (.dref d),some (.int (zg st:Nat)),some (.ref s'.length),o]) (yL (a:=.lit (.int 0)) (b:=.var 5) zJ (zB rfl) (jV hi)) zW
      generalize hW:(za st).map (fun p=>Wd z c (zb st p))=ws at *
      have eE:(za st).isEmpty=ws.isEmpty:=by rw[←hW];cases za st<;>rfl
      rw[eE]at hw
      by_cases m1:((zg st:Nat):Int)∈ws
      . rw[decide_eq_true m1]at t1
        refine vF t1 (ze (zB rfl) (fin1 ?_))
        rw[hw,if_neg (by rw[List.isEmpty_iff];rintro rfl;cases m1)]
        unfold xa;rw[if_pos m1]
      . rw[decide_eq_false m1]at t1
        refine wL t1 ?_
        cases hE:ws.isEmpty with
        |true=>
         rw[hE]at t2 hw
         exact ze (uo (d6 t2) zJ) (fin1 (by rw[hw];rfl))
        |false=>
         rw[hE]at t2 hw
         by_cases m2:0∈ws
         . rw[decide_eq_true m2]at t3
           refine ze (uo (dB t2 (oJ t3)) zJ) (fin1 ?_)
           rw[hw,if_neg Bool.false_ne_true];unfold xa;rw[if_neg m1,if_pos m2]
         . rw[decide_eq_false m2]at t3
           refine ze (sq (dB t2 (qo t3 ng)) (zu zJ (zB rfl) kl)) (fin1 ?_)
           rw[hw,if_neg Bool.false_ne_true];unfold xa;rw[if_neg m1,if_neg m2]
def n9(Φ:Calls):Prop:=∀(p z m k:Nat) (s:Sto),tY s p→2≤z→z≤8→1≤m→m≤8→k≤100→(Φ "_law_played" 0 [.ref p,.int z,.int m,.int k] s).post fun v s'=>∃st,v=tpI st∧Stn z st∧st.length=m∧wq s p s'
theorem Stn.new{z m:Nat}(hz:2≤z)(hz8:z≤8)(h1:1≤m)(h8:m≤8):Stn z (List.replicate m 0):=by
 have c1:(List.replicate m (0:Int)).count 1=0:=List.count_eq_zero.mpr fun h=>by have:=List.eq_of_mem_replicate h;cases this
 have c2:(List.replicate m (0:Int)).count 2=0:=List.count_eq_zero.mpr fun h=>by have:=List.eq_of_mem_replicate h;cases this
 refine⟨hz,hz8,by rw[List.length_replicate];exact h1,by rw[List.length_replicate];exact h8,fun x hx=>?_,by omega,by omega,?_⟩
 . rw[List.eq_of_mem_replicate hx];omega
 . cases hb:hasB z (List.replicate m 0) (zg (List.replicate m 0)) with
   |false=>rfl
   |true=>
    obtain⟨f,d,h1,h2,h3⟩:=(w6 hz).mp hb
    have:=mG (by omega) h3
    have:=List.eq_of_mem_replicate (List.mem_of_getElem? this)
    rcases v9 (List.replicate m 0) with⟨q,_⟩|⟨q,_⟩<;>rw[q]at this<;>cases this
theorem nS(cFr:tX "_law_free" Φ)(cB:y8 "_law_put" Φ)(cR:qD Φ){p z m k:Nat}(hP:tY s p)(hz:2≤z)(hz8:z≤8)(h1:1≤m)(h8:m≤8)(hk:k≤100):(run T Φ F75.yS [.ref p,.int z,.int m,.int k] s).post fun v s'=>∃st,v=tpI st∧Stn z st∧st.length=m∧wq s p s':=by
 rw[F75.yS,z0]
 refine⟨rfl,?_⟩
 show (zO Φ T.gl [some (.ref p),some (.int z),some (.int m),some (.int k),none,none,none] _ s).post _
 have e0:(List.replicate m [Val.int 0]).flatten=(List.replicate m (0:Int)).map .int:=by
  clear h1 h8 
  induction m with
  |zero=>rfl
  |succ m ih=>rw[List.replicate_succ,List.replicate_succ,List.flatten_cons,ih,List.map_cons];rfl
 refine yb (zu (x8 (zA zJ zD) (by show 1≤zN;unfold zN;omega)) (zB rfl) (fb (by omega) nofun (by show 1≤1000;omega))) ?_
 rw[e0]
 show (zO Φ T.gl [some (.ref p),some (.int z),some (.int m),some (.int k),some (tpI (List.replicate m 0)),none,none] _ s).post _
 refine zX.mpr (vC (fun rest e s'=>wq s p s'∧∃st o5 o6,e=[some (.ref p),some (.int z),some (.int m),some (.int k),some (tpI st),o5,o6]∧Stn z st∧st.length=m) (yp 0 k) (s1:=s) (pI (zB rfl) (by unfold zN;omega)) ⟨hP.refl,_,_,_,rfl,Stn.new hz hz8 h1 h8,List.length_replicate⟩ ?_ ?_)
 . rintro x rest e s' ⟨ht,st,o5,o6,rfl,hS,hl⟩
   refine⟨_,rfl,?_⟩
   show (zO Φ T.gl [some (.ref p),some (.int z),some (.int m),some (.int k),some (tpI st),some x,o6] _ s').post _
   have hn8:=hS.n8
   refine yb (x_call (zA (zB rfl) (zA (zB rfl) zD)) (cFr z st s' hS)) ?_
   show (zO Φ T.gl [some (.ref p),some (.int z),some (.int m),some (.int k),some (tpI st),some x,some (zx (zh z st))] _ s').post _
   refine gG (J:=fun e s'=>wq s p s'∧∃st o5 o6,e=[some (.ref p),some (.int z),some (.int m),some (.int k),some (tpI st),o5,o6]∧Stn z st∧st.length=m) (yD (yL (zB rfl) (x8 zD (Nat.zero_le _)) (by rw[tP];exact mX)) zW) (fun hN=>?_) (fun _=>⟨ht,st,_,_,rfl,hS,hl⟩) ?_
   . have hne:zh z st≠[]:=by
      intro e;rw[e]at hN;cases hN
     have hb:hasB z st (zY st)=false:=by
      cases q:hasB z st (zY st) with
      |false=>rfl
      |true=>exact absurd (by unfold zh;rw[if_pos q]) hne
     have eo:zh z st=za st:=by unfold zh;rw[if_neg (by rw[hb];exact Bool.false_ne_true)]
     rw[eo]at hne ⊢
     have hlen:=wz st
     have hc8:=count_le hS
     have hpos:0<(za st).length:=List.length_pos_iff.mpr hne
     have hlb:blt .len false [zx (za st)] s'=.ok (.int (za st).length) s':=by show blt .len false [.tup _] s'=_;rw[pL,List.length_map]
     refine xh (qg.mpr (xY (zB rfl) (wa.mpr (aU.mpr ?_))))
     rw[zB (v:=zx (za st)) rfl]
     refine zC.mpr (zr (zA (zB rfl) (zA (yc (zA (zB rfl) zD) hlb) zD)) (zE (cR p _ s' (ht.at_ hP.lt) (by omega) (by omega)) ?_))
     rintro v s2 ⟨r,rfl,hr,t2⟩
     have hr':r<(za st).length:=by omega
     have hx:x9 (zx (za st)) (.int r) s2=.ok (.int ((za st)[r]:Nat)) s2:=oa (by rw[List.getElem?_map,List.getElem?_eq_getElem hr'];rfl)
     rw[hx]
     refine zC.mpr (uy.mpr ?_)
     have hpm:=yg.mp (List.getElem_mem hr')
     have hpl:=(List.getElem?_eq_some_iff.mp hpm).1
     rw[cB st _ s2 hpl (by omega) hS.lo hS.hi]
     obtain⟨q1,q2,q3,q4⟩:=hS.put hb hpm
     exact zC.mpr (xC ⟨_,rfl,ht.trans t2,_,_,_,rfl,q1,by rw[q4];exact hl⟩)
   . rintro e s2 hJ
     exact xC hJ
 . rintro e s' ⟨ht,st,o5,o6,rfl,hS,hl⟩
   refine ze (zB rfl) ?_
   show (zP false s _ s').post _
   rw[pO ht ow]
   exact zC.mpr ⟨st,rfl,hS,hl,ht⟩
end
end M
end
section
namespace F72
open PySem M
noncomputable def yy:Fn:=⟨["_law_size","_law_stand","_law_known","_law_here","_law_found","_law_place"],["_law_size","_law_stand","_law_known"],false,(.cons (.asg 3 (.call "_law_worth" 0 (.cons (.var 0) (.cons (.var 1) (.cons (.lit (.int 0)) (.cons (.var 2) .nil)))))) (.cons (.asg 4 (.lst true .nil)) (.cons (.forS (.nm 5) (.val (.call "_law_free" 0 (.cons (.var 0) (.cons (.var 1) .nil)))) (.cons (.ifS (.val (.cmp .eq (.call "_law_worth" 0 (.cons (.var 0) (.cons (.call "_law_put" 0 (.cons (.var 1) (.cons (.var 5) .nil))) (.cons (.lit (.int 0)) (.cons (.var 2) .nil))))) (.var 3))) (.cons (.expr (.z7 .append false (.var 4) (.cons (.var 5) .nil))) .nil) .nil) .nil)) (.cons (.ret (.blt .tuple false (.cons (.var 4) .nil))) .nil))))⟩
noncomputable def uR:Fn:=⟨["size","stand"],["size","stand"],false,(.cons (.expr (.call "need_stand" 0 (.cons (.var 0) (.cons (.var 1) .nil)))) (.cons (.ret (.call "best_places" 0 (.cons (.var 0) (.cons (.var 1) (.cons (.dctN true) .nil))))) .nil))⟩
noncomputable def yT:Fn:=⟨["size","stand","known","kept","places"],["size","stand","known"],false,(.cons (.asg 3 (.call "worth_of" 0 (.cons (.var 0) (.cons (.var 1) (.cons (.lit (.bool false)) (.cons (.var 2) .nil)))))) (.cons (.asg 4 (.call "free_places" 0 (.cons (.var 0) (.cons (.var 1) .nil)))) (.cons (.ret (.blt .tuple false (.cons (.comp false ["place","kept","size","known","stand"] [none,some 3,some 0,some 2,some 1] (.var 0) (.nm 0) (.val (.var 4)) (.cons (.val (.cmp .eq (.call "worth_of" 0 (.cons (.var 2) (.cons (.call "behind_taking" 0 (.cons (.var 4) (.cons (.var 0) .nil))) (.cons (.lit (.bool false)) (.cons (.var 3) .nil))))) (.var 1))) .nil)) .nil))) .nil)))⟩
noncomputable def uS:Fn:=⟨["size","stand","known","now","told","places"],["size","stand"],false,(.cons (.expr (.call "need_stand" 0 (.cons (.var 0) (.cons (.var 1) .nil)))) (.cons (.asg 2 (.dctN true)) (.cons (.asg 3 (.var 1)) (.cons (.asg 4 (.tup .nil)) (.cons (.asg 5 (.call "best_places" 0 (.cons (.var 0) (.cons (.var 3) (.cons (.var 2) .nil))))) (.cons (.whileS (.val (.var 5)) (.cons (.aug 4 .add (.tup (.cons (.ix (.var 5) (.lit (.int 0))) .nil))) (.cons (.asg 3 (.call "behind_taking" 0 (.cons (.var 3) (.cons (.ix (.var 5) (.lit (.int 0))) .nil)))) (.cons (.asg 5 (.call "best_places" 0 (.cons (.var 0) (.cons (.var 3) (.cons (.var 2) .nil))))) .nil)))) (.cons (.ret (.var 4)) .nil)))))))⟩
end F72
end
section
namespace M
open PySem
noncomputable def y6(z:Nat)(st:List Int)(p:Nat):Bool:=decide (Wd z false (zb st p)=Wd z false st)
noncomputable def yJ(z:Nat)(st:List Int):List Nat:=(zh z st).filter (y6 z st)
noncomputable def vW(z:Nat):Nat→List Int→List Nat
 |0,_=>[]
 |n+1,st=>match yJ z st with
  |[]=>[]
  |p::_=>p::vW z n (zb st p)
noncomputable def wg(z:Nat)(st:List Int):List Nat:=vW z (st.count 0+1) st
noncomputable def CC:Nat:=986409
theorem A8:A 8=109601:=by decide
theorem qf{z p:Nat}{st:List Int}(h:p∈zh z st):hasB z st (zY st)=false∧p∈za st:=by
 unfold zh at h
 cases hb:hasB z st (zY st) with
 |true=>rw[hb,if_pos rfl]at h;cases h
 |false=>rw[hb,if_neg Bool.false_ne_true]at h;exact⟨rfl,h⟩
theorem sU{z:Nat}{st:List Int}(h:Stn z st):(zh z st).length≤8:=by
 unfold zh
 split
 . exact Nat.zero_le _
 . rw[wz];exact count_le h
theorem vx{z p:Nat}{st:List Int}(h:p∈yJ z st):hasB z st (zY st)=false∧st[p]?=some 0:=by
 obtain⟨h1,h2⟩:=qf (List.mem_filter.mp h).1
 exact⟨h1,yg.mp h2⟩
theorem pP{z:Nat}{st:List Int}(h:yJ z st=[]):wg z st=[]:=by
 show (match yJ z st with|[]=>[]|p::_=>p::vW z (st.count 0) (zb st p))=[]
 rw[h]
theorem rh{z p:Nat}{ps:List Nat}{st:List Int}(hS:Stn z st)(h:yJ z st=p::ps):wg z st=p::wg z (zb st p):=by
 have hp:=vx (z:=z) (st:=st) (p:=p) (by rw[h];exact .head _)
 obtain⟨_,_,q,_⟩:=hS.put hp.1 hp.2
 show (match yJ z st with|[]=>[]|p::_=>p::vW z (st.count 0) (zb st p))=_
 rw[h]
 show p::vW z (st.count 0) (zb st p)=p::vW z ((zb st p).count 0+1) (zb st p)
 rw[q]
theorem we{S:Sto}{c c':Cel}:(S++[c]).set S.length c'=S++[c']:=by
 rw[List.set_append_right _ _ (Nat.le_refl _),Nat.sub_self];rfl
theorem wV{S:Sto}{c:Cel}:(S++[c])[S.length]?=some c:=by
 rw[List.getElem?_append_right (Nat.le_refl _),Nat.sub_self];rfl
theorem aC{hs:List Nat}{s:Sto}:zR .ne (zx hs) (.tup []) s=.ok (.bool !hs.isEmpty) s:=by
 rw[tP,mX];cases hs<;>rfl
section
variable {T:Tbl}{Φ:Calls}{s:Sto}
def qC(Φ:Calls):Prop:=∀(z:Nat) (st:List Int) (d:Nat) (kvs:List (List Int × Val)) (s:Sto),Stn z st→s[d]?=some (.dT kvs)→Kn z false kvs→kvs.length+CC≤zN→(Φ "best_places" 0 [.int z,tpI st,.dref d] s).post fun v s'=>v=zx (yJ z st)∧WT z false d (kvs.length+CC) s s'
theorem nP(cW:∀z,wm z false 8 Φ)(cFr:tX "free_places" Φ)(cB:y8 "behind_taking" Φ){z:Nat}{st:List Int}{d:Nat}{kvs:List (List Int × Val)}(hS:Stn z st)(hd:s[d]?=some (.dT kvs))(hk:Kn z false kvs)(hl:kvs.length+CC≤zN):(run T Φ F72.yT [.int z,tpI st,.dref d] s).post fun v s'=>v=zx (yJ z st)∧WT z false d (kvs.length+CC) s s':=by
 have hdl:=(List.getElem?_eq_some_iff.mp hd).1
 have h8:=hS.n8
 have hol:=sU hS
 have a8:=A8
 have hCC:CC=986409:=rfl
 rw[F72.yT,z0]
 refine⟨rfl,?_⟩
 show (zO Φ T.gl [some (.int z),some (tpI st),some (.dref d),none,none] _ s).post _
 refine xh (zr (zA (zB rfl) (zA (zB rfl) (zA zJ (zA (zB rfl) zD)))) (zE (cW z st d kvs s hS (count_le hS) hd hk (by omega)) ?_))
 rintro v s1 ⟨rfl,kvs1,rfl,hk1,hl1⟩
 refine yb (x_call (zA (zB rfl) (zA (zB rfl) zD)) (cFr z st _ hS)) ?_
 show (zO Φ T.gl [some (.int z),some (tpI st),some (.dref d),some (.int (Wd z false st)),some (zx (zh z st))] _ (s.set d (.dT kvs1))).post _
 refine zX.mpr (sV.mpr (iH.mpr (wa.mpr ?_)))
 refine ma (fun rest e s' acc=>(∃o,e=[o,some (.int (Wd z false st)),some (.int z),some (.dref d),some (tpI st)])∧∃done todo,done++todo=zh z st∧rest=todo.map (fun(p:Nat)=>Val.int p)∧acc=(done.filter (y6 z st)).map (fun(p:Nat)=>Val.int p)∧WT z false d (kvs.length+A 8+done.length*A 8) s s') ?_
 refine⟨⟨(zh z st).map fun(p:Nat)=>Val.int p,none⟩,_,wX (zB rfl) rfl,⟨⟨_,rfl⟩,[],zh z st,rfl,rfl,rfl,kvs1,rfl,hk1,by rw[List.length_nil,Nat.zero_mul];exact hl1⟩,fun _ _ _ _ _=>rfl,?_,?_⟩
 . rintro x rest e s' acc ⟨⟨o,rfl⟩,done,todo,hdt,hr,rfl,kvs2,rfl,hk2,hl2⟩
   cases todo with
   |nil=>cases hr
   |cons p todo=>
    rw[List.map_cons]at hr
    obtain⟨rfl,rfl⟩:=List.cons.inj hr
    obtain⟨hb,hp⟩:=qf (z:=z) (st:=st) (p:=p) (by rw[←hdt];exact List.mem_append_right _ (.head _))
    have hpl:=(List.getElem?_eq_some_iff.mp (yg.mp hp)).1
    obtain⟨q1,q2,q3,q4⟩:=hS.put hb (yg.mp hp)
    have hdl2:done.length+1≤8:=by
     have:=congrArg List.length hdt
     rw[List.length_append,List.length_cons]at this
     omega
    refine⟨_,rfl,?_⟩
    show (yo Φ T.gl [some (.int (p:Int)),some (.int (Wd z false st)),some (.int z),some (.dref d),some (tpI st)] _ _).post _
    refine pe.mpr (pf.mpr (mZ.mpr (zr (zA (zB rfl) (zA (x_call (zA (zB rfl) (zA (zB rfl) zD)) (cB st p _ hpl (by omega) hS.lo hS.hi)) (zA zJ (zA (zB rfl) zD)))) (zE (cW z (zb st p) d kvs2 _ q1 (count_le q1) (List.getElem?_set_self hdl) hk2 (by rw[a8]at hl2 ⊢;omega)) ?_))))
    rintro v s2 ⟨rfl,kvs3,rfl,hk3,hl3⟩
    rw[zB (v:=.int (Wd z false st)) rfl]
    refine zC.mpr ?_
    rw[eq_int]
    refine zC.mpr ⟨_,zW,?_⟩
    have nx:∀b,y6 z st p=b→(∃o,[some (Val.int (p:Int)),some (.int (Wd z false st)),some (.int z),some (.dref d),some (tpI st)]=[o,some (.int (Wd z false st)),some (.int z),some (.dref d),some (tpI st)])∧∃done' todo',done'++todo'=zh z st∧todo.map (fun(p:Nat)=>Val.int p)=todo'.map (fun(p:Nat)=>Val.int p)∧(done.filter (y6 z st)).map (fun(p:Nat)=>Val.int p)++(if b then [Val.int (p:Int)] else [])=(done'.filter (y6 z st)).map (fun(p:Nat)=>Val.int p)∧WT z false d (kvs.length+A 8+done'.length*A 8) s ((s.set d (.dT kvs2)).set d (.dT kvs3)):=fun b e=>by
     refine⟨⟨_,rfl⟩,done++[p],todo,by rw[List.append_assoc];exact hdt,rfl,?_,kvs3,by rw[List.set_set],hk3,?_⟩
     . rw[List.filter_append,List.map_append]
       congr 1
       rw[List.filter_cons,e]
       cases b<;>rfl
     . rw[List.length_append,List.length_singleton,Nat.succ_mul];omega
    show if decide (Wd z false (zb st p)=Wd z false st)=true then _ else _
    cases hg:decide (Wd z false (zb st p)=Wd z false st) with
    |true=>
     rw[if_pos rfl]
     refine xZ.mpr ?_
     rw[if_pos rfl,zB (v:=.int (p:Int)) rfl]
     exact zC.mpr (nx true hg)
    |false=>
     rw[if_neg Bool.false_ne_true]
     rw[if_neg Bool.false_ne_true]
     have:=nx false hg
     rw[if_neg Bool.false_ne_true,List.append_nil]at this
     exact this
 . rintro e s' acc ⟨⟨o,rfl⟩,done,todo,hdt,hr,rfl,kvs2,rfl,hk2,hl2⟩
   cases todo with
   |cons p todo=>cases hr
   |nil=>
    rw[List.append_nil]at hdt
    subst hdt
    refine zC.mpr (uy.mpr ?_)
    show (Out.ok (zx (yJ z st)) _).post _
    refine zC.mpr ?_
    show (zP false s _ _).post _
    rw[xn ub hk2.nr]
    refine zC.mpr ⟨rfl,kvs2,rfl,hk2,?_⟩
    have:(zh z st).length*A 8≤8*A 8:=Nat.mul_le_mul_right _ hol
    omega
def dJ(Φ:Calls):Prop:=∀(z:Nat) (st:List Int) (s:Sto),Stn z st→Φ "best" 0 [.int z,tpI st] s=.ok (zx (yJ z st)) s
theorem hX(cN:wQ Φ)(cB:qC Φ){z:Nat}{st:List Int}(h:Stn z st):run T Φ F72.uR [.int z,tpI st] s=.ok (zx (yJ z st)) s:=by
 rw[post_eq,F72.uR,z0]
 refine⟨rfl,?_⟩
 show (zO Φ T.gl [some (.int z),some (tpI st)] _ s).post _
 refine wd (x_call (zA (zB rfl) (zA (zB rfl) zD)) (cN z st s h)) (zX.mpr (sV.mpr (zr (zA (zB rfl) (zA (zB rfl) (zA rfl zD))) (zE (cB z st s.length [] (s++[.dT []]) h wV nofun (by show 0+CC≤zN;unfold CC zN;omega)) ?_))))
 rintro v s' ⟨rfl,kvs,rfl,_,_⟩
 show (zP false s _ _).post _
 rw[we,vj ub]
 exact zC.mpr ⟨rfl,rfl⟩
theorem ZA{G:Str→Option Val}{env:Env}{i:Nat}{e:Ex}{cs:Sms}{x y:List Val}{P:Fl→Sto→Prop}(hu:env[i]?=some (some (.tup x)))(h:evE Φ G env e s=.ok (.tup y) s)(hl:x.length+y.length≤zN)(q:(zO Φ G (env.set i (some (.tup (x++y)))) cs s).post P):(zO Φ G env (.cons (.aug i .add e) cs) s).post P:=by
 have:exS Φ G env (.aug i .add e) s=.ok (.nx (env.set i (some (.tup (x++y))))) s:=by
  rw[exS,hu]
  show (if Bop.add=.add then _ else _)=_
  rw[if_pos rfl,h,zK]
  show ((if x.length+y.length≤zN then Out.ok (Val.tup (x++y)) s else .stuck).bind _)=_
  rw[if_pos hl];rfl
 refine zX.mpr ?_
 rw[this]
 exact zC.mpr q
theorem cz{p:Nat}{ps:List Nat}:x9 (zx (p::ps)) (.int 0) s=.ok (.int (p:Int)) s:=oa (k:=0) rfl
def dN(Φ:Calls):Prop:=∀(z:Nat) (st:List Int) (s:Sto),Stn z st→Φ "line" 0 [.int z,tpI st] s=.ok (zx (wg z st)) s
theorem gD(cN:wQ Φ)(cP:qC Φ)(cB:y8 "behind_taking" Φ){z:Nat}{st:List Int}(h:Stn z st):run T Φ F72.uS [.int z,tpI st] s=.ok (zx (wg z st)) s:=by
 have hCC:CC=986409:=rfl
 have hLL:zN=16777216:=rfl
 rw[post_eq,F72.uS,z0]
 refine⟨rfl,?_⟩
 show (zO Φ T.gl [some (.int z),some (tpI st),none,none,none,none] _ s).post _
 refine wd (x_call (zA (zB rfl) (zA (zB rfl) zD)) (cN z st s h)) (yb (v:=.dref s.length) (s1:=s++[.dT []]) rfl (yb (zB rfl) (yb (x8 zD (Nat.zero_le _)) (xh (zr (zA (zB rfl) (zA (zB rfl) (zA (zB rfl) zD))) (zE (cP z st s.length [] (s++[.dT []]) h wV nofun (by show 0+CC≤zN;omega)) ?_))))))
 rintro v s' ⟨rfl,kvs0,rfl,hk0,hl0⟩
 rw[we]
 show (zO Φ T.gl [some (.int z),some (tpI st),some (.dref s.length),some (tpI st),some (zx []),some (zx (yJ z st))] _ (s++[.dT kvs0])).post _
 have hc8:=count_le h
 refine zX.mpr (me (st.count 0) (fun n e s'=>∃st' told kvs,Stn z st'∧st'.count 0=n∧n≤8∧told++wg z st'=wg z st∧told.length+n≤8∧e=[some (.int z),some (tpI st),some (.dref s.length),some (tpI st'),some (zx told),some (zx (yJ z st'))]∧s'=s++[.dT kvs]∧Kn z false kvs∧kvs.length≤(9-n)*CC) (by unfold rK;omega) ⟨st,[],kvs0,h,rfl,hc8,rfl,by rw[List.length_nil];omega,rfl,rfl,hk0,by rw[List.length_nil]at hl0;exact Nat.le_trans hl0 (Nat.le_trans (show 0+CC≤1*CC by omega) (Nat.mul_le_mul_right _ (by omega)))⟩ ?_)
 rintro n e s' ⟨st',told,kvs,hS,hn,hn8,hline,hlen,rfl,rfl,hk,hl⟩
 rw[yD (e:=.var 5) (zB rfl) gS]
 refine zC.mpr ?_
 have h8:=hS.n8
 cases hb:yJ z st' with
 |nil=>
  rw[pP hb,List.append_nil]at hline
  show (zO Φ T.gl _ _ _).post _
  refine ze (zB rfl) ?_
  show (zP false s _ _).post _
  rw[vj ub]
  exact zC.mpr ⟨by rw[hline],rfl⟩
 |cons p ps=>
  rw[if_pos (show (!((p::ps).map fun(k:Nat)=>Val.int k).isEmpty)=true from rfl)]
  have hp:=vx (z:=z) (st:=st') (p:=p) (by rw[hb];exact .head _)
  have hpl:=(List.getElem?_eq_some_iff.mp hp.2).1
  obtain⟨q1,q2,q3,q4⟩:=hS.put hp.1 hp.2
  rw[rh hS hb]at hline
  refine ZA (x:=told.map fun(k:Nat)=>Val.int k) (y:=[.int (p:Int)]) rfl (x8 (zA (xO (zB rfl) zJ cz) zD) (by show 1≤zN;omega)) (by rw[List.length_map];show _+1≤zN;omega) ?_
  show (zO Φ T.gl [some (.int z),some (tpI st),some (.dref s.length),some (tpI st'),some (.tup (told.map (fun(k:Nat)=>Val.int k)++[.int (p:Int)])),some (zx (p::ps))] _ (s++[.dT kvs])).post _
  refine yb (x_call (zA (zB rfl) (zA (xO (zB rfl) zJ cz) zD)) (cB st' p _ hpl (by omega) hS.lo hS.hi)) ?_
  have hmul:(9-n)*CC+CC=(9-n+1)*CC:=(Nat.succ_mul _ _).symm
  have hmul2:(9-n+1)*CC≤9*CC:=Nat.mul_le_mul_right _ (by omega)
  refine xh (zr (zA (zB rfl) (zA (zB rfl) (zA (zB rfl) zD))) (zE (cP z (zb st' p) s.length kvs (s++[.dT kvs]) q1 wV hk (by omega)) ?_))
  rintro v s2 ⟨rfl,kvs2,rfl,hk2,hl2⟩
  rw[we]
  refine xC ⟨n-1,by omega,zb st' p,told++[p],kvs2,q1,by omega,by omega,by rw[List.append_assoc];exact hline,by rw[List.length_append,List.length_singleton];omega,?_,rfl,hk2,?_⟩
  . show [some (.int z),some (tpI st),some (.dref s.length),some (tpI (zb st' p)),some (.tup (told.map (fun(k:Nat)=>Val.int k)++[.int (p:Int)])),some (zx (yJ z (zb st' p)))]=_
    rw[show zx (told++[p])=.tup (told.map (fun(k:Nat)=>Val.int k)++[.int (p:Int)]) by unfold zx;rw[List.map_append];rfl]
  . rw[show 9-(n-1)=9-n+1 by omega];omega
def kZ(Φ:Calls):Prop:=∀(z:Nat) (st:List Int) (d:Nat) (kvs:List (Str × Val)) (s:Sto),Stn z st→s[d]?=some (.dS kvs)→KnS z false kvs→kvs.length+CC≤zN→(Φ "_law_best" 0 [.int z,tpI st,.dref d] s).post fun v s'=>v=zx (yJ z st)∧WS z false d (kvs.length+CC) s s'
theorem kD(cW:∀z,tK z false 8 Φ)(cFr:tX "_law_free" Φ)(cB:y8 "_law_put" Φ){z:Nat}{st:List Int}{d:Nat}{kvs:List (Str × Val)}(hS:Stn z st)(hd:s[d]?=some (.dS kvs))(hk:KnS z false kvs)(hl:kvs.length+CC≤zN):(run T Φ F72.yy [.int z,tpI st,.dref d] s).post fun v s'=>v=zx (yJ z st)∧WS z false d (kvs.length+CC) s s':=by
 have hdl:=(List.getElem?_eq_some_iff.mp hd).1
 have h8:=hS.n8
 have hol:=sU hS
 have a8:=A8
 have hCC:CC=986409:=rfl
 have hLL:zN=16777216:=rfl
 rw[F72.yy,z0]
 refine⟨rfl,?_⟩
 show (zO Φ T.gl [some (.int z),some (tpI st),some (.dref d),none,none,none] _ s).post _
 refine xh (zr (zA (zB rfl) (zA (zB rfl) (zA zJ (zA (zB rfl) zD)))) (zE (cW z st d kvs s hS (count_le hS) hd hk (by omega)) ?_))
 rintro v s1 ⟨rfl,kvs1,rfl,hk1,hl1⟩
 refine yb (nz zD (Nat.zero_le _)) ?_
 rw[List.length_set]
 show (zO Φ T.gl [some (.int z),some (tpI st),some (.dref d),some (.int (Wd z false st)),some (.ref s.length),none] _ (s.set d (.dS kvs1)++[.lst []])).post _
 refine zX.mpr (vC (fun rest e s2=>(∃o,e=[some (.int z),some (tpI st),some (.dref d),some (.int (Wd z false st)),some (.ref s.length),o])∧∃done todo kvs2,done++todo=zh z st∧rest=todo.map (fun(p:Nat)=>Val.int p)∧s2=s.set d (.dS kvs2)++[.lst ((done.filter (y6 z st)).map fun(p:Nat)=>Val.int p)]∧KnS z false kvs2∧kvs2.length≤kvs.length+A 8+done.length*A 8) ((zh z st).map fun(p:Nat)=>Val.int p) (s1:=s.set d (.dS kvs1)++[.lst []]) (wX (x_call (zA (zB rfl) (zA (zB rfl) zD)) (cFr z st _ hS)) rfl) ⟨⟨_,rfl⟩,[],zh z st,kvs1,rfl,rfl,rfl,hk1,by rw[List.length_nil,Nat.zero_mul];exact hl1⟩ ?_ ?_)
 . rintro x rest e s2 ⟨⟨o,rfl⟩,done,todo,kvs2,hdt,hr,rfl,hk2,hl2⟩
   cases todo with
   |nil=>cases hr
   |cons p todo=>
    rw[List.map_cons]at hr
    obtain⟨rfl,rfl⟩:=List.cons.inj hr
    obtain⟨hb,hp⟩:=qf (z:=z) (st:=st) (p:=p) (by rw[←hdt];exact List.mem_append_right _ (.head _))
    have hpl:=(List.getElem?_eq_some_iff.mp (yg.mp hp)).1
    obtain⟨q1,q2,q3,q4⟩:=hS.put hb (yg.mp hp)
    have hdl2:done.length+1≤8:=by
     have:=congrArg List.length hdt
     rw[List.length_append,List.length_cons]at this
     omega
    have hdl3:d<(s.set d (.dS kvs2)).length:=by rw[List.length_set];exact hdl
    refine⟨_,rfl,?_⟩
    show (zO Φ T.gl [some (.int z),some (tpI st),some (.dref d),some (.int (Wd z false st)),some (.ref s.length),some (.int (p:Int))] _ _).post _
    refine zX.mpr (iJ.mpr (pf.mpr (mZ.mpr (zr (zA (zB rfl) (zA (x_call (zA (zB rfl) (zA (zB rfl) zD)) (cB st p _ hpl (by omega) hS.lo hS.hi)) (zA zJ (zA (zB rfl) zD)))) (zE (cW z (zb st p) d kvs2 _ q1 (count_le q1) (by rw[List.getElem?_append_left hdl3];exact List.getElem?_set_self hdl) hk2 (by rw[a8]at hl2 ⊢;omega)) ?_)))))
    rintro v s3 ⟨rfl,kvs3,rfl,hk3,hl3⟩
    rw[zB (v:=.int (Wd z false st)) rfl]
    refine zC.mpr ?_
    rw[eq_int]
    refine zC.mpr ⟨_,zW,?_⟩
    have eS:(s.set d (.dS kvs2)++[Cel.lst ((done.filter (y6 z st)).map fun(p:Nat)=>Val.int p)]).set d (.dS kvs3)=s.set d (.dS kvs3)++[Cel.lst ((done.filter (y6 z st)).map fun(p:Nat)=>Val.int p)]:=by
     rw[List.set_append_left _ _ hdl3,List.set_set]
    rw[eS]
    have hdf:(done.filter (y6 z st)).length≤8:=Nat.le_trans (List.length_filter_le _ _) (by omega)
    have nx:∀b,y6 z st p=b→(∃o,[some (Val.int z),some (tpI st),some (.dref d),some (.int (Wd z false st)),some (.ref s.length),some (.int (p:Int))]=[some (.int z),some (tpI st),some (.dref d),some (.int (Wd z false st)),some (.ref s.length),o])∧∃done' todo' kvs',done'++todo'=zh z st∧todo.map (fun(p:Nat)=>Val.int p)=todo'.map (fun(p:Nat)=>Val.int p)∧s.set d (.dS kvs3)++[Cel.lst ((done.filter (y6 z st)).map (fun(p:Nat)=>Val.int p)++(if b then [Val.int (p:Int)] else []))]=s.set d (.dS kvs')++[.lst ((done'.filter (y6 z st)).map fun(p:Nat)=>Val.int p)]∧KnS z false kvs'∧kvs'.length≤kvs.length+A 8+done'.length*A 8:=fun b e=>by
     refine⟨⟨_,rfl⟩,done++[p],todo,kvs3,by rw[List.append_assoc];exact hdt,rfl,?_,hk3,?_⟩
     . congr 3
       rw[List.filter_append,List.map_append]
       congr 1
       rw[List.filter_cons,e]
       cases b<;>rfl
     . rw[List.length_append,List.length_singleton,Nat.succ_mul];omega
    show if decide (Wd z false (zb st p)=Wd z false st)=true then _ else _
    cases hg:decide (Wd z false (zb st p)=Wd z false st) with
    |true=>
     rw[if_pos rfl]
     have hi:(s.set d (.dS kvs3)++[Cel.lst ((done.filter (y6 z st)).map fun(p:Nat)=>Val.int p)])[s.length]?=some (.lst ((done.filter (y6 z st)).map fun(p:Nat)=>Val.int p)):=by
      rw[List.getElem?_append_right (by rw[List.length_set];exact Nat.le_refl _),List.length_set,Nat.sub_self];rfl
     have hap:z7 .append (.ref s.length) [.int (p:Int)] (s.set d (.dS kvs3)++[Cel.lst ((done.filter (y6 z st)).map fun(p:Nat)=>Val.int p)])=.ok .none (s.set d (.dS kvs3)++[Cel.lst ((done.filter (y6 z st)).map (fun(p:Nat)=>Val.int p)++[Val.int (p:Int)])]):=by
      simp only[z7,hi]
      rw[if_pos (by rw[List.length_map];omega)]
      congr 1
      unfold upd
      rw[List.set_append_right _ _ (by rw[List.length_set];exact Nat.le_refl _),List.length_set,Nat.sub_self]
      rfl
     exact wd (x6 (zB rfl) (zA (zB rfl) zD) hap) (xC (xC (nx true hg)))
    |false=>
     rw[if_neg Bool.false_ne_true]
     have:=nx false hg
     rw[if_neg Bool.false_ne_true,List.append_nil]at this
     exact xC (xC this)
 . rintro e s2 ⟨⟨o,rfl⟩,done,todo,kvs2,hdt,hr,rfl,hk2,hl2⟩
   cases todo with
   |cons p todo=>cases hr
   |nil=>
    rw[List.append_nil]at hdt
    subst hdt
    have hi:(s.set d (.dS kvs2)++[Cel.lst (((zh z st).filter (y6 z st)).map fun(p:Nat)=>Val.int p)])[s.length]?=some (.lst (((zh z st).filter (y6 z st)).map fun(p:Nat)=>Val.int p)):=by
     rw[List.getElem?_append_right (by rw[List.length_set];exact Nat.le_refl _),List.length_set,Nat.sub_self];rfl
    have ht:blt .tuple false [.ref s.length] (s.set d (.dS kvs2)++[Cel.lst (((zh z st).filter (y6 z st)).map fun(p:Nat)=>Val.int p)])=.ok (zx (yJ z st)) (s.set d (.dS kvs2)++[Cel.lst (((zh z st).filter (y6 z st)).map fun(p:Nat)=>Val.int p)]):=by
     simp only[blt,yf,hi];rfl
    refine ze (yc (zA (zB rfl) zD) ht) ?_
    show (zP false s _ _).post _
    rw[vk ub hk2.nr]
    refine zC.mpr ⟨rfl,kvs2,rfl,hk2,?_⟩
    have:(zh z st).length*A 8≤8*A 8:=Nat.mul_le_mul_right _ hol
    omega
end
end M
end
section
namespace M
open PySem Hd
noncomputable def v7(h:Heap):KF:=(List.range h.objs.size).filterMap fun a=>(h.get? a).map fun o=>(a,o)
theorem tQ{g:Addr→Option Obj}{a:Addr}:∀{l:List Addr},a∈l→(l.filterMap fun b=>(g b).map fun o=>(b,o)).lookup a=g a
 |b::r,hm=>by
  rw[List.filterMap_cons]
  by_cases e:a=b
  . subst e
    cases hg:g a with
    |none=>
     show (r.filterMap _).lookup a=none
     by_cases m:a∈r
     . rw[tQ m,hg]
     . exact List.lookup_eq_none_iff.mpr fun p hp=>by
        obtain⟨c,hc,e⟩:=List.mem_filterMap.mp hp
        obtain⟨o,_,rfl⟩:=Option.map_eq_some_iff.mp e
        have z:a≠c:=fun z=>m (by rw[z];exact hc)
        simpa using z
    |some o=>show (List.lookup a ((a,o)::_))=_;rw[List.lookup_cons,beq_self_eq_true]
  . have m:a∈r:=(List.mem_cons.mp hm).resolve_left e
    cases hg:g b with
    |none=>exact tQ m
    |some o=>
     show (List.lookup a ((b,o)::_))=_
     rw[List.lookup_cons,beq_false_of_ne e]
     exact tQ m
theorem y9{h:Heap}{a:Addr}(o:Obj)(e:h.get? a=some o):(v7 h).lookup a=some o:=by
 rw[←e]
 exact tQ (List.mem_range.mpr (Heap.lt_size e))
theorem jR{h:Heap}:(v7 h).In h:=fun a o e=>by
 obtain⟨c,_,e⟩:=List.mem_filterMap.mp (sN e)
 obtain⟨o',e1,e2⟩:=Option.map_eq_some_iff.mp e
 cases e2
 exact e1
theorem sT{h:Heap}{x:Str}{v:Option Value}(e:nsH h x=some v):PySem.W.nsIn (v7 h) mainGlobals x=some v:=by
 unfold nsH at e
 split at e
 . rename_i o ho
   unfold PySem.W.nsIn at e ⊢
   rw[y9 o ho]
   exact e
 . cases e
theorem jB{h:Heap}{cd:Value}{x:Str}(e:jA h cd x=true):PySem.W.codeIn (v7 h) cd x=true:=by
 unfold jA at e
 split at e
 . split at e
   . rename_i c o ho
     unfold PySem.W.codeIn at e ⊢
     dsimp only at e ⊢
     rw[List.lookup_cons,beq_self_eq_true]at e
     rw[y9 o ho]
     exact e
   . cases e
 . cases e
theorem args_eq(st:Stmt):args st=L2.wU st∧body st=L2.xP st∧scope st=L2.zm st:=by cases st<;>exact⟨rfl,rfl,rfl⟩
theorem cj{h:Heap}{p:Str × Stmt}(e:fc h p.1=dH p):qp (v7 h) p.1 p.2:=by
 obtain⟨a1,a2,a3⟩:=args_eq p.2
 unfold dH at e
 rw[a1,a2,a3]at e
 unfold fc at e
 split at e
 . rename_i f hf
   split at e
   . rename_i oc od fd osl ho
     split at e
     . rename_i hc
       have e':=Option.some.inj e
       obtain⟨n,q,ps,b,sc,g,cl,df,kw,dc,pm,an,cd,ct,bl⟩:=fd
       injection e' with e1 e2 e3 e4 e5 e6 e7 e8 _ _ _ _ _ _ e9
       subst e1 e2 e3 e4 e5 e6 e7 e8 e9
       exact cg (sT hf) (y9 _ ho) (jB hc) (by unfold PySem.W.keepIn;dsimp only;rw[y9 _ ho])
     . cases e
   . cases e
 . cases e
noncomputable def gv:G→Val
 |.int i=>.int i
 |.str x=>.str x
 |.ctup ns=>.ctup ns
theorem Zp{h:Heap}{x:Str}{v:G}(e:glB h x v=true):m9 (v7 h) x (gv v):=by
 cases v with
 |int i=>
  unfold glB at e;dsimp only at e
  split at e
  . rename_i hn;have:=of_decide_eq_true e;subst this;exact int_mk (sT hn)
  . cases e
 |str y=>
  unfold glB at e;dsimp only at e
  split at e
  . rename_i hn;have:=of_decide_eq_true e;subst this;exact str_mk (sT hn)
  . cases e
 |ctup ns=>
  unfold glB at e;dsimp only at e
  split at e
  . rename_i hn
    split at e
    . rename_i n od us k sl ho
      obtain⟨e1,e3⟩:=Bool.and_eq_true_iff.mp e
      obtain⟨e1,e2⟩:=Bool.and_eq_true_iff.mp e1
      have:=of_decide_eq_true e1;subst this
      exact gs (us:=us.toList) (sT hn) (y9 _ ho) (of_decide_eq_true e2) (of_decide_eq_true e3)
    . cases e
  . cases e
theorem Zb{h:Heap}{x:Str}(e:blB h x=true):PySem.W.nsIn (v7 h) mainGlobals x=some none:=by
 unfold blB at e
 split at e
 . rename_i hn;exact sT hn
 . cases e
def cK(D:List (Str × Stmt))(glL:List (Str × Val))(K:KF)(h:Heap):Prop:=K.In h∧(∀p∈D,qp K p.1 p.2)∧(∀p∈glL,m9 K p.1 p.2)∧∀x∈wF,PySem.W.nsIn K mainGlobals x=some none
theorem mR{h:Heap}:∀{D:List (Str × Stmt)},(D.map fun p=>fc h p.1)=D.map dH→∀p∈D,qp (v7 h) p.1 p.2
 |p::D,e,q,hq=>by
  rw[List.map_cons,List.map_cons]at e
  obtain⟨e1,e2⟩:=List.cons.inj e
  rcases List.mem_cons.mp hq with rfl|hq
  . exact cj e1
  . exact mR e2 q hq
theorem ee{D:List (Str × Stmt)}{gl:List (Str × G)}{s:Shared}(e:aF D gl s=ZS D):∃K,cK D (gl.map fun p=>(p.1,gv p.2)) K s.heap:=by
 obtain⟨e1,e2⟩:=Prod.mk.inj e
 obtain⟨e2,e3⟩:=Bool.and_eq_true_iff.mp e2
 exact⟨v7 s.heap,jR,mR e1,fun p hp=>(by obtain⟨p',h1,rfl⟩:=List.mem_map.mp hp;exact Zp (List.all_eq_true.mp e2 p' h1)),fun x hx=>Zb (List.all_eq_true.mp e3 x hx)⟩
theorem close{l:PySem.W.OpenLaw}{q:Program}{d:DefRec}{fnL:List ((Str × Nat) × Fn)}{glL:List (Str × Val)}{gl:List (Str × G)}{D:List (Str × Stmt)}{F:Fn}{n N:Nat}{x:Str}
 (ZC:l.wellSaid=true) (left:PySem.W.LeftO l.row.prog q [] (fun s=>PySem.W.recOk l.row.records s) (aF D gl) (fun _=>ZS D) N) (hgl:glL=gl.map fun p=>(p.1,gv p.2))
 (cy:PySem.W.defOf q l.row.name=some (d,[])) (hp:l.row.prog.theDef l.row.name=some (d.params,d.body,d.scope)) (hk:PySem.W.kwWritten? d.params.kwonlyargs d.params.kw_defaults=some [])
 (hwr:(!l.row.writes||l.row.records.isEmpty)=true) (ok:(PySem.W.chainsOk q&&PySem.W.opensWell l.row.prog&&(PySem.W.frees l.row.toRowW&&l.row.within.isEmpty))=true) (hb:l.row.prog.bare) (hw:l.row.toRowW.promised)
 (hn:l.most=some 63) (hdf:d.params.defaults=[]) (hr:L2.yv n callerA) (hF:(tbl fnL glL).fn d.name 0=some F) (hx:F.ps=[x]) (hc:my fnL D=true)
 (HL:∀ns:List Int,ns.length≤63→∃s',zF (tbl fnL glL) n d.name 0 [.scr ns] []=.ok (.bool true) s'):l.Holds:=by
 refine PySem.W.holds_law ZC fun said'=>PySem.W.holds_open (q:=q) (loose:=[]) (Xt:=fun s=>PySem.W.recOk l.row.records s) (XP:=fun _ _=>True) (YP:=fun _ h=>∃K,cK D glL K h) left (fun w s e=>hgl▸ee e)
  (fun w h h' ⟨K,a,b⟩ k=>⟨K,a.keeps k,b⟩) (fun _ _=>trivial) (fun _ _ _ _ _=>trivial) cy hp hk (fun s e=>PySem.W.recFacts_of e) hwr said' ok hb hw ?_
 intro w s₀ s₁ mg mb G ⟨K,Y⟩
 exact walk (l:=l) (q:=q) (loose:=[]) (XP:=fun _ _=>True) (YP:=fun _ h=>cK D glL K h) (d:=d) (K:=fun _=>K) (T:=tbl fnL glL) hn hdf hr (fun _ _ y=>y.1) hF hx (fun w mg h X g=>ZN X g Y.2.1 Y.2.2.1 Y.2.2.2 hc) HL w s₀ s₁ mg mb G Y
end M
end
section
namespace P72
open PySem M
noncomputable def yy:Fn:=F72.yy
noncomputable def z5:Fn:=F.z5
noncomputable def yd:Fn:=F75.yd
noncomputable def yz:Fn:=F75.yz
noncomputable def y0:Fn:=F75.y0
noncomputable def xD:Fn:=F75.xD
noncomputable def yM:Fn:=F75.yM
noncomputable def yS:Fn:=F75.yS
noncomputable def yt:Fn:=F75.yt
noncomputable def zw:Fn:=F75.zw
noncomputable def y1:Fn:=F75.y1
noncomputable def yN:Fn:=F75.yN
noncomputable def yh:Fn:=F.yh
noncomputable def z9:Fn:=F75.z9
noncomputable def uR:Fn:=F72.uR
noncomputable def yT:Fn:=F72.yT
noncomputable def yE:Fn:=F75.yE
noncomputable def yU:Fn:=F75.yU
noncomputable def xE:Fn:=F75.xE
noncomputable def xc:Fn:=F75.xc
noncomputable def yi:Fn:=F75.yi
noncomputable def y2:Fn:=F75.y2
noncomputable def yj:Fn:=F.yj
noncomputable def xF:Fn:=F75.xF
noncomputable def xG:Fn:=F.xG
noncomputable def rJ:Fn:=⟨["_law_script","_law_k","_law_pen_here","_law_size","_law_many","_law_stand","_law_known","_law_here","_law_row","_law_later","_law_some","_law_turn"],["_law_script"],false,(.cons (.forS (.nm 1) (.range1 (.blt .max false (.cons (.lit (.int 1)) (.cons (.blt .min false (.cons (.blt .len false (.cons (.var 0) .nil)) (.cons (.lit (.int 3)) .nil))) .nil)))) (.cons (.asg 2 (.call "_law_pen" 1 (.cons (.call "_law_cell_at" 0 (.cons (.var 0) (.cons (.var 1) .nil))) .nil))) (.cons (.asg 3 (.ix (.lst false (.cons (.lit (.int 2)) (.cons (.lit (.int 3)) (.cons (.lit (.int 3)) (.cons (.lit (.int 4)) (.cons (.bin false .add (.lit (.int 2)) (.call "_law_draw" 0 (.cons (.var 2) (.cons (.lit (.int 7)) .nil)))) .nil)))))) (.call "_law_draw" 0 (.cons (.var 2) (.cons (.lit (.int 5)) .nil))))) (.cons (.asg 4 (.ix (.lst false (.cons (.lit (.int 8)) (.cons (.lit (.int 7)) (.cons (.lit (.int 6)) (.cons (.lit (.int 5)) (.cons (.bin false .add (.lit (.int 1)) (.call "_law_draw" 0 (.cons (.var 2) (.cons (.lit (.int 6)) .nil)))) .nil)))))) (.call "_law_draw" 0 (.cons (.var 2) (.cons (.lit (.int 5)) .nil))))) (.cons (.asg 5 (.call "_law_played" 0 (.cons (.var 2) (.cons (.var 3) (.cons (.var 4) (.cons (.bin false .add (.ix (.lst false (.cons (.lit (.int 0)) (.cons (.lit (.int 0)) (.cons (.lit (.int 0)) (.cons (.lit (.int 0)) (.cons (.lit (.int 0)) (.cons (.lit (.int 0)) (.cons (.lit (.int 0)) (.cons (.lit (.int 2)) (.cons (.lit (.int 4)) .nil)))))))))) (.var 4)) (.call "_law_draw" 0 (.cons (.var 2) (.cons (.lit (.int 5)) .nil)))) .nil)))))) (.cons (.asg 6 (.dctN false)) (.cons (.asg 7 (.call "_law_worth" 0 (.cons (.var 3) (.cons (.var 5) (.cons (.lit (.int 0)) (.cons (.var 6) .nil)))))) (.cons (.par [8,9] (.cons (.tup .nil) (.cons (.var 5) .nil))) (.cons (.asg 10 (.call "_law_best" 0 (.cons (.var 3) (.cons (.var 5) (.cons (.var 6) .nil))))) (.cons (.whileS (.val (.cmp .ne (.var 10) (.tup .nil))) (.cons (.asg 8 (.bin false .add (.var 8) (.sl false (.var 10) .no (.yes (.lit (.int 1))) .no))) (.cons (.asg 9 (.call "_law_put" 0 (.cons (.var 9) (.cons (.ix (.var 10) (.lit (.int 0))) .nil)))) (.cons (.asg 10 (.call "_law_best" 0 (.cons (.var 3) (.cons (.var 9) (.cons (.var 6) .nil))))) .nil)))) (.cons (.forS (.nm 11) (.range1 (.lit (.int 2))) (.cons (.ifS (.val (.cmp .ne (.blt .repr false (.cons (.call "worth" 0 (.cons (.var 3) (.cons (.var 5) .nil))) .nil)) (.blt .repr false (.cons (.var 7) .nil)))) (.cons (.ret (.lit (.bool false))) .nil) .nil) (.cons (.ifS (.or (.val (.cmp .ne (.blt .repr false (.cons (.call "best" 0 (.cons (.var 3) (.cons (.var 5) .nil))) .nil)) (.blt .repr false (.cons (.call "_law_best" 0 (.cons (.var 3) (.cons (.var 5) (.cons (.var 6) .nil)))) .nil)))) (.cons (.val (.cmp .ne (.blt .repr false (.cons (.call "line" 0 (.cons (.var 3) (.cons (.var 5) .nil))) .nil)) (.blt .repr false (.cons (.var 8) .nil)))) .nil)) (.cons (.ret (.lit (.bool false))) .nil) .nil) .nil))) .nil))))))))))) (.cons (.ret (.andE (.cmp .eq (.call "worth" 0 (.cons (.lit (.int 3)) (.cons (.tup (.cons (.lit (.int 0)) (.cons (.lit (.int 0)) (.cons (.lit (.int 0)) .nil)))) .nil))) (.lit (.int 0))) (.cons (.cmp .eq (.call "worth" 0 (.cons (.lit (.int 2)) (.cons (.tup (.cons (.lit (.int 0)) (.cons (.lit (.int 0)) (.cons (.lit (.int 0)) .nil)))) .nil))) (.lit (.int 1))) .nil))) .nil))⟩
noncomputable def uS:Fn:=F72.uS
noncomputable def y3:Fn:=F.y3
noncomputable def yV:Fn:=F.yV
noncomputable def y4:Fn:=F.y4
noncomputable def yk:Fn:=F75.yk
noncomputable def yl:Fn:=F.yl
noncomputable def ym:Fn:=F75.ym
noncomputable def xf:Fn:=F75.xf
noncomputable def wD:Fn:=F75.wD
noncomputable def yI:Fn:=F75.yI
noncomputable def vK:Fn:=F75.vK
noncomputable def yu:Fn:=F75.yu
noncomputable def fnL:List ((Str × Nat) × Fn):=((("_law_best":Str),(0:Nat)),yy)::((("_law_cell_at":Str),(0:Nat)),z5)::((("_law_draw":Str),(0:Nat)),yd)::((("_law_free":Str),(0:Nat)),yz)::((("_law_hand":Str),(0:Nat)),y0)::((("_law_has":Str),(0:Nat)),xD)::((("_law_pen":Str),(1:Nat)),yM)::((("_law_played":Str),(0:Nat)),yS)::((("_law_put":Str),(0:Nat)),yt)::((("_law_reckoned":Str),(0:Nat)),zw)::((("_law_text":Str),(0:Nat)),y1)::((("_law_worth":Str),(0:Nat)),yN)::((("are_wholes":Str),(0:Nat)),yh)::((("behind_taking":Str),(0:Nat)),z9)::((("best":Str),(0:Nat)),uR)::((("best_places":Str),(0:Nat)),yT)::((("found_worth":Str),(0:Nat)),yE)::((("free_places":Str),(0:Nat)),yU)::((("hand_due":Str),(0:Nat)),xE)::((("has_row":Str),(0:Nat)),xc)::((("is_in_turn":Str),(0:Nat)),yi)::((("is_marked":Str),(0:Nat)),y2)::((("is_one_hue":Str),(0:Nat)),yj)::((("is_stand":Str),(0:Nat)),xF)::((("is_whole":Str),(0:Nat)),xG)::((("law":Str),(0:Nat)),rJ)::((("line":Str),(0:Nat)),uS)::((("most_step":Str),(0:Nat)),y3)::((("need_length":Str),(0:Nat)),yV)::((("need_size":Str),(0:Nat)),y4)::((("need_stand":Str),(0:Nat)),yk)::((("need_whole":Str),(0:Nat)),yl)::((("other_hand":Str),(0:Nat)),ym)::((("rows_in":Str),(0:Nat)),xf)::((("winner":Str),(0:Nat)),wD)::((("wished_worth":Str),(0:Nat)),yI)::((("worth":Str),(0:Nat)),vK)::((("worth_of":Str),(0:Nat)),yu)::[]
noncomputable def glL:List (Str × Val):=[("MOST_PLACES",.int 40),("LEAST_SIZE",.int 2),("MOST_SIZE",.int 8),("FREE",.int 0),("HANDS",.ctup [1,2]),("MOST_STAND_PLACES",.int 8),("NEITHER",.int 0)]
noncomputable def T:Tbl:=tbl fnL glL
set_option maxHeartbeats 0 in
theorem ZM:my fnL D=true:=by decide +kernel
end P72
end
section
namespace P72
open PySem M
structure Cs(Φ:Calls):Prop where
 cell:dM Φ
 pen:dP Φ
 draw:qD Φ
 played:n9 Φ
 lworth:∀z c,tK z c 8 Φ
 lbest:kZ Φ
 lput:y8 "_law_put" Φ
 worth:mE "worth" false Φ
 best:dJ Φ
 line:dN Φ
theorem gk(z:Nat)(c:Bool)(n:Nat)(st:List Int):0≤W z c n st∧W z c n st≤2:=by
 cases n with
 |zero=>show (0:Int)≤0∧(0:Int)≤2;omega
 |succ n=>
  show 0≤(if hasB z st (zY st) then _ else _)∧(if hasB z st (zY st) then _ else _)≤_
  have h12:=v9 st
  split
  . cases c
    . show 0≤((zY st:Nat):Int)∧((zY st:Nat):Int)≤2
      omega
    . show 0≤3-((zY st:Nat):Int)∧3-((zY st:Nat):Int)≤2
      omega
  . split
    . exact⟨by decide,by decide⟩
    . unfold xa
      split
      . omega
      . split
        . exact⟨by decide,by decide⟩
        . omega
theorem sL(z:Nat):∀(n:Nat) (st:List Int),(vW z n st).length≤n∧∀p∈vW z n st,p<st.length
 |0,_=>⟨Nat.le_refl _,nofun⟩
 |n+1,st=>by
  show (match yJ z st with|[]=>[]|p::_=>p::vW z n (zb st p)).length≤n+1∧∀p∈(match yJ z st with|[]=>[]|p::_=>p::vW z n (zb st p)),p<st.length
  cases hb:yJ z st with
  |nil=>exact⟨Nat.zero_le _,nofun⟩
  |cons p ps=>
   have hp:=(List.getElem?_eq_some_iff.mp (vx (z:=z) (st:=st) (p:=p) (by rw[hb];exact .head _)).2).1
   obtain⟨h1,h2⟩:=sL z n (zb st p)
   refine⟨by rw[List.length_cons];omega,fun q hq=>?_⟩
   rcases List.mem_cons.mp hq with rfl|hq
   . exact hp
   . have:=h2 q hq
     unfold zb at this
     rw[iw hp]at this
     exact this
theorem oR{z:Nat}{st:List Int}(h:Stn z st):(yJ z st).length≤8∧∀p∈yJ z st,p<st.length:=
 ⟨Nat.le_trans (List.length_filter_le _ _) (sU h),fun p hp=>(List.getElem?_eq_some_iff.mp (vx hp).2).1⟩
section
variable {Φ:Calls}{s:Sto}
theorem oA{hs:List Nat}(h1:hs.length≤1000)(h2:∀p∈hs,p≤1000):∃x,∀s,blt .repr false [zx hs] s=.ok (.str x) s:=⟨_,fun s=>by
 rw[tP]
 exact eW (by rw[List.length_map];exact h1) (fun k hk=>by
  obtain⟨p,hp,rfl⟩:=List.mem_map.mp hk
  have:=h2 p hp
  omega)⟩
theorem i8{i:Int}(h1:0≤i)(h2:i≤2):∃x,∀s,blt .repr false [.int i] s=.ok (.str x) s:=by
 have:i=0∨i=1∨i=2:=by omega
 rcases this with rfl|rfl|rfl
 . exact⟨_,fun _=>rfl⟩
 . exact⟨_,fun _=>rfl⟩
 . exact⟨_,fun _=>rfl⟩
theorem iN(cR:qD Φ){G:Str→Option Val}{env:M.Env}{p:Nat}{a b c d k m:Int}(hv:env[2]?=some (some (.ref p)))(hP:tY s p)(h0:0<m)(h1:m<1000000):(evE Φ G env (.ix (.lst false (.cons (.lit (.int a)) (.cons (.lit (.int b)) (.cons (.lit (.int c)) (.cons (.lit (.int d)) (.cons (.bin false .add (.lit (.int k)) (.call "_law_draw" 0 (.cons (.var 2) (.cons (.lit (.int m)) .nil)))) .nil)))))) (.call "_law_draw" 0 (.cons (.var 2) (.cons (.lit (.int 5)) .nil)))) s).post fun v s'=>wq s p s'∧∃i,v=.int i∧(i=a∨i=b∨i=c∨i=d∨(k≤i∧i<k+m)):=by
 refine aU.mpr (di.mpr (xY zJ (xY zJ (xY zJ (xY zJ (wa.mpr (iG.mpr ?_)))))))
 rw[zJ]
 refine zC.mpr (zr (zA (zB hv) (zA zJ zD)) (zE (cR p m s hP h0 h1) ?_))
 rintro v s1 ⟨r,rfl,hr,t1⟩
 rw[u9]
 refine zC.mpr (uy.mpr ?_)
 rw[if_pos (show [Val.int a,Val.int b,Val.int c,Val.int d,Val.int (k+↑r)].length≤zN by show 5≤zN;unfold zN;omega)]
 refine zC.mpr (zr (zA (zB hv) (zA zJ zD)) (zE (cR p 5 s1 (t1.at_ hP.lt) (by omega) (by omega)) ?_))
 rintro v s2 ⟨q,rfl,hq,t2⟩
 have hq:q=0∨q=1∨q=2∨q=3∨q=4:=by omega
 rcases hq with rfl|rfl|rfl|rfl|rfl
 . exact zC.mpr ⟨t1.trans t2,a,rfl,.inl rfl⟩
 . exact zC.mpr ⟨t1.trans t2,b,rfl,.inr (.inl rfl)⟩
 . exact zC.mpr ⟨t1.trans t2,c,rfl,.inr (.inr (.inl rfl))⟩
 . exact zC.mpr ⟨t1.trans t2,d,rfl,.inr (.inr (.inr (.inl rfl)))⟩
 . exact zC.mpr ⟨t1.trans t2,k+r,rfl,.inr (.inr (.inr (.inr (by omega))))⟩
theorem j5(c:Cs Φ)(ns:List Int):(run T Φ rJ [.scr ns] []).post fun v _=>v=.bool true:=by
 have L1:∀n,n<100→n≤zN:=fun n h=>by unfold zN;omega
 rw[rJ,z0]
 refine⟨rfl,?_⟩
 refine zX.mpr (vC (fun rest e s'=>(∃o1 o2 o3 o4 o5 o6 o7 o8 o9 o10 o11,e=[some (.scr ns),o1,o2,o3,o4,o5,o6,o7,o8,o9,o10,o11])∧∀x∈rest,∃k:Nat,x=.int k) (yp 0 (max 1 (min ns.length 3))) (s1:=[]) (jN (K:=3) rfl (by omega)) ⟨⟨_,_,_,_,_,_,_,_,_,_,_,rfl⟩,?_⟩ ?_ ?_)
 . intro x hx
   obtain⟨k,_,rfl⟩:=tR hx
   exact⟨k,by congr 1;omega⟩
 . rintro x rest e s' ⟨⟨o1,o2,o3,o4,o5,o6,o7,o8,o9,o10,o11,rfl⟩,hr⟩
   obtain⟨k,rfl⟩:=hr x (.head _)
   have hr':∀x∈rest,∃k:Nat,x=.int k:=fun x hx=>hr x (.tail _ hx)
   refine⟨_,rfl,?_⟩
   obtain⟨cv,hcell⟩:=c.cell ns k s'
   obtain⟨a,b,e0,d0,hpen,hb⟩:=c.pen cv s'
   refine yb (x_call (zA (x_call (zA (zB rfl) (zA (zB rfl) zD)) hcell) zD) hpen) ?_
   have hP:tY (s'++[rA a b e0 d0]) s'.length:=⟨a,b,e0,d0,by simp,hb⟩
   generalize s'++[rA a b e0 d0]=s0 at hP ⊢
   generalize s'.length=p at hP ⊢
   show (zO Φ T.gl [some (.scr ns),some (.int k),some (.ref p),o3,o4,o5,o6,o7,o8,o9,o10,o11] _ s0).post _
   refine xh (zE (iN c.draw (p:=p) rfl hP (by omega) (by omega)) ?_)
   rintro v s1 ⟨t1,zi,rfl,hz⟩
   obtain⟨z,rfl,hz2,hz8⟩:∃z:Nat,zi=z∧2≤z∧z≤8:=⟨zi.toNat,by omega,by omega,by omega⟩
   have hP1:=t1.at_ hP.lt
   refine xh (zE (iN c.draw (p:=p) rfl hP1 (by omega) (by omega)) ?_)
   rintro v s2 ⟨t2,mi,rfl,hm⟩
   obtain⟨m,rfl,hm1,hm8⟩:∃m:Nat,mi=m∧1≤m∧m≤8:=⟨mi.toNat,by omega,by omega,by omega⟩
   have hP2:=t2.at_ hP1.lt
   show (zO Φ T.gl [some (.scr ns),some (.int k),some (.ref p),some (.int z),some (.int m),o5,o6,o7,o8,o9,o10,o11] _ s2).post _
   have hix:∃j:Nat,x9 (.lst [.int 0,.int 0,.int 0,.int 0,.int 0,.int 0,.int 0,.int 2,.int 4]) (.int m) s2=.ok (.int j) s2∧j≤4:=by
    have:m=1∨m=2∨m=3∨m=4∨m=5∨m=6∨m=7∨m=8:=by omega
    rcases this with rfl|rfl|rfl|rfl|rfl|rfl|rfl|rfl
    . exact⟨0,rfl,by omega⟩
    . exact⟨0,rfl,by omega⟩
    . exact⟨0,rfl,by omega⟩
    . exact⟨0,rfl,by omega⟩
    . exact⟨0,rfl,by omega⟩
    . exact⟨0,rfl,by omega⟩
    . exact⟨2,rfl,by omega⟩
    . exact⟨4,rfl,by omega⟩
   obtain⟨j,hj,hj4⟩:=hix
   refine xh (qg.mpr (xY (zB rfl) (xY (zB rfl) (xY (zB rfl) (wa.mpr (iG.mpr ?_))))))
   rw[xO (m7 (zA zJ (zA zJ (zA zJ (zA zJ (zA zJ (zA zJ (zA zJ (zA zJ (zA zJ zD))))))))) (L1 9 (by omega))) (zB rfl) hj]
   refine zC.mpr (zr (zA (zB rfl) (zA zJ zD)) (zE (c.draw p 5 s2 hP2 (by omega) (by omega)) ?_))
   rintro v s3 ⟨r,rfl,hr5,t3⟩
   have hP3:=t3.at_ hP2.lt
   rw[u9]
   refine zC.mpr (uy.mpr ?_)
   rw[show ((j:Nat):Int)+(r:Nat)=((j+r:Nat):Int) by omega]
   refine zE (c.played p z m (j+r) s3 hP3 hz2 hz8 hm1 hm8 (by omega)) ?_
   rintro v s4 ⟨st,rfl,hS,hlen,t4⟩
   clear t4 hP3 t3 hP2 t2 hP1 t1 hP hj hj4 hpen hcell
   have a8:=A8
   have hCC:CC=986409:=rfl
   have hLL:zN=16777216:=rfl
   have h8:=hS.n8
   have hc8:=count_le hS
   show (zO Φ T.gl [some (.scr ns),some (.int k),some (.ref p),some (.int z),some (.int m),some (tpI st),o6,o7,o8,o9,o10,o11] _ s4).post _
   refine yb (v:=.dref s4.length) (s1:=s4++[.dS []]) rfl (xh (zr (zA (zB rfl) (zA (zB rfl) (zA zJ (zA (zB rfl) zD)))) (zE (c.lworth z false st s4.length [] (s4++[.dS []]) hS hc8 wV nofun (by show 0+A 8≤zN;omega)) ?_)))
   rintro v s5 ⟨rfl,kvs1,rfl,hk1,hl1⟩
   rw[we]
   rw[List.length_nil]at hl1
   show (zO Φ T.gl [some (.scr ns),some (.int k),some (.ref p),some (.int z),some (.int m),some (tpI st),some (.dref s4.length),some (.int (Wd z false st)),o8,o9,o10,o11] _ (s4++[.dS kvs1])).post _
   refine zX.mpr (dj.mpr ?_)
   rw[zA (x8 zD (Nat.zero_le _)) (zA (zB rfl) zD)]
   refine zC.mpr (f7 rfl ?_)
   show (zO Φ T.gl [some (.scr ns),some (.int k),some (.ref p),some (.int z),some (.int m),some (tpI st),some (.dref s4.length),some (.int (Wd z false st)),some (zx []),some (tpI st),o10,o11] _ (s4++[.dS kvs1])).post _
   refine xh (zr (zA (zB rfl) (zA (zB rfl) (zA (zB rfl) zD))) (zE (c.lbest z st s4.length kvs1 (s4++[.dS kvs1]) hS wV hk1 (by omega)) ?_))
   rintro v s6 ⟨rfl,kvs2,rfl,hk2,hl2⟩
   rw[we]
   refine zX.mpr (me (st.count 0) (fun n e s'=>∃st' told kvs,Stn z st'∧st'.count 0=n∧n≤8∧told++wg z st'=wg z st∧told.length+n≤8∧e=[some (.scr ns),some (.int k),some (.ref p),some (.int z),some (.int m),some (tpI st),some (.dref s4.length),some (.int (Wd z false st)),some (zx told),some (tpI st'),some (zx (yJ z st')),o11]∧s'=s4++[.dS kvs]∧KnS z false kvs∧kvs.length≤(10-n)*CC) (by unfold rK;omega) ⟨st,[],kvs2,hS,rfl,hc8,rfl,by rw[List.length_nil];omega,rfl,rfl,hk2,Nat.le_trans (show kvs2.length≤2*CC by omega) (Nat.mul_le_mul_right _ (by omega))⟩ ?_)
   rintro n e s' ⟨st',told,kvs,hS',hn,hn8,hline,hlen',rfl,rfl,hk,hl⟩
   rw[yD (yL (zB rfl) (x8 zD (Nat.zero_le _)) aC) zW]
   refine zC.mpr ?_
   have h8':=hS'.n8
   cases hb:yJ z st' with
   |nil=>
    rw[pP hb,List.append_nil]at hline
    subst hline
    rw[if_neg (show ¬(!([]:List Nat).isEmpty)=true from Bool.false_ne_true)]
    show (zO Φ T.gl _ _ _).post _
    have lsm:=sL z (st.count 0+1) st
    obtain⟨xl,hxl⟩:=oA (hs:=wg z st) (Nat.le_trans lsm.1 (by omega)) (fun p hp=>by have:=lsm.2 p hp;omega)
    have bsm:=oR hS
    obtain⟨xb,hxb⟩:=oA (hs:=yJ z st) (by omega) (fun p hp=>by have:=bsm.2 p hp;omega)
    have wsm:=gk z false (st.count 0+1) st
    obtain⟨xw,hxw⟩:=i8 (i:=Wd z false st) wsm.1 wsm.2
    have q6:∀(x:Str) (s:Sto),zR .ne (.str x) (.str x) s=.ok (.bool false) s:=fun x s=>by rw[ne_str,decide_eq_true rfl];rfl
    have hmul0:(10-n)*CC≤10*CC:=Nat.mul_le_mul_right _ (by omega)
    refine zX.mpr (vC (fun rest2 e s'=>(∃o11,e=[some (.scr ns),some (.int k),some (.ref p),some (.int z),some (.int m),some (tpI st),some (.dref s4.length),some (.int (Wd z false st)),some (zx (wg z st)),some (tpI st'),some (zx []),o11])∧∃kvs',s'=s4++[.dS kvs']∧KnS z false kvs'∧rest2.length≤2∧kvs'.length≤(12-rest2.length)*CC) (yp 0 2) (s1:=s4++[.dS kvs]) rfl ⟨⟨_,rfl⟩,kvs,rfl,hk,Nat.le_refl _,by show kvs.length≤10*CC;omega⟩ ?_ ?_)
    . rintro y rest2 e s7 ⟨⟨o11,rfl⟩,kvs3,rfl,hk3,hr2,hl3⟩
      refine⟨_,rfl,?_⟩
      show (zO Φ T.gl [some (.scr ns),some (.int k),some (.ref p),some (.int z),some (.int m),some (tpI st),some (.dref s4.length),some (.int (Wd z false st)),some (zx (wg z st)),some (tpI st'),some (zx []),some y] _ (s4++[.dS kvs3])).post _
      refine wL (yD (yL (yc (zA (x_call (zA (zB rfl) (zA (zB rfl) zD)) (c.worth z st _ hS)) zD) (hxw _)) (yc (zA (zB rfl) zD) (hxw _)) (q6 _ _)) zW) ?_
      rw[List.length_cons]at hr2 hl3
      have hmul:(12-(rest2.length+1))*CC+CC=(12-(rest2.length+1)+1)*CC:=(Nat.succ_mul _ _).symm
      have hmul2:(12-(rest2.length+1)+1)*CC≤12*CC:=Nat.mul_le_mul_right _ (by omega)
      refine zX.mpr (iJ.mpr (dk.mpr (pf.mpr (mZ.mpr ?_))))
      rw[yc (zA (x_call (zA (zB rfl) (zA (zB rfl) zD)) (c.best z st _ hS)) zD) (hxb _)]
      refine zC.mpr (iH.mpr (wa.mpr (zr (zA (zB rfl) (zA (zB rfl) (zA (zB rfl) zD))) (zE (c.lbest z st s4.length kvs3 (s4++[.dS kvs3]) hS wV hk3 (by omega)) ?_))))
      rintro v s8 ⟨rfl,kvs4,rfl,hk4,hl4⟩
      rw[we]
      refine uy.mpr ?_
      rw[hxb]
      refine zC.mpr ?_
      rw[q6]
      refine zC.mpr ⟨_,zW,?_⟩
      rw[if_neg Bool.false_ne_true,qo (yD (yL (yc (zA (x_call (zA (zB rfl) (zA (zB rfl) zD)) (c.line z st _ hS)) zD) (hxl _)) (yc (zA (zB rfl) zD) (hxl _)) (q6 _ _)) zW) ng]
      refine zC.mpr ?_
      rw[if_neg Bool.false_ne_true]
      exact xC (xC ⟨⟨_,rfl⟩,kvs4,rfl,hk4,by omega,by rw[show 12-rest2.length=12-(rest2.length+1)+1 by omega];omega⟩)
    . rintro e s7 ⟨⟨o11,rfl⟩,_⟩
      exact xC ⟨⟨_,_,_,_,_,_,_,_,_,_,_,rfl⟩,hr'⟩
   |cons q qs=>
    rw[if_pos (show (!(q::qs).isEmpty)=true from rfl)]
    have hp:=vx (z:=z) (st:=st') (p:=q) (by rw[hb];exact .head _)
    have hpl:=(List.getElem?_eq_some_iff.mp hp.2).1
    obtain⟨q1,q2,q3,q4⟩:=hS'.put hp.1 hp.2
    rw[rh hS' hb]at hline
    have hcut:ug false (zx (q::qs)) none (some 1) none (s4++[.dS kvs])=.ok (.tup [.int (q:Int)]) (s4++[.dS kvs]):=by
     show Out.ok (Val.tup (wk ((q::qs).map fun(k:Nat)=>Val.int k) none (some 1))) _=_
     rw[show (some (1:Int))=some ((1:Nat):Int) from rfl,mK (by rw[List.length_map,List.length_cons];omega)]
     rfl
    refine yb (zu (zB rfl) (ZU (zB rfl) la (iD zJ) la hcut) (qI (by rw[List.length_map];show _+1≤zN;omega))) ?_
    show (zO Φ T.gl [some (.scr ns),some (.int k),some (.ref p),some (.int z),some (.int m),some (tpI st),some (.dref s4.length),some (.int (Wd z false st)),some (.tup (told.map (fun(k:Nat)=>Val.int k)++[.int (q:Int)])),some (tpI st'),some (zx (q::qs)),o11] _ (s4++[.dS kvs])).post _
    refine yb (x_call (zA (zB rfl) (zA (xO (zB rfl) zJ cz) zD)) (c.lput st' q _ hpl (by omega) hS'.lo hS'.hi)) ?_
    have hmul:(10-n)*CC+CC=(10-n+1)*CC:=(Nat.succ_mul _ _).symm
    have hmul2:(10-n+1)*CC≤11*CC:=Nat.mul_le_mul_right _ (by omega)
    refine xh (zr (zA (zB rfl) (zA (zB rfl) (zA (zB rfl) zD))) (zE (c.lbest z (zb st' q) s4.length kvs (s4++[.dS kvs]) q1 wV hk (by omega)) ?_))
    rintro v s7 ⟨rfl,kvs3,rfl,hk3,hl3⟩
    rw[we]
    refine xC ⟨n-1,by omega,zb st' q,told++[q],kvs3,q1,by omega,by omega,by rw[List.append_assoc];exact hline,by rw[List.length_append,List.length_singleton];omega,?_,rfl,hk3,?_⟩
    . show [some (.scr ns),some (.int k),some (.ref p),some (.int z),some (.int m),some (tpI st),some (.dref s4.length),some (.int (Wd z false st)),some (.tup (told.map (fun(k:Nat)=>Val.int k)++[.int (q:Int)])),some (tpI (zb st' q)),some (zx (yJ z (zb st' q))),o11]=_
      rw[show zx (told++[q])=.tup (told.map (fun(k:Nat)=>Val.int k)++[.int (q:Int)]) by unfold zx;rw[List.map_append];rfl]
    . rw[show 10-(n-1)=10-n+1 by omega];omega
 . rintro e s' ⟨⟨o1,o2,o3,o4,o5,o6,o7,o8,o9,o10,o11,rfl⟩,hr⟩
   have ask:∀(z:Nat) (st:List Int) (i:Int),(2≤z∧z≤8∧1≤st.length∧st.length≤8∧(∀x∈st,0≤x∧x≤2)∧st.count 2≤st.count 1∧st.count 1≤st.count 2+1∧hasB z st (zg st)=false)∧Wd z false st=i→∀s,Φ "worth" 0 [.int z,tpI st] s=.ok (.int i) s:=fun z st i h s=>by
    have:=c.worth z st s ⟨h.1.1,h.1.2.1,h.1.2.2.1,h.1.2.2.2.1,h.1.2.2.2.2.1,h.1.2.2.2.2.2.1,h.1.2.2.2.2.2.2.1,h.1.2.2.2.2.2.2.2⟩
    rw[h.2]at this;exact this
   have b1:=ask 3 [0,0,0] 0 (by decide +kernel)
   have b2:=ask 2 [0,0,0] 1 (by decide +kernel)
   refine ze (v:=.bool true) (m6 (yL (x_call (zA zJ (zA (x8 (zA zJ (zA zJ (zA zJ zD))) (L1 3 (by omega))) zD)) (b1 _)) zJ eq_int) (yL (x_call (zA zJ (zA (x8 (zA zJ (zA zJ (zA zJ zD))) (L1 3 (by omega))) zD)) (b2 _)) zJ eq_int)) ?_
   show (zP false [] _ _).post _
   rw[leave_top xr]
   exact zC.mpr rfl
end
theorem rB{T:Tbl}{Φ:Calls}{s:Sto}(g:GlS T)(c:vb Φ){i:Int}(h1:2≤i)(h2:i≤8):run T Φ F.y4 [.int i] s=.ok .none s:=by
 rw[post_eq]
 simp[F.y4,EVl,yH,zZ,g.ls,g.ms,c i 2 8 s h1 h2]
theorem tJ{T:Tbl}{Φ:Calls}{s:Sto}(g:GlS T)(c:vb Φ){i:Int}(h1:0≤i)(h2:i≤40):run T Φ F.yV [.int i] s=.ok .none s:=by
 rw[post_eq]
 simp[F.yV,EVl,yH,zZ,g.mp,c i 0 40 s h1 h2]
theorem cs:At T 27 Cs:=fun n hn=>by
 obtain⟨n,rfl⟩:∃m,n=m+27:=⟨n-27,by omega⟩
 have g:GlS T:=⟨rfl,rfl,rfl,rfl,rfl,rfl,rfl⟩
 have whole:∀m,oO (zF T (m+1)):=fun m v l k s h=>by rw[zM (F:=F.xG) rfl];exact kK h
 have wholes:∀m,mC (zF T (m+2)):=fun m vs l k s h=>by rw[zM (F:=F.yh) rfl];exact nU (whole m) h
 have needWhole:∀m,vb (zF T (m+2)):=fun m i l k s h1 h2=>by rw[zM (F:=F.yl) rfl];exact rD (whole m) h1 h2
 have needSize:∀m,uQ (zF T (m+3)):=fun m i s h1 h2=>by rw[zM (F:=F.y4) rfl];exact rB g (needWhole m) h1 h2
 have needLength:∀m,uq (zF T (m+3)):=fun m i s h1 h2=>by rw[zM (F:=F.yV) rfl];exact tJ g (needWhole m) h1 h2
 have most:∀m,dO (zF T (m+1)):=fun m a b d s h1 h2 h3=>by rw[zM (F:=F.y3) rfl];exact gE h1 h2 h3
 have one:∀m,ZW (zF T (m+1)):=fun m a b d e s h1 h2 h3 h4=>by rw[zM (F:=F.yj) rfl];exact ed h1 h2 h3 h4
 have rowsIn:∀m,mB (zF T (m+4)):=fun m a b s h1 h2 h3=>by rw[zM (F:=F75.xf) rfl];exact nT (needLength m) (needSize m) (most (m+2)) h1 h2 h3
 have has:∀m,m8 "has_row" (zF T (m+5)):=fun m z st h s h1 h2 h3=>by rw[zM (F:=F75.xc) rfl];exact eZ (rowsIn m) (one (m+3)) h1 h2 h3
 have other:∀m,qF (zF T (m+1)):=fun m h s=>by rw[zM (F:=F75.ym) rfl];exact kI g
 have due:∀m,kY (zF T (m+1)):=fun m st s=>by rw[zM (F:=F75.xE) rfl];exact eY g
 have winner:∀m,qG (zF T (m+6)):=fun m z st s h1 h2 h3=>by rw[zM (F:=F75.wD) rfl];exact nV (other (m+4)) (due (m+4)) (has m) h1 h2 h3
 have free:∀m,tX "free_places" (zF T (m+7)):=fun m z st s h=>by rw[zM (F:=F75.yU) rfl];exact gB g (winner m) h
 have behind:∀m,y8 "behind_taking" (zF T (m+2)):=fun m st p s h1 h2 _ _=>by rw[zM (F:=F75.z9) rfl];exact oC (due m) h1 h2
 have wished:∀m,mD (zF T (m+2)):=fun m h ws s=>by rw[zM (F:=F75.yI) rfl];exact nW g (other m)
 have wo:∀z c n m,CFound z c n (zF T (m+2*n+8))∧wm z c n (zF T (m+2*n+9)):=fun z c n=>by
  induction n with
  |zero=>
   intro m
   have h1:CFound z c 0 (zF T (m+2*0+8)):=fun st d kvs s q1 q2 q3 q4 q5=>by
    rw[zM (F:=F75.yE) rfl];exact r0 g (winner (m+1)) (other (m+6)) (due (m+6)) (free m) (behind (m+5)) (wished (m+5)) (fun k e=>by omega) q1 q2 q3 q4 q5
   exact⟨h1,fun st d kvs s q1 q2 q3 q4 q5=>by rw[zM (F:=F75.yu) rfl];exact uz h1 q1 q2 q3 q4 q5⟩
  |succ n ih=>
   intro m
   have h1:CFound z c (n+1) (zF T (m+2*(n+1)+8)):=fun st d kvs s q1 q2 q3 q4 q5=>by
    rw[zM (F:=F75.yE) rfl];exact r0 g (winner (m+2*(n+1)+1)) (other (m+2*(n+1)+6)) (due (m+2*(n+1)+6)) (free (m+2*(n+1))) (behind (m+2*(n+1)+5)) (wished (m+2*(n+1)+5)) (fun k e=>by
     obtain rfl:k=n:=by omega
     exact(ih m).2) q1 q2 q3 q4 q5
   exact⟨h1,fun st d kvs s q1 q2 q3 q4 q5=>by rw[zM (F:=F75.yu) rfl];exact uz h1 q1 q2 q3 q4 q5⟩
 have marked:∀m,n6 (zF T (m+3)):=fun m z st s h=>by rw[zM (F:=F75.y2) rfl];exact nR g (wholes m) h
 have inTurn:∀m,n5 (zF T (m+6)):=fun m z st s h=>by rw[zM (F:=F75.yi) rfl];exact nQ g (due (m+4)) (has m) h
 have stand:∀m,kc (zF T (m+7)):=fun m z st s h=>by rw[zM (F:=F75.xF) rfl];exact kJ (needSize (m+3)) (marked (m+3)) (inTurn m) h
 have needStand:∀m,wQ (zF T (m+8)):=fun m z st s h=>by rw[zM (F:=F75.yk) rfl];exact rC (stand m) h
 have worth:∀m,mE "worth" false (zF T (m+26)):=fun m z st s h=>by rw[zM (F:=F75.vK) rfl];exact kL (needStand (m+17)) (fun z=>(wo z false 8 m).2) h
 have bestPl:∀m,qC (zF T (m+26)):=fun m z st d kvs s q1 q2 q3 q4=>by rw[zM (F:=F72.yT) rfl];exact nP (fun z=>(wo z false 8 m).2) (free (m+18)) (behind (m+23)) q1 q2 q3 q4
 have best:∀m,dJ (zF T (m+27)):=fun m z st s h=>by rw[zM (F:=F72.uR) rfl];exact hX (needStand (m+18)) (bestPl m) h
 have line:∀m,dN (zF T (m+27)):=fun m z st s h=>by rw[zM (F:=F72.uS) rfl];exact gD (needStand (m+18)) (bestPl m) (behind (m+24)) h
 have cell:∀m,dM (zF T (m+1)):=fun m ns k s=>by
  obtain⟨c,h⟩:=hZ (T:=T) (Φ:=zF T m) (s:=s) ns k
  exact⟨c,by rw[zM (F:=F.z5) rfl];exact h⟩
 have pen:∀m,dP (zF T (m+1)):=fun m c s=>by
  obtain⟨a,b,e,d,h,h2⟩:=gF (T:=T) (Φ:=zF T m) (s:=s) c
  exact⟨a,b,e,d,by rw[zM (F:=F75.yM) rfl];exact h,h2⟩
 have draw:∀m,qD (zF T (m+1)):=fun m p k s h1 h2 h3=>by rw[zM (F:=F75.yd) rfl];exact kC h1 h2 h3
 have lhas:∀m,m8 "_law_has" (zF T (m+1)):=fun m z st h s h1 h2 h3=>by rw[zM (F:=F75.xD) rfl];exact gC h1 h2 h3
 have lfree:∀m,tX "_law_free" (zF T (m+2)):=fun m z st s h=>by rw[zM (F:=F75.yz) rfl];exact kE (lhas m) h
 have lhand:∀m,oN (zF T (m+1)):=fun m st s h1 h2=>by rw[zM (F:=F75.y0) rfl];exact kF h1 h2
 have lput:∀m,y8 "_law_put" (zF T (m+2)):=fun m st p s h1 h2 h3 h4=>by rw[zM (F:=F75.yt) rfl];exact kG (lhand m) h1 h2 h3 h4
 have ltext:∀m,ka (zF T (m+1)):=fun m st s h1 h2=>by rw[zM (F:=F75.y1) rfl];exact kH h1 h2
 have lw:∀z c n m,qE z c n (zF T (m+2*n+3))∧tK z c n (zF T (m+2*n+4)):=fun z c n=>by
  induction n with
  |zero=>
   intro m
   have h1:qE z c 0 (zF T (m+2*0+3)):=fun st d kvs s q1 q2 q3 q4 q5=>by
    rw[zM (F:=F75.zw) rfl];exact oD (lhas (m+1)) (lhand (m+1)) (lfree m) (lput m) (fun k e=>by omega) q1 q2 q3 q4 q5
   exact⟨h1,fun st d kvs s q1 q2 q3 q4 q5=>by rw[zM (F:=F75.yN) rfl];exact sY (ltext (m+2)) h1 q1 q2 q3 q4 q5⟩
  |succ n ih=>
   intro m
   have h1:qE z c (n+1) (zF T (m+2*(n+1)+3)):=fun st d kvs s q1 q2 q3 q4 q5=>by
    rw[zM (F:=F75.zw) rfl];exact oD (lhas (m+2*(n+1)+1)) (lhand (m+2*(n+1)+1)) (lfree (m+2*(n+1))) (lput (m+2*(n+1))) (fun k e=>by
     obtain rfl:k=n:=by omega
     exact(ih m).2) q1 q2 q3 q4 q5
   exact⟨h1,fun st d kvs s q1 q2 q3 q4 q5=>by rw[zM (F:=F75.yN) rfl];exact sY (ltext (m+2*(n+1)+2)) h1 q1 q2 q3 q4 q5⟩
 have played:∀m,n9 (zF T (m+3)):=fun m p z k j s h1 h2 h3 h4 h5 h6=>by rw[zM (F:=F75.yS) rfl];exact nS (lfree m) (lput m) (draw (m+1)) h1 h2 h3 h4 h5 h6
 have lbest:∀m,kZ (zF T (m+21)):=fun m z st d kvs s q1 q2 q3 q4=>by rw[zM (F:=F72.yy) rfl];exact kD (fun z=>(lw z false 8 m).2) (lfree (m+18)) (lput (m+18)) q1 q2 q3 q4
 exact⟨cell (n+26),pen (n+26),draw (n+26),played (n+24),fun z c=>(lw z c 8 (n+7)).2,lbest (n+6),lput (n+25),worth (n+1),best n,line n⟩
theorem b7(ns:List Int):∃s',zF T 28 "law" 0 [.scr ns] []=.ok (.bool true) s':=by
 obtain⟨v,s',h,rfl⟩:=j5 (cs 27 (by omega)) ns
 exact⟨s',by rw[zM (F:=rJ) rfl];exact h⟩
end P72
end
section
open PySem PySem.W PyProof.Rows
theorem P72.hx:P72.rJ.ps=[("_law_script":Str)]:=by kernel_rfl
theorem P72.hF:(M.tbl P72.fnL P72.glL).fn P72.dd.name 0=some P72.rJ:=by kernel_rfl
theorem P72.hgl:P72.glL=P72.gl.map fun p=>(p.1,M.gv p.2):=by kernel_rfl
theorem PySem.Challenge.cw_evenhues_k72_worths_holds : PySem.Challenge.rw_evenhues_k72_worths.Holds := by
 exact M.close (n:=28) P72.ZC P72.left P72.hgl P72.cy P72.hp P72.hk P72.hwr P72.ok P72.bare P72.hw (by kernel_rfl) P72.hdf ⟨rfl,by decide,by decide,rfl⟩ P72.hF P72.hx P72.ZM (fun ns _=>P72.b7 ns)
end
