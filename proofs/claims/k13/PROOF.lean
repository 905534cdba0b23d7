import PyProof.Rows.All
import Wide.All
import OpenK.AllK
import Wide.FinOn
import HandS.Words
import HandS.ForMost
import HandS.Star
import HandS.ClsMeth
import HandS.Defaults
import HandS.HeadHook1
import HandS.HeadHook2
import HandS.HeadHook3
import KE.KStateDown
import HandS.Head0
import HandS.Head1
import HandS.Head2
import HandS.HeadEnd
import HandS.Evl
import HandS.FStr
import HandS.Property
import HandS.DictComp
import KE.KOpsOwn
import HandS.SlotsOwn
import PyProof.InstEq
import HandS.Codes
import HandS.Conv
import HandS.IsInst
import HandS.Flow
import HandS.Style
import HandS.RaiseMore
import HandS.SortRule
import KE.KSortTupAny
import HandS.Ends
import PyProof.ReprRoads
import PyProof.StrLawsRepr
import PyProof.FitsInt
import HandS.Deep
import PyProof.MinMaxWalk
import PyProof.StrOps
import HandS.SetFor
import HandS.Strs
import PyProof.ListNew
import OpenK.KOps
import PyProof.Rows.CountFlat
import HandS.Dict
import HandS.More
import HandS.TupSets
import KE.KParD
import HandS.DictEq
import PySem.Challenge.RW_outsigns_k13_whole_nets_made_of_nets
set_option Elab.async false
set_option linter.all false
set_option maxRecDepth 100000
set_option maxHeartbeats 2000000
/-! a head's facts: defs by where they stand, whatever holds them; tests of one's own -/
namespace LW
open PySem PySem.Spec PyProof.Rows L2 He
/-- one def: where it stands, its names, its text -/
structure DfY where
  ad : PySem.W.Frag → Addr
  nm : Str
  qual : Str
  st : Stmt
def fdOf (K : PySem.W.Frag) (a : Addr) : Option FuncData := (K.lookup a).bind fun o => match o.data with
  | .func fd => some fd
  | _ => none
theorem fdOf_some {K : PySem.W.Frag} {a : Addr} {fd : FuncData} (h : fdOf K a = some fd) : ∃ oc od osl, K.lookup a = some ⟨oc, od, .func fd, osl⟩ := by
  obtain ⟨o, e1, e2⟩ := Option.bind_eq_some_iff.mp h
  obtain ⟨oc, od, dt, osl⟩ := o
  cases dt with
  | func fd' =>
    have e3 : fd' = fd := Option.some.inj e2
    exact ⟨oc, od, osl, by rw [e1, e3]⟩
  | _ => cases e2
def fdW (fd : FuncData) : Str × Str × Arguments × FuncBody × Scope × Addr × List (Str × Addr) × Addr := (fd.name, fd.qualname, fd.params, fd.body, fd.scope, fd.globals, fd.closure, fd.builtins)
def fnAt (K : PySem.W.Frag) (a : Addr) : FnW := (fdOf K a).map fdW
def DfY.val (d : DfY) : FnW := some (d.nm, d.qual, defArgs d.st, .stmts (defBody d.st), defScope d.st, mainGlobals, [], builtinsNs)
def isNo : Value → Bool
  | .none => true
  | _ => false
def fdB (K : PySem.W.Frag) (q : Str) (o : Option FuncData) : Bool := o.any fun fd => PySem.W.codeIn K fd.code q && isNo fd.defaults
def DfY.ok (K : PySem.W.Frag) (d : DfY) : Bool := PySem.W.keepIn K (.ref (d.ad K)) && fdB K d.qual (fdOf K (d.ad K))
theorem fd_split {fd : FuncData} {x q : Str} {ps : Arguments} {b : List Stmt} {sc : Scope} (h : fdW fd = (x, q, ps, .stmts b, sc, mainGlobals, [], builtinsNs)) (n : isNo fd.defaults = true) : fd = PySem.W.fnOf x q ps b sc .none fd.kwdefaults fd.doc fd.pyModule fd.annotations fd.code fd.closureTuple := by
  obtain ⟨n1, n2, n3, n4, n5, n6, n7, n8, n9, n10, n11, n12, n13, n14, n15⟩ := fd
  unfold fdW at h
  simp only [Prod.mk.injEq] at h
  obtain ⟨h1, h2, h3, h4, h5, h6, h7, h8⟩ := h
  subst h1 h2 h3 h4 h5 h6 h7 h8
  have e : n8 = Value.none := by
    cases n8 with
    | none => rfl
    | _ => exact absurd (show false = true from n) Bool.false_ne_true
  subst e
  rfl
theorem DfY.fun_ {K : PySem.W.Frag} {d : DfY} (e : fnAt K (d.ad K) = d.val) (c : d.ok K = true) : ∃ fd, L2.Fun K d.nm d.qual d.st (d.ad K) fd := by
  unfold DfY.ok at c
  obtain ⟨kp, c2⟩ := Bool.and_eq_true_iff.mp c
  unfold fnAt at e
  obtain ⟨fd, e1, e2⟩ := Option.map_eq_some_iff.mp e
  rw [e1] at c2
  unfold fdB at c2
  rw [Option.any_some] at c2
  obtain ⟨k1, k2⟩ := Bool.and_eq_true_iff.mp c2
  obtain ⟨oc, od, osl, lk⟩ := fdOf_some e1
  have s := fd_split e2 k2
  refine ⟨fd, ⟨oc, od, fd.kwdefaults, fd.doc, fd.pyModule, fd.annotations, fd.code, fd.closureTuple, osl, s, lk, k1⟩, kp⟩
abbrev AlY : Type := AlD × (Bool × List FnW)
def obsY (fa : List Fa) (fn : List DefD) (ds : List DfY) (ex : PySem.W.Frag → Bool) (K : PySem.W.Frag) : AlY := (obsD fa fn K, (ex K && ds.all fun d => d.ok K, ds.map fun d => fnAt K (d.ad K)))
def valY (fn : List DefD) (ds : List DfY) : AlY := (valD fn, (true, ds.map DfY.val))
def SaysY (fa : List Fa) (fn : List DefD) (ds : List DfY) (ex : PySem.W.Frag → Bool) (K : PySem.W.Frag) : Prop := obsY fa fn ds ex K = valY fn ds
def asY (g : Addr → Option Obj) : Nat → List Addr
  | 0 => [mainGlobals, cStatics]
  | n + 1 => growD g (asY g n)
def obsYG (n : Nat) (fa : List Fa) (fn : List DefD) (ds : List DfY) (ex : PySem.W.Frag → Bool) (g : Addr → Option Obj) : AlY := obsY fa fn ds ex (frG g (asY g n))
def hookY (n : Nat) (fa : List Fa) (fn : List DefD) (ds : List DfY) (ex : PySem.W.Frag → Bool) : PySem.W.Hook where
  α := AlY
  obs := fun s => obsYG n fa fn ds ex s.heap.get?
  val := fun _ => valY fn ds
  says := fun _ h => ∃ K : PySem.W.Frag, K.In h ∧ SaysY fa fn ds ex K
  of := fun _ _ e => ⟨_, frG_in, e⟩
  keeps := fun _ _ _ ⟨K, hK, c⟩ k => ⟨K, hK.keeps k, c⟩
theorem obsYG_eq {n : Nat} {fa : List Fa} {fn : List DefD} {ds : List DfY} {ex : PySem.W.Frag → Bool} {g : Addr → Option Obj} {s : Shared} (h : ∀ a, g a = s.heap.get? a) : obsYG n fa fn ds ex g = (hookY n fa fn ds ex).obs s := by
  obtain rfl : g = s.heap.get? := funext h
  rfl
section
variable {fa : List Fa} {fn : List DefD} {ds : List DfY} {ex : PySem.W.Frag → Bool} {K : PySem.W.Frag}
theorem SaysY.d (c : SaysY fa fn ds ex K) : SaysD fa fn K := congrArg (fun z : AlY => z.1) c
theorem SaysY.fact (c : SaysY fa fn ds ex K) (i : Nat) {f : Fa} (h : fa[i]? = some f := by rfl) : f.ok K = true := c.d.fact i h
theorem SaysY.two (c : SaysY fa fn ds ex K) : ex K = true ∧ (ds.all fun d => d.ok K) = true := ba (show (ex K && ds.all fun d => d.ok K) = true from congrArg (fun z : AlY => z.2.1) c)
theorem SaysY.def_ (c : SaysY fa fn ds ex K) (i : Nat) {d : DfY} (h : ds[i]? = some d := by rfl) : ∃ fd, L2.Fun K d.nm d.qual d.st (d.ad K) fd := by
  have e : ds.map (fun d => fnAt K (d.ad K)) = ds.map DfY.val := congrArg (fun z : AlY => z.2.2) c
  have e2 : (ds.map fun d => fnAt K (d.ad K))[i]? = (ds.map DfY.val)[i]? := by rw [e]
  rw [List.getElem?_map, List.getElem?_map, h] at e2
  exact DfY.fun_ (Option.some.inj e2) (List.all_eq_true.mp c.two.2 d (List.mem_of_getElem? h))
end
/-! where things stand -/
/-- the module's name x; the class x's m; what the record of that m holds -/
def atG (x : Str) (K : PySem.W.Frag) : Addr := ga K x
def atM (x m : Str) (K : PySem.W.Frag) : Addr := ma K (ga K x) m
def refs1 : Option (List Value) → Option Addr
  | some (.ref g :: _) => some g
  | _ => none
theorem refs1_some {r : Option (List Value)} {g : Addr} (h : refs1 r = some g) : ∃ rest, r = some (.ref g :: rest) := by
  cases r with
  | none => cases h
  | some l =>
    cases l with
    | nil => cases h
    | cons v rest =>
      cases v with
      | ref a =>
        have e : a = g := Option.some.inj h
        exact ⟨rest, by rw [e]⟩
      | _ => cases h
def atR (T : String) (x m : Str) (K : PySem.W.Frag) : Addr := (refs1 (PySem.W.recIn K (atM x m K) T)).getD 0
def recB (K : PySem.W.Frag) (T : String) (x m : Str) : Bool := (refs1 (PySem.W.recIn K (atM x m K) T)).isSome
theorem recB_ok {K : PySem.W.Frag} {T : String} {x m : Str} (h : recB K T x m = true) : ∃ rest, PySem.W.recIn K (atM x m K) T = some (.ref (atR T x m K) :: rest) := by
  obtain ⟨g, e⟩ := Option.isSome_iff_exists.mp h
  obtain ⟨rest, r⟩ := refs1_some e
  refine ⟨rest, ?_⟩
  unfold atR
  rw [e, r]
  rfl
/-- what a class gives for its name m by a record's __get__; a class's number -/
def got1 : Option PySem.W.CFound → Option (String × Addr × Addr)
  | some (.get (.builtin i) (.ref p) .none (.ref c)) => some (i, p, c)
  | _ => none
theorem got1_some {r : Option PySem.W.CFound} {i : String} {p c : Addr} (h : got1 r = some (i, p, c)) : r = some (.get (.builtin i) (.ref p) .none (.ref c)) := by
  unfold got1 at h
  split at h
  · simp only [Option.some.injEq, Prod.mk.injEq] at h
    obtain ⟨h1, h2, h3⟩ := h
    rw [h1, h2, h3]
  · cases h
def gotB (K : PySem.W.Frag) (id : String) (x m : Str) : Bool := decide (got1 (PySem.W.findCls K (.ref (ga K x)) (.type "type") m) = some (id, atM x m K, ga K x))
theorem gotB_ok {K : PySem.W.Frag} {id : String} {x m : Str} (h : gotB K id x m = true) : PySem.W.findCls K (.ref (ga K x)) (.type "type") m = some (.get (.builtin id) (.ref (atM x m K)) .none (.ref (ga K x))) := got1_some (of_decide_eq_true h)
def num1 : Option PySem.W.CFound → Option Int
  | some (.val (.int j _)) => some j
  | _ => none
theorem num1_some {r : Option PySem.W.CFound} {j : Int} (h : num1 r = some j) : ∃ t, r = some (.val (.int j t)) := by
  unfold num1 at h
  split at h
  · exact ⟨_, by rw [Option.some.inj h]⟩
  · cases h
def numB (K : PySem.W.Frag) (x m : Str) (i : Int) : Bool := decide (num1 (PySem.W.findCls K (.ref (ga K x)) (.type "type") m) = some i)
theorem numB_ok {K : PySem.W.Frag} {x m : Str} {i : Int} (h : numB K x m i = true) : ∃ u, ClX.CVal K (ga K x) (.type "type") m (.int i) u := by
  obtain ⟨t, e⟩ := num1_some (of_decide_eq_true h)
  exact ⟨_, e, ⟨t, rfl⟩⟩
def opB {α : Type} [DecidableEq α] (a b : Option α) : Bool := decide (a = b)
theorem opB_ok {α : Type} [DecidableEq α] {a b : Option α} (h : opB a b = true) : a = b := of_decide_eq_true h
end LW
set_option Elab.async false
set_option linter.all false
set_option maxRecDepth 100000
namespace K19
open PySem L2 LW
def top (i : Nat) : Stmt := PySem.Challenge.pw_outsigns_k13_whole_nets_made_of_nets.main.body.getD i (.Pass ⟨0, 0, 0, 0⟩)
end K19
set_option Elab.async false
set_option linter.all false
set_option maxRecDepth 100000
set_option maxHeartbeats 0
namespace K19
open PySem PySem.Spec PyProof.Rows L2 LW He
def fa0 : List Fa := [.glo "is_name", .glo "is_link", .glo "link_of", .glo "sorted_names", .glo "sorted_links", .glo "is_list", .glo "check_nodes", .glo "joins_known", .glo "checked_links", .glo "neighbour_table", .glo "joined_to", .glo "need_net", .glo "is_node", .glo "need_node", .glo "need_link", .glo "_law_pot", .glo "_law_draw", .glo "_law_pick", .glo "_law_mixed", .glo "_law_named"]
def fa1 : List Fa := [.glo "_law_link", .glo "_law_any", .glo "_law_turned", .glo "_law_net", .glo "_law_near", .glo "_law_piece", .glo "_law_pieces", .glo "_law_is", .glo "_law_told_model", .glo "_law_less", .glo "_law_without", .glo "_law_together", .glo "_law_at", .glo "_law_beside", .glo "_law_both", .glo "_law_renamed", .glo "_law_moved", .glo "_law_step", .glo "_law_right", .glo "law"]
def fa2 : List Fa := [.glo "Net", .free "isinstance", .free "len", .free "all", .free "str", .free "tuple", .free "list", .free "sorted", .free "enumerate", .free "range", .free "divmod", .free "int", .free "max", .free "abs", .free "min", .free "zip", .free "set", .free "repr", .free "dict", .str "LETTERS" "abcdefghijklmnopqrstuvwxyz"]
def fa3 : List Fa := [.int "LONGEST_NAME" 8, .cls "Net", .mkr "Net", .noat "Net" "_nodes", .noat "Net" "_links", .noat "Net" "_near", .meth "Net" "nodes", .meth "Net" "links", .meth "Net" "pieces", .meth "Net" "neighbours", .meth "Net" "without", .meth "Net" "drawn_together", .meth "Net" "renamed", .meth "Net" "__add__", .meth "Net" "__sub__", .meth "Net" "__or__", .meth "Net" "__and__", .meth "Net" "__eq__", .meth "Net" "__len__", .meth "Net" "__contains__"]
def fa4 : List Fa := [.meth "Net" "__repr__"]
def fa : List Fa := fa0 ++ (fa1 ++ (fa2 ++ (fa3 ++ (fa4))))
def ds0 : List DfY := [⟨atG "is_name", "is_name", "is_name", top 20⟩, ⟨atG "is_link", "is_link", "is_link", top 21⟩, ⟨atG "link_of", "link_of", "link_of", top 22⟩, ⟨atG "sorted_names", "sorted_names", "sorted_names", top 24⟩, ⟨atG "sorted_links", "sorted_links", "sorted_links", top 25⟩, ⟨atG "is_list", "is_list", "is_list", top 27⟩, ⟨atG "check_nodes", "check_nodes", "check_nodes", top 28⟩, ⟨atG "joins_known", "joins_known", "joins_known", top 29⟩, ⟨atG "checked_links", "checked_links", "checked_links", top 30⟩, ⟨atG "neighbour_table", "neighbour_table", "neighbour_table", top 32⟩, ⟨atG "joined_to", "joined_to", "joined_to", top 33⟩, ⟨atG "need_net", "need_net", "need_net", top 35⟩]
def ds1 : List DfY := [⟨atG "is_node", "is_node", "is_node", top 36⟩, ⟨atG "need_node", "need_node", "need_node", top 37⟩, ⟨atG "need_link", "need_link", "need_link", top 38⟩, ⟨atG "_law_pot", "_law_pot", "_law_pot", top 40⟩, ⟨atG "_law_draw", "_law_draw", "_law_draw", top 41⟩, ⟨atG "_law_pick", "_law_pick", "_law_pick", top 42⟩, ⟨atG "_law_mixed", "_law_mixed", "_law_mixed", top 43⟩, ⟨atG "_law_named", "_law_named", "_law_named", top 44⟩, ⟨atG "_law_link", "_law_link", "_law_link", top 45⟩, ⟨atG "_law_any", "_law_any", "_law_any", top 46⟩, ⟨atG "_law_turned", "_law_turned", "_law_turned", top 47⟩, ⟨atG "_law_net", "_law_net", "_law_net", top 48⟩]
def ds2 : List DfY := [⟨atG "_law_near", "_law_near", "_law_near", top 49⟩, ⟨atG "_law_piece", "_law_piece", "_law_piece", top 50⟩, ⟨atG "_law_pieces", "_law_pieces", "_law_pieces", top 51⟩, ⟨atG "_law_is", "_law_is", "_law_is", top 52⟩, ⟨atG "_law_told_model", "_law_told_model", "_law_told_model", top 53⟩, ⟨atG "_law_less", "_law_less", "_law_less", top 54⟩, ⟨atG "_law_without", "_law_without", "_law_without", top 55⟩, ⟨atG "_law_together", "_law_together", "_law_together", top 56⟩, ⟨atG "_law_at", "_law_at", "_law_at", top 57⟩, ⟨atG "_law_beside", "_law_beside", "_law_beside", top 58⟩, ⟨atG "_law_both", "_law_both", "_law_both", top 59⟩, ⟨atG "_law_renamed", "_law_renamed", "_law_renamed", top 60⟩]
def ds3 : List DfY := [⟨atG "_law_moved", "_law_moved", "_law_moved", top 61⟩, ⟨atG "_law_step", "_law_step", "_law_step", top 62⟩, ⟨atG "_law_right", "_law_right", "_law_right", top 63⟩, ⟨atG "law", "law", "law", top 64⟩, ⟨atM "Net" "nodes", "nodes", "Net.nodes", inClass (top 34) 7⟩, ⟨atM "Net" "links", "links", "Net.links", inClass (top 34) 8⟩, ⟨atR "property" "Net" "size", "size", "Net.size", inClass (top 34) 9⟩, ⟨atM "Net" "__len__", "__len__", "Net.__len__", inClass (top 34) 10⟩, ⟨atM "Net" "neighbours", "neighbours", "Net.neighbours", inClass (top 34) 11⟩, ⟨atM "Net" "pieces", "pieces", "Net.pieces", inClass (top 34) 12⟩, ⟨atM "Net" "without", "without", "Net.without", inClass (top 34) 14⟩, ⟨atM "Net" "drawn_together", "drawn_together", "Net.drawn_together", inClass (top 34) 15⟩]
def ds4 : List DfY := [⟨atM "Net" "renamed", "renamed", "Net.renamed", inClass (top 34) 16⟩, ⟨atM "Net" "__add__", "__add__", "Net.__add__", inClass (top 34) 17⟩, ⟨atM "Net" "__sub__", "__sub__", "Net.__sub__", inClass (top 34) 18⟩, ⟨atM "Net" "__or__", "__or__", "Net.__or__", inClass (top 34) 19⟩, ⟨atM "Net" "__and__", "__and__", "Net.__and__", inClass (top 34) 20⟩, ⟨atM "Net" "__contains__", "__contains__", "Net.__contains__", inClass (top 34) 22⟩, ⟨atM "Net" "__eq__", "__eq__", "Net.__eq__", inClass (top 34) 23⟩, ⟨atM "Net" "__repr__", "__repr__", "Net.__repr__", inClass (top 34) 24⟩]
def ds : List DfY := ds0 ++ (ds1 ++ (ds2 ++ (ds3 ++ (ds4))))
def dI : DefD := ⟨("Net", some "__init__"), "__init__", "Net.__init__", defArgs (inClass (top 34) 2), defBody (inClass (top 34) 2), defScope (inClass (top 34) 2), [.adr (dflAt ("Net", some "__init__") 0)], []⟩
/-- what else is asked of the class -/
def ex (K : PySem.W.Frag) : Bool :=
  eqO (PySem.W.findIn K (.ref (ga K "Net")) "__class__") (some (some (.builtin "object.__class__"))) && (eqO (PySem.W.specialIn K (.builtin "object.__class__") "__get__") (some (some (.builtin "getset_descriptor.__get__"))) && (opB (PySem.W.takesIn K (.builtin "object.__class__")) (some true) && (opB (PySem.W.mroIn K (ga K "Net") (.type "object")) (some true) && (opB (PySem.W.kitOne K (.ref (ga K "Net")) (.ref (ga K "Net"))) (some true) && (eqO (PySem.W.findIn K (.ref (ga K "Net")) "__ne__") (some (some (.builtin "object.__ne__"))) && (opB (PySem.W.subIn K (.ref (ga K "Net")) (.type "object")) (some true) && (PySem.W.selfFirst K (ga K "Net") && (eqO (PySem.W.findIn K (.type "tuple") (PySem.dunder Operator.Sub.info.2)) (some none) && (eqO (PySem.W.findIn K (.type "tuple") (dunderR Operator.Sub.info.2)) (some none) && (eqO (PySem.W.findIn K (.type "tuple") (PySem.dunder Operator.Add.info.2)) (some (some (.builtin "tuple.__add__"))) && (eqO (PySem.W.findIn K (.type "tuple") (dunderR Operator.Add.info.2)) (some none) && (PySem.W.readsIn K (ga K "Net") (.type "type") && (eqO (PySem.W.specialIn K (.ref (ga K "Net")) "__getattribute__") (some (some (.builtin "type.__getattribute__"))) && (numB K "Net" "MOST_NODES" 60 && (numB K "Net" "MOST_LINKS" 120 && (eqO (PySem.W.findIn K (.ref (ga K "Net")) "size") (some (some (.ref (atM "Net" "size" K)))) && (eqO (PySem.W.specialIn K (.ref (atM "Net" "size" K)) "__get__") (some (some (.builtin "property.__get__"))) && (opB (PySem.W.takesIn K (.ref (atM "Net" "size" K))) (some true) && (recB K "property" "Net" "size")))))))))))))))))))
abbrev R : PySem.W.OpenRow := PySem.W.OpenLaw.row PySem.Challenge.rw_outsigns_k13_whole_nets_made_of_nets
def names1 : List Str := ["_wall", "SignError", "InvalidName", "InvalidLink", "InvalidNodes", "InvalidLinks", "InvalidNet", "MissingError", "UnknownNode", "UnknownLink", "StateError", "LinkTaken", "NameTaken", "NobodyLeft", "LimitError", "TooMany", "LETTERS", "LONGEST_NAME", "is_name", "is_link", "link_of", "sorted_names", "sorted_links", "is_list", "check_nodes"]
def names2 : List Str := ["joins_known", "checked_links", "neighbour_table", "joined_to", "Net", "need_net", "is_node", "need_node", "need_link", "_law_pot", "_law_draw", "_law_pick", "_law_mixed", "_law_named", "_law_link", "_law_any", "_law_turned", "_law_net", "_law_near", "_law_piece", "_law_pieces", "_law_is", "_law_told_model"]
def names3 : List Str := ["_law_less", "_law_without", "_law_together", "_law_at", "_law_beside", "_law_both", "_law_renamed", "_law_moved", "_law_step", "_law_right"]
def names : List Str := names1 ++ (names2 ++ names3)
abbrev hk : PySem.W.Hook := hookY 5 fa [dI] ds ex
def ob (s : PySem.W.SharedT) : AlY := obsYG 5 fa [dI] ds ex (HandSHeadRun.getT s)
theorem ob_eq (s : PySem.W.SharedT) : ob s = hk.obs s.abs := obsYG_eq (HandSHeadRun.getT_eq s)
theorem run (w : World) : HandSHeadRun.RunEq R (PySem.W.view R.prog [64]) hk ob 40000 names w := by
  intro os
  kernel_rfl
end K19
set_option Elab.async false
set_option linter.all false
set_option maxRecDepth 100000
set_option maxHeartbeats 2000000
/-! A small calculus over the hand layer: what a piece of text computes, from what is known of the heap on. -/
namespace LW
open PySem L2

abbrev Ex := Evl.Ex
/-- known for good: at H and at whatever extends it -/
def Pz (H : Hp) (φ : Hp → Prop) : Prop := ∀ H', Ex H H' → φ H'
theorem Pz.mono {H H' : Hp} {φ : Hp → Prop} (h : Pz H φ) (e : Ex H H') : Pz H' φ := fun H2 e2 => h H2 (e.trans e2)
theorem Pz.now {H : Hp} {φ : Hp → Prop} (h : Pz H φ) : φ H := h H (Evl.Ex.refl H)
theorem Pz.imp {H : Hp} {φ ψ : Hp → Prop} (h : Pz H φ) (f : ∀ H', Ex H H' → φ H' → ψ H') : Pz H ψ := fun H' e => f H' e (h H' e)
theorem Pz.const {H : Hp} {p : Prop} (h : p) : Pz H (fun _ => p) := fun _ _ => h
theorem Pz.at {H : Hp} {a : Addr} {o : HO} (h : H a = some o) : Pz H (fun H' => H' a = some o) := fun _ e => e _ _ h
theorem Pz.and {H : Hp} {φ ψ : Hp → Prop} (h : Pz H φ) (k : Pz H ψ) : Pz H (fun H' => φ H' ∧ ψ H') := fun H' e => ⟨h H' e, k H' e⟩
theorem Pz.left {H : Hp} {φ ψ : Hp → Prop} (h : Pz H (fun H' => φ H' ∧ ψ H')) : Pz H φ := fun H' e => (h H' e).1
theorem Pz.right {H : Hp} {φ ψ : Hp → Prop} (h : Pz H (fun H' => φ H' ∧ ψ H')) : Pz H ψ := fun H' e => (h H' e).2
theorem Pz.sql {K : PySem.W.Frag} {H : Hp} {a : Addr} {xs : List V} (h : SqL K H a xs) : Pz H (fun H' => SqL K H' a xs) := fun _ e => Evl.ex_l e h
theorem Pz.sqt {K : PySem.W.Frag} {H : Hp} {a : Addr} {xs : List V} (h : SqT K H a xs) : Pz H (fun H' => SqT K H' a xs) := fun _ e => Evl.ex_t e h

/-- from (H known, Hc all that there is) to (Hn, H2): what was known is known, what is new and known did not stand in Hc -/
structure Grow (H Hc Hn H2 : Hp) : Prop where
  k : Ex H Hn
  s : Ex Hn H2
  c : Ex Hc H2
  f : ∀ a o, Hc a = some o → Mut (some o) → H a = none → Hn a = none
theorem Grow.refl {H Hc : Hp} (e : Ex H Hc) : Grow H Hc H Hc := ⟨Evl.Ex.refl H, e, Evl.Ex.refl Hc, fun _ _ _ _ h => h⟩
theorem Grow.trans {H Hc H1 Hc1 H2 Hc2 : Hp} (a : Grow H Hc H1 Hc1) (b : Grow H1 Hc1 H2 Hc2) : Grow H Hc H2 Hc2 :=
  ⟨a.k.trans b.k, b.s, a.c.trans b.c, fun x o h m n => b.f x o (a.c x o h) m (a.f x o h m n)⟩
/-- a new object -/
theorem Grow.new {H Hc : Hp} {p : Addr} {o : HO} (e : Ex H Hc) (hp : Hc p = none) : Grow H Hc (upd H p o) (upd Hc p o) := by
  have hp0 : H p = none := Evl.fresh_back e hp
  refine ⟨Evl.Ex.new hp0, fun a u h => ?_, Evl.Ex.new hp, fun a u h m n => ?_⟩
  · by_cases q : a = p
    · subst q; rw [upd_same] at h ⊢; exact h
    · rw [upd_ne q] at h ⊢; exact e a u h
  · by_cases q : a = p
    · subst q; rw [hp] at h; cases h
    · rw [upd_ne q]; exact n
/-- the two of them together -/
def jn (H1 H2 : Hp) : Hp := fun a => match H1 a with
  | some o => some o
  | none => H2 a
theorem jn_l {H1 H2 : Hp} : Ex H1 (jn H1 H2) := fun a o h => by unfold jn; rw [h]
theorem jn_r {H1 H2 H : Hp} (e1 : Ex H1 H) (e2 : Ex H2 H) : Ex H2 (jn H1 H2) := fun a o h => by
  unfold jn
  cases q : H1 a with
  | none => exact h
  | some u =>
    have z := e1 a u q
    rw [e2 a o h] at z
    exact z.symm
theorem jn_le {H1 H2 H : Hp} (e1 : Ex H1 H) (e2 : Ex H2 H) : Ex (jn H1 H2) H := fun a o h => by
  unfold jn at h
  cases q : H1 a with
  | none => rw [q] at h; exact e2 a o h
  | some u => rw [q] at h; cases h; exact e1 a _ q

/-- from what H knows on, t gives something of which P holds for good; what stood in the heap stands -/
def Cm {α : Type} (H : Hp) (P : α → Hp → Prop) (t : Hp → (α → Hp → Prop) → Prop) : Prop :=
  ∀ Hc, Ex H Hc → ∀ Q : α → Hp → Prop, (∀ v Hn H2, Grow H Hc Hn H2 → Pz Hn (P v) → Q v H2) → t Hc Q
section
variable {α β : Type} {H H1 : Hp} {P P' : α → Hp → Prop} {R : β → Hp → Prop} {t : Hp → (α → Hp → Prop) → Prop}
theorem Cm.mono (h : Cm H P t) (e : Ex H H1) : Cm H1 P t := fun Hc e1 Q q => h Hc (e.trans e1) Q fun v Hn H2 g p => by
  have e2 : Ex H1 H2 := e1.trans g.c
  refine q v (jn H1 Hn) H2 ⟨jn_l, jn_le e2 g.s, g.c, fun a o hc m n => ?_⟩ (p.mono (jn_r e2 g.s))
  have n0 : H a = none := Evl.fresh_back e n
  have := g.f a o hc m n0
  unfold jn; rw [n]; exact this
theorem Cm.imp (h : Cm H P t) (f : ∀ v H', Ex H H' → P v H' → P' v H') : Cm H P' t := fun Hc e Q q => h Hc e Q fun v Hn H2 g p => q v Hn H2 g fun H' e' => f v H' (g.k.trans e') (p H' e')
/-- nothing new -/
theorem Cm.ret {v : α} (h : ∀ Hc, Ex H Hc → ∀ Q : α → Hp → Prop, Q v Hc → t Hc Q) (p : Pz H (P v)) : Cm H P t := fun Hc e Q q => h Hc e Q (q v H Hc (Grow.refl e) p)
theorem Cm.bind {f : α → Hp → (β → Hp → Prop) → Prop} (h : Cm H P t) (k : ∀ v H1, Ex H H1 → Pz H1 (P v) → Cm H1 R (f v)) : Cm H R (fun Hc Q => t Hc fun v Hc1 => f v Hc1 Q) := fun Hc e Q q =>
  h Hc e _ fun v Hn H2 g p => k v Hn g.k p H2 g.s Q fun y H3 H4 g2 p2 => q y H3 H4 (g.trans g2) p2
end
/-- just v -/
abbrev is {α : Type} (v : α) : α → Hp → Prop := fun x _ => x = v
section
variable {α β : Type} {H : Hp} {R : β → Hp → Prop} {t : Hp → (α → Hp → Prop) → Prop} {x : α}
theorem Cm.bindD {f : α → Hp → (β → Hp → Prop) → Prop} (h : Cm H (is x) t) (k : Cm H R (f x)) : Cm H R (fun Hc Q => t Hc fun v Hc1 => f v Hc1 Q) :=
  Cm.bind h fun v H1 e p => by
    have q : v = x := p.now
    subst q
    exact k.mono e
end

section
variable {α β γ : Type} {H : Hp} {R : γ → Hp → Prop} {Pa : α → Hp → Prop} {Pb : β → Hp → Prop} {ta : Hp → (α → Hp → Prop) → Prop} {tb : Hp → (β → Hp → Prop) → Prop} {r : α → β → Hp → (γ → Hp → Prop) → Prop} {u : α → Hp → (γ → Hp → Prop) → Prop} {x : α} {y : β}
theorem cm1 (ha : Cm H Pa ta) (hr : ∀ x H1, Ex H H1 → Pz H1 (Pa x) → Cm H1 R (u x)) : Cm H R (fun Hc Q => ta Hc fun x H1 => u x H1 Q) := Cm.bind (f := u) ha hr
theorem cm1D (ha : Cm H (is x) ta) (hr : Cm H R (u x)) : Cm H R (fun Hc Q => ta Hc fun x H1 => u x H1 Q) := Cm.bindD (f := u) ha hr
theorem cm2 (ha : Cm H Pa ta) (hb : Cm H Pb tb) (hr : ∀ x y H1, Ex H H1 → Pz H1 (Pa x) → Pz H1 (Pb y) → Cm H1 R (r x y)) : Cm H R (fun Hc Q => ta Hc fun x H1 => tb H1 fun y H2 => r x y H2 Q) :=
  Cm.bind (f := fun x Hc Q => tb Hc fun y H2 => r x y H2 Q) ha fun x H1 e1 p1 => Cm.bind (f := r x) (hb.mono e1) fun y H2 e2 p2 => hr x y H2 (e1.trans e2) (p1.mono e2) p2
theorem cm2D (ha : Cm H (is x) ta) (hb : Cm H (is y) tb) (hr : Cm H R (r x y)) : Cm H R (fun Hc Q => ta Hc fun x H1 => tb H1 fun y H2 => r x y H2 Q) :=
  Cm.bindD (f := fun x Hc Q => tb Hc fun y H2 => r x y H2 Q) ha (Cm.bindD (f := r x) hb hr)
end

/-! ### the canonical readings -/
def wE (X : Cx) (e : Expr) (σ : St) (H : Hp) (Q : VK) : Prop := ∀ pins s, Inv X pins σ H s → wpAny (model X.prog X.w) X.A (eval e X.env) (EP X pins σ Q) X.xe s
def wT (X : Cx) (e : Expr) (σ : St) (H : Hp) (Q : Bool → Hp → Prop) : Prop := ∀ pins s, Inv X pins σ H s → wpAny (model X.prog X.w) X.A (isTrue e X.env (eval e X.env)) (TP X pins σ Q) X.xe s
/-- a test whose whole stands for anything -/
def wW (X : Cx) (e : Expr) (σ : St) (H : Hp) (Q : Bool → Hp → Prop) : Prop := ∀ whole pins s, Inv X pins σ H s → wpAny (model X.prog X.w) X.A (isTrue e X.env whole) (TP X pins σ Q) X.xe s
def wA (X : Cx) (es : List Expr) (σ : St) (H : Hp) (Q : List V → Hp → Prop) : Prop := ∀ pos pins s, Inv X pins σ H s → wpAny (model X.prog X.w) X.A (spliced (backTo pos (starEach es X.env))) (AP X pins σ Q) X.xe s
def wS (X : Cx) (st : Stmt) : TS := fun D σ H => ∀ pins s, Inv X pins σ H s → wpAny (model X.prog X.w) X.A (exec st X.env) (SP X pins D) X.xe s
def wB (X : Cx) (sts : List Stmt) : TS := fun D σ H => ∀ pins s, Inv X pins σ H s → wpAny (model X.prog X.w) X.A (execs sts X.env) (SP X pins D) X.xe s
def wG (X : Cx) (tg : Expr) : TG := fun v σ H Q => ∀ t : TG, PG X tg t → t v σ H Q
section
variable {X : Cx}
theorem pe_w {e : Expr} : PE X e (wE X e) := ⟨fun pins s _ _ _ I h => h pins s I⟩
theorem pt_w {e : Expr} : PT X e (wT X e) := ⟨fun pins s _ _ _ I h => h pins s I⟩
theorem pw_w {e : Expr} : PW X e (wW X e) := ⟨fun wh pins s _ _ _ I h => h wh pins s I⟩
theorem pa_w {es : List Expr} : PA X es (wA X es) := ⟨fun pos pins s _ _ _ I h => h pos pins s I⟩
theorem ps_w {st : Stmt} : PS X st (wS X st) := ⟨fun pins s _ _ _ I h => h pins s I⟩
theorem pss_w {sts : List Stmt} : PSs X sts (wB X sts) := ⟨fun pins s _ _ _ I h => h pins s I⟩
theorem w_e {e : Expr} {t : TE} (h : PE X e t) {σ : St} {H : Hp} {Q : VK} (q : t σ H Q) : wE X e σ H Q := fun pins s I => h.run pins s σ H Q I q
theorem w_t {e : Expr} {t : TT} (h : PT X e t) {σ : St} {H : Hp} {Q : Bool → Hp → Prop} (q : t σ H Q) : wT X e σ H Q := fun pins s I => h.run pins s σ H Q I q
theorem w_w {e : Expr} {t : TT} (h : PW X e t) {σ : St} {H : Hp} {Q : Bool → Hp → Prop} (q : t σ H Q) : wW X e σ H Q := fun wh pins s I => h.run wh pins s σ H Q I q
theorem w_a {es : List Expr} {t : TA} (h : PA X es t) {σ : St} {H : Hp} {Q : List V → Hp → Prop} (q : t σ H Q) : wA X es σ H Q := fun pos pins s I => h.run pos pins s σ H Q I q
theorem w_s {st : Stmt} {t : TS} (h : PS X st t) {σ : St} {H : Hp} {D : Ends} (q : t D σ H) : wS X st D σ H := fun pins s I => h.run pins s σ H D I q
theorem w_b {sts : List Stmt} {t : TS} (h : PSs X sts t) {σ : St} {H : Hp} {D : Ends} (q : t D σ H) : wB X sts D σ H := fun pins s I => h.run pins s σ H D I q

theorem ce {e : Expr} {t : TE} {σ : St} {H : Hp} {P : V → Hp → Prop} (h : PE X e t) (q : Cm H P (t σ)) : Cm H P (wE X e σ) := fun Hc a Q k => w_e h (q Hc a Q k)
theorem ct {e : Expr} {t : TT} {σ : St} {H : Hp} {P : Bool → Hp → Prop} (h : PT X e t) (q : Cm H P (t σ)) : Cm H P (wT X e σ) := fun Hc a Q k => w_t h (q Hc a Q k)
theorem cw {e : Expr} {t : TT} {σ : St} {H : Hp} {P : Bool → Hp → Prop} (h : PW X e t) (q : Cm H P (t σ)) : Cm H P (wW X e σ) := fun Hc a Q k => w_w h (q Hc a Q k)
theorem ca {es : List Expr} {t : TA} {σ : St} {H : Hp} {P : List V → Hp → Prop} (h : PA X es t) (q : Cm H P (t σ)) : Cm H P (wA X es σ) := fun Hc a Q k => w_a h (q Hc a Q k)

variable {σ : St} {H : Hp} {P : V → Hp → Prop} {a b c : Expr} {pos : Pos} {x y z v : V}
/-! ### leaves -/
theorem e_var (i : Nat) {n : Str} (hs : σ[i]? = some (some v) := by rfl) (hN : X.N[i]? = some n := by rfl) (hv : Vis X.env.scope n := by first | exact Or.inl rfl | exact Or.inr (Or.inl rfl) | exact Or.inr (Or.inr rfl))
    (hd : (n == ("__debug__" : Str)) = false := by decide) (hcd : (n == ("__classdict__" : Str)) = false := by decide) : Cm H (is v) (wE X (.Name n pos) σ) :=
  ce (pe_var hN hv hd hcd) (Cm.ret (v := v) (fun _ _ _ q => ⟨v, hs, q⟩) (.const rfl))
theorem e_int {i : Int} {j : Nat} : Cm H (is (V.int i)) (wE X (.Constant (.int i) j pos) σ) := ce pe_int (Cm.ret (fun _ _ _ q => q) (.const rfl))
theorem e_str {s : Str} {j : Nat} : Cm H (is (V.str s)) (wE X (.Constant (.str s) j pos) σ) := ce pe_str (Cm.ret (fun _ _ _ q => q) (.const rfl))
theorem e_bl {k : Bool} {j : Nat} : Cm H (is (V.bl k)) (wE X (.Constant (.bool k) j pos) σ) := ce pe_bl (Cm.ret (fun _ _ _ q => q) (.const rfl))
theorem e_non {j : Nat} : Cm H (is V.non) (wE X (.Constant .none j pos) σ) := ce pe_non (Cm.ret (fun _ _ _ q => q) (.const rfl))
theorem e_glob {n : Str} {u : Value} (hg : Gl X n) (hm : X.mg n = some u) (r : RelV v u) (hd : (n == ("__debug__" : Str)) = false := by decide) : Cm H (is v) (wE X (.Name n pos) σ) :=
  ce (pe_glob hg hm r hd) (Cm.ret (fun _ _ _ q => q) (.const rfl))
theorem e_bltn {n : Str} {u : Value} (hg : Gl X n) (hm : X.mg n = none) (hv : bootBuiltins n = some u) (r : RelV v u) (hn : n ≠ "__name__" := by decide) (hd : (n == ("__debug__" : Str)) = false := by decide) : Cm H (is v) (wE X (.Name n pos) σ) :=
  ce (pe_bltn hg hm hv r hn hd) (Cm.ret (fun _ _ _ q => q) (.const rfl))
/-! ### operators -/
theorem e_op {op : Operator} {r : R2} {Pa Pb : V → Hp → Prop} (ho : OpR X (binaryOp op) r) (ha : Cm H Pa (wE X a σ)) (hb : Cm H Pb (wE X b σ)) (hr : ∀ x y H1, Ex H H1 → Pz H1 (Pa x) → Pz H1 (Pb y) → Cm H1 P (r x y)) : Cm H P (wE X (.BinOp a op b pos) σ) :=
  ce (pe_op ho pe_w pe_w) (cm2 ha hb hr)
theorem e_opD {op : Operator} {r : R2} (ho : OpR X (binaryOp op) r) (ha : Cm H (is x) (wE X a σ)) (hb : Cm H (is y) (wE X b σ)) (hr : Cm H P (r x y)) : Cm H P (wE X (.BinOp a op b pos) σ) :=
  ce (pe_op ho pe_w pe_w) (cm2D ha hb hr)
theorem e_un {op : UnaryOp} {r : V → Hp → VK → Prop} (ho : UnR X (unaryOp op) r) (ha : Cm H (is x) (wE X a σ)) (hr : Cm H P (r x)) : Cm H P (wE X (.UnaryOp op a pos) σ) := ce (pe_un ho pe_w) (cm1D (u := r) ha hr)
theorem e_cmp {op : CmpOp} {r : R2} {Pa Pb : V → Hp → Prop} (ho : OpR X (compareOp op) r) (hm : behindInMarks op b = false) (ha : Cm H Pa (wE X a σ)) (hb : Cm H Pb (wE X b σ)) (hr : ∀ x y H1, Ex H H1 → Pz H1 (Pa x) → Pz H1 (Pb y) → Cm H1 P (r x y)) : Cm H P (wE X (.Compare a [op] [b] pos) σ) :=
  ce (pe_cmpR ho pe_w pe_w hm) (cm2 ha hb hr)
theorem e_cmpD {op : CmpOp} {r : R2} (ho : OpR X (compareOp op) r) (hm : behindInMarks op b = false) (ha : Cm H (is x) (wE X a σ)) (hb : Cm H (is y) (wE X b σ)) (hr : Cm H P (r x y)) : Cm H P (wE X (.Compare a [op] [b] pos) σ) :=
  ce (pe_cmpR ho pe_w pe_w hm) (cm2D ha hb hr)
/-! ### tests -/
variable {k k' : Bool}
theorem t_val (h : Cm H (is (V.bl k)) (wE X a σ)) (he : ∀ whole, isTrue a X.env whole = (do let v ← whole; standAt a.pos; holding [v] (truthy v)) := by intro _; rfl) : Cm H (is k) (wT X a σ) :=
  ct (pt_val pe_w he) (cm1D (u := fun v Hc Q => ∃ c, v = .bl c ∧ Q c Hc) h (Cm.ret (fun _ _ _ q => ⟨k, rfl, q⟩) (.const rfl)))
theorem t_cmpD {op : CmpOp} {r : R2} (ho : OpR X (compareOp op) r) (hm : behindInMarks op b = false) (ha : Cm H (is x) (wE X a σ)) (hb : Cm H (is y) (wE X b σ)) (hr : Cm H (is (V.bl k)) (r x y)) : Cm H (is k) (wT X (.Compare a [op] [b] pos) σ) :=
  ct (pt_cmpR ho pe_w pe_w hm) (cm1D (u := fun v Hc Q => ∃ c, v = .bl c ∧ Q c Hc) (cm2D ha hb hr) (Cm.ret (fun _ _ _ q => ⟨k, rfl, q⟩) (.const rfl)))
theorem t_cmp {op : CmpOp} {r : R2} {Pa Pb : V → Hp → Prop} (ho : OpR X (compareOp op) r) (hm : behindInMarks op b = false) (ha : Cm H Pa (wE X a σ)) (hb : Cm H Pb (wE X b σ)) (hr : ∀ x y H1, Ex H H1 → Pz H1 (Pa x) → Pz H1 (Pb y) → Cm H1 (is (V.bl k)) (r x y)) : Cm H (is k) (wT X (.Compare a [op] [b] pos) σ) :=
  ct (pt_cmpR ho pe_w pe_w hm) (cm1D (u := fun v Hc Q => ∃ c, v = .bl c ∧ Q c Hc) (cm2 ha hb hr) (Cm.ret (fun _ _ _ q => ⟨k, rfl, q⟩) (.const rfl)))
theorem t_not (h : Cm H (is k) (wT X a σ)) : Cm H (is (!k)) (wT X (.UnaryOp .Not a pos) σ) := ct (pt_not pt_w) (cm1D (u := fun c Hc Q => Q (!c) Hc) h (Cm.ret (fun _ _ _ q => q) (.const rfl)))
theorem t_w (h : Cm H (is k) (wW X a σ)) : Cm H (is k) (wT X a σ) := ct pw_w.pt h
variable {rest : List Expr}
theorem w_and1 (h : Cm H (is k) (wT X a σ)) : Cm H (is k) (wW X (.BoolOp .And [a] pos) σ) := cw (pw_and1 pt_w) h
theorem w_or1 (h : Cm H (is k) (wT X a σ)) : Cm H (is k) (wW X (.BoolOp .Or [a] pos) σ) := cw (pw_or1 pt_w) h
theorem w_and (h : Cm H (is k) (wT X a σ)) (h2 : k = true → Cm H (is k') (wW X (.BoolOp .And (b :: rest) pos) σ)) : Cm H (is (k && k')) (wW X (.BoolOp .And (a :: b :: rest) pos) σ) :=
  cw (pw_and pt_w pw_w) (cm1D (u := fun c Hc Q => if c = true then wW X (.BoolOp .And (b :: rest) pos) σ Hc Q else Q false Hc) h (by
    cases k with
    | true => exact h2 rfl
    | false => exact Cm.ret (fun _ _ _ q => q) (.const rfl)))
theorem w_or (h : Cm H (is k) (wT X a σ)) (h2 : k = false → Cm H (is k') (wW X (.BoolOp .Or (b :: rest) pos) σ)) : Cm H (is (k || k')) (wW X (.BoolOp .Or (a :: b :: rest) pos) σ) :=
  cw (pw_or pt_w pw_w) (cm1D (u := fun c Hc Q => if c = true then Q true Hc else wW X (.BoolOp .Or (b :: rest) pos) σ Hc Q) h (by
    cases k with
    | false => exact h2 rfl
    | true => exact Cm.ret (fun _ _ _ q => q) (.const rfl)))
theorem e_one {op} (h : Cm H P (wE X a σ)) : Cm H P (wE X (.BoolOp op [a] pos) σ) := ce (pe_one pe_w) h
theorem e_and (h : Cm H (is (V.bl k)) (wE X a σ)) (h2 : k = true → Cm H (is (V.bl k')) (wE X (.BoolOp .And (b :: rest) pos) σ)) : Cm H (is (V.bl (k && k'))) (wE X (.BoolOp .And (a :: b :: rest) pos) σ) :=
  ce (pe_and pe_w pe_w) (cm1D (u := fun v Hc Q => ∃ c, v = .bl c ∧ if c = true then wE X (.BoolOp .And (b :: rest) pos) σ Hc Q else Q (.bl false) Hc) h (by
    cases k with
    | true => exact fun Hc e Q q => ⟨true, rfl, h2 rfl Hc e Q q⟩
    | false => exact Cm.ret (fun _ _ _ q => ⟨false, rfl, q⟩) (.const rfl)))
theorem e_or (h : Cm H (is (V.bl k)) (wE X a σ)) (h2 : k = false → Cm H (is (V.bl k')) (wE X (.BoolOp .Or (b :: rest) pos) σ)) : Cm H (is (V.bl (k || k'))) (wE X (.BoolOp .Or (a :: b :: rest) pos) σ) :=
  ce (pe_or pe_w pe_w) (cm1D (u := fun v Hc Q => ∃ c, v = .bl c ∧ if c = true then Q (.bl true) Hc else wE X (.BoolOp .Or (b :: rest) pos) σ Hc Q) h (by
    cases k with
    | false => exact fun Hc e Q q => ⟨false, rfl, h2 rfl Hc e Q q⟩
    | true => exact Cm.ret (fun _ _ _ q => ⟨true, rfl, q⟩) (.const rfl)))
theorem e_not (h : Cm H (is (V.bl k)) (wE X a σ)) : Cm H (is (V.bl (!k))) (wE X (.UnaryOp .Not a pos) σ) := ce (pe_not pe_w) (cm1D (u := fun v Hc (Q : VK) => ∃ c, v = V.bl c ∧ Q (V.bl (!c)) Hc) h (Cm.ret (fun _ _ _ q => ⟨k, rfl, q⟩) (.const rfl)))
theorem e_if (h : Cm H (is k) (wT X c σ)) (h1 : k = true → Cm H P (wE X a σ)) (h2 : k = false → Cm H P (wE X b σ)) : Cm H P (wE X (.IfExp c a b pos) σ) :=
  ce (pe_ifExp pt_w pe_w pe_w) (cm1D (u := fun k Hc Q => if k = true then wE X a σ Hc Q else wE X b σ Hc Q) h (by
    cases k with
    | true => exact h1 rfl
    | false => exact h2 rfl))
theorem t_is {α : Type} {x y : α} {t : Hp → (α → Hp → Prop) → Prop} (h : Cm H (is x) t) (e : x = y) : Cm H (is y) t := by
  subst e
  exact h
/-! ### argument lists, displays -/
theorem a_nil : Cm H (is []) (wA X [] σ) := ca pa_nil (Cm.ret (fun _ _ _ q => q) (.const rfl))
theorem a_consD {es : List Expr} {vs : List V} (h : Cm H (is v) (wE X a σ)) (hr : Cm H (is vs) (wA X es σ)) (hs : starEach (a :: es) X.env = (false, eval a X.env) :: starEach es X.env := by rfl) : Cm H (is (v :: vs)) (wA X (a :: es) σ) :=
  ca (pa_cons pe_w pa_w hs) (cm2D (r := fun v vs Hc Q => Q (v :: vs) Hc) h hr (Cm.ret (fun _ _ _ q => q) (.const rfl)))
theorem a_cons {es : List Expr} {Pr : List V → Hp → Prop} (h : Cm H P (wE X a σ)) (hr : Cm H Pr (wA X es σ)) (hs : starEach (a :: es) X.env = (false, eval a X.env) :: starEach es X.env := by rfl) :
    Cm H (fun ws H' => ∃ u us, ws = u :: us ∧ P u H' ∧ Pr us H') (wA X (a :: es) σ) :=
  ca (pa_cons pe_w pa_w hs) (cm2 (r := fun v vs Hc Q => Q (v :: vs) Hc) h hr fun u us H2 e2 p1 p2 => Cm.ret (fun _ _ _ q => q) fun H' e' => ⟨u, us, rfl, p1 H' e', p2 H' e'⟩)
/-- a new object stands at p -/
theorem Cm.fresh {t : Hp → VK → Prop} {o : HO} (h : ∀ Hc, Ex H Hc → ∀ Q : VK, (∀ p, Hc p = none → Q (.ref p) (upd Hc p o)) → t Hc Q) (p : ∀ p, H p = none → Pz (upd H p o) (P (.ref p))) : Cm H P t := fun Hc e Q q =>
  h Hc e Q fun p0 hp => q (.ref p0) _ _ (Grow.new e hp) (p p0 (Evl.fresh_back e hp))
theorem e_lst {es : List Expr} {Pa : List V → Hp → Prop} (h : Cm H Pa (wA X es σ)) (hz : ∀ xs H1, Pa xs H1 → xs.length ≤ 100000) (k : ∀ xs p H1, Ex H H1 → Pz H1 (Pa xs) → H1 p = some (.lst xs) → Pz H1 (P (.ref p))) : Cm H P (wE X (.List es pos) σ) :=
  ce (pe_lst pa_w) (cm1 (u := fun (xs : List V) (H1 : Hp) (Q : VK) => xs.length ≤ sizeLine ∧ ∀ p, H1 p = none → Q (V.ref p) (upd H1 p (.lst xs))) h fun xs H1 e1 p1 => Cm.fresh (o := .lst xs) (fun Hc _ Q q => ⟨Evl.sz_of (hz xs H1 p1.now), q⟩) fun p hp => k xs p _ (e1.trans (Evl.Ex.new hp)) (p1.mono (Evl.Ex.new hp)) upd_same)
theorem e_tup {es : List Expr} {x1} {Pa : List V → Hp → Prop} (h : Cm H Pa (wA X es σ)) (hz : ∀ xs H1, Pa xs H1 → xs.length ≤ 100000) (k : ∀ xs p H1, Ex H H1 → Pz H1 (Pa xs) → H1 p = some (.tup xs) → Pz H1 (P (.ref p))) : Cm H P (wE X (.Tuple es x1 pos) σ) :=
  ce (pe_tup pa_w) (cm1 (u := fun (xs : List V) (H1 : Hp) (Q : VK) => xs.length ≤ sizeLine ∧ ∀ p, H1 p = none → Q (V.ref p) (upd H1 p (.tup xs))) h fun xs H1 e1 p1 => Cm.fresh (o := .tup xs) (fun Hc _ Q q => ⟨Evl.sz_of (hz xs H1 p1.now), q⟩) fun p hp => k xs p _ (e1.trans (Evl.Ex.new hp)) (p1.mono (Evl.Ex.new hp)) upd_same)
end
end LW
set_option Elab.async false
set_option linter.all false
set_option maxRecDepth 100000
set_option maxHeartbeats 2000000
namespace LW
open PySem L2

/-! ### owned objects -/
section
variable {H Hc H1 Hc1 : Hp} {l : Addr} {o : HO}
/-- an object of one's own, not known, is changed -/
theorem Grow.mut (g : Grow H Hc H1 Hc1) (h0 : Hc l = none) (h1 : H1 l = none) : Grow H Hc H1 (upd Hc1 l o) := ⟨g.k, g.s.mut h1, g.c.mut h0, g.f⟩
/-- .. is known from now on -/
theorem Grow.know (g : Grow H Hc H1 Hc1) (h0 : Hc l = none) (h1 : H1 l = none) (h : Hc1 l = some o) : Grow H Hc (upd H1 l o) Hc1 := by
  refine ⟨g.k.trans (Evl.Ex.new h1), fun a u e => ?_, g.c, fun a u e m n => ?_⟩
  · by_cases q : a = l
    · subst q; rw [upd_same] at e; cases e; exact h
    · rw [upd_ne q] at e; exact g.s a u e
  · by_cases q : a = l
    · subst q; rw [h0] at e; cases e
    · rw [upd_ne q]; exact g.f a u e m n
theorem Ex.free (e : Ex H H1) (h : H1 l = Option.none) : H l = Option.none := Evl.fresh_back e h
/-- it stays unknown -/
theorem Grow.un (g : Grow H Hc H1 Hc1) (h : Hc l = some o) (n : H l = Option.none) (m : Mut (some o) := by trivial) : H1 l = Option.none := g.f l o h m n
/-- a tuple that stands there is known from now on -/
theorem Grow.knowT {xs : List V} (g : Grow H Hc H1 Hc1) (h : Hc1 l = some (.tup xs)) : Grow H Hc (upd H1 l (.tup xs)) Hc1 := by
  refine ⟨fun a u e => ?_, fun a u e => ?_, g.c, fun a u e m n => ?_⟩ <;> by_cases q : a = l
  · subst q
    have z := (g.k.trans g.s) _ _ e
    rw [h] at z
    rw [upd_same]
    exact z
  · rw [upd_ne q]; exact g.k a u e
  · subst q; rw [upd_same] at e; cases e; exact h
  · rw [upd_ne q] at e; exact g.s a u e
  · subst q
    have z := g.c _ _ e
    rw [h] at z
    cases z
    exact m.elim
  · rw [upd_ne q]; exact g.f a u e m n
theorem Grow.knowTs {α : Type} {f : α → List V} (g : Grow H Hc H1 Hc1) : ∀ {kvs : List α} {bs : List Addr}, Paired (fun p b => Hc1 b = some (.tup (f p))) kvs bs → ∃ H3, Grow H Hc H3 Hc1 ∧ Ex H1 H3 ∧ Paired (fun p b => H3 b = some (.tup (f p))) kvs bs
  | _, _, .nil => ⟨H1, g, Evl.Ex.refl _, .nil⟩
  | _, _, .cons (a := p) (b := b) h r => by
    obtain ⟨H3, g3, e3, z⟩ := g.knowTs r
    have g4 := g3.knowT h
    have e4 : Ex H3 (upd H3 b (.tup (f p))) := fun a u q => by
      by_cases e : a = b
      · subst e
        have y := g3.s _ _ q
        rw [h] at y
        rw [upd_same]
        exact y
      · rw [upd_ne e]; exact q
    exact ⟨_, g4, e3.trans e4, .cons upd_same (L2.Paired.mapP z fun _ _ q => e4 _ _ q)⟩
end

/-! ### statements -/
section
variable {X : Cx} {σ : St} {H Hc : Hp} {P : V → Hp → Prop} {e c : Expr} {a b rest : List Stmt} {pos px : Pos} {D : Ends} {k : Bool} {v : V} {st : Stmt}
theorem b_nil (h : D.nx σ Hc) : wB X [] D σ Hc := w_b pss_nil h
theorem b_cons (h : wS X st { D with nx := wB X rest D } σ Hc) : wB X (st :: rest) D σ Hc := w_b (pss_cons ps_w pss_w) h
theorem b_pass (h : wB X rest D σ Hc) : wB X (.Pass pos :: rest) D σ Hc := b_cons (w_s ps_pass h)
theorem b_set (i : Nat) {n : Str} (ex : Ex H Hc) (he : Cm H P (wE X e σ)) (h : ∀ v Hn H2, Grow H Hc Hn H2 → Pz Hn (P v) → wB X rest D (σ.set i (some v)) H2)
    (hN : X.N.Nodup) (hi : X.N[i]? = some n := by rfl) (hx : Loc X.env.scope n := by exact Or.inl rfl) (hs : swapsWith e (some (.Name n px)) pos.line X.env = pure false := by rfl)
    (hf : X.fn n = true ∨ X.env.scope.names.lookup n = some .local := by first | exact .inl rfl | exact .inr rfl | assumption) : wB X (.Assign [.Name n px] e pos :: rest) D σ Hc :=
  b_cons (w_s (ps_set hN hi hx pe_w hs hf) (he Hc ex _ h))
theorem b_setD (i : Nat) {n : Str} (ex : Ex H Hc) (he : Cm H (is v) (wE X e σ)) (h : ∀ H2, Ex H H2 → Ex Hc H2 → (∀ Hn, Grow H Hc Hn H2 → True) → wB X rest D (σ.set i (some v)) H2)
    (hN : X.N.Nodup) (hi : X.N[i]? = some n := by rfl) (hx : Loc X.env.scope n := by exact Or.inl rfl) (hs : swapsWith e (some (.Name n px)) pos.line X.env = pure false := by rfl)
    (hf : X.fn n = true ∨ X.env.scope.names.lookup n = some .local := by first | exact .inl rfl | exact .inr rfl | assumption) : wB X (.Assign [.Name n px] e pos :: rest) D σ Hc :=
  b_set i ex he (fun w Hn H2 g p => by
    have q : w = v := p.now
    subst q
    exact h H2 (g.k.trans g.s) g.c fun _ _ => trivial) hN hi hx hs hf
theorem b_ret (ex : Ex H Hc) (he : Cm H P (wE X e σ)) (h : ∀ v Hn H2, Grow H Hc Hn H2 → Pz Hn (P v) → D.rt v H2) : wB X (.Return (some e) pos :: rest) D σ Hc :=
  b_cons (w_s (ps_ret pe_w) (he Hc ex _ h))
theorem b_expr (ex : Ex H Hc) (he : Cm H P (wE X e σ)) (h : ∀ v Hn H2, Grow H Hc Hn H2 → Pz Hn (P v) → wB X rest D σ H2) (hs : swapsWith e none pos.line X.env = pure false := by rfl) : wB X (.Expr e pos :: rest) D σ Hc :=
  b_cons (w_s (ps_expr pe_w hs) (he Hc ex _ h))
theorem b_if (ex : Ex H Hc) (hc : Cm H (is k) (wT X c σ)) (h1 : k = true → ∀ Hn H2, Grow H Hc Hn H2 → wB X a { D with nx := wB X rest D } σ H2) (h2 : k = false → ∀ Hn H2, Grow H Hc Hn H2 → wB X b { D with nx := wB X rest D } σ H2) :
    wB X (.If c a b pos :: rest) D σ Hc :=
  b_cons (w_s (ps_if pt_w pss_w pss_w) (hc Hc ex _ fun d Hn H2 g p => by
    have q : d = k := p.now
    subst q
    cases d with
    | true => exact h1 rfl Hn H2 g
    | false => exact h2 rfl Hn H2 g))
/-- the test is false: the body is not walked -/
theorem b_ifF (ex : Ex H Hc) (hc : Cm H (is false) (wT X c σ)) (h2 : ∀ Hn H2, Grow H Hc Hn H2 → wB X b { D with nx := wB X rest D } σ H2) : wB X (.If c a b pos :: rest) D σ Hc :=
  b_if ex hc (fun q => nomatch q) fun _ => h2
theorem b_ifT (ex : Ex H Hc) (hc : Cm H (is true) (wT X c σ)) (h1 : ∀ Hn H2, Grow H Hc Hn H2 → wB X a { D with nx := wB X rest D } σ H2) : wB X (.If c a b pos :: rest) D σ Hc :=
  b_if ex hc (fun _ => h1) fun q => nomatch q
end

/-! ### what is walked -/
structure Over (H : Hp) (J : It) (n : Nat) (Y : Nat → V → Hp → Prop) : Prop where
  go : ∀ i Hc, Ex H Hc → i < n → J.go i Hc
  stop : ∀ i Hc, Ex H Hc → n ≤ i → J.stop i Hc
  yld : ∀ i x Hc H', Ex H Hc → i < n → J.yld i Hc x H' → ∀ H1, Ex H H1 → Ex H1 Hc → ∃ Hn, Grow H1 Hc Hn H' ∧ Pz Hn (Y i x)
/-- iter gives n items, of the i-th of which Y i holds -/
def Ci (H : Hp) (n : Nat) (Y : Nat → V → Hp → Prop) (t : Hp → (It → Hp → Prop) → Prop) : Prop := ∀ Hc, Ex H Hc → ∀ R : It → Hp → Prop, (∀ J Hn H2, Grow H Hc Hn H2 → Over Hn J n Y → R J H2) → t Hc R
theorem over_list {K : PySem.W.Frag} {H : Hp} {a : Addr} {xs : List V} (h : Pz H (fun H' => SqL K H' a xs)) : Over H (Itl K a) xs.length (fun i x _ => xs[i]? = some x) where
  go := fun i Hc e hi => ⟨xs, xs[i], h Hc e, List.getElem?_eq_getElem hi⟩
  stop := fun i Hc e hi => ⟨xs, h Hc e, hi⟩
  yld := fun i x Hc H' e hi y H1 e1 e2 => by
    obtain ⟨rfl, z⟩ := y
    exact ⟨H1, Grow.refl e2, .const (z xs (h _ e))⟩
theorem over_tup {K : PySem.W.Frag} {H : Hp} {a : Addr} {xs : List V} (h : Pz H (fun H' => SqT K H' a xs)) : Over H (Itt K a) xs.length (fun i x _ => xs[i]? = some x) where
  go := fun i Hc e hi => ⟨xs, xs[i], h Hc e, List.getElem?_eq_getElem hi⟩
  stop := fun i Hc e hi => ⟨xs, h Hc e, hi⟩
  yld := fun i x Hc H' e hi y H1 e1 e2 => by
    obtain ⟨rfl, z⟩ := y
    exact ⟨H1, Grow.refl e2, .const (z xs (h _ e))⟩
theorem over_range {H : Hp} {lo : Int} {n : Nat} : Over H (Itr lo n) n (fun i x _ => x = .int (lo + i)) where
  go := fun i Hc e hi => hi
  stop := fun i Hc e hi => hi
  yld := fun i x Hc H' e hi y H1 e1 e2 => by
    obtain ⟨rfl, z⟩ := y
    exact ⟨H1, Grow.refl e2, .const z⟩
theorem over_enum {K : PySem.W.Frag} {H : Hp} {a : Addr} {xs : List V} (h : Pz H (fun H' => SqL K H' a xs)) : Over H (Ite K a) xs.length (fun i v H' => ∃ T x, v = .ref T ∧ H' T = some (.tup [.int i, x]) ∧ xs[i]? = some x) where
  go := fun i Hc e hi => ⟨xs, xs[i], h Hc e, List.getElem?_eq_getElem hi⟩
  stop := fun i Hc e hi => ⟨xs, h Hc e, hi⟩
  yld := fun i x Hc H' e hi y H1 e1 e2 => by
    obtain ⟨T, x', rfl, hT, rfl, z⟩ := y
    exact ⟨_, Grow.new e2 hT, fun H3 e3 => ⟨T, x', rfl, e3 _ _ upd_same, z xs (h _ e)⟩⟩
theorem over_zip {K : PySem.W.Frag} {H : Hp} {a b : Addr} {xs ys : List V} (h : Pz H (fun H' => SqL K H' a xs)) (h' : Pz H (fun H' => SqL K H' b ys)) :
    Over H (Itz K a b) (min xs.length ys.length) (fun i v H' => ∃ T x y, v = .ref T ∧ H' T = some (.tup [x, y]) ∧ xs[i]? = some x ∧ ys[i]? = some y) where
  go := fun i Hc e hi => ⟨xs, ys, xs[i]'(by omega), ys[i]'(by omega), h Hc e, h' Hc e, List.getElem?_eq_getElem (by omega), List.getElem?_eq_getElem (by omega)⟩
  stop := fun i Hc e hi => ⟨xs, ys, h Hc e, h' Hc e, by omega⟩
  yld := fun i x Hc H' e hi y H1 e1 e2 => by
    obtain ⟨T, x', y', rfl, hT, rfl, z, z'⟩ := y
    exact ⟨_, Grow.new e2 hT, fun H3 e3 => ⟨T, x', y', rfl, e3 _ _ upd_same, z xs (h _ e), z' ys (h' _ e)⟩⟩
section
variable {X : Cx} {σ : St} {H : Hp} {l l2 : Expr} {xs ys : List V}
/-- a list of xs -/
abbrev lst (K : PySem.W.Frag) (xs : List V) : V → Hp → Prop := fun v H => ∃ a, v = .ref a ∧ SqL K H a xs
abbrev tup (K : PySem.W.Frag) (xs : List V) : V → Hp → Prop := fun v H => ∃ a, v = .ref a ∧ SqT K H a xs
/-- for good: the address is one and the same -/
theorem pz_lst {K : PySem.W.Frag} {v : V} (h : Pz H (lst K xs v)) : ∃ a, v = .ref a ∧ Pz H (fun H' => SqL K H' a xs) := by
  obtain ⟨a, rfl, _⟩ := h.now
  exact ⟨a, rfl, fun H' e => by obtain ⟨b, q, z⟩ := h H' e; cases q; exact z⟩
theorem pz_tup {K : PySem.W.Frag} {v : V} (h : Pz H (tup K xs v)) : ∃ a, v = .ref a ∧ Pz H (fun H' => SqT K H' a xs) := by
  obtain ⟨a, rfl, _⟩ := h.now
  exact ⟨a, rfl, fun H' e => by obtain ⟨b, q, z⟩ := h H' e; cases q; exact z⟩
theorem i_list (h : Cm H (lst X.K xs) (wE X l σ)) : Ci H xs.length (fun i x _ => xs[i]? = some x) (iList X.K (wE X l) σ) := fun Hc e R r =>
  h Hc e _ fun v Hn H2 g p => by
    obtain ⟨a, rfl, z⟩ := pz_lst p
    exact ⟨a, rfl, ⟨xs, z _ g.s⟩, r _ Hn H2 g (over_list z)⟩
theorem i_tup (h : Cm H (tup X.K xs) (wE X l σ)) : Ci H xs.length (fun i x _ => xs[i]? = some x) (iTup X.K (wE X l) σ) := fun Hc e R r =>
  h Hc e _ fun v Hn H2 g p => by
    obtain ⟨a, rfl, z⟩ := pz_tup p
    exact ⟨a, rfl, ⟨xs, z _ g.s⟩, r _ Hn H2 g (over_tup z)⟩
theorem i_rng1 {es : List Expr} {n : Int} (h : Cm H (is [V.int n]) (wA X es σ)) (hb : n < 2 ^ 62) (hb' : -(2 ^ 62) ≤ n) : Ci H n.toNat (fun i x _ => x = .int (0 + i)) (iRng1 (wA X es) σ) := fun Hc e R r =>
  h Hc e _ fun v Hn H2 g p => ⟨n, p.now, hb', hb, r _ Hn H2 g over_range⟩
theorem i_rng2 {es : List Expr} {lo n : Int} (h : Cm H (is [V.int lo, V.int n]) (wA X es σ)) (hb : -(2 ^ 62) ≤ lo ∧ lo < 2 ^ 62 ∧ -(2 ^ 62) ≤ n ∧ n < 2 ^ 62) : Ci H (n - lo).toNat (fun i x _ => x = .int (lo + i)) (iRng2 (wA X es) σ) := fun Hc e R r =>
  h Hc e _ fun v Hn H2 g p => ⟨lo, n, p.now, hb, r _ Hn H2 g over_range⟩
theorem i_enum {es : List Expr} (h : Cm H (fun ws H' => ∃ a, ws = [V.ref a] ∧ SqL X.K H' a xs) (wA X es σ)) : Ci H xs.length (fun i v H' => ∃ T x, v = .ref T ∧ H' T = some (.tup [.int i, x]) ∧ xs[i]? = some x) (iEnum X.K (wA X es) σ) := fun Hc e R r =>
  h Hc e _ fun v Hn H2 g p => by
    obtain ⟨a, rfl, _⟩ := p.now
    have z : Pz Hn (fun H' => SqL X.K H' a xs) := fun H' e => by obtain ⟨b, q, z⟩ := p H' e; cases q; exact z
    exact ⟨a, xs, rfl, z _ g.s, r _ Hn H2 g (over_enum z)⟩
theorem i_zip {es : List Expr} (h : Cm H (fun ws H' => ∃ a b, ws = [V.ref a, V.ref b] ∧ SqL X.K H' a xs ∧ SqL X.K H' b ys) (wA X es σ)) :
    Ci H (min xs.length ys.length) (fun i v H' => ∃ T x y, v = .ref T ∧ H' T = some (.tup [x, y]) ∧ xs[i]? = some x ∧ ys[i]? = some y) (iZip X.K (wA X es) σ) := fun Hc e R r =>
  h Hc e _ fun v Hn H2 g p => by
    obtain ⟨a, b, rfl, _⟩ := p.now
    have z : Pz Hn (fun H' => SqL X.K H' a xs) := fun H' e => by obtain ⟨a', b', q, z, _⟩ := p H' e; cases q; exact z
    have z' : Pz Hn (fun H' => SqL X.K H' b ys) := fun H' e => by obtain ⟨a', b', q, _, z⟩ := p H' e; cases q; exact z
    exact ⟨a, b, xs, ys, rfl, z _ g.s, z' _ g.s, r _ Hn H2 g (over_zip z z')⟩
end

/-! ### for -/
/-- what is to be shown of a loop: J i σ H1 Hc1 holds ahead of the i-th turn -/
def Loop (X : Cx) (g : TG) (body rest : List Stmt) (D : Ends) (n : Nat) (Y : Nat → V → Hp → Prop) (σ : St) (H Hc : Hp) : Prop :=
  ∃ J : Nat → St → Hp → Hp → Prop, J 0 σ H Hc ∧
  (∀ i σ1 H1 Hc1, i < n → Ex H H1 → Ex H1 Hc1 → J i σ1 H1 Hc1 → ∀ x H2 Hc2, Grow H1 Hc1 H2 Hc2 → Pz H2 (Y i x) →
    g x σ1 Hc2 fun σ2 H3 => wB X body { D with nx := fun σ4 H4 => ∃ H5, Ex H H5 ∧ Ex H5 H4 ∧ J (i + 1) σ4 H5 H4, ct := fun σ4 H4 => ∃ H5, Ex H H5 ∧ Ex H5 H4 ∧ J (i + 1) σ4 H5 H4, bk := wB X rest D } σ2 H3) ∧
  (∀ σ1 H1 Hc1, Ex H H1 → Ex H1 Hc1 → J n σ1 H1 Hc1 → wB X rest D σ1 Hc1)
theorem b_for {X : Cx} {σ : St} {H Hc : Hp} {tg iter : Expr} {body rest : List Stmt} {pos : Pos} {D : Ends} {wi : TI} {g : TG} {n : Nat} {Y : Nat → V → Hp → Prop} (ex : Ex H Hc) (hp : PassesOwn (model X.prog X.w) X.A X.env X.xe) (hc : X.calm = true)
    (hi : PI X tg iter wi) (hci : Ci H n Y (wi σ)) (hg : PG X tg g) (h : ∀ Hn H2, Grow H Hc Hn H2 → Loop X g body rest D n Y σ Hn H2) (hf : ∀ x, foldedSetIterable iter X.env x = pure x := by intro x; rfl) :
    wB X (.For tg iter body [] pos :: rest) D σ Hc := by
  refine b_cons (w_s (ps_for hp hc hi hg pss_w hf) (hci Hc ex _ fun J Hn H2 g2 ov => ?_))
  obtain ⟨W, h0, hs, hd⟩ := h Hn H2 g2
  refine ⟨fun i m σ1 Hc1 => m = n - i ∧ i ≤ n ∧ ∃ H1, Ex Hn H1 ∧ Ex H1 Hc1 ∧ W i σ1 H1 Hc1, ⟨n, rfl, Nat.zero_le _, Hn, Evl.Ex.refl _, g2.s, h0⟩, ?_⟩
  rintro i m σ1 Hc1 ⟨rfl, hi, H1, e1, e2, w⟩
  rcases Nat.lt_or_ge i n with hlt | hge
  · refine .inr ⟨ov.go i Hc1 (e1.trans e2) hlt, fun σ3 H3 => ∃ H5, Ex Hn H5 ∧ Ex H5 H3 ∧ W (i + 1) σ3 H5 H3, ?_, ?_⟩
    · rintro σ3 H3 ⟨H5, a, b, c⟩
      exact ⟨n - (i + 1), by omega, rfl, hlt, H5, a, b, c⟩
    · intro x H' y
      obtain ⟨H3, g3, z⟩ := ov.yld i x Hc1 H' (e1.trans e2) hlt y H1 e1 e2
      exact hs i σ1 H1 Hc1 hlt e1 e2 w x H3 H' g3 z
  · have q : i = n := by omega
    subst q
    exact .inl ⟨ov.stop i Hc1 (e1.trans e2) (Nat.le_refl _), hd σ1 H1 Hc1 e1 e2 w⟩
end LW
set_option Elab.async false
set_option linter.all false
set_option maxRecDepth 100000
set_option maxHeartbeats 2000000
namespace LW
open PySem L2

/-- the target takes x: σ becomes σ' -/
def Bind (g : TG) (x : V) (σ : St) (H : Hp) (σ' : St) : Prop := ∀ Hc, Ex H Hc → ∀ R : St → Hp → Prop, R σ' Hc → g x σ Hc R
theorem bind_name {i : Nat} {x : V} {σ : St} {H : Hp} : Bind (gName i) x σ H (σ.set i (some x)) := fun _ _ _ r => r
theorem bind_two {K : PySem.W.Frag} {i j : Nat} {T : Addr} {x y : V} {σ : St} {H : Hp} (h : Pz H (fun H' => SqT K H' T [x, y])) : Bind (gTup K 2 (gCons (gName i) (gCons (gName j) gNil))) (.ref T) σ H ((σ.set i (some x)).set j (some y)) :=
  fun Hc e R r => ⟨T, [x, y], rfl, h Hc e, rfl, x, [y], rfl, y, [], rfl, rfl, r⟩
theorem bind_three {K : PySem.W.Frag} {i j k : Nat} {T : Addr} {x y z : V} {σ : St} {H : Hp} (h : Pz H (fun H' => SqT K H' T [x, y, z])) : Bind (gTup K 3 (gCons (gName i) (gCons (gName j) (gCons (gName k) gNil)))) (.ref T) σ H (((σ.set i (some x)).set j (some y)).set k (some z)) :=
  fun Hc e R r => ⟨T, [x, y, z], rfl, h Hc e, rfl, x, [y, z], rfl, y, [z], rfl, z, [], rfl, rfl, r⟩
theorem Pz.tupT {K : PySem.W.Frag} {H : Hp} {T : Addr} {xs : List V} (h : Pz H (fun H' => H' T = some (.tup xs))) : Pz H (fun H' => SqT K H' T xs) := fun H' e => SqT.of (h H' e)

section
variable {X : Cx}
/-- the element's reading, in whatever frame the block runs -/
def wEb (X : Cx) (scope : Scope) (e : Expr) (σ : St) (H : Hp) (Q : VK) : Prop := ∀ (s : Shared) (H0 : Hp) (C : Addr) (cl : List (Str × Addr)) (fp : List Addr), wE (X.blk s H0 scope (compEnvC scope cl C X.env) fp) e σ H Q
def wTb (X : Cx) (scope : Scope) (e : Expr) (σ : St) (H : Hp) (Q : Bool → Hp → Prop) : Prop := ∀ (s : Shared) (H0 : Hp) (C : Addr) (cl : List (Str × Addr)) (fp : List Addr), wT (X.blk s H0 scope (compEnvC scope cl C X.env) fp) e σ H Q
theorem pe_b {scope : Scope} {e : Expr} (s : Shared) (H : Hp) (C : Addr) (cl : List (Str × Addr)) (fp : List Addr) : PE (X.blk s H scope (compEnvC scope cl C X.env) fp) e (wEb X scope e) := ⟨fun pins s' _ _ _ I h => h s H C cl fp pins s' I⟩
theorem pt_b {scope : Scope} {e : Expr} (s : Shared) (H : Hp) (C : Addr) (cl : List (Str × Addr)) (fp : List Addr) : PT (X.blk s H scope (compEnvC scope cl C X.env) fp) e (wTb X scope e) := ⟨fun pins s' _ _ _ I h => h s H C cl fp pins s' I⟩
theorem c_eb {scope : Scope} {e : Expr} {σ : St} {H : Hp} {P : V → Hp → Prop} (h : ∀ (s : Shared) (H0 : Hp) (C : Addr) (cl : List (Str × Addr)) (fp : List Addr), Cm H P (wE (X.blk s H0 scope (compEnvC scope cl C X.env) fp) e σ)) : Cm H P (wEb X scope e σ) :=
  fun Hc e Q q s H0 C cl fp => h s H0 C cl fp Hc e Q q
theorem c_tb {scope : Scope} {e : Expr} {σ : St} {H : Hp} {P : Bool → Hp → Prop} (h : ∀ (s : Shared) (H0 : Hp) (C : Addr) (cl : List (Str × Addr)) (fp : List Addr), Cm H P (wT (X.blk s H0 scope (compEnvC scope cl C X.env) fp) e σ)) : Cm H P (wTb X scope e σ) :=
  fun Hc e Q q s H0 C cl fp => h s H0 C cl fp Hc e Q q
theorem c_yes {σ : St} {H : Hp} : Cm H (is true) (tYes σ) := Cm.ret (fun _ _ _ q => q) (.const rfl)

/-- one turn of a comprehension -/
def LcTurn (g : TG) (tt : TT) (te : TE) (vs : List Nat) (σ : St) (A : List V → Hp → Prop) (A0 : Hp → Prop) (x : V) (H : Hp) : Prop :=
  ∃ (σ' : St) (k : Bool), Bind g x (wipe σ vs) H σ' ∧ wipe σ' vs = wipe σ vs ∧ Cm H (is k) (tt σ') ∧ (k = true → Cm H (fun y H' => A [y] H') (te σ')) ∧ (k = false → Pz H A0)
theorem c_lc {wi : TI} {g : TG} {tt : TT} {te : TE} {vs : List Nat} {σ : St} {H : Hp} {n : Nat} {Y : Nat → V → Hp → Prop} {P : V → Hp → Prop} (hci : Ci H n Y (wi σ)) (hn : n ≤ 100000) (A : Nat → List V → Hp → Prop) (h0 : ∀ H', A 0 [] H')
    (hs : ∀ i x acc H1, i < n → Ex H H1 → Pz H1 (Y i x) → Pz H1 (A i acc) → LcTurn g tt te vs σ (fun ys => A (i + 1) (acc ++ ys)) (A (i + 1) acc) x H1)
    (hd : ∀ acc p H1, Ex H H1 → Pz H1 (A n acc) → H1 p = some (.lst acc) → Pz H1 (P (.ref p))) : Cm H P (tLc wi g tt te vs σ) := by
  intro Hc e Q q
  refine hci Hc e _ fun J Hn H2 g2 ov => fun Dl hD => ?_
  have hcD : Hc Dl = none := Evl.fresh_back g2.c hD
  refine ⟨fun i m Hc1 => m = n - i ∧ i ≤ n ∧ ∃ H1 acc, Ex Hn H1 ∧ Grow H Hc H1 Hc1 ∧ H1 Dl = none ∧ Hc1 Dl = some (.lst acc) ∧ acc.length ≤ i ∧ Pz H1 (A i acc), ⟨n, rfl, Nat.zero_le _, Hn, [], Evl.Ex.refl _, g2.mut hcD (Evl.fresh_back g2.s hD), Evl.fresh_back g2.s hD, upd_same, Nat.le_refl _, fun H' _ => h0 H'⟩, ?_⟩
  rintro i m Hc1 ⟨rfl, hi, H1, acc, e1, g1, hD1, hl, hlen, pa⟩
  rcases Nat.lt_or_ge i n with hlt | hge
  · refine .inr ⟨ov.go i Hc1 (e1.trans g1.s) hlt, fun Hc3 => ∃ H3 acc', Ex Hn H3 ∧ Grow H Hc H3 Hc3 ∧ H3 Dl = none ∧ Hc3 Dl = some (.lst acc') ∧ acc'.length ≤ i + 1 ∧ Pz H3 (A (i + 1) acc'), ?_, ?_⟩
    · rintro H3 ⟨H5, acc', a, b, c, d, f, h⟩
      exact ⟨n - (i + 1), by omega, rfl, hlt, H5, acc', a, b, c, d, f, h⟩
    · intro x H' y
      obtain ⟨H3, g3, z⟩ := ov.yld i x Hc1 H' (e1.trans g1.s) hlt y H1 e1 g1.s
      obtain ⟨σ', k, Tbd, Twp, Tt, Ty, Tn⟩ := hs i x acc H3 hlt ((g1.trans g3).k) z (pa.mono g3.k)
      refine Tbd H' g3.s _ ⟨Twp, Tt H' g3.s _ fun b H4 Hc4 g4 pb => ?_⟩
      have hb : b = k := pb.now
      have hD3 : H3 Dl = none := g3.un hl hD1
      have hl3 := g3.c _ _ hl
      have hD4 : H4 Dl = none := g4.un hl3 hD3
      have hl4 := g4.c _ _ hl3
      subst hb
      cases hk : b with
      | true =>
        show te σ' Hc4 _
        refine (Ty hk).mono g4.k Hc4 g4.s _ fun y H5 Hc5 g5 py => ?_
        have hl5 := g5.c _ _ hl4
        have hD5 : H5 Dl = none := g5.un hl4 hD4
        refine ⟨acc, hl5, Evl.sz_lt (by omega), H5, acc ++ [y], e1.trans ((g3.trans (g4.trans g5)).k), (g1.trans (g3.trans (g4.trans g5))).mut hcD hD5, hD5, upd_same, ?_, py⟩
        rw [List.length_append, List.length_singleton]; omega
      | false =>
        show ∃ H3 acc', _
        exact ⟨H4, acc, e1.trans ((g3.trans g4).k), g1.trans (g3.trans g4), hD4, hl4, by omega, (Tn hk).mono g4.k⟩
  · have qe : i = n := by omega
    subst qe
    refine .inl ⟨ov.stop i Hc1 (e1.trans g1.s) (Nat.le_refl _), ?_⟩
    refine q (.ref Dl) (upd H1 Dl (.lst acc)) Hc1 (g1.know hcD hD1 hl) (hd acc Dl _ (g1.k.trans (Evl.Ex.new hD1)) (pa.mono (Evl.Ex.new hD1)) upd_same)
theorem e_lc {elt tg iter : Expr} {ifs : List Expr} {scope : Scope} {own : List (Str × Nat)} {pos : Pos} {wi : TI} {g : TG} {tt : TT} {σ : St} {H : Hp} {P : V → Hp → Prop} (hc : X.calm = true) (hN : X.N.Nodup) (hi : PI X tg iter wi) (ok : BlkOk X.N X.env.scope scope own)
    (hg : ∀ (s : Shared) (H : Hp) (C : Addr) (cl : List (Str × Addr)) (fp : List Addr), PG (X.blk s H scope (compEnvC scope cl C X.env) fp) tg g)
    (ht : ∀ (s : Shared) (H : Hp) (C : Addr) (cl : List (Str × Addr)) (fp : List Addr), PTs (X.blk s H scope (compEnvC scope cl C X.env) fp) ifs tt) (h : Cm H P (tLc wi g tt (wEb X scope elt) (own.map (·.2)) σ))
    (hf : ∀ x, foldedSetIterable iter X.env x = pure x := by intro x; rfl) : Cm H P (wE X (.ListComp elt [⟨tg, iter, ifs, 0⟩] scope pos) σ) := ce (pe_lc hc hN hi ok hg ht pe_b hf) h
/-- y = [e for x in xs]: a statement of its own -/
theorem b_setLc (i : Nat) {y : Str} {py : Pos} {elt tg iter : Expr} {ifs : List Expr} {scope : Scope} {own : List (Str × Nat)} {pos spos : Pos} {wi : TI} {g : TG} {tt : TT} {σ : St} {H Hc : Hp} {P : V → Hp → Prop} {rest : List Stmt} {D : Ends} (ex : Ex H Hc) (hc : X.calm = true) (hN : X.N.Nodup)
    (hi' : X.N[i]? = some y) (hk : X.env.scope.names.lookup y = some .local) (hsw : swapsWith (.ListComp elt [⟨tg, iter, ifs, 0⟩] scope pos) (some (.Name y py)) spos.line X.env = pure true) (hi : PI X tg iter wi) (ok : BlkOk X.N X.env.scope scope own)
    (hg : ∀ (s : Shared) (H : Hp) (C : Addr) (cl : List (Str × Addr)) (fp : List Addr), PG (X.blk s H scope (compEnvC scope cl C X.env) fp) tg g)
    (ht : ∀ (s : Shared) (H : Hp) (C : Addr) (cl : List (Str × Addr)) (fp : List Addr), PTs (X.blk s H scope (compEnvC scope cl C X.env) fp) ifs tt) (h : Cm H P (tLc wi g tt (wEb X scope elt) (own.map (·.2)) σ))
    (k : ∀ v Hn H2, Grow H Hc Hn H2 → Pz Hn (P v) → wB X rest D (σ.set i (some v)) H2)
    (hf : ∀ x, foldedSetIterable iter X.env x = pure x := by intro x; rfl) : wB X (.Assign [.Name y py] (.ListComp elt [⟨tg, iter, ifs, 0⟩] scope pos) spos :: rest) D σ Hc :=
  b_cons (w_s (ps_setLc hc hN hi' hk hsw hi ok hg ht pe_b hf) (h Hc ex _ k))
/-- one turn of a dict comprehension -/
def DcTurn (g : TG) (tt : TT) (tk tv : TE) (vs : List Nat) (σ : St) (key : Key) (A : V → Hp → Prop) (x : V) (H : Hp) : Prop :=
  ∃ σ' : St, Bind g x (wipe σ vs) H σ' ∧ wipe σ' vs = wipe σ vs ∧ Cm H (is true) (tt σ') ∧ Cm H (is (kV key)) (tk σ') ∧ Cm H (fun y H' => A y H') (tv σ')
theorem c_dc {wi : TI} {g : TG} {tt : TT} {tk tv : TE} {vs : List Nat} {σ : St} {H : Hp} {n : Nat} {Y : Nat → V → Hp → Prop} {P : V → Hp → Prop} (hci : Ci H n Y (wi σ)) (hn : n ≤ 100000) (key : Nat → Key) (A : Nat → List (Key × V) → Hp → Prop) (h0 : ∀ H', A 0 [] H')
    (hs : ∀ i x acc H1, i < n → Ex H H1 → Pz H1 (Y i x) → Pz H1 (A i acc) → DcTurn g tt tk tv vs σ (key i) (fun y => A (i + 1) (putK acc (key i) y)) x H1)
    (hl : ∀ i acc H1, Ex H H1 → Pz H1 (A i acc) → acc.length ≤ i)
    (hd : ∀ acc p H1, Ex H H1 → Pz H1 (A n acc) → H1 p = some (.dK acc) → Pz H1 (P (.ref p))) : Cm H P (tDc wi g tt tk tv vs σ) := by
  intro Hc e Q q
  refine hci Hc e _ fun J Hn H2 g2 ov => fun Dl hD => ?_
  have hcD : Hc Dl = none := Evl.fresh_back g2.c hD
  refine ⟨fun i m Hc1 => m = n - i ∧ i ≤ n ∧ ∃ H1 acc, Ex Hn H1 ∧ Grow H Hc H1 Hc1 ∧ H1 Dl = none ∧ Hc1 Dl = some (.dK acc) ∧ Pz H1 (A i acc), ⟨n, rfl, Nat.zero_le _, Hn, [], Evl.Ex.refl _, g2.mut hcD (Evl.fresh_back g2.s hD), Evl.fresh_back g2.s hD, upd_same, fun H' _ => h0 H'⟩, ?_⟩
  rintro i m Hc1 ⟨rfl, hi, H1, acc, e1, g1, hD1, hl1, pa⟩
  rcases Nat.lt_or_ge i n with hlt | hge
  · refine .inr ⟨ov.go i Hc1 (e1.trans g1.s) hlt, fun Hc3 => ∃ H3 acc', Ex Hn H3 ∧ Grow H Hc H3 Hc3 ∧ H3 Dl = none ∧ Hc3 Dl = some (.dK acc') ∧ Pz H3 (A (i + 1) acc'), ?_, ?_⟩
    · rintro H3 ⟨H5, acc', a, b, c, d, h⟩
      exact ⟨n - (i + 1), by omega, rfl, hlt, H5, acc', a, b, c, d, h⟩
    · intro x H' y
      obtain ⟨H3, g3, z⟩ := ov.yld i x Hc1 H' (e1.trans g1.s) hlt y H1 e1 g1.s
      obtain ⟨σ', Tbd, Twp, Tt, Tke, Ty⟩ := hs i x acc H3 hlt ((g1.trans g3).k) z (pa.mono g3.k)
      refine Tbd H' g3.s _ ⟨Twp, Tt H' g3.s _ fun b H4 Hc4 g4 pb => ?_⟩
      have hb : b = true := pb.now
      subst hb
      have hD3 : H3 Dl = none := g3.un hl1 hD1
      have hl3 := g3.c _ _ hl1
      have hD4 : H4 Dl = none := g4.un hl3 hD3
      have hl4 := g4.c _ _ hl3
      show tk σ' Hc4 _
      refine Tke.mono g4.k Hc4 g4.s _ fun kv H5 Hc5 g5 pk => ?_
      have hk : kv = kV (key i) := pk.now
      subst hk
      have hl5 := g5.c _ _ hl4
      have hD5 : H5 Dl = none := g5.un hl4 hD4
      refine Ty.mono (g4.trans g5).k Hc5 g5.s _ fun y H6 Hc6 g6 py => ?_
      have hl6 := g6.c _ _ hl5
      have hD6 : H6 Dl = none := g6.un hl5 hD5
      have hlen := hl i acc H1 g1.k pa
      exact ⟨acc, key i, rfl, hl6, Evl.sz_lt (by omega), H6, _, e1.trans ((g3.trans (g4.trans (g5.trans g6))).k), (g1.trans (g3.trans (g4.trans (g5.trans g6)))).mut hcD hD6, hD6, upd_same, py⟩
  · have qe : i = n := by omega
    subst qe
    refine .inl ⟨ov.stop i Hc1 (e1.trans g1.s) (Nat.le_refl _), ?_⟩
    refine q (.ref Dl) (upd H1 Dl (.dK acc)) Hc1 (g1.know hcD hD1 hl1) (hd acc Dl _ (g1.k.trans (Evl.Ex.new hD1)) (pa.mono (Evl.Ex.new hD1)) upd_same)
end
end LW
set_option Elab.async false
set_option linter.all false
set_option maxRecDepth 100000
set_option maxHeartbeats 2000000
namespace LW
open PySem L2
section
variable {X : Cx} {CX : CXT} {pins : List (Addr × Obj)} {σ : St} {H : Hp} {s : Shared} {C a p f g : Addr} {n k : Nat} {sp : Sp} {E : XK} {mc : Value} {m : Str}

/-- C.m is a staticmethod: its record at p, its def at g -/
structure SMet (K : PySem.W.Frag) (C : Addr) (mc : Value) (m : Str) (p g : Addr) : Prop where
  at_ : PySem.W.findCls K (.ref C) mc m = some (.get (.builtin "staticmethod.__get__") (.ref p) .none (.ref C))
  rc : ∃ rest, PySem.W.recIn K p "staticmethod" = some (.ref g :: rest)
  kp : PySem.W.keepIn K (.ref g) = true
theorem pe_smeth {o e : Expr} {es : List Expr} {pos apos : Pos} {ta : TE} {t : TA} {pl : Sem Bool} (he : PE X o ta) (r : ClX.CRead X.K C mc) (c : SMet X.K C mc m p g) (F : FnR X.prog X.w X.K X.mg X.base CX k g sp) (hr : Room k X.A) (hx : Passes CX X E) (ha : PA X (e :: es) t)
    (hst : starEach (e :: es) X.env = (false, eval e X.env) :: starEach es X.env := by rfl) (hpl : (backTo pos (starEach es X.env)).any (·.1) = false := by rfl)
    (ht : eval (.Call (.Attribute o m apos) (e :: es) [] pos) X.env = (eval o X.env >>= fun ov => standAt apos.atName >>= fun _ => holding [ov] (getMethod ov m pl) >>= fun fx =>
      callWith pos fx.1 fx.2 (backTo pos (starEach (e :: es) X.env)) (backToKw pos (keywordEach [] X.env))) := by rfl) :
    PE X (.Call (.Attribute o m apos) (e :: es) [] pos) (fun σ H Q => ta σ H fun x H1 => x = .ref C ∧ t σ H1 fun vs H2 => sp vs H2 Q E) := by
  refine ⟨fun pins s σ H Q I h => ?_⟩
  refine PySem.W.methodCall_KW (pl := pl) (thn (he.run pins s σ H _ I h) fun u s1 ⟨x, H1, I1, rx, ex, q⟩ => ?_) ht
  subst ex
  cases (show u = Value.ref C from rx)
  obtain ⟨rest, hp⟩ := c.rc
  refine PySem.W.method_cls I1.kIn r.ga (PySem.W.cls_bind I1.kIn r.rd c.at_ (wpAny_call (PySem.W.sm_get (s := { s1 with toks := s1.toks + 1 }) I1.kIn hp (PySem.W.handed_on rfl ?_))))
  refine PySem.W.callWith_K (h₀ := X.base) I1.ok.mod.kin c.kp (thn (ha.run pos pins _ σ H1 _ (I1.tok _) q) fun us s3 ⟨vs, H2, I3, rv, q2⟩ => ⟨I3.kIn, ?_⟩) hst hpl
  exact wpAny_call (run_fnR F hr hx I3 rv q2)
/-- a call of what a local name holds: a class of one's own -/
theorem pe_makeL {i : Nat} {x : Str} {pn pos : Pos} {e : Expr} {es : List Expr} {t : TA} (M : Mk X.K C f) (F : FnR X.prog X.w X.K X.mg X.base CX k f sp) (hr : Room (k + 1) X.A) (hN : X.N[i]? = some x) (hv : Vis X.env.scope x) (hx : Passes CX X E) (ha : PA X (e :: es) t)
    (hdb : (x == ("__debug__" : Str)) = false := by decide) (hcd : (x == ("__classdict__" : Str)) = false := by decide)
    (he : starEach (e :: es) X.env = (false, eval e X.env) :: starEach es X.env := by rfl) (hpl : (backTo pos (starEach es X.env)).any (·.1) = false := by rfl) :
    PE X (.Call (.Name x pn) (e :: es) [] pos) (fun σ H Q => σ[i]? = some (some (.ref C)) ∧ StX.tMakeR C sp E t σ H Q) := by
  refine ⟨fun pins s σ H Q I h => ?_⟩
  obtain ⟨hs, ht⟩ := h
  refine wpAny_Call_Name_kw (thn ((pe_var (pos := pn) hN hv hdb hcd).run pins s σ H (fun v H1 => v = .ref C ∧ H1 = H) I ⟨.ref C, hs, rfl, rfl⟩) fun u s1 ⟨v, H1, I1, r1, q1⟩ => ?_)
  obtain ⟨rfl, rfl⟩ := q1
  cases r1
  refine PySem.W.callWith_K (h₀ := X.base) I1.ok.mod.kin M.kp (thn (ha.run pos pins s1 σ _ _ I1 ht) fun us s2 ⟨vs, H2, I2, r, q⟩ => ⟨I2.kIn, ?_⟩) he hpl
  exact StX.run_makeR M F hr hx I2 r q

/-- a call of a def by a promise over its positional arguments -/
theorem pe_callR {x : Str} {pn pos : Pos} {e : Expr} {es : List Expr} {t : TA} (F : FnR X.prog X.w X.K X.mg X.base CX k f sp) (hr : Room k X.A) (hk : PySem.W.keepIn X.K (.ref f) = true) (hg : Gl X x) (hm : X.mg x = some (.ref f)) (hx : Passes CX X E) (ha : PA X (e :: es) t)
    (hdb : (x == ("__debug__" : Str)) = false := by decide)
    (he : starEach (e :: es) X.env = (false, eval e X.env) :: starEach es X.env := by rfl) (hpl : (backTo pos (starEach es X.env)).any (·.1) = false := by rfl) :
    PE X (.Call (.Name x pn) (e :: es) [] pos) (fun σ H Q => t σ H fun vs H1 => sp vs H1 Q E) := by
  refine ⟨fun pins s σ H Q I h => ?_⟩
  refine wpAny_Call_Name_kw (ld_glob I hg hm ?_ hdb)
  refine PySem.W.callWith_K (h₀ := X.base) I.ok.mod.kin hk (thn (ha.run pos pins s σ H _ I h) fun us s2 ⟨vs, H2, I2, r, q⟩ => ⟨I2.kIn, ?_⟩) he hpl
  exact wpAny_call (run_fnR F hr hx I2 r q)

/-! ### operators that a class of one's own defines -/
/-- an instance at a -/
theorem inst_at {dx : Addr} {fs : List (Str × V)} (I : Inv X pins σ H s) (h : H a = some (.ins C dx fs)) : ∃ ox od, PySem.W.InstAt s.heap a ox C od := by
  obtain ⟨mA, O, _, _, _, _⟩ := ins_get I.hok h
  obtain ⟨od, J, _⟩ := O.look
  exact ⟨_, _, J⟩
theorem cmp_back {Q : VK} {v : Value} {s' : Shared} (h : EP X pins σ Q v s') : PySem.W.CmpBack (EP X pins σ Q) v s' := by
  obtain ⟨x, H', I, r, q⟩ := h
  have z : EP X pins σ Q v s' := ⟨x, H', I, r, q⟩
  cases v with
  | notImplemented =>
    cases x with
    | int i => obtain ⟨t, e⟩ := r; cases e
    | str i => obtain ⟨t, e⟩ := r; cases e
    | byt i => obtain ⟨t, e⟩ := r; cases e
    | flt i => obtain ⟨t, e⟩ := r; cases e
    | non => cases r
    | bl b => cases r
    | ref b => cases r
    | ty b => cases r
  | _ => exact z
/-- a reading of the operator's method at two values -/
def rOwn (C : Addr) (sp : Sp) (E : XK) : R2 := fun x y H Q => ∃ a dx fs, x = .ref a ∧ H a = some (.ins C dx fs) ∧ sp [x, y] H Q E
/-- x in o, x not in o -/
def rOwnIn (neg : Bool) (C : Addr) (sp : Sp) (E : XK) : R2 := fun x y H Q => ∃ a dx fs, y = .ref a ∧ H a = some (.ins C dx fs) ∧ sp [y, x] H (fun v H' => ∃ k, v = .bl k ∧ Q (.bl (if neg then !k else k)) H') E
structure HasOp (K : PySem.W.Frag) (C : Addr) (m : Str) (f : Addr) : Prop where
  at_ : PySem.W.findIn K (.ref C) m = some (some (.ref f))
  fn : PySem.W.isFn K (.ref f) = true
theorem op_ownIn (c : HasOp X.K C "__contains__" f) (F : FnR X.prog X.w X.K X.mg X.base CX k f sp) (hr : Room k X.A) (hx : Passes CX X E) : OpR X (compareOp .In) (rOwnIn false C sp E) := by
  intro pins s σ H x y u v Q I rx ry h
  obtain ⟨a, dx, fs, rfl, ha, q⟩ := h
  cases (show v = Value.ref a from ry)
  obtain ⟨ox, od, J⟩ := inst_at I ha
  obtain ⟨mm, Fr⟩ := I.fr
  refine PySem.W.in_K Fr I.ok.mod.kin J c.at_ c.fn (thn (wpAny_call (run_fnR (vs := [.ref a, x]) F hr hx I (.cons (show RelV (.ref a) (.ref a) from rfl) (.cons rx .nil)) q)) fun w s' ⟨z, H', I', rz, kk, ez, qz⟩ => ?_)
  subst ez
  cases rz
  exact wpAny_truthy_bool ⟨.bl kk, H', I', rfl, qz⟩
theorem op_ownNotIn (c : HasOp X.K C "__contains__" f) (F : FnR X.prog X.w X.K X.mg X.base CX k f sp) (hr : Room k X.A) (hx : Passes CX X E) : OpR X (compareOp .NotIn) (rOwnIn true C sp E) := by
  intro pins s σ H x y u v Q I rx ry h
  obtain ⟨a, dx, fs, rfl, ha, q⟩ := h
  cases (show v = Value.ref a from ry)
  obtain ⟨ox, od, J⟩ := inst_at I ha
  obtain ⟨mm, Fr⟩ := I.fr
  refine PySem.W.notIn_K Fr I.ok.mod.kin J c.at_ c.fn (thn (wpAny_call (run_fnR (vs := [.ref a, x]) F hr hx I (.cons (show RelV (.ref a) (.ref a) from rfl) (.cons rx .nil)) q)) fun w s' ⟨z, H', I', rz, kk, ez, qz⟩ => ?_)
  subst ez
  cases rz
  exact wpAny_truthy_bool ⟨.bl (!kk), H', I', rfl, qz⟩
/-- o == y, y an instance of the same class -/
def rOwnEq (neg : Bool) (C : Addr) (sp : Sp) (E : XK) : R2 := fun x y H Q => ∃ a dx fs b dy gs, x = .ref a ∧ H a = some (.ins C dx fs) ∧ y = .ref b ∧ H b = some (.ins C dy gs) ∧ sp [x, y] H (fun v H' => ∃ k, v = .bl k ∧ Q (.bl (if neg then !k else k)) H') E
theorem op_ownEq (c : HasOp X.K C "__eq__" f) (F : FnR X.prog X.w X.K X.mg X.base CX k f sp) (hr : Room k X.A) (hx : Passes CX X E) : OpR X (compareOp .Eq) (rOwnEq false C sp E) := by
  intro pins s σ H x y u v Q I rx ry h
  obtain ⟨a, dx, fs, b, dy, gs, rfl, ha, rfl, hb, q⟩ := h
  cases (show u = Value.ref a from rx)
  cases (show v = Value.ref b from ry)
  obtain ⟨ox, od, J⟩ := inst_at I ha
  obtain ⟨oy, ody, J2⟩ := inst_at I hb
  obtain ⟨mm, Fr⟩ := I.fr
  refine PySem.W.cmp_K (op := .Eq) hr.units0 Fr I.ok.mod.kin J J2.type (by unfold PySem.W.notFirst; simp) c.at_ c.fn (thn (wpAny_call (run_fnR (vs := [.ref a, .ref b]) F hr hx I (.cons (show RelV (.ref a) (.ref a) from rfl) (.cons (show RelV (.ref b) (.ref b) from rfl) .nil)) q)) fun w s' ⟨z, H', I', rz, kk, ez, qz⟩ => ?_)
  subst ez
  exact cmp_back ⟨.bl kk, H', I', rz, qz⟩
/-! ### o != y by the class's __eq__ -/
structure NeBy (K : PySem.W.Frag) (C : Addr) : Prop where
  ne : PySem.W.findIn K (.ref C) "__ne__" = some (some (.builtin "object.__ne__"))
  ob : PySem.W.subIn K (.ref C) (.type "object") = some true
theorem ne_slot {M : Model} {A : Around} {E : Value → Shared → Prop} {ox : Obj} {od : Option Obj} {K : PySem.W.Frag} {x : Addr} {b : Value} {Q : Option Value → Shared → Prop} (KI : K.In s.heap) (J : PySem.W.InstAt s.heap x ox C od) (c : NeBy K C)
    (h : wpAny M A (call (.builtin "object.__ne__") [.ref x, b]) (fun v => Q (some v)) E s) : wpAny M A (callSpecialIfBound? (.ref x) "__ne__" [b]) Q E s := by
  unfold callSpecialIfBound? bindSpecialIfBound?
  refine wpAny_holding (wpAny_bind (wpAny_bind (wpAny_bind (J.type.here ((PySem.W.looks_findIn KI c.ne).here ?_)))))
  simp only [F.cmp_object.ne.bind]
  refine wpAny_bind (wpAny_askSetting (wpAny_ite ?_))
  have z : wpAny M A (call (.builtin "object.__ne__") ([.ref x] ++ [b]) >>= fun v => pure (some v)) Q E s := wpAny_bind (thn h fun v s' q => wpAny_pure q)
  split
  · exact wpAny_bind (wpAny_pure (wpAny_pure z))
  · exact wpAny_tryCatch (wpAny_bind (wpAny_pure (wpAny_pure z)))
theorem ne_check {M : Model} {A : Around} {E : Value → Shared → Prop} {ox : Obj} {od : Option Obj} {K : PySem.W.Frag} {x : Addr} {b : Value} {Q : Unit → Shared → Prop} (KI : K.In s.heap) (J : PySem.W.InstAt s.heap x ox C od) (c : NeBy K C) (q : Q () s) :
    wpAny M A (checkBuiltinCall "object.__ne__" ⟨[.ref x, b], []⟩) Q E s := by
  simp only [checkBuiltinCall, F.cmpKind_ne, F.cmpSplit_ne]
  refine wpAny_bind ?_
  unfold isInstance
  refine wpAny_bind (J.type.here ((PySem.W.looks_subIn KI c.ob).here ?_))
  have ha := F.cmpArgs_ne (.ref x) b
  cases hsig : Manifest.signature? "object.__ne__" with
  | none => exact wpAny_pure q
  | some sig =>
    simp only [argsOk, hsig] at ha
    show wpAny M A (PySem.Bind.checkArgs "object.__ne__" sig ⟨[.ref x, b], []⟩) Q E s
    rw [show PySem.Bind.checkArgs "object.__ne__" sig ⟨[.ref x, b], []⟩ = pure () from ha]
    exact wpAny_pure q
theorem ne_run {prog : Program} {w : World} {A : Around} {E : Value → Shared → Prop} {ox oy : Obj} {od ody : Option Obj} {K : PySem.W.Frag} {x y : Addr} {Q : Value → Shared → Prop} (KI : K.In s.heap) (J : PySem.W.InstAt s.heap x ox C od) (J2 : PySem.W.InstAt s.heap y oy C ody) (c : NeBy K C) (c2 : HasOp K C "__eq__" f) (hu : A.units + 1 < cLine)
    (h : wpAny (model prog w) A.in1 (call (.ref f) [.ref x, .ref y]) (fun v s' => ∃ k, v = .bool k ∧ Q (.bool (!k)) s') E s) : wpAny (model prog w) A (compareOp .NotEq (.ref x) (.ref y)) Q E s := by
  unfold compareOp richCompare
  simp only [oneThing_ref]
  refine wpAny_holding (wpAny_bind (wpAny_cRoomFor (Nat.lt_of_succ_lt hu) ?_))
  refine wpAny_bind (J.type.here (wpAny_bind (J2.type.here ?_)))
  rw [show (Value.ref C != Value.ref C) = false from by simp]
  simp only [Bool.false_eq_true, if_false]
  refine wpAny_bind (wpAny_pure ?_)
  simp only [Bool.false_eq_true, if_false]
  have one : wpAny (model prog w) A (tryCompare (.ref x) "__ne__" (.ref y)) (fun r s' => ∃ v, r = some v ∧ Q v s') E s := by
    unfold tryCompare
    refine wpAny_bind (ne_slot KI J c (wpAny_call (codeAny_call_builtin F.cmp_object.ne.plain F.cmpEntry_ne (ne_check KI J c ?_))))
    unfold Builtin.«object.__ne__»
    refine wpAny_bind (wpAny_pure ?_)
    refine wpAny_bind (wpAny_cRoomFor (by exact hu) ?_)
    refine wpAny_bind (m := callSpecialIfBound? (.ref x) (Str.ofString "__eq__") [.ref y]) (PySem.W.ifBound_K KI J c2.at_ c2.fn (thn h fun v s' hv => ?_))
    obtain ⟨b, rfl, hq⟩ := hv
    refine wpAny_bind (m := truthy (.bool b)) (wpAny_truthy_bool ?_)
    exact wpAny_pure (wpAny_pure ⟨_, rfl, hq⟩)
  refine wpAny_bind (m := tryCompare (.ref x) (Str.ofString "__ne__") (.ref y)) (thn one fun r s' z => ?_)
  obtain ⟨v, rfl, hq⟩ := z
  exact wpAny_pure hq
theorem op_ownNe (c : HasOp X.K C "__eq__" f) (c2 : NeBy X.K C) (F : FnR X.prog X.w X.K X.mg X.base CX k f sp) (hr : Room (k + 1) X.A) (hx : Passes CX X E) : OpR X (compareOp .NotEq) (rOwnEq true C sp E) := by
  intro pins s σ H x y u v Q I rx ry h
  obtain ⟨a, dx, fs, b, dy, gs, rfl, ha, rfl, hb, q⟩ := h
  cases (show u = Value.ref a from rx)
  cases (show v = Value.ref b from ry)
  obtain ⟨ox, od, J⟩ := inst_at I ha
  obtain ⟨oy, ody, J2⟩ := inst_at I hb
  refine ne_run I.kIn J J2 c2 c (by have := hr.units; omega) (thn (wpAny_call (SlX.run_at (us := [.ref a, .ref b]) (ws := [.ref a, .ref b]) F hr.in1 I.env0.in1 hx I (.cons (show RelV (.ref a) (.ref a) from rfl) (.cons (show RelV (.ref b) (.ref b) from rfl) .nil)) q)) fun w s' ⟨z, H', I', rz, kk, ez, qz⟩ => ?_)
  subst ez
  cases rz
  exact ⟨kk, rfl, .bl (!kk), H', I', rfl, qz⟩

/-! ### len(o) by the class's __len__ -/
def rOwnLen (C : Addr) (sp : Sp) (E : XK) : List V → Hp → VK → Prop := fun vs H Q => ∃ a dx fs, vs = [.ref a] ∧ H a = some (.ins C dx fs) ∧ sp [.ref a] H (fun v H' => ∃ i : Int, v = .int i ∧ 0 ≤ i ∧ i < 2 ^ 63 ∧ Q (.int i) H') E
theorem call_ownLen (c : HasOp X.K C "__len__" f) (F : FnR X.prog X.w X.K X.mg X.base CX k f sp) (hr : Room (k + 1) X.A) (hx : Passes CX X E) : CallR X (.builtin "len") (rOwnLen C sp E) := by
  intro pins s σ H vs us Q I rv h
  obtain ⟨a, dx, fs, rfl, ha, q⟩ := h
  obtain ⟨u, rfl, ru⟩ := vals1 rv
  cases (show u = Value.ref a from ru)
  obtain ⟨ox, od, J⟩ := inst_at I ha
  obtain ⟨mm, Fr⟩ := I.fr
  refine PySem.W.len_K Fr I.ok.mod.kin J c.at_ c.fn (thn (wpAny_call (SlX.run_at (us := [.ref a]) (ws := [.ref a]) F hr.in1 I.env0.in1 hx I (.cons (show RelV (.ref a) (.ref a) from rfl) .nil) q)) fun w s' ⟨z, H', I', rz, i, ez, h0, h1, qz⟩ => ?_)
  subst ez
  obtain ⟨t, rfl⟩ := rz
  exact ⟨⟨h0, h1⟩, .int i, H', I'.tok _, ⟨_, rfl⟩, qz⟩
end

/-! ### o - t, t a tuple: by the class's own method -/
section
variable {prog : Program} {w : World} {M : Model} {A : Around} {E : Value → Shared → Prop} {s : Shared} {K : PySem.W.Frag} {x C f : Addr} {ox : Obj} {od : Option Obj}
/-- what the class at C and the type T say of an operator nm -/
structure BinBy (K : PySem.W.Frag) (C f : Addr) (T : String) (nm : String) : Prop where
  own : HasOp K C (PySem.dunder nm) f
  first : PySem.W.selfFirst K C = true
  noR : PySem.W.findIn K (.ref C) (dunderR nm) = some none
  t1 : PySem.W.findIn K (.type T) (PySem.dunder nm) = some none
  t2 : PySem.W.findIn K (.type T) (dunderR nm) = some none
theorem bin_run {op : Operator} {b : Value} {T : String} {Q : Value → Shared → Prop} (KI : K.In s.heap) (J : PySem.W.InstAt s.heap x ox C od) (c : BinBy K C f T op.info.2) (hb : PySem.W.Looks (model prog w) s.heap (typeOf b) (.type T))
    (h : wpAny (model prog w) A (call (.ref f) [.ref x, b]) (PySem.W.CmpBack Q) E s) : wpAny (model prog w) A (binaryOp op (.ref x) b) Q E s := by
  obtain ⟨cd, more, hcd, hm⟩ := PySem.W.ksp_first c.first
  have e1 := PySem.W.fills_K (M := model prog w) KI hcd hm c.own.at_
  have e2 := PySem.W.ksp_fillsT (M := model prog w) KI c.t1 c.t2
  have one := PySem.W.ksp_try (M := model prog w) (A := A) (E := E) KI J c.own.at_ c.own.fn h
  have ne : (Value.ref C == Value.type T) = false := Bool.eq_false_iff.mpr fun q => by cases beq_iff_eq.mp q
  unfold binaryOp
  refine wpAny_holding (wpAny_bind ?_)
  unfold binaryOp1
  refine wpAny_bind (J.type.here (wpAny_bind (hb.here (wpAny_bind (e1.here ?_)))))
  simp only [ne, Bool.false_eq_true, if_false]
  refine wpAny_bind (e2.here ?_)
  simp only [Option.isSome_none, Bool.false_and, Bool.or_false, Bool.and_false, Bool.false_eq_true, if_false]
  refine wpAny_bind (wpAny_pure ?_)
  simp only [Bool.false_eq_true, if_false]
  refine wpAny_bind (m := tryMethod (.ref x) _ b) (thn one fun r s' z => ?_)
  obtain ⟨v, rfl, hq⟩ := z
  first
  | exact wpAny_pure (wpAny_pure hq)
  | exact wpAny_pure (wpAny_pure (wpAny_pure hq))
end
end LW
set_option Elab.async false
set_option linter.all false
set_option maxRecDepth 100000
set_option maxHeartbeats 2000000
namespace LW
open PySem L2

/-! ### values of operators -/
section
variable {X : Cx} {K : PySem.W.Frag} {H : Hp} {i j : Int} {P : V → Hp → Prop} {x y v : V} {k : Bool}
theorem c_val {α : Type} {v : α} {P : α → Hp → Prop} {t : Hp → (α → Hp → Prop) → Prop} (h : ∀ Hc, Ex H Hc → ∀ Q : α → Hp → Prop, Q v Hc → t Hc Q) (p : Pz H (P v)) : Cm H P t := Cm.ret h p
theorem r_I0 {g : Int → Int → V} : Cm H (is (g i j)) (rI0 g (.int i) (.int j)) := Cm.ret (fun _ _ _ q => ⟨i, j, rfl, rfl, q⟩) (.const rfl)
theorem r_I {C : Int → Int → Prop} {g : Int → Int → V} (hc : C i j) : Cm H (is (g i j)) (rI C g (.int i) (.int j)) := Cm.ret (fun _ _ _ q => ⟨i, j, rfl, rfl, hc, q⟩) (.const rfl)
theorem r_eq (h : scal x y = true) : Cm H (is (V.bl (decide (x = y)))) (rEq x y) := Cm.ret (fun _ _ _ q => ⟨h, q⟩) (.const rfl)
theorem r_ne (h : scal x y = true) : Cm H (is (V.bl (!decide (x = y)))) (rNe x y) := Cm.ret (fun _ _ _ q => ⟨h, q⟩) (.const rfl)
theorem r_ixL {a : Addr} {xs : List V} (h : Pz H (fun H' => SqL K H' a xs)) (e : atI xs i = some v) : Cm H (is v) (rIxL K (.ref a) (.int i)) := Cm.ret (fun Hc ex _ q => ⟨a, xs, i, v, rfl, rfl, h Hc ex, e, q⟩) (.const rfl)
theorem r_ixT {a : Addr} {xs : List V} (h : Pz H (fun H' => SqT K H' a xs)) (e : atI xs i = some v) : Cm H (is v) (rIxT K (.ref a) (.int i)) := Cm.ret (fun Hc ex _ q => ⟨a, xs, i, v, rfl, rfl, h Hc ex, e, q⟩) (.const rfl)
theorem r_ixS {w : Str} {c : Nat} (hl : w.length ≤ 100000) (e : atI w.cps.toList i = some c) : Cm H (is (V.str ⟨#[c]⟩)) (rIxS (.str w) (.int i)) := Cm.ret (fun Hc ex _ q => ⟨w, i, c, rfl, rfl, Evl.sz_of hl, e, q⟩) (.const rfl)
end

/-! ### promises -/
/-- from A of the arguments to R of the answer, x what both speak of -/
def SpF {α : Type} (A : α → List V → Hp → Prop) (R : α → V → Hp → Prop) : Sp := fun vs Hc Q _ => ∃ (x : α) (H : Hp), Ex H Hc ∧ Pz H (A x vs) ∧ ∀ v Hn H2, Grow H Hc Hn H2 → Pz Hn (R x v) → Q v H2
theorem c_sp {α : Type} {A : α → List V → Hp → Prop} {R : α → V → Hp → Prop} {x : α} {vs : List V} {H : Hp} {E : XK} (h : Pz H (A x vs)) : Cm H (R x) (fun Hc Q => SpF A R vs Hc Q E) := fun Hc e Q q => ⟨x, H, e, h, q⟩
/-- the def n of the module keeps it -/
structure Fn {α : Type} (P : Program) (w : World) (K : PySem.W.Frag) (mg : Str → Option Value) (base : Heap) (n : Str) (k : Nat) (A : α → List V → Hp → Prop) (R : α → V → Hp → Prop) : Prop where
  ex : ∃ f : Addr, mg n = some (.ref f) ∧ PySem.W.keepIn K (.ref f) = true ∧ FnR P w K mg base CX0 k f (SpF A R)
/-- the method m of the class at C keeps it -/
structure Md {α : Type} (P : Program) (w : World) (K : PySem.W.Frag) (mg : Str → Option Value) (base : Heap) (C : Addr) (m : Str) (k : Nat) (A : α → List V → Hp → Prop) (R : α → V → Hp → Prop) : Prop where
  ex : ∃ (f : Addr) (fd : FuncData) (ps : List Str), Meth K C m f ∧ FnOk P w K mg base CX0 k f fd ps (SpF A R) ∧ Binds K fd ps []
section
variable {α : Type} {A : α → List V → Hp → Prop} {R : α → V → Hp → Prop} {X : Cx} {σ : St} {H : Hp} {P : V → Hp → Prop} {k : Nat} {n m : Str} {C : Addr} {e o : Expr} {es : List Expr} {pos pn apos : Pos} {vs : List V} {x : α} {Pa : List V → Hp → Prop} {a dx : Addr} {fs : List (Str × V)} {v : V}
theorem e_call (F : Fn X.prog X.w X.K X.mg X.base n k A R) (hr : Room k X.A) (ha : Cm H Pa (wA X (e :: es) σ)) (hp : ∀ vs H1, Ex H H1 → Pz H1 (Pa vs) → ∃ x, Pz H1 (A x vs) ∧ ∀ v H2, Ex H1 H2 → R x v H2 → P v H2)
    (hg : Gl X n := by rfl) (hd : (n == ("__debug__" : Str)) = false := by decide) (hs : starEach (e :: es) X.env = (false, eval e X.env) :: starEach es X.env := by rfl) (hpl : (backTo pos (starEach es X.env)).any (·.1) = false := by rfl) :
    Cm H P (wE X (.Call (.Name n pn) (e :: es) [] pos) σ) := by
  obtain ⟨f, hm, hk, G⟩ := F.ex
  refine ce (pe_callR G hr hk hg hm pass0 pa_w hd hs hpl) (cm1 (u := fun vs H1 Q => SpF A R vs H1 Q E0) ha fun vs H1 e1 p1 => ?_)
  obtain ⟨x, h1, h2⟩ := hp vs H1 e1 p1
  exact (c_sp h1).imp h2
theorem e_callD (x : α) (F : Fn X.prog X.w X.K X.mg X.base n k A R) (hr : Room k X.A) (ha : Cm H (is vs) (wA X (e :: es) σ)) (hp : Pz H (A x vs))
    (hg : Gl X n := by rfl) (hd : (n == ("__debug__" : Str)) = false := by decide) (hs : starEach (e :: es) X.env = (false, eval e X.env) :: starEach es X.env := by rfl) (hpl : (backTo pos (starEach es X.env)).any (·.1) = false := by rfl) :
    Cm H (R x) (wE X (.Call (.Name n pn) (e :: es) [] pos) σ) :=
  e_call F hr ha (fun ws H1 e1 p1 => ⟨x, by
    have q : ws = vs := p1.now
    subst q
    exact hp.mono e1, fun _ _ _ z => z⟩) hg hd hs hpl
/-- o.m(..), o an instance -/
theorem e_meth (F : Md X.prog X.w X.K X.mg X.base C m k A R) (c : Cls X.K C) (hr : Room k X.A) (ho : Cm H (is (V.ref a)) (wE X o σ)) (hi : Pz H (fun H' => H' a = some (.ins C dx fs))) (hl : fs.lookup m = none) (ha : Cm H Pa (wA X (e :: es) σ))
    (hp : ∀ vs H1, Ex H H1 → Pz H1 (Pa vs) → ∃ x, Pz H1 (A x (.ref a :: vs)) ∧ ∀ v H2, Ex H1 H2 → R x v H2 → P v H2) {pl : Sem Bool}
    (hs : starEach (e :: es) X.env = (false, eval e X.env) :: starEach es X.env := by rfl) (hpl : (backTo pos (starEach es X.env)).any (·.1) = false := by rfl)
    (ht : eval (.Call (.Attribute o m apos) (e :: es) [] pos) X.env = (eval o X.env >>= fun ov => standAt apos.atName >>= fun _ => holding [ov] (getMethod ov m pl) >>= fun fx =>
      callWith pos fx.1 fx.2 (backTo pos (starEach (e :: es) X.env)) (backToKw pos (keywordEach [] X.env))) := by rfl) : Cm H P (wE X (.Call (.Attribute o m apos) (e :: es) [] pos) σ) := by
  obtain ⟨f, fd, ps, hm, G, hb⟩ := F.ex
  refine ce (pe_meth (pl := pl) pe_w c hm G hr hb .nil pass0 pa_w hs hpl ht) (cm1D (u := fun (x : V) (Hc : Hp) (Q : VK) => ∃ a dx fs, x = V.ref a ∧ Hc a = some (.ins C dx fs) ∧ fs.lookup m = none ∧ wA X (e :: es) σ Hc fun vs H2 => SpF A R (x :: (vs ++ [])) H2 Q E0) ho ?_)
  refine fun Hc ex Q q => ⟨a, dx, fs, rfl, hi Hc ex, hl, ha Hc ex _ fun vs Hn H2 g p => ?_⟩
  obtain ⟨x, h1, h2⟩ := hp vs Hn g.k p
  rw [List.append_nil]
  exact ⟨x, Hn, g.s, h1, fun v Hn2 H3 g2 r => q v Hn2 H3 (g.trans g2) (r.imp fun H' e' z => h2 v H' (g2.k.trans e') z)⟩
theorem e_meth0 (x : α) (F : Md X.prog X.w X.K X.mg X.base C m k A R) (c : Cls X.K C) (hr : Room k X.A) (ho : Cm H (is (V.ref a)) (wE X o σ)) (hi : Pz H (fun H' => H' a = some (.ins C dx fs))) (hl : fs.lookup m = none) (hp : Pz H (A x [.ref a])) {pl : Sem Bool}
    (ht : eval (.Call (.Attribute o m apos) [] [] pos) X.env = (eval o X.env >>= fun ov => standAt apos.atName >>= fun _ => holding [ov] (getMethod ov m pl) >>= fun fx =>
      callWith pos fx.1 fx.2 (backTo pos (starEach [] X.env)) (backToKw pos (keywordEach [] X.env))) := by rfl) : Cm H (R x) (wE X (.Call (.Attribute o m apos) [] [] pos) σ) := by
  obtain ⟨f, fd, ps, hm, G, hb⟩ := F.ex
  refine ce (pe_meth0 (pl := pl) pe_w c hm G hr hb .nil pass0 ht) (cm1D (u := fun (x : V) (Hc : Hp) (Q : VK) => ∃ a dx fs, x = V.ref a ∧ Hc a = some (.ins C dx fs) ∧ fs.lookup m = none ∧ SpF A R (x :: ([] ++ [])) Hc Q E0) ho ?_)
  exact fun Hc ex Q q => ⟨a, dx, fs, rfl, hi Hc ex, hl, ⟨x, H, ex, hp, q⟩⟩
/-! ### attributes -/
theorem e_fld {f : Str} (c : Cls X.K C) (nf : NoAttr X.K C f) (ho : Cm H (is (V.ref a)) (wE X o σ)) (hi : Pz H (fun H' => H' a = some (.ins C dx fs))) (hl : fs.lookup f = some v) (hb : attributeBase o f X.env (eval o X.env) = eval o X.env := by rfl) :
    Cm H (is v) (wE X (.Attribute o f pos) σ) :=
  ce (pe_fld pe_w hb) (cm1D (u := fun x H1 Q => ∃ a C dx fs v, x = .ref a ∧ H1 a = some (.ins C dx fs) ∧ Cls X.K C ∧ NoAttr X.K C f ∧ fs.lookup f = some v ∧ Q v H1) ho (Cm.ret (fun Hc e _ q => ⟨a, C, dx, fs, v, rfl, hi Hc e, c, nf, hl, q⟩) (.const rfl)))
theorem e_cval {f : Str} {mc u : Value} (r : ClX.CRead X.K C mc) (cv : ClX.CVal X.K C mc f v u) (ho : Cm H (is (V.ref C)) (wE X o σ)) (hb : attributeBase o f X.env (eval o X.env) = eval o X.env := by rfl) : Cm H (is v) (wE X (.Attribute o f pos) σ) :=
  ce (ClX.pe_cval pe_w hb) (cm1D (u := fun x H1 Q => ∃ C mc v u, x = .ref C ∧ ClX.CRead X.K C mc ∧ ClX.CVal X.K C mc f v u ∧ Q v H1) ho (Cm.ret (fun Hc e _ q => ⟨C, mc, v, u, rfl, r, cv, q⟩) (.const rfl)))
/-- a property: the getter's promise -/
structure Pr {α : Type} (P : Program) (w : World) (K : PySem.W.Frag) (mg : Str → Option Value) (base : Heap) (C : Addr) (m : Str) (k : Nat) (A : α → List V → Hp → Prop) (R : α → V → Hp → Prop) : Prop where
  ex : ∃ (p g : Addr) (fd : FuncData) (ps : List Str), PropOf K C m p g ∧ FnOk P w K mg base CX0 k g fd ps (SpF A R) ∧ Binds K fd ps []
theorem e_prop (x : α) (F : Pr X.prog X.w X.K X.mg X.base C m k A R) (c : Cls X.K C) (hr : Room (k + 1) X.A) (ho : Cm H (is (V.ref a)) (wE X o σ)) (hi : Pz H (fun H' => H' a = some (.ins C dx fs))) (hp : Pz H (A x [.ref a]))
    (hb : attributeBase o m X.env (eval o X.env) = eval o X.env := by rfl) : Cm H (R x) (wE X (.Attribute o m pos) σ) := by
  obtain ⟨p, g, fd, ps, hm, G, hbn⟩ := F.ex
  refine ce (pe_prop pe_w c hm G hr hbn .nil pass0 hb) (cm1D (u := fun x Hc Q => ∃ a dx fs, x = .ref a ∧ Hc a = some (.ins C dx fs) ∧ SpF A R (.ref a :: []) Hc Q E0) ho ?_)
  exact fun Hc ex Q q => ⟨a, dx, fs, rfl, hi Hc ex, ⟨x, H, ex, hp, q⟩⟩
/-! ### class and static methods, with stars or without: their raw promise sp at (C, arguments) -/
theorem e_cmeth {mc : Value} {p g : Addr} {sp : Sp} (r : ClX.CRead X.K C mc) (c : ClX.CMet X.K C mc m p g) (F : FnR X.prog X.w X.K X.mg X.base CX0 k g sp) (hr : Room k X.A) (ho : Cm H (is (V.ref C)) (wE X o σ)) (ha : Cm H Pa (wA X (e :: es) σ))
    (hp : ∀ vs H1, Ex H H1 → Pz H1 (Pa vs) → Cm H1 P (fun Hc Q => sp (.ref C :: vs) Hc Q E0)) {pl : Sem Bool}
    (hs : starEach (e :: es) X.env = (false, eval e X.env) :: starEach es X.env := by rfl) (hpl : (backTo pos (starEach es X.env)).any (·.1) = false := by rfl)
    (ht : eval (.Call (.Attribute o m apos) (e :: es) [] pos) X.env = (eval o X.env >>= fun ov => standAt apos.atName >>= fun _ => holding [ov] (getMethod ov m pl) >>= fun fx =>
      callWith pos fx.1 fx.2 (backTo pos (starEach (e :: es) X.env)) (backToKw pos (keywordEach [] X.env))) := by rfl) : Cm H P (wE X (.Call (.Attribute o m apos) (e :: es) [] pos) σ) :=
  ce (ClX.pe_cmeth (pl := pl) pe_w r c F hr pass0 pa_w hs hpl ht) (cm1D (u := fun (x : V) (Hc : Hp) (Q : VK) => x = V.ref C ∧ wA X (e :: es) σ Hc fun vs H2 => sp (.ref C :: vs) H2 Q E0) ho fun Hc ex Q q => ⟨rfl, ha Hc ex _ fun vs Hn H2 g p1 =>
    hp vs Hn g.k p1 H2 g.s Q fun v Hn2 H3 g2 p2 => q v Hn2 H3 (g.trans g2) p2⟩)
theorem e_smeth {mc : Value} {p g : Addr} {sp : Sp} (r : ClX.CRead X.K C mc) (c : SMet X.K C mc m p g) (F : FnR X.prog X.w X.K X.mg X.base CX0 k g sp) (hr : Room k X.A) (ho : Cm H (is (V.ref C)) (wE X o σ)) (ha : Cm H Pa (wA X (e :: es) σ))
    (hp : ∀ vs H1, Ex H H1 → Pz H1 (Pa vs) → Cm H1 P (fun Hc Q => sp vs Hc Q E0)) {pl : Sem Bool}
    (hs : starEach (e :: es) X.env = (false, eval e X.env) :: starEach es X.env := by rfl) (hpl : (backTo pos (starEach es X.env)).any (·.1) = false := by rfl)
    (ht : eval (.Call (.Attribute o m apos) (e :: es) [] pos) X.env = (eval o X.env >>= fun ov => standAt apos.atName >>= fun _ => holding [ov] (getMethod ov m pl) >>= fun fx =>
      callWith pos fx.1 fx.2 (backTo pos (starEach (e :: es) X.env)) (backToKw pos (keywordEach [] X.env))) := by rfl) : Cm H P (wE X (.Call (.Attribute o m apos) (e :: es) [] pos) σ) :=
  ce (pe_smeth (pl := pl) pe_w r c F hr pass0 pa_w hs hpl ht) (cm1D (u := fun (x : V) (Hc : Hp) (Q : VK) => x = V.ref C ∧ wA X (e :: es) σ Hc fun vs H2 => sp vs H2 Q E0) ho fun Hc ex Q q => ⟨rfl, ha Hc ex _ fun vs Hn H2 g p1 =>
    hp vs Hn g.k p1 H2 g.s Q fun v Hn2 H3 g2 p2 => q v Hn2 H3 (g.trans g2) p2⟩)
/-! ### instances made -/
/-- what an __init__ promises: Hb the heap ahead of the instance -/
def SpI {α : Type} (C : Addr) (A : α → List V → Hp → Prop) (R : α → V → Hp → Prop) : Sp := fun vs Hc Q _ => ∃ (x : α) (H Hb : Hp) (p dx : Addr) (ws : List V), vs = .ref p :: ws ∧ Ex H Hb ∧ Hb p = none ∧ Hb dx = none ∧ dx ≠ p ∧ Hc = upd (upd Hb dx (.own p)) p (.ins C dx []) ∧ Pz H (A x ws) ∧
  ∀ Hn H2, Grow H Hb Hn H2 → Pz Hn (R x (.ref p)) → Q .non H2
theorem e_make {f : Addr} (M : Mk X.K C f) (hm : X.mg n = some (.ref C)) (F : FnR X.prog X.w X.K X.mg X.base CX0 k f (SpI C A R)) (hr : Room (k + 1) X.A) (ha : Cm H Pa (wA X (e :: es) σ)) (hp : ∀ vs H1, Ex H H1 → Pz H1 (Pa vs) → ∃ x, Pz H1 (A x vs) ∧ ∀ v H2, Ex H1 H2 → R x v H2 → P v H2)
    (hg : Gl X n := by rfl) (hd : (n == ("__debug__" : Str)) = false := by decide) (hs : starEach (e :: es) X.env = (false, eval e X.env) :: starEach es X.env := by rfl) (hpl : (backTo pos (starEach es X.env)).any (·.1) = false := by rfl) :
    Cm H P (wE X (.Call (.Name n pn) (e :: es) [] pos) σ) :=
  ce (StX.pe_makeR M F hr hg hm pass0 pa_w hd hs hpl) (cm1 (u := fun vs H1 (Q : VK) => ∀ x dx, H1 x = none → H1 dx = none → dx ≠ x → SpI C A R (.ref x :: vs) (upd (upd H1 dx (.own x)) x (.ins C dx [])) (fun v H2 => v = .non ∧ Q (.ref x) H2) E0) ha fun vs H1 e1 p1 => by
    obtain ⟨x, h1, h2⟩ := hp vs H1 e1 p1
    exact fun Hc ex Q q p dx hp' hdx ne => ⟨x, H1, Hc, p, dx, vs, rfl, ex, hp', hdx, ne, rfl, h1, fun Hn H2 g r => ⟨rfl, q _ Hn H2 g (r.imp fun H' e' z => h2 _ H' (g.k.trans e') z)⟩⟩)
theorem e_makeL (i : Nat) {f : Addr} (M : Mk X.K C f) (F : FnR X.prog X.w X.K X.mg X.base CX0 k f (SpI C A R)) (hr : Room (k + 1) X.A) (hσ : σ[i]? = some (some (.ref C))) (ha : Cm H Pa (wA X (e :: es) σ)) (hp : ∀ vs H1, Ex H H1 → Pz H1 (Pa vs) → ∃ x, Pz H1 (A x vs) ∧ ∀ v H2, Ex H1 H2 → R x v H2 → P v H2)
    (hN : X.N[i]? = some n := by rfl) (hv : Vis X.env.scope n := by first | exact Or.inl rfl | exact Or.inr (Or.inl rfl) | exact Or.inr (Or.inr rfl)) (hd : (n == ("__debug__" : Str)) = false := by decide) (hcd : (n == ("__classdict__" : Str)) = false := by decide)
    (hs : starEach (e :: es) X.env = (false, eval e X.env) :: starEach es X.env := by rfl) (hpl : (backTo pos (starEach es X.env)).any (·.1) = false := by rfl) :
    Cm H P (wE X (.Call (.Name n pn) (e :: es) [] pos) σ) := by
  refine ce (pe_makeL (i := i) M F hr hN hv pass0 pa_w hd hcd hs hpl) fun Hc0 ex0 Q0 q0 => ⟨hσ, ?_⟩
  refine (cm1 (u := fun vs H1 (Q : VK) => ∀ x dx, H1 x = none → H1 dx = none → dx ≠ x → SpI C A R (.ref x :: vs) (upd (upd H1 dx (.own x)) x (.ins C dx [])) (fun v H2 => v = .non ∧ Q (.ref x) H2) E0) ha fun vs H1 e1 p1 => ?_ : Cm H P _) Hc0 ex0 Q0 q0
  obtain ⟨x, h1, h2⟩ := hp vs H1 e1 p1
  exact fun Hc ex Q q p dx hp' hdx ne => ⟨x, H1, Hc, p, dx, vs, rfl, ex, hp', hdx, ne, rfl, h1, fun Hn H2 g r => ⟨rfl, q _ Hn H2 g (r.imp fun H' e' z => h2 _ H' (g.k.trans e') z)⟩⟩
end
end LW
set_option Elab.async false
set_option linter.all false
set_option maxRecDepth 100000
set_option maxHeartbeats 2000000
namespace LW
open PySem L2
/-- the frame in which a def's body runs -/
abbrev fx (P : Program) (w : World) (K : PySem.W.Frag) (mg : Str → Option Value) (base : Heap) (N : List Str) (qual : Str) (st : Stmt) (f : Addr) (cdv : Value) (A : Around) (outer : List Env) (s : Shared) (H : Hp) (E : XK) : Cx :=
  (cxOf CX0 P w K mg base N qual (defScope st) f cdv A outer s H E).nox
/-- what is to be shown of a def's body -/
def Body {α : Type} (P : Program) (w : World) (K : PySem.W.Frag) (mg : Str → Option Value) (base : Heap) (N : List Str) (qual : Str) (st : Stmt) (f : Addr) (k : Nat) (A : α → List V → Hp → Prop) (R : α → V → Hp → Prop) : Prop :=
  ∀ (cdv : Value) (Ar : Around) (outer : List Env) (s : Shared) (H0 : Hp) (E : XK) (x : α) (vs : List V) (H Hc : Hp) (D : Ends), Room k (fx P w K mg base N qual st f cdv Ar outer s H0 E).A → Ex H Hc → Pz H (A x vs) →
    (∀ v Hn H2, Grow H Hc Hn H2 → Pz Hn (R x v) → D.rt v H2) → (∀ σ Hn H2, Grow H Hc Hn H2 → Pz Hn (R x .non) → D.nx σ H2) → wB (fx P w K mg base N qual st f cdv Ar outer s H0 E) (defBody st) D (L2.start N vs) Hc
section
variable {α : Type} {P : Program} {w : World} {K : PySem.W.Frag} {mg : Str → Option Value} {base : Heap} {x qual : Str} {st : Stmt} {f : Addr} {fd : FuncData} {N ps : List Str} {k : Nat} {A : α → List V → Hp → Prop} {R : α → V → Hp → Prop}
theorem ok_of (F : Fun K x qual st f fd) (S : FnScope N ps (defScope st)) (len : ∀ a vs H, A a vs H → vs.length = ps.length) (b : Body P w K mg base N qual st f k A R) : FnOk P w K mg base CX0 (k + 1) f fd ps (SpF A R) :=
  F.ok S (fun vs H Q E h => by
    obtain ⟨a, H1, e, p, _⟩ := h
    exact len a vs H1 p.now) fun cdv Ar outer s H vs Q E hr h => by
    obtain ⟨a, H1, e, p, q⟩ := h
    exact ⟨_, pss_w, b cdv Ar outer s H E a vs H1 H _ hr e p (fun v Hn H2 g r => q v Hn H2 g r) fun _ Hn H2 g r => q .non Hn H2 g r⟩
theorem raw_of {ps : List Str} (G : FnOk P w K mg base CX0 k f fd ps (SpF A R)) (hb : Binds K fd ps []) : FnR P w K mg base CX0 k f (SpF A R) :=
  (G.raw hb .nil).imp fun vs H Q E h => by
    rw [List.append_nil]
    exact h
end
/-! ### built-ins, by their names -/
section
variable {X : Cx} {σ : St} {H : Hp} {P : V → Hp → Prop} {e : Expr} {es : List Expr} {pos pn : Pos} {n : Str} {id T : String} {r : List V → Hp → VK → Prop} {Pa : List V → Hp → Prop} {vs : List V} {i : Int}
theorem e_blt (c : CallR X (.builtin id) r) (hm : X.mg n = none) (ha : Cm H Pa (wA X (e :: es) σ)) (hr : ∀ vs H1, Ex H H1 → Pz H1 (Pa vs) → Cm H1 P (r vs)) (hg : Gl X n := by rfl) (hv : bootBuiltins n = some (.builtin id) := by decide +kernel) (hn : n ≠ "__name__" := by decide) (hd : (n == ("__debug__" : Str)) = false := by decide)
    (hs : starEach (e :: es) X.env = (false, eval e X.env) :: starEach es X.env := by rfl) (hpl : (backTo pos (starEach es X.env)).any (·.1) = false := by rfl) : Cm H P (wE X (.Call (.Name n pn) (e :: es) [] pos) σ) :=
  ce (pe_callB c hg hm hv pa_w hn hd hs hpl) (cm1 (u := r) ha hr)
theorem e_bltD (c : CallR X (.builtin id) r) (hm : X.mg n = none) (ha : Cm H (is vs) (wA X (e :: es) σ)) (hr : Cm H P (r vs)) (hg : Gl X n := by rfl) (hv : bootBuiltins n = some (.builtin id) := by decide +kernel) (hn : n ≠ "__name__" := by decide) (hd : (n == ("__debug__" : Str)) = false := by decide)
    (hs : starEach (e :: es) X.env = (false, eval e X.env) :: starEach es X.env := by rfl) (hpl : (backTo pos (starEach es X.env)).any (·.1) = false := by rfl) : Cm H P (wE X (.Call (.Name n pn) (e :: es) [] pos) σ) :=
  ce (pe_callB c hg hm hv pa_w hn hd hs hpl) (cm1D (u := r) ha hr)
theorem e_ty (c : CallR X (.type T) r) (hm : X.mg n = none) (ha : Cm H Pa (wA X (e :: es) σ)) (hr : ∀ vs H1, Ex H H1 → Pz H1 (Pa vs) → Cm H1 P (r vs)) (hg : Gl X n := by rfl) (hv : bootBuiltins n = some (.type T) := by decide +kernel) (hn : n ≠ "__name__" := by decide) (hd : (n == ("__debug__" : Str)) = false := by decide)
    (hs : starEach (e :: es) X.env = (false, eval e X.env) :: starEach es X.env := by rfl) (hpl : (backTo pos (starEach es X.env)).any (·.1) = false := by rfl) : Cm H P (wE X (.Call (.Name n pn) (e :: es) [] pos) σ) :=
  ce (pe_callTy c hg hm hv pa_w hn hd hs hpl) (cm1 (u := r) ha hr)
theorem e_tyD (c : CallR X (.type T) r) (hm : X.mg n = none) (ha : Cm H (is vs) (wA X (e :: es) σ)) (hr : Cm H P (r vs)) (hg : Gl X n := by rfl) (hv : bootBuiltins n = some (.type T) := by decide +kernel) (hn : n ≠ "__name__" := by decide) (hd : (n == ("__debug__" : Str)) = false := by decide)
    (hs : starEach (e :: es) X.env = (false, eval e X.env) :: starEach es X.env := by rfl) (hpl : (backTo pos (starEach es X.env)).any (·.1) = false := by rfl) : Cm H P (wE X (.Call (.Name n pn) (e :: es) [] pos) σ) :=
  ce (pe_callTy c hg hm hv pa_w hn hd hs hpl) (cm1D (u := r) ha hr)
end
end LW
set_option Elab.async false
set_option linter.all false
set_option maxRecDepth 100000
set_option maxHeartbeats 2000000
namespace LW
open PySem L2
/-! ### reading what one owns -/
section
variable {H Hc H0 Hc0 H2 Hn : Hp} {l : Addr} {o : HO}
theorem Ex.own (e : Ex H Hc) (h : Hc l = some o) : Ex (upd H l o) Hc := fun a u q => by
  by_cases z : a = l
  · subst z; rw [upd_same] at q; cases q; exact h
  · rw [upd_ne z] at q; exact e a u q
theorem Ex.put (n : H l = none) : Ex H (upd H l o) := Evl.Ex.new n
/-- nothing that is new is known: the heap has grown alone -/
theorem Grow.step (g : Grow H0 Hc0 H Hc) (e : Ex H H2) (c : Ex Hc H2) : Grow H0 Hc0 H H2 := ⟨g.k, e, g.c.trans c, g.f⟩
/-- behind a look at the own object at l -/
theorem Grow.looked (g : Grow H0 Hc0 H Hc) (n : H l = none) (g2 : Grow (upd H l o) Hc Hn H2) : Grow H0 Hc0 H H2 := g.step ((Ex.put n).trans (g2.k.trans g2.s)) g2.c
end
section
variable {X : Cx} {σ : St} {H Hc : Hp} {P Pa Pb : V → Hp → Prop} {e o i value : Expr} {es rest : List Expr} {sts : List Stmt} {pos pos' px apos cpos p2 : Pos} {D : Ends} {k : Bool} {v x y : V} {a l : Addr} {xs ys : List V} {r : R2} {n : Nat}
/-! ### subscripts, slices -/
theorem e_ix (h : IxR X r) (ho : Cm H Pa (wE X o σ)) (hi : Cm H Pb (wE X i σ)) (hr : ∀ x y H1, Ex H H1 → Pz H1 (Pa x) → Pz H1 (Pb y) → Cm H1 P (r x y)) (hs : PlainIx i := by exact fun _ _ => rfl) : Cm H P (wE X (.Subscript o i pos) σ) :=
  ce (pe_ix h pe_w pe_w hs) (cm2 ha hb hr) where
  ha := ho
  hb := hi
theorem e_ixD (h : IxR X r) (ho : Cm H (is x) (wE X o σ)) (hi : Cm H (is y) (wE X i σ)) (hr : Cm H P (r x y)) (hs : PlainIx i := by exact fun _ _ => rfl) : Cm H P (wE X (.Subscript o i pos) σ) :=
  ce (pe_ix h pe_w pe_w hs) (cm2D ho hi hr)
/-- xs[j], a list that is known; its j-th item -/
theorem e_item {j : Nat} (ho : Cm H (is (V.ref a)) (wE X o σ)) (hi : Cm H (is (V.int (j : Int))) (wE X i σ)) (h : Pz H (fun H' => SqL X.K H' a xs)) (hj : xs[j]? = some v) (hs : PlainIx i := by exact fun _ _ => rfl) : Cm H (is v) (wE X (.Subscript o i pos) σ) :=
  e_ixD ix_list ho hi (r_ixL h (by
    have q := (List.getElem?_eq_some_iff.mp hj).1
    show (ixN xs.length (j : Int)).bind _ = _
    rw [Evl.ixN_nat q]; exact hj)) hs
theorem e_itemT {j : Nat} (ho : Cm H (is (V.ref a)) (wE X o σ)) (hi : Cm H (is (V.int (j : Int))) (wE X i σ)) (h : Pz H (fun H' => SqT X.K H' a xs)) (hj : xs[j]? = some v) (hs : PlainIx i := by exact fun _ _ => rfl) : Cm H (is v) (wE X (.Subscript o i pos) σ) :=
  e_ixD ix_tup ho hi (r_ixT h (by
    have q := (List.getElem?_eq_some_iff.mp hj).1
    show (ixN xs.length (j : Int)).bind _ = _
    rw [Evl.ixN_nat q]; exact hj)) hs
/-! ### stores -/
theorem b_app (ex : Ex H Hc) (ho : Cm H (is (V.ref l)) (wE X o σ)) (hv : Cm H P (wE X e σ)) (hl : Hc l = some (.lst xs)) (hz : xs.length < 100000) (h : ∀ v Hn H2, Grow H Hc Hn H2 → Pz Hn (P v) → wB X sts D σ (upd H2 l (.lst (xs ++ [v]))))
    (hb : attributeBase o "append" X.env (eval o X.env) = eval o X.env := by rfl)
    (h1 : (((((backTo cpos (starEach [e] X.env)).all fun x => !x.fst) && (backToKw cpos (keywordEach [] X.env)).all fun x => x.fst.isSome) && decide (([e] : List Expr).length + ([] : List Nat).length + (if ([] : List Nat).isEmpty = true then 0 else 1) < 30)) = true) := by rfl)
    (h2 : (apos.endLine == cpos.line) = true := by rfl) (h3 : starEach [e] X.env = (false, eval e X.env) :: starEach [] X.env := by rfl) (hs : swapsWith (.Call (.Attribute o "append" apos) [e] [] cpos) none pos.line X.env = pure false := by rfl) :
    wB X (.Expr (.Call (.Attribute o "append" apos) [e] [] cpos) pos :: sts) D σ Hc := by
  refine b_cons (w_s (ps_expr (pe_bm PySem.F.plainAttrs_list PySem.F.slot_list_append PySem.F.type_list_append mt_append pe_w (pa_cons pe_w pa_nil h3) hb h1 h2 h3) hs) ?_)
  refine ho Hc ex _ fun u Hn H2 g p => ?_
  have q : u = .ref l := p.now
  subst q
  refine ⟨.inl ⟨rfl, _, SqL.of (g.c _ _ hl)⟩, hv.mono g.k H2 g.s _ fun v Hm H3 g3 p3 => ?_⟩
  exact ⟨l, xs, v, rfl, rfl, g3.c _ _ (g.c _ _ hl), Evl.sz_lt hz, h v Hm H3 (g.trans g3) p3⟩
/-- d[k] = e, d a dict of one's own, its keys ints and texts -/
theorem b_dput {kvs : List (Key × V)} {key : Key} (ex : Ex H Hc) (hu : X.A.units + 1 < cLine) (hv : Cm H P (wE X value σ)) (ho : Cm H (is (V.ref l)) (wE X o σ)) (hi : Cm H (is (kV key)) (wE X i σ)) (hl : Hc l = some (.dK kvs)) (hz : kvs.length < 100000)
    (h : ∀ v Hn H2, Grow H Hc Hn H2 → Pz Hn (P v) → wB X sts D σ (upd H2 l (.dK (putK kvs key v)))) (hs : swapsWith value (some (.Subscript o i pos')) pos.line X.env = pure false := by rfl) : wB X (.Assign [.Subscript o i pos'] value pos :: sts) D σ Hc := by
  refine b_cons (w_s (ps_dput hu pe_w pe_w pe_w hs) ?_)
  refine hv Hc ex _ fun v Hn H2 g p => ho.mono g.k H2 g.s _ fun u Hm H3 g3 p3 => hi.mono (g.trans g3).k H3 g3.s _ fun w Hk H4 g4 p4 => ?_
  have q : u = .ref l := p3.now
  have q2 : w = kV key := p4.now
  subst q q2
  exact ⟨l, _, rfl, .inl ⟨kvs, key, g4.c _ _ (g3.c _ _ (g.c _ _ hl)), rfl, Evl.sz_lt hz, rfl⟩, h v Hk H4 (g.trans (g3.trans g4)) (p.mono (g3.trans g4).k)⟩
/-- .. its keys tuples -/
theorem b_dputT {kvs : List (List Key × V)} {key : List Key} {b : Addr} (ex : Ex H Hc) (hu : X.A.units + 1 < cLine) (hv : Cm H P (wE X value σ)) (ho : Cm H (is (V.ref l)) (wE X o σ)) (hi : Cm H (is (V.ref b)) (wE X i σ)) (hb : Pz H (fun H' => H' b = some (.tup (key.map kV)))) (hl : Hc l = some (.dT kvs)) (hz : kvs.length < 100000)
    (h : ∀ v Hn H2, Grow H Hc Hn H2 → Pz Hn (P v) → wB X sts D σ (upd H2 l (.dT (putK kvs key v)))) (hs : swapsWith value (some (.Subscript o i pos')) pos.line X.env = pure false := by rfl) : wB X (.Assign [.Subscript o i pos'] value pos :: sts) D σ Hc := by
  refine b_cons (w_s (ps_dput hu pe_w pe_w pe_w hs) ?_)
  refine hv Hc ex _ fun v Hn H2 g p => ho.mono g.k H2 g.s _ fun u Hm H3 g3 p3 => hi.mono (g.trans g3).k H3 g3.s _ fun w Hk H4 g4 p4 => ?_
  have q : u = .ref l := p3.now
  have q2 : w = .ref b := p4.now
  subst q q2
  exact ⟨l, _, rfl, .inr ⟨kvs, key, b, g4.c _ _ (g3.c _ _ (g.c _ _ hl)), rfl, hb H4 ((g.trans (g3.trans g4)).k.trans g4.s), Evl.sz_lt hz, rfl⟩, h v Hk H4 (g.trans (g3.trans g4)) (p.mono (g3.trans g4).k)⟩
/-! ### dicts read -/
theorem e_din {op : Option V} (hu : X.A.units + 1 < cLine) (hi : Cm H (is y) (wE X i σ)) (ho : Cm H (is (V.ref a)) (wE X o σ)) (h : Pz H (fun H' => DGet H' a y op)) (hm : behindInMarks .In o = false := by rfl) : Cm H (is (V.bl op.isSome)) (wE X (.Compare i [.In] [o] pos) σ) :=
  ce (pe_cmp (pc_din hu pe_w pe_w) hm) (cm2D (r := fun y x H2 (Q : VK) => ∃ a o, x = V.ref a ∧ DGet H2 a y o ∧ Q (V.bl o.isSome) H2) hi ho (Cm.ret (fun Hc e _ q => ⟨a, op, rfl, h Hc e, q⟩) (.const rfl)))
theorem e_dnin {op : Option V} (hu : X.A.units + 1 < cLine) (hi : Cm H (is y) (wE X i σ)) (ho : Cm H (is (V.ref a)) (wE X o σ)) (h : Pz H (fun H' => DGet H' a y op)) (hm : behindInMarks .NotIn o = false := by rfl) : Cm H (is (V.bl (!op.isSome))) (wE X (.Compare i [.NotIn] [o] pos) σ) :=
  ce (pe_cmp (pc_dnotin hu pe_w pe_w) hm) (cm2D (r := fun y x H2 (Q : VK) => ∃ a o, x = V.ref a ∧ DGet H2 a y o ∧ Q (V.bl (!o.isSome)) H2) hi ho (Cm.ret (fun Hc e _ q => ⟨a, op, rfl, h Hc e, q⟩) (.const rfl)))
theorem e_dget (hu : X.A.units + 1 < cLine) (ho : Cm H (is (V.ref a)) (wE X o σ)) (hi : Cm H (is y) (wE X i σ)) (h : Pz H (fun H' => DGet H' a y (some v))) (hs : NoSl i := by exact fun _ _ => rfl) : Cm H (is v) (wE X (.Subscript o i pos) σ) :=
  ce (pe_dget hu pe_w pe_w hs) (cm2D (r := fun x y H2 (Q : VK) => ∃ a v, x = V.ref a ∧ DGet H2 a y (some v) ∧ Q v H2) ho hi (Cm.ret (fun Hc e _ q => ⟨a, v, rfl, h Hc e, q⟩) (.const rfl)))
theorem pz_dK {kvs : List (Key × V)} {key : Key} (h : Pz H (fun H' => H' a = some (.dK kvs))) : Pz H (fun H' => DGet H' a (kV key) (valV kvs key)) := h.imp fun _ _ z => .inl ⟨kvs, key, .of z, rfl, rfl⟩
theorem pz_dT {kvs : List (List Key × V)} {key : List Key} {b : Addr} (h : Pz H (fun H' => H' a = some (.dT kvs))) (hb : Pz H (fun H' => H' b = some (.tup (key.map kV)))) : Pz H (fun H' => DGet H' a (.ref b) (valV kvs key)) :=
  fun H' e => .inr ⟨kvs, key, b, .of (h H' e), rfl, hb H' e, rfl⟩
/-- a new dict, to be one's own -/
theorem b_dnewK (i : Nat) {nm : Str} (ex : Ex H Hc) (h : ∀ p, Hc p = none → wB X sts D (σ.set i (some (.ref p))) (upd Hc p (.dK [])))
    (hN : X.N.Nodup) (hi : X.N[i]? = some nm := by rfl) (hx : Loc X.env.scope nm := by exact Or.inl rfl) (hs : swapsWith (.Dict [] [] p2) (some (.Name nm px)) pos.line X.env = pure false := by rfl)
    (hf : X.fn nm = true ∨ X.env.scope.names.lookup nm = some .local := by first | exact .inl rfl | exact .inr rfl | assumption) : wB X (.Assign [.Name nm px] (.Dict [] [] p2) pos :: sts) D σ Hc :=
  b_cons (w_s (ps_set hN hi hx pe_dnewK hs hf) h)
theorem b_dnewT (i : Nat) {nm : Str} (ex : Ex H Hc) (h : ∀ p, Hc p = none → wB X sts D (σ.set i (some (.ref p))) (upd Hc p (.dT [])))
    (hN : X.N.Nodup) (hi : X.N[i]? = some nm := by rfl) (hx : Loc X.env.scope nm := by exact Or.inl rfl) (hs : swapsWith (.Dict [] [] p2) (some (.Name nm px)) pos.line X.env = pure false := by rfl)
    (hf : X.fn nm = true ∨ X.env.scope.names.lookup nm = some .local := by first | exact .inl rfl | exact .inr rfl | assumption) : wB X (.Assign [.Name nm px] (.Dict [] [] p2) pos :: sts) D σ Hc :=
  b_cons (w_s (ps_set hN hi hx pe_dnewT hs hf) h)
theorem b_lnew (i : Nat) {nm : Str} (ex : Ex H Hc) (h : ∀ p, Hc p = none → wB X sts D (σ.set i (some (.ref p))) (upd Hc p (.lst [])))
    (hN : X.N.Nodup) (hi : X.N[i]? = some nm := by rfl) (hx : Loc X.env.scope nm := by exact Or.inl rfl) (hs : swapsWith (.List [] p2) (some (.Name nm px)) pos.line X.env = pure false := by rfl)
    (hf : X.fn nm = true ∨ X.env.scope.names.lookup nm = some .local := by first | exact .inl rfl | exact .inr rfl | assumption) : wB X (.Assign [.Name nm px] (.List [] p2) pos :: sts) D σ Hc :=
  b_cons (w_s (ps_set hN hi hx (pe_lst pa_nil) hs hf) ⟨Nat.zero_le _, h⟩)
/-! ### built-ins -/
theorem e_len (hm : X.mg "len" = none) (ho : Cm H (is (V.ref a)) (wE X e σ)) (h : Pz H (fun H' => SqL X.K H' a xs ∨ SqT X.K H' a xs)) (hg : Gl X "len" := by rfl) (hs : starEach [e] X.env = (false, eval e X.env) :: starEach [] X.env := by rfl) : Cm H (is (V.int (xs.length : Int))) (wE X (.Call (.Name "len" px) [e] [] pos) σ) :=
  e_bltD call_len_seq hm (a_consD ho a_nil hs) (Cm.ret (fun Hc e' _ q => ⟨a, xs, rfl, h Hc e', q⟩) (.const rfl)) hg boot_len (by decide) (by decide) hs rfl
theorem e_lenS {z : Str} (hm : X.mg "len" = none) (ho : Cm H (is (V.str z)) (wE X e σ)) (h : z.length ≤ 100000) (hg : Gl X "len" := by rfl) (hs : starEach [e] X.env = (false, eval e X.env) :: starEach [] X.env := by rfl) : Cm H (is (V.int (z.length : Int))) (wE X (.Call (.Name "len" px) [e] [] pos) σ) :=
  e_bltD call_len hm (a_consD ho a_nil hs) (Cm.ret (fun Hc e' _ q => ⟨.str z, z.length, rfl, ⟨Evl.sz_of h, rfl⟩, q⟩) (.const rfl)) hg boot_len (by decide) (by decide) hs rfl
/-- all(..) of a list of bools -/
theorem e_all {bs : List Bool} (hc : X.calm = true) (hm : X.mg "all" = none) (ho : Cm H (lst X.K (bs.map V.bl)) (wE X e σ)) (hg : Gl X "all" := by rfl) (hs : starEach [e] X.env = (false, eval e X.env) :: starEach [] X.env := by rfl) : Cm H (is (V.bl (bs.all id))) (wE X (.Call (.Name "all" px) [e] [] pos) σ) :=
  e_blt (cr_all hc) hm (a_cons ho a_nil hs) (fun vs H1 e1 p1 => by
    obtain ⟨u, us, rfl, ⟨a, rfl, _⟩, rfl⟩ := p1.now
    exact Cm.ret (fun Hc e' _ q => by
      obtain ⟨u, us, z, ⟨b, rfl, h⟩, rfl⟩ := p1 Hc e'
      cases z
      exact ⟨_, bs, rfl, h, q⟩) (.const rfl)) hg (by decide +kernel) (by decide) (by decide) hs rfl
end
end LW
set_option Elab.async false
set_option linter.all false
set_option maxRecDepth 100000
set_option maxHeartbeats 2000000
namespace LW
open PySem L2
theorem over_str {H : Hp} {z : Str} : Over H (Its z) z.cps.size (fun i x _ => ∃ c, z.cps[i]? = some c ∧ x = .str ⟨#[c]⟩) where
  go := fun i Hc e hi => hi
  stop := fun i Hc e hi => hi
  yld := fun i x Hc H' e hi y H1 e1 e2 => by
    obtain ⟨rfl, z⟩ := y
    exact ⟨H1, Grow.refl e2, .const z⟩
section
variable {X : Cx} {σ : St} {H Hc : Hp} {P Pa Pb : V → Hp → Prop} {e a b c t : Expr} {pos px p2 : Pos} {k : Bool} {v x y z : V} {i j l : Int} {s : Str}
theorem i_str (h : Cm H (is (V.str s)) (wE X e σ)) : Ci H s.cps.size (fun i x _ => ∃ c, s.cps[i]? = some c ∧ x = .str ⟨#[c]⟩) (iStr (wE X e) σ) := fun Hc ex R r =>
  h Hc ex _ fun v Hn H2 g p => ⟨s, p.now, r _ Hn H2 g over_str⟩
/-- i op j op' l, all ints -/
theorem t_chainI {op op' : CmpOp} {g g' : Int → Int → Bool} (ho : OpR X (compareOp op) (rI0 fun i j => .bl (g i j))) (ho' : OpR X (compareOp op') (rI0 fun i j => .bl (g' i j))) (ha : Cm H (is (V.int i)) (wE X a σ)) (hb : Cm H (is (V.int j)) (wE X b σ)) (hc : Cm H (is (V.int l)) (wE X c σ))
    (hm : lastMarks [op, op'] [b, c] = false := by rfl) : Cm H (is (g i j && g' j l)) (wT X (.Compare a [op, op'] [b, c] pos) σ) := by
  refine ct (pt_chain ho ho' pe_w pe_w pe_w hm) (cm1D (x := V.bl (g i j && g' j l)) (u := fun v Hc (Q : Bool → Hp → Prop) => ∃ c, v = V.bl c ∧ Q c Hc) ?_ (Cm.ret (fun _ _ _ q => ⟨_, rfl, q⟩) (.const rfl)))
  refine cm2D (r := fun x y H2 (Q : VK) => rI0 (fun i j => .bl (g i j)) x y H2 fun z H3 => ∃ k, z = V.bl k ∧ if k = true then wE X c σ H3 (fun w' H4 => rI0 (fun i j => .bl (g' i j)) y w' H4 Q) else Q (V.bl false) H3) ha hb ?_
  refine fun Hc ex Q q => ⟨i, j, rfl, rfl, g i j, rfl, ?_⟩
  cases hg : g i j with
  | true =>
    rw [hg] at q
    show wE X c σ Hc _
    exact hc Hc ex _ fun w Hn H2 g2 p => ⟨j, l, rfl, p.now, q _ Hn H2 g2 (.const (by simp))⟩
  | false =>
    rw [hg] at q
    show Q (V.bl false) Hc
    exact q _ H Hc (Grow.refl ex) (.const (by simp))
theorem e_isi {c : V} {u ty : Value} (hm : X.mg "isinstance" = none) (hv : Cm H (is v) (wE X e σ)) (ht : Cm H (is c) (wE X t σ)) (h : Pz H (fun H' => TyX X.K H' v ty)) (hc : ClsV c u) (hk : PySem.W.kitOne X.K ty u = some k) (hg : Gl X "isinstance" := by rfl)
    (hs : starEach [e, t] X.env = (false, eval e X.env) :: starEach [t] X.env := by rfl) (hs2 : starEach [t] X.env = (false, eval t X.env) :: starEach [] X.env := by rfl) : Cm H (is (V.bl k)) (wE X (.Call (.Name "isinstance" px) [e, t] [] pos) σ) :=
  e_bltD call_isi hm (a_consD hv (a_consD ht a_nil hs2) hs) (Cm.ret (fun Hc ex _ q => ⟨v, c, ty, u, k, rfl, hc, h Hc ex, hk, q⟩) (.const rfl)) hg (by decide +kernel) (by decide) (by decide) hs (by rw [hs2] <;> rfl)
end
/-! ### names -/
/-- one to eight letters from a to z -/
def Nm (x : Str) : Prop := 1 ≤ x.length ∧ x.length ≤ 8 ∧ ∀ c ∈ x.cps.toList, 97 ≤ c ∧ c ≤ 122
def Lt (x y : Str) : Prop := x.cps.toList < y.cps.toList
instance (x y : Str) : Decidable (Lt x y) := inferInstanceAs (Decidable (x.cps.toList < y.cps.toList))
/-- the two names of a link in their order -/
def lnk (x y : Str) : Str × Str := if Lt x y then (x, y) else (y, x)
/-- a pair of texts -/
abbrev pr (p : Str × Str) : V → Hp → Prop := fun v H => ∃ a, v = .ref a ∧ H a = some (.tup [.str p.1, .str p.2])
abbrev prT (K : PySem.W.Frag) (p : Str × Str) : V → Hp → Prop := fun v H => ∃ a, v = .ref a ∧ SqT K H a [.str p.1, .str p.2]
abbrev txts (K : PySem.W.Frag) (xs : List Str) : V → Hp → Prop := lst K (xs.map V.str)
end LW
set_option Elab.async false
set_option linter.all false
set_option maxRecDepth 100000
set_option maxHeartbeats 2000000
/-! Names, pairs of names and their orders: plain mathematics. -/
namespace LW
open PySem L2
theorem tx_ext {x y : Str} (h : x.cps.toList = y.cps.toList) : x = y := Str.ext' (Array.toList_inj.mp h)
theorem lt_irr (x : List Nat) : ¬ x < x := List.lt_irrefl x
theorem lt_as {x y : List Nat} (h : x < y) : ¬ y < x := fun q => lt_irr x (List.lt_trans h q)
theorem lt_tri {x y : List Nat} (h : ¬ x < y) (h2 : ¬ y < x) : x = y := by
  have a : y ≤ x := List.not_lt.mp h
  have b : x ≤ y := List.not_lt.mp h2
  exact List.le_antisymm b a
/-- the order of pairs -/
def LtP (p q : Str × Str) : Prop := Lt p.1 q.1 ∨ (p.1 = q.1 ∧ Lt p.2 q.2)
instance (p q : Str × Str) : Decidable (LtP p q) := inferInstanceAs (Decidable (_ ∨ _))
theorem Lt.irr (x : Str) : ¬ Lt x x := lt_irr _
theorem Lt.tri {x y : Str} (h : ¬ Lt x y) (h2 : ¬ Lt y x) : x = y := tx_ext (lt_tri h h2)
theorem Lt.as {x y : Str} (h : Lt x y) : ¬ Lt y x := lt_as h
theorem Lt.tr {x y z : Str} (h : Lt x y) (h2 : Lt y z) : Lt x z := List.lt_trans h h2
theorem LtP.irr (p : Str × Str) : ¬ LtP p p := fun h => h.elim (Lt.irr _) fun q => Lt.irr _ q.2
theorem LtP.tr {p q r : Str × Str} (h : LtP p q) (h2 : LtP q r) : LtP p r := by
  rcases h with h | ⟨e, h⟩ <;> rcases h2 with h2 | ⟨e2, h2⟩
  · exact .inl (h.tr h2)
  · exact .inl (e2 ▸ h)
  · exact .inl (e ▸ h2)
  · exact .inr ⟨e.trans e2, h.tr h2⟩
theorem LtP.tri {p q : Str × Str} (h : ¬ LtP p q) (h2 : ¬ LtP q p) : p = q := by
  have e : p.1 = q.1 := Lt.tri (fun z => h (.inl z)) fun z => h2 (.inl z)
  have e2 : p.2 = q.2 := Lt.tri (fun z => h (.inr ⟨e, z⟩)) fun z => h2 (.inr ⟨e.symm, z⟩)
  exact Prod.ext e e2
/-- sorted lists of texts, of pairs -/
def SortN (xs : List Str) : Prop := xs.Pairwise fun x y => ¬ Lt y x
def SortP (ps : List (Str × Str)) : Prop := ps.Pairwise fun p q => ¬ LtP q p
theorem sortN_uniq {xs ys : List Str} (a : SortN xs) (b : SortN ys) (p : xs.Perm ys) : xs = ys := List.Perm.eq_of_pairwise (le := fun x y => ¬ Lt y x) (fun x y _ _ h h2 => Lt.tri h2 h) a b p
theorem sortP_uniq {xs ys : List (Str × Str)} (a : SortP xs) (b : SortP ys) (p : xs.Perm ys) : xs = ys := List.Perm.eq_of_pairwise (le := fun x y => ¬ LtP y x) (fun x y _ _ h h2 => LtP.tri h2 h) a b p
/-- what the library calls rising -/
theorem sortN_of : ∀ {xs : List Str}, PyProof.Rows.sortedS xs = true → SortN xs := by
  have go : ∀ (xs : List Str) (x : Str), PyProof.Rows.risingS x xs = true → (∀ y ∈ xs, ¬ Lt y x) ∧ SortN xs := by
    intro xs
    induction xs with
    | nil => intro x _; exact ⟨fun _ h => absurd h (by simp), List.Pairwise.nil⟩
    | cons y r ih =>
      intro x h
      have h' : (!PySem.Spec.ltCps y.cps.toList x.cps.toList && PyProof.Rows.risingS y r) = true := h
      rw [PyProof.Rows.ltCps_eq] at h'
      obtain ⟨h1, h2⟩ := Bool.and_eq_true_iff.mp h'
      have h1 : ¬ Lt y x := by simpa [Lt] using h1
      obtain ⟨a, b⟩ := ih y h2
      refine ⟨fun z hz => ?_, List.pairwise_cons.mpr ⟨a, b⟩⟩
      rcases List.mem_cons.mp hz with rfl | hz
      · exact h1
      · exact fun q => by
          by_cases e : Lt y z
          · exact h1 (e.tr q)
          · have := Lt.tri e (a z hz)
            subst this
            exact h1 q
  intro xs h
  cases xs with
  | nil => exact List.Pairwise.nil
  | cons x r => exact List.pairwise_cons.mpr (go r x h)
/-- "one other" -/
def txt2 (p : Str × Str) : Str := p.1 ++ (" " : Str) ++ p.2
theorem txt2_cps (p : Str × Str) : (txt2 p).cps.toList = p.1.cps.toList ++ 32 :: p.2.cps.toList := by
  show (p.1.cps ++ (" " : Str).cps ++ p.2.cps).toList = _
  have e : (" " : Str).cps.toList = [32] := by decide +kernel
  rw [Array.toList_append, Array.toList_append, e, List.append_assoc]
  rfl
theorem lt_sp : ∀ (a a' b b' : List Nat), (∀ c ∈ a, 97 ≤ c) → (∀ c ∈ a', 97 ≤ c) → (a ++ 32 :: b < a' ++ 32 :: b' ↔ a < a' ∨ (a = a' ∧ b < b'))
  | [], [], b, b', _, _ => by
    have n : ¬ ([] : List Nat) < [] := lt_irr _
    simp [List.cons_lt_cons_iff, n]
  | [], c :: r, b, b', _, h => by
    have hc := h c (by simp)
    simp [List.cons_lt_cons_iff]
    omega
  | c :: r, [], b, b', h, _ => by
    have hc := h c (by simp)
    simp [List.cons_lt_cons_iff]
    omega
  | c :: r, c' :: r', b, b', h, h' => by
    have ih := lt_sp r r' b b' (fun x hx => h x (by simp [hx])) fun x hx => h' x (by simp [hx])
    simp only [List.cons_append, List.cons_lt_cons_iff, ih, List.cons.injEq]
    constructor
    · rintro (q | ⟨e, q | ⟨e2, q⟩⟩)
      · exact .inl (.inl q)
      · exact .inl (.inr ⟨e, q⟩)
      · exact .inr ⟨⟨e, e2⟩, q⟩
    · rintro ((q | ⟨e, q⟩) | ⟨⟨e, e2⟩, q⟩)
      · exact .inl q
      · exact .inr ⟨e, .inl q⟩
      · exact .inr ⟨e, .inr ⟨e2, q⟩⟩
theorem lt_txt2 {p q : Str × Str} (h : Nm p.1) (h' : Nm q.1) : Lt (txt2 p) (txt2 q) ↔ LtP p q := by
  unfold Lt
  rw [txt2_cps, txt2_cps, lt_sp _ _ _ _ (fun c hc => (h.2.2 c hc).1) fun c hc => (h'.2.2 c hc).1]
  constructor
  · rintro (z | ⟨e, z⟩)
    · exact .inl z
    · exact .inr ⟨tx_ext e, z⟩
  · rintro (z | ⟨e, z⟩)
    · exact .inl z
    · exact .inr ⟨by rw [e], z⟩
theorem Nm.no_sp {x : Str} (h : Nm x) : 32 ∉ x.cps.toList := fun m => by have := h.2.2 _ m; omega
theorem txt2_split {p : Str × Str} (h : Nm p.1) (h2 : Nm p.2) : Txt.split (txt2 p) (" " : Str) = [p.1, p.2] := by
  have e : txt2 p = Txt.join (" " : Str) [p.1, p.2] := by
    refine tx_ext ?_
    rw [txt2_cps]
    have q := TL.tl_join (" " : Str) [p.1, p.2]
    rw [← TL.join_eq] at q
    have e1 : TL.tl (" " : Str) = [32] := by decide +kernel
    rw [e1] at q
    exact (q.trans (by rfl)).symm
  rw [e]
  refine TL.split_join (s := 32) (S := []) (by decide +kernel) (by decide +kernel) (by simp) fun z hz => ?_
  rcases List.mem_cons.mp hz with rfl | hz
  · exact h.no_sp
  · rcases List.mem_cons.mp hz with rfl | hz
    · exact h2.no_sp
    · exact absurd hz (by simp)
theorem txt2_len {p : Str × Str} (h : Nm p.1) (h2 : Nm p.2) : (txt2 p).length ≤ 17 := by
  have e : (txt2 p).length = p.1.length + (1 + p.2.length) := by
    show (txt2 p).cps.size = _
    rw [← Array.length_toList, txt2_cps]
    simp [Str.length]
    omega
  rw [e]
  have := h.2.1; have := h2.2.1
  omega
theorem txt2_inj {p q : Str × Str} (h : Nm p.1) (h2 : Nm q.1) (e : txt2 p = txt2 q) : p = q := by
  have a : ¬ LtP p q := fun z => Lt.irr _ (e ▸ (lt_txt2 h h2).mpr z)
  have b : ¬ LtP q p := fun z => Lt.irr _ (e ▸ (lt_txt2 h2 h).mpr z)
  exact LtP.tri a b
/-! links -/
theorem lnk_comm (x y : Str) : lnk x y = lnk y x := by
  unfold lnk
  by_cases h : Lt x y
  · rw [if_pos h, if_neg h.as]
  · rw [if_neg h]
    by_cases h2 : Lt y x
    · rw [if_pos h2]
    · rw [if_neg h2, Lt.tri h h2]
theorem lnk_cases (x y : Str) : lnk x y = (x, y) ∨ lnk x y = (y, x) := by
  unfold lnk
  by_cases h : Lt x y
  · exact .inl (if_pos h)
  · exact .inr (if_neg h)
end LW
set_option Elab.async false
set_option linter.all false
set_option maxRecDepth 100000
set_option maxHeartbeats 2000000
namespace LW
open PySem L2
theorem paired_ex {H H' : Hp} (e : Ex H H') {ts : List Addr} {ps : List (Str × Str)} (h : Paired (fun t p => H t = some (.tup [V.str p.1, V.str p.2])) ts ps) : Paired (fun t p => H' t = some (.tup [V.str p.1, V.str p.2])) ts ps := L2.Paired.mapP h fun _ _ z => e _ _ z
/-- a list of pairs; a list or a tuple of them; a list or a tuple of texts -/
abbrev TsAt (H : Hp) (ts : List Addr) (ps : List (Str × Str)) : Prop := Paired (fun t p => H t = some (.tup [V.str p.1, V.str p.2])) ts ps
abbrev prs (K : PySem.W.Frag) (ps : List (Str × Str)) : V → Hp → Prop := fun v H => ∃ a ts, v = .ref a ∧ SqL K H a (ts.map V.ref) ∧ TsAt H ts ps
/-- a list (q true) or a tuple -/
def Sq (K : PySem.W.Frag) (q : Bool) (H : Hp) (a : Addr) (xs : List V) : Prop := if q = true then SqL K H a xs else SqT K H a xs
theorem Sq.any {K : PySem.W.Frag} {q : Bool} {H : Hp} {a : Addr} {xs : List V} (h : Sq K q H a xs) : SqL K H a xs ∨ SqT K H a xs := by
  cases q with
  | true => exact .inl h
  | false => exact .inr h
theorem Sq.ex {K : PySem.W.Frag} {q : Bool} {H H' : Hp} {a : Addr} {xs : List V} (e : Ex H H') (h : Sq K q H a xs) : Sq K q H' a xs := by
  cases q with
  | true => exact Evl.ex_l e h
  | false => exact Evl.ex_t e h
abbrev prsQ (K : PySem.W.Frag) (q : Bool) (ps : List (Str × Str)) : V → Hp → Prop := fun v H => ∃ a ts, v = .ref a ∧ Sq K q H a (ts.map V.ref) ∧ TsAt H ts ps
abbrev txtsQ (K : PySem.W.Frag) (q : Bool) (xs : List Str) : V → Hp → Prop := fun v H => ∃ a, v = .ref a ∧ Sq K q H a (xs.map V.str)
section
variable {X : Cx} {σ : St} {H Hc : Hp} {P Pa Pb : V → Hp → Prop} {e a b c t : Expr} {pos px p2 : Pos} {k : Bool} {v x y z : V} {i j l : Int} {s : Str} {tg iter : Expr}
/-- a walk over a list or a tuple -/
theorem pi_or {w1 w2 : TI} (h1 : PI X tg iter w1) (h2 : PI X tg iter w2) : PI X tg iter (fun σ H R => w1 σ H R ∨ w2 σ H R) :=
  ⟨fun pins s σ H R I h => h.elim (fun z => h1.1 pins s σ H R I z) (fun z => h2.1 pins s σ H R I z)⟩
/-- a list (q) or a tuple of xs is walked -/
theorem i_sq {q : Bool} {xs : List V} (h : Cm H (fun v H' => ∃ a, v = .ref a ∧ Sq X.K q H' a xs) (wE X e σ)) : Ci H xs.length (fun i x _ => xs[i]? = some x) (fun R => fun Q => iList X.K (wE X e) σ R Q ∨ iTup X.K (wE X e) σ R Q) := by
  cases q with
  | true => exact fun Hc ex R r => .inl (i_list (xs := xs) h Hc ex R r)
  | false => exact fun Hc ex R r => .inr (i_tup (xs := xs) h Hc ex R r)
end
end LW
set_option Elab.async false
set_option linter.all false
set_option maxRecDepth 100000
set_option maxHeartbeats 4000000
/-! enumerate over a tuple. -/
namespace LWE
open PySem
section
variable {prog : Program} {w : World} {A : Around} {E : Value → Shared → Prop} {s : Shared} {tp it en : Addr} {i : Nat} {its : Array Value} {x prev : Value}
/-- the next item of a walk over a tuple, within the library's own walks -/
theorem nextT {Q : Value → Shared → Prop} (st : s.heap.IsTupleIter it tp i) (tt : s.heap.IsTuple tp its) (hx : its[i]? = some x) (k : ∀ g, g.IsTupleIter it tp (i + 1) → Heap.SameBut it s.heap g → Q x { s with heap := g }) : wpAny (model prog w) A (Builtin.SmallTypes.nextOf (.ref it)) Q E s := by
  obtain ⟨o, ho, oc, od⟩ := id st
  obtain ⟨ot, hot, _, m, otd⟩ := tt
  have ty : s.TypeIs (.ref it) "tuple_iterator" := ⟨o, ho, oc⟩
  unfold Builtin.SmallTypes.nextOf
  refine wpAny_bind (wpAny_callSpecial?_slot (name := Str.ofString "__next__") ty F.slot_tuple_iterator_next (wpAny_call_entry F.slot_tuple_iterator_next ty F.entry_tuple_iterator_next ?_ (F.args_tuple_iterator_next_1 _)))
  show wpAny (model prog w) _ (field (.ref it) 0 >>= _) _ _ s
  refine wpAny_bind (wpAny_field ho od (x := .ref tp) rfl ?_)
  show wpAny (model prog w) _ (if (Value.ref tp == Value.none) = true then _ else _) _ _ s
  rw [if_neg (show ¬ (Value.ref tp == Value.none) = true from Bool.false_ne_true)]
  show wpAny (model prog w) _ (field (.ref it) 1 >>= _) _ _ s
  refine wpAny_bind (wpAny_field ho od (x := .int i 0) rfl ?_)
  show wpAny (model prog w) _ (seqItems? (.ref tp) >>= _) _ _ s
  refine wpAny_bind (wpAny_seqItems hot otd ?_)
  simp only [Int.toNat_natCast, hx]
  refine wpAny_bind (wpAny_setField ho od (by simp) (wpAny_pure ⟨x, rfl, wpAny_pure (k _ ⟨_, Heap.get?_update_self _ ho (Obj.isFreed_of_fields (Obj.data_mapFields od _)), (Obj.cls_mapFields ..).trans oc, ?_⟩ (Heap.SameBut.update ..))⟩))
  rw [Obj.data_mapFields od]
  simp [rawInt]
theorem stopT {Q : Value → Shared → Prop} (hh : A.handled = none) (st : s.heap.IsTupleIter it tp i) (tt : s.heap.IsTuple tp its) (hx : its[i]? = none)
    (k : ∀ g e, Heap.ExtBut it s.heap g → (∃ o, g.get? e = some o ∧ o.cls = .type "StopIteration") → E (.ref e) { s with heap := g }) : wpAny (model prog w) A (Builtin.SmallTypes.nextOf (.ref it)) Q E s := by
  obtain ⟨o, ho, oc, od⟩ := id st
  obtain ⟨ot, hot, _, m, otd⟩ := tt
  have ty : s.TypeIs (.ref it) "tuple_iterator" := ⟨o, ho, oc⟩
  unfold Builtin.SmallTypes.nextOf
  refine wpAny_bind (wpAny_callSpecial?_slot (name := Str.ofString "__next__") ty F.slot_tuple_iterator_next (wpAny_call_entry F.slot_tuple_iterator_next ty F.entry_tuple_iterator_next ?_ (F.args_tuple_iterator_next_1 _)))
  show wpAny (model prog w) _ (field (.ref it) 0 >>= _) _ _ s
  refine wpAny_bind (wpAny_field ho od (x := .ref tp) rfl ?_)
  show wpAny (model prog w) _ (if (Value.ref tp == Value.none) = true then _ else _) _ _ s
  rw [if_neg (show ¬ (Value.ref tp == Value.none) = true from Bool.false_ne_true)]
  show wpAny (model prog w) _ (field (.ref it) 1 >>= _) _ _ s
  refine wpAny_bind (wpAny_field ho od (x := .int i 0) rfl ?_)
  show wpAny (model prog w) _ (seqItems? (.ref tp) >>= _) _ _ s
  refine wpAny_bind (wpAny_seqItems hot otd ?_)
  simp only [Int.toNat_natCast, hx]
  refine wpAny_bind (wpAny_rule (wpAny_bind (wpAny_setField ho od (by simp) ?_)))
  show wpAny (model prog w) _ (newExc (.type "StopIteration") [] >>= _) _ _ _
  refine wpAny_bind ?_
  simp only [newExc, newTuple]
  refine wpAny_bind (wpAny_newObj_type ?_ (by size_fits))
  refine wpAny_bind (m := firstArgMember _ _) (wpAny_of_eq (a := Value.none) (by first | rfl | (simp only [firstArgMember]; rfl)) ?_)
  refine wpAny_newObj_type ?_ (by size_fits)
  simp only [raiseNew]
  refine wpAny_bind (wpAny_handled ?_)
  first
  | rw [show A.in1.handled = none from hh]
  | rw [hh]
  exact wpAny_bind (wpAny_pure (wpAny_throw (k _ _ (((Heap.SameBut.update ..).extBut.push _).push _) ⟨_, Heap.get?_push_size _ rfl, rfl⟩)))
/-- one turn of enumerate over a tuple: a new pair -/
theorem enumT {Q : Value → Shared → Prop} (he : IsEnum s.heap en it i prev) (st : s.heap.IsTupleIter it tp i) (tt : s.heap.IsTuple tp its) (hx : its[i]? = some x) (ne : en ≠ it)
    (k : ∀ g, IsEnumOut g en it ((i : Int) + 1) x s.heap.objs.size → g.IsTupleIter it tp (i + 1) → g.get? s.heap.objs.size = some { cls := .type "tuple", data := .seq #[.int i s.toks, x] } → g.objs.size = s.heap.objs.size + 1 →
      (∀ b o, b ≠ en → b ≠ it → s.heap.get? b = some o → g.get? b = some o) → Q (.ref s.heap.objs.size) { s with heap := g, toks := s.toks + 1 }) :
    wpAny (model prog w) A (Builtin.«enumerate.__next__» ⟨[.ref en], []⟩) (fun f s2 => ∃ v, f = .done (.ret v) ∧ Q v s2) E s := by
  obtain ⟨g0, gn, dr, tk, os⟩ := s
  have ext : ∀ {a b : Heap} {y : Addr}, Heap.SameBut y a b → y ≠ it → a.IsTupleIter it tp (i + 1) → b.IsTupleIter it tp (i + 1) := fun hs hy ⟨o, ho, r⟩ => ⟨o, hs.extBut _ _ (Ne.symm hy) ho, r⟩
  show wpAny (model prog w) _ (field (.ref en) 2 >>= _) _ _ _
  refine wpAny_bind (wpAny_field he rfl (x := .ref it) rfl ?_)
  refine wpAny_bind (nextT st tt hx fun g1 st1 sb1 => ?_)
  replace sb1 : Heap.SameBut it g0 g1 := sb1
  have e1 : IsEnum g1 en it i prev := (sb1.2 en ne).trans he
  show wpAny (model prog w) _ (field (.ref en) 3 >>= _) _ _ ⟨g1, gn, dr, tk, os⟩
  refine wpAny_bind (wpAny_field e1 rfl (x := rawInt i) rfl ?_)
  show wpAny (model prog w) _ (field (.ref en) 4 >>= _) _ _ ⟨g1, gn, dr, tk, os⟩
  refine wpAny_bind (wpAny_field e1 rfl (x := .none) rfl ?_)
  show wpAny (model prog w) _ (mkInt i >>= _) _ _ ⟨g1, gn, dr, tk, os⟩
  refine wpAny_bind (wpAny_mkInt ?_)
  show wpAny (model prog w) _ (setField (.ref en) 3 (rawInt ((i : Int) + 1)) >>= _) _ _ ⟨g1, gn, dr, tk + 1, os⟩
  refine wpAny_bind (wpAny_setField_rec e1 (by simp) fun g2 e2 sb2 => ?_)
  replace sb2 : Heap.SameBut en g1 g2 := sb2
  replace e2 : IsEnum g2 en it ((i : Int) + 1) prev := e2
  show wpAny (model prog w) _ (setField (.ref en) 4 .none >>= _) _ _ ⟨g2, gn, dr, tk + 1, os⟩
  refine wpAny_bind (wpAny_setField_rec e2 (by simp) fun g3 e3 sb3 => ?_)
  replace sb3 : Heap.SameBut en g2 g3 := sb3
  replace e3 : IsEnum g3 en it ((i : Int) + 1) prev := e3
  show wpAny (model prog w) _ (newTuple [.int i tk, x] >>= _) _ _ ⟨g3, gn, dr, tk + 1, os⟩
  refine wpAny_bind (wpAny_newTuple ?_)
  have z3 : g3.objs.size = g0.objs.size := by rw [sb3.1, sb2.1, sb1.1]
  have lte : en < g0.objs.size := Heap.lt_size he
  have nen : g0.objs.size ≠ en := Nat.ne_of_gt lte
  let g4 := g3.push { cls := .type "tuple", data := .seq #[.int i tk, x] }
  have e4 : IsEnum g4 en it ((i : Int) + 1) prev := Heap.get?_push_of_some _ e3
  have t4 : g4.get? g0.objs.size = some { cls := .type "tuple", data := .seq #[.int i tk, x] } := by
    rw [← z3]
    exact Heap.get?_push_size _ rfl
  have z4 : g4.objs.size = g0.objs.size + 1 := by
    show (g3.push _).objs.size = _
    rw [Heap.size_push, z3]
  have k4 : ∀ b o, b ≠ en → b ≠ it → g0.get? b = some o → g4.get? b = some o := fun b o n1 n2 q => Heap.get?_push_of_some _ (sb3.extBut b o n1 (sb2.extBut b o n1 (sb1.extBut b o n2 q)))
  have s4 : g4.IsTupleIter it tp (i + 1) := by
    obtain ⟨o, ho, r⟩ := ext sb3 ne (ext sb2 ne st1)
    exact ⟨o, Heap.get?_push_of_some _ ho, r⟩
  show wpAny (model prog w) _ (Builtin.SmallTypes.ownedTupleIsFree (.ref en) >>= _) _ _ ⟨g4, gn, dr, tk + 1, os⟩
  rw [z3]
  clear_value g4
  refine wpAny_bind ?_
  unfold Builtin.SmallTypes.ownedTupleIsFree
  refine wpAny_bind (wpAny_field e4 rfl (x := .none) rfl (wpAny_pure ?_))
  simp only [if_true]
  refine wpAny_bind (wpAny_rule ?_)
  refine wpAny_bind (wpAny_field e4 rfl (x := prev) rfl ?_)
  refine wpAny_bind (wpAny_setField_rec e4 (by simp) fun g5 e5 sb5 => ?_)
  replace sb5 : Heap.SameBut en g4 g5 := sb5
  replace e5 : IsEnum g5 en it ((i : Int) + 1) x := e5
  show wpAny (model prog w) _ (Builtin.SmallTypes.ownedTupleHandOut (.ref en) (.ref g0.objs.size) >>= _) _ _ ⟨g5, gn, dr, tk + 1, os⟩
  refine wpAny_bind ?_
  unfold Builtin.SmallTypes.ownedTupleHandOut
  refine wpAny_bind (wpAny_setField_rec e5 (by simp) fun g6 e6 sb6 => ?_)
  replace sb6 : Heap.SameBut en g5 g6 := sb6
  replace e6 : IsEnumOut g6 en it ((i : Int) + 1) x g0.objs.size := e6
  refine wpAny_setField_rec e6 (by simp) fun g7 e7 sb7 => ?_
  replace sb7 : Heap.SameBut en g6 g7 := sb7
  replace e7 : IsEnumOut g7 en it ((i : Int) + 1) x g0.objs.size := e7
  refine wpAny_bind (wpAny_letGo (wpAny_pure ⟨_, rfl, k g7 e7 (ext sb7 ne (ext sb6 ne (ext sb5 ne s4))) ?_ ?_ ?_⟩))
  · exact sb7.extBut _ _ nen (sb6.extBut _ _ nen (sb5.extBut _ _ nen t4))
  · rw [sb7.1, sb6.1, sb5.1, z4]
  · exact fun b o n1 n2 q => sb7.extBut b o n1 (sb6.extBut b o n1 (sb5.extBut b o n1 (k4 b o n1 n2 q)))
theorem enumT_next {Q : Option Value → Shared → Prop} (he : IsEnum s.heap en it i prev) (st : s.heap.IsTupleIter it tp i) (tt : s.heap.IsTuple tp its) (hx : its[i]? = some x) (ne : en ≠ it)
    (k : ∀ g, IsEnumOut g en it ((i : Int) + 1) x s.heap.objs.size → g.IsTupleIter it tp (i + 1) → g.get? s.heap.objs.size = some { cls := .type "tuple", data := .seq #[.int i s.toks, x] } → g.objs.size = s.heap.objs.size + 1 →
      (∀ b o, b ≠ en → b ≠ it → s.heap.get? b = some o → g.get? b = some o) → Q (some (.ref s.heap.objs.size)) { s with heap := g, toks := s.toks + 1 }) : wpAny (model prog w) A (pyNext (.ref en)) Q E s := by
  have ty : s.TypeIs (.ref en) "enumerate" := ⟨_, he, rfl⟩
  unfold pyNext
  exact wpAny_bind (wpAny_attempt (wpAny_callSpecial?_slot (name := Str.ofString "__next__") ty F.slot_enumerate_next (wpAny_call_entry F.slot_enumerate_next ty F.entry_enumerate_next (enumT he st tt hx ne fun g a b c d e => wpAny_pure (k g a b c d e)) (F.args_enumerate_next_1 _))))
theorem enumT_end {Q : Option Value → Shared → Prop} (hh : A.handled = none) (he : IsEnum s.heap en it i prev) (st : s.heap.IsTupleIter it tp i) (tt : s.heap.IsTuple tp its) (hx : its[i]? = none) (k : ∀ g, Heap.ExtBut it s.heap g → Q none { s with heap := g }) : wpAny (model prog w) A (pyNext (.ref en)) Q E s := by
  have ty : s.TypeIs (.ref en) "enumerate" := ⟨_, he, rfl⟩
  unfold pyNext
  refine wpAny_bind (wpAny_attempt (wpAny_callSpecial?_slot (name := Str.ofString "__next__") ty F.slot_enumerate_next (wpAny_call_entry F.slot_enumerate_next ty F.entry_enumerate_next ?_ (F.args_enumerate_next_1 _))))
  show wpAny (model prog w) _ (field (.ref en) 2 >>= _) _ _ _
  refine wpAny_bind (wpAny_field he rfl (x := .ref it) rfl ?_)
  refine wpAny_bind (stopT hh st tt hx fun g e hg ⟨o, ho, hc⟩ => ?_)
  exact wpAny_bind (wpAny_isInstance (T := "StopIteration") (b := true) ⟨o, ho, hc⟩ isSubtype_stop (wpAny_pure (k _ hg)))
end
open AutoSeq1 (wpAny_loadPart')
theorem enumT_new (tp : Addr) (its : Array Value) (n : Nat) (dd : Option Addr) (sl : Array (Option Value)) :
    Meets (Builtin.«enumerate.__new__» ⟨[.type "enumerate", .ref tp], []⟩) (fun _ R s => s.heap.get? tp = some { cls := .type "tuple", dict := dd, data := .seq its n, slots := sl } ∧
      R (.ok (.ret (.ref (s.heap.push { cls := .type "tuple_iterator", data := .fields #[.ref tp, .int 0 0] }).objs.size)))
        { s with heap := (s.heap.push { cls := .type "tuple_iterator", data := .fields #[.ref tp, .int 0 0] }).push { cls := .type "enumerate", data := .fields #[.none, .bool false, .ref s.heap.objs.size, rawInt 0, .none, .none] } }) :=
  .of_wp fun prog w A R s q => by
    obtain ⟨hp, g, d, tk, os⟩ := s
    obtain ⟨ht, q⟩ := q
    have sub := sub_enumerate
    have tt : Heap.IsTuple (Shared.heap ⟨hp, g, d, tk, os⟩) tp its := ⟨_, ht, rfl, n, rfl⟩
    wp_walk using wpAny_loadPart' ht
    refine wpAny_stack_any fun stk => wpAny_pure ?_
    split
    · rename_i c _ _ _ _ _
      cases (c == Value.type "enumerate")
      · wp_walk using wpAny_loadPart' ht, wpAny_pyIter_tuple tt
        exact ⟨_, rfl, q⟩
      · wp_walk using wpAny_loadPart' ht, wpAny_pyIter_tuple tt
        exact ⟨_, rfl, q⟩
    · wp_walk using wpAny_loadPart' ht, wpAny_pyIter_tuple tt
      exact ⟨_, rfl, q⟩
section
variable {prog : Program} {w : World} {A : Around} {E : Value → Shared → Prop} {s : Shared} {tp : Addr} {its : Array Value}
theorem enumT_make {Q : Value → Shared → Prop} (tt : s.heap.IsTuple tp its)
    (k : ∀ g, IsEnum g (s.heap.objs.size + 1) s.heap.objs.size 0 .none → g.IsTupleIter s.heap.objs.size tp 0 → g.objs.size = s.heap.objs.size + 2 → (∀ b o, s.heap.get? b = some o → g.get? b = some o) → Q (.ref (s.heap.objs.size + 1)) { s with heap := g }) :
    wpAny (model prog w) A (call (.type "enumerate") [.ref tp]) Q E s := by
  obtain ⟨⟨c, dd, dt, sl⟩, ho, hc, n, hd⟩ := tt
  replace hc : c = .type "tuple" := hc
  replace hd : dt = .seq its n := hd
  subst hc hd
  refine callType_new F.called_enumerate (by decide) (F.typeCall_enumerate_1 _) (F.newCall_enumerate_1 _) (fun obj => F.args_object_init_2 obj _) F.entry_enumerate_new (enumT_new tp its n dd sl) ⟨ho, ?_⟩
  have z : (s.heap.push { cls := .type "tuple_iterator", data := .fields #[.ref tp, .int 0 0] }).objs.size = s.heap.objs.size + 1 := Heap.size_push ..
  show _ ∧ _
  rw [z]
  have he := Heap.get?_push_size (s.heap.push { cls := .type "tuple_iterator", data := .fields #[.ref tp, .int 0 0] }) (o := { cls := .type "enumerate", data := .fields #[.none, .bool false, .ref s.heap.objs.size, rawInt 0, .none, .none] }) rfl
  rw [z] at he
  exact ⟨⟨_, he, rfl⟩, k _ he ⟨_, Heap.get?_push_of_some _ (Heap.get?_push_size _ rfl), rfl, rfl⟩ (by rw [Heap.size_push, z]) fun b o x => Heap.get?_push_of_some _ (Heap.get?_push_of_some _ x)⟩
end
end LWE
namespace LW
open PySem PySem.Spec PyProof.Rows L2
/-- the tuple at a, each item in a new pair -/
def IteT (K : PySem.W.Frag) (a : Addr) : It :=
  ⟨fun i H => ∃ (xs : List V) (x : V), SqT K H a xs ∧ xs[i]? = some x, fun i H v H' => ∃ T x, v = .ref T ∧ H T = none ∧ H' = upd H T (.tup [.int (i : Nat), x]) ∧ ∀ xs, SqT K H a xs → xs[i]? = some x, fun i H => ∃ xs : List V, SqT K H a xs ∧ xs.length ≤ i⟩
theorem turn_enumT {P : Program} {w : World} {K : PySem.W.Frag} {elts : List Expr} {kk : Nat} {tpos : Pos} (a e it : Addr) :
    Turn P w K (.Tuple elts kk tpos) (IteT K a) [e, it] e (fun i h => (∃ old, IsEnum h e it ((i : Nat) : Int) old) ∧ h.IsTupleIter it a i ∧ e ≠ it) where
  mem := by simp
  obj := fun i h st b hb => by
    obtain ⟨⟨old, he⟩, ⟨o, ho, hc, hd⟩, _⟩ := st
    rcases (show b = e ∨ b = it by simpa using hb) with rfl | rfl
    · exact ⟨_, he, fun v q => nomatch q⟩
    · exact ⟨o, ho, fun v q => by rw [hd] at q; cases q⟩
  keep := fun i h h' ⟨⟨old, he⟩, ⟨o, ho, r⟩, ne⟩ k => ⟨⟨old, k e (by simp) _ he⟩, ⟨o, k it (by simp) o ho, r⟩, ne⟩
  item := by
    intro X hP hw hK hc i pins s σ H E I hf st hg
    subst hP hw hK
    obtain ⟨⟨old, he⟩, hit, ne⟩ := st
    obtain ⟨xs, x, hq, hx⟩ := hg
    obtain ⟨its, rv, p, hz⟩ := I.tuple hq
    obtain ⟨u, hu, ru⟩ := rv.get hx
    have lte : e < s.heap.objs.size := Heap.lt_size he
    have lti : it < s.heap.objs.size := by
      obtain ⟨_, q, _⟩ := hit
      exact Heap.lt_size q
    refine LWE.enumT_next he hit (show s.heap.IsTuple a its.toArray from p) (x := u) (by simpa using hu) ne fun g ho hit' hT hsz hk => ?_
    refine ⟨_, rfl, wpAny_letOwnedTupleGo_enum (s := { s with heap := g, toks := s.toks + 1 }) ho fun g2 he' sb => ?_⟩
    have hT2 : g2.get? s.heap.objs.size = some { cls := .type "tuple", data := .seq #[.int i s.toks, u] } := (sb.2 _ (Nat.ne_of_gt lte)).trans hT
    have new : ObjOk X.prog X.w (upd H s.heap.objs.size (.tup [.int (i : Nat), x])) g2 s.heap.objs.size (.tup [.int (i : Nat), x]) := by
      refine ⟨by show 2 ≤ sizeLine; decide, [.int i s.toks, u], .cons ⟨_, rfl⟩ (.cons ru .nil), ?_⟩
      exact ⟨_, hT2, rfl, _, rfl⟩
    have I1 : Inv X pins σ (upd H s.heap.objs.size (.tup [.int (i : Nat), x])) { s with heap := g2, toks := s.toks + 1 } := by
      refine I.turnedNew (ch := [e, it]) (fun b ob hb q => ?_) hf (Nat.le_refl _) new
      exact (sb.2 b (fun z => hb (by simp [z]))).trans (hk b ob (fun z => hb (by simp [z])) (fun z => hb (by simp [z])) q)
    have up : ((i + 1 : Nat) : Int) = (i : Int) + 1 := by omega
    refine ⟨.ref s.heap.objs.size, _, I1, rfl, ⟨_, x, rfl, I.hok.fresh (Nat.le_refl _), rfl, fun ys hy => by rw [I.tuple_inj hy hq]; exact hx⟩, ⟨⟨u, by rw [up]; exact he'⟩, ?_, ne⟩, fun b hb => ?_⟩
    · obtain ⟨o, q, r⟩ := hit'
      exact ⟨o, (sb.2 it (Ne.symm ne)).trans q, r⟩
    · have hb' : b < s.heap.objs.size := by
        rcases (show b = e ∨ b = it by simpa using hb) with rfl | rfl
        · exact lte
        · exact lti
      rw [upd_ne (Nat.ne_of_lt hb')]
      exact (hf b hb).1
  done := by
    intro X hP hw hK hc i pins s σ H E I hf st hg
    subst hP hw hK
    obtain ⟨⟨old, he⟩, hit, ne⟩ := st
    obtain ⟨xs, hq, hx⟩ := hg
    obtain ⟨its, rv, p, hz⟩ := I.tuple hq
    obtain ⟨f0, f1, f2, f3, f4, f5⟩ := hf it (by simp)
    have hl := rv.length
    exact LWE.enumT_end (I.ok.hd hc) he hit (show s.heap.IsTuple a its.toArray from p) (by simp; omega) fun g eb => ⟨rfl, I.turned (t' := s.toks) (fun b o hb q => eb b o hb q) f0 f1 f3 f4 f5⟩
  self := fun A i s Q E ⟨⟨_, he⟩, _⟩ h => wpAny_pyIter_enum he h
def iEnumT (K : PySem.W.Frag) (ta : TA) : TI := fun σ H R => ta σ H fun vs H1 => ∃ a xs, vs = [.ref a] ∧ SqT K H1 a xs ∧ R (IteT K a) H1
theorem pi_enumT {X : Cx} {e : Expr} {ta : TA} {p pos tpos : Pos} {elts : List Expr} {kk : Nat} (hg : Gl X "enumerate") (hm : X.mg "enumerate" = none) (ha : PA X [e] ta) (hs : starEach [e] X.env = [(false, eval e X.env)] := by rfl) :
    PI X (.Tuple elts kk tpos) (.Call (.Name "enumerate" p) [e] [] pos) (iEnumT X.K ta) := by
  refine ⟨fun pins s σ H R I h => ?_⟩
  refine Call_ (ld_blt I hg hm boot_enumerate (PyProof.Rows.callWith_type1 (thn (ha.run pos pins s σ H _ I h) fun us s1 ⟨vs, H1, I1, rv, a, xs, ex, hq, q⟩ => ?_) hs rfl))
  subst ex
  obtain ⟨u, rfl, ru⟩ := vals1 rv
  cases (show u = Value.ref a from ru)
  obtain ⟨its, rv, p', hz⟩ := I1.tuple hq
  refine LWE.enumT_make (show s1.heap.IsTuple a its.toArray from p') fun g he hit hsz hk => wpAny_pyIter_enum he ?_
  have I2 : Inv X pins σ H1 { s1 with heap := g } := I1.kept (t' := s1.toks) hk
  refine ⟨s1.heap.objs.size + 1, [s1.heap.objs.size + 1, s1.heap.objs.size], _, _, H1, rfl, I2, turn_enumT a (s1.heap.objs.size + 1) s1.heap.objs.size, ⟨⟨.none, he⟩, hit, Nat.succ_ne_self _⟩, fun b hb => ?_, q⟩
  have hle : s1.heap.objs.size ≤ b := by
    rcases (show b = s1.heap.objs.size + 1 ∨ b = s1.heap.objs.size by simpa using hb) with rfl | rfl
    · exact Nat.le_add_right _ _
    · exact Nat.le_refl _
  exact I1.fpOk hle (I1.hok.fresh hle)
theorem over_enumT {K : PySem.W.Frag} {H : Hp} {a : Addr} {xs : List V} (h : Pz H (fun H' => SqT K H' a xs)) : Over H (IteT K a) xs.length (fun i v H' => ∃ T x, v = .ref T ∧ H' T = some (.tup [.int i, x]) ∧ xs[i]? = some x) where
  go := fun i Hc e hi => ⟨xs, xs[i], h Hc e, List.getElem?_eq_getElem hi⟩
  stop := fun i Hc e hi => ⟨xs, h Hc e, hi⟩
  yld := fun i x Hc H' e hi y H1 e1 e2 => by
    obtain ⟨T, x', rfl, hT, rfl, z⟩ := y
    exact ⟨_, Grow.new e2 hT, fun H3 e3 => ⟨T, x', rfl, e3 _ _ upd_same, z xs (h _ e)⟩⟩
end LW
set_option Elab.async false
set_option linter.all false
set_option maxRecDepth 100000
set_option maxHeartbeats 4000000
/-! sorted of pairs of texts. -/
namespace LWK
open PySem SrtO PyProof.Rows LW
section
variable {prog : Program} {w : World} {A : Around} {E : Value → Shared → Prop} {s : Shared}
def IsPS (h : Heap) (v : Value) (p : Str × Str) : Prop := ∃ a o t u n, v = .ref a ∧ h.get? a = some o ∧ o.cls = .type "tuple" ∧ o.data = .seq #[.str p.1 t, .str p.2 u] n
theorem IsPS.keeps {h h' : Heap} {v : Value} {p : Str × Str} (x : IsPS h v p) (k : ∀ b o, h.get? b = some o → o.cls = .type "tuple" → h'.get? b = some o) : IsPS h' v p :=
  let ⟨a, o, t, u, n, e, ho, hc, hd⟩ := x
  ⟨a, o, t, u, n, e, k _ _ ho hc, hc, hd⟩
def ltB (p q : Str × Str) : Bool := decide (LtP p q)
theorem swo_ps (k : Value → Str × Str) : Swo fun v u => ltB (k v) (k u) := by
  refine ⟨fun x y h => ?_, fun x y z h1 h2 => ?_⟩
  · have a : LtP (k x) (k y) := of_decide_eq_true h
    exact decide_eq_false fun b => LtP.irr _ (a.tr b)
  · have a : ¬ LtP (k y) (k x) := of_decide_eq_false h1
    have b : ¬ LtP (k z) (k y) := of_decide_eq_false h2
    refine decide_eq_false fun c => ?_
    by_cases d : LtP (k x) (k y)
    · exact b (c.tr d)
    · have e := LtP.tri d a
      rw [e] at c
      exact b c
theorem ps_cmp {vs : List Value} {k : Value → Str × Str} (hp : ∀ v ∈ vs, IsPS s.heap v (k v)) : Cmp prog w A s (tuples' true) (fun p => p.1 ∈ vs) (lt2 fun v u => ltB (k v) (k u)) := by
  intro p q hm hm'
  have h1 := hp _ hm
  have h2 := hp _ hm'
  show wpAny (model prog w) A (keyLt' (tuples' true) p.1 q.1) (fun r s' => s' = s ∧ r = ltB (k p.1) (k q.1)) (fun _ _ => False) s
  generalize k p.1 = x at h1 ⊢
  generalize k q.1 = y at h2 ⊢
  obtain ⟨a, o, t, u, n, e, ho, hc, hd⟩ := h1
  obtain ⟨a', o', t', u', n', e', ho', hc', hd'⟩ := h2
  rw [e, e']
  refine PySem.W.kat_lt ho hd ho' hd' ?_
  show PySem.W.KatLex prog w A true (decide (2 < 2)) _ [(.str x.1 t, .str y.1 t'), (.str x.2 u, .str y.2 u')] 0 s
  refine PySem.W.kat_cons (wpAny_eqBool_str ?_)
  refine PySem.W.kat_go (fun e1 => ?_) (fun e1 => ?_)
  · have ex : x.1 = y.1 := by simpa using e1
    refine PySem.W.kat_yes (PySem.W.kat_cons (wpAny_eqBool_str ?_))
    refine PySem.W.kat_go (fun e2 => ?_) (fun e2 => ?_)
    · have ey : x.2 = y.2 := by simpa using e2
      have z : x = y := Prod.ext ex ey
      exact PySem.W.kat_yes (PySem.W.kat_nil ⟨rfl, (by rw [z]; exact (decide_eq_false (LtP.irr y)).symm)⟩)
    · refine PySem.W.kat_no (oneLt_any_str ⟨rfl, ?_⟩)
      refine decide_eq_decide.mpr ⟨fun z => .inr ⟨ex, z⟩, fun z => ?_⟩
      rcases z with z | z
      · rw [ex] at z
        exact (Lt.irr _ z).elim
      · exact z.2
  · have ex : ¬ x.1 = y.1 := by simpa using e1
    refine PySem.W.kat_no (oneLt_any_str ⟨rfl, ?_⟩)
    refine decide_eq_decide.mpr ⟨fun z => .inl z, fun z => ?_⟩
    rcases z with z | z
    · exact z
    · exact (ex z.1).elim
theorem ps_firsts {h : Heap} {k : Value → Str × Str} : ∀ {vs : List Value}, (∀ v ∈ vs, IsPS h v (k v)) → ∃ fs : List Value, PySem.W.KatTups h vs fs ∧ fs.length = vs.length ∧ ∀ f ∈ fs, ∃ x t, f = Value.str x t
  | [], _ => ⟨[], trivial, rfl, fun f hf => absurd hf (by simp)⟩
  | v :: r, hp => by
    obtain ⟨fs, h1, h2, h3⟩ := ps_firsts (vs := r) fun u hu => hp u (by simp [hu])
    obtain ⟨a, o, t, u, n, e, ho, hc, hd⟩ := hp v (by simp)
    refine ⟨.str (k v).1 t :: fs, ⟨⟨a, o, _, n, e, ho, hc, hd, rfl⟩, h1⟩, by simp [h2], fun f hf => ?_⟩
    rcases List.mem_cons.mp hf with rfl | hf
    · exact ⟨_, _, rfl⟩
    · exact h3 f hf
theorem ps_sortable {a : Addr} {vs : List Value} {k : Value → Str × Str} (h0 : 0 < vs.length) (hp : ∀ v ∈ vs, IsPS s.heap v (k v)) (ha : ∀ o, s.heap.get? a = some o → o.cls ≠ .type "tuple") : SortableO prog w A s a vs fun v u => ltB (k v) (k u) := by
  intro h' keep
  have hp' : ∀ v ∈ vs, IsPS h' v (k v) := fun v hm => (hp v hm).keeps fun b o e c => keep b o (fun z => by subst z; exact ha o e c) e
  obtain ⟨fs, h1, h2, h3⟩ := ps_firsts hp'
  refine ⟨tuples' true, fun Q E hq => ?_, ps_cmp hp'⟩
  refine PySem.W.kat_kind (T := .type "str") h1 (by omega) (fun f hm => ?_) (by rfl) ?_
  · obtain ⟨x, t, rfl⟩ := h3 f hm
    exact PySem.W.Looks.now
  · have e : (Value.type "str" != Value.type "tuple") = true := by first | decide +kernel | rfl | decide
    rw [e]
    exact hq
theorem sorted_ps {l : Addr} {vs : List Value} {k : Value → Str × Str} {Q : Value → Shared → Prop} (hl : s.heap.IsList l vs.toArray) (hz : vs.length ≤ sizeLine) (hp : ∀ v ∈ vs, IsPS s.heap v (k v))
    (h : ∀ (h' : Heap) (d : Addr) (out : List Value), Srtd (fun v u => ltB (k v) (k u)) out → out.Perm vs → (∀ b o, s.heap.get? b = some o → h'.get? b = some o) → s.heap.objs.size ≤ d → (∃ n, h'.get? d = some (seqObj "list" out.toArray n)) → Q (.ref d) { s with heap := h' }) :
    wpAny (model prog w) A (call (.builtin "sorted") [.ref l]) Q E s := by
  refine sorted_ord (swo_ps k) hl hz (fun h2 h₁ a ha kk => ?_) fun out hs hb => h _ _ out hs hb.perm (fun b o e => sortedAll_old e) (Nat.le_succ _) (sortedAll_at s.heap vs out.toArray)
  refine ps_sortable (s := { s with heap := h₁ }) (by omega) (fun v hm => (hp v hm).keeps fun b o e _ => (kk b o e).2) fun o e c => ?_
  have e' : some o = some (seqObj "list" vs.toArray 0) := e.symm.trans ha
  cases e'
  exact absurd (Value.type.inj c) (by decide)
end
end LWK
namespace LW
open PySem PyProof.Rows L2
def rSortedPS (K : PySem.W.Frag) : List V → Hp → VK → Prop := fun vs H Q => ∃ (a : Addr) (ts : List Addr) (ps : List (Str × Str)), vs = [V.ref a] ∧ SqL K H a (ts.map V.ref) ∧ TsAt H ts ps ∧ ∀ ts' ps' p, TsAt H ts' ps' → ps'.Perm ps → SortP ps' → H p = none → Q (.ref p) (upd H p (.lst (ts'.map V.ref)))
def pairAt (H : Hp) (t : Addr) : Str × Str := match H t with
  | some (.tup [.str x, .str y]) => (x, y)
  | _ => (Str.empty, Str.empty)
theorem ts_pairs {H : Hp} : ∀ {ts : List Addr} {ps : List (Str × Str)}, TsAt H ts ps → ps = ts.map (pairAt H)
  | _, _, .nil => rfl
  | _, _, .cons (a := t) (b := p) h r => by
    have e : pairAt H t = p := by unfold pairAt; rw [h]
    rw [List.map_cons, e, ← ts_pairs r]
theorem ts_mem {H : Hp} : ∀ {ts : List Addr} {ps : List (Str × Str)}, TsAt H ts ps → ∀ t ∈ ts, H t = some (.tup [.str (pairAt H t).1, .str (pairAt H t).2])
  | _, _, .nil, t, h => absurd h (by simp)
  | _, _, .cons (a := t0) (b := p) h r, t, hm => by
    rcases List.mem_cons.mp hm with rfl | hm
    · have e : pairAt H t = p := by unfold pairAt; rw [h]
      rw [e]; exact h
    · exact ts_mem r t hm
theorem ts_of {H : Hp} : ∀ {ts : List Addr}, (∀ t ∈ ts, H t = some (.tup [.str (pairAt H t).1, .str (pairAt H t).2])) → TsAt H ts (ts.map (pairAt H))
  | [], _ => .nil
  | t :: r, h => .cons (h t (by simp)) (ts_of fun u hu => h u (by simp [hu]))
def addrOf : Value → Addr
  | .ref a => a
  | _ => 0
theorem cr_sortedPS {X : Cx} : CallR X (.builtin "sorted") (rSortedPS X.K) := by
  intro pins s σ H vs us Q I r h
  obtain ⟨a, ts, ps, rfl, hs, hx, q⟩ := h
  obtain ⟨its, rv, hl, hz⟩ := I.list hs
  obtain ⟨u, rfl, ru⟩ := vals1 r
  cases (show u = Value.ref a from ru)
  have hits : its = ts.map Value.ref := by
    have go : ∀ {ts : List Addr} {us : List Value}, Vals (ts.map V.ref) us → us = ts.map Value.ref := by
      intro ts
      induction ts with
      | nil => intro us h; cases h; rfl
      | cons t l ih =>
        intro us h
        cases h with
        | cons h1 h2 => rw [show _ = Value.ref t from h1, ih h2]; rfl
    exact go rv
  subst hits
  refine LWK.sorted_ps (k := fun v => pairAt H (addrOf v)) hl.isList (by rw [← rv.length]; exact hz) (fun v hv => ?_) fun h' d out h1 h2 kp hd hn => ?_
  · obtain ⟨t, ht, rfl⟩ := List.mem_map.mp hv
    have e := ts_mem hx t ht
    obtain ⟨_, its2, r2, o, ho, hc, n, hd⟩ := I.hok _ _ e
    obtain ⟨u1, u2, rfl, ri, rj⟩ := vals2 r2
    obtain ⟨t1, rfl⟩ := ri
    obtain ⟨t2, rfl⟩ := rj
    exact ⟨t, o, t1, t2, n, rfl, ho, hc, hd⟩
  · obtain ⟨n, hn⟩ := hn
    have eo : out = (out.map addrOf).map Value.ref := by
      rw [List.map_map]
      refine (List.map_id out).symm.trans (List.map_congr_left fun v hv => ?_)
      obtain ⟨t, _, rfl⟩ := List.mem_map.mp (h2.mem_iff.mp hv)
      rfl
    have pm : (out.map addrOf).Perm ts := by
      have z := h2.map addrOf
      rw [List.map_map] at z
      have e : ts.map (addrOf ∘ Value.ref) = ts := (List.map_congr_left fun t _ => rfl).trans (List.map_id ts)
      rw [e] at z
      exact z
    have hall : ∀ t ∈ out.map addrOf, H t = some (.tup [.str (pairAt H t).1, .str (pairAt H t).2]) := fun t ht => ts_mem hx t (pm.mem_iff.mp ht)
    have vv : Vals ((out.map addrOf).map V.ref) out := by
      have go : ∀ l : List Addr, Vals (l.map V.ref) (l.map Value.ref) := fun l => by
        induction l with
        | nil => exact .nil
        | cons t l ih => exact .cons rfl ih
      have z := go (out.map addrOf)
      rw [← eo] at z
      exact z
    have lz : ((out.map addrOf).map V.ref).length ≤ sizeLine := by
      rw [List.length_map, pm.length_eq, ← List.length_map (f := V.ref)]
      exact hz
    refine ⟨.ref d, upd H d (.lst ((out.map addrOf).map V.ref)), I.laid (t' := s.toks) kp hd ⟨lz, out, n, vv, hn⟩, rfl, q _ _ d (ts_of hall) ?_ ?_ (I.hok.fresh hd)⟩
    · rw [ts_pairs hx]
      exact pm.map _
    · refine List.pairwise_map.mpr (List.pairwise_map.mpr ?_)
      exact h1.imp fun {v u} z => of_decide_eq_false z
end LW
set_option Elab.async false
set_option linter.all false
set_option maxRecDepth 100000
set_option maxHeartbeats 2000000
/-! defs that are called where nothing is being shown (repr inside them) -/
namespace LW
open PySem PySem.Spec PyProof.Rows L2
/-- room, and nothing is being shown -/
structure RoomG (k : Nat) (A : Around) : Prop where
  r : Room k A
  g : A.guards = some []
theorem RoomG.mono {j k : Nat} {A : Around} (z : RoomG k A) (h : j ≤ k) : RoomG j A := ⟨z.r.mono h, z.g⟩
theorem RoomG.deeper {k : Nat} {A : Around} (z : RoomG (k + 1) A) (env : Env) : RoomG k (A.deeper env) := ⟨z.r.deeper env, z.g⟩
theorem RoomG.in1 {k : Nat} {A : Around} (z : RoomG (k + 1) A) : RoomG k A.in1 := ⟨z.r.in1, z.g⟩
/-- a promise by positional arguments -/
def FnG (P : Program) (w : World) (K : PySem.W.Frag) (mg : Str → Option Value) (base : Heap) (k : Nat) (f : Addr) (sp : Sp) : Prop :=
  ∀ {A : Around} {outer : List Env} {s : Shared} {H : Hp} {us : List Value} {vs : List V} {Q : VK} {E : XK}, RoomG k A → Env0 P w K mg base A outer s H → Vals vs us → sp vs H Q E →
    codeAny (model P w) A (.call (.ref f) ⟨us, []⟩) (CR CX0 outer P w H s Q E) s
section
variable {P : Program} {w : World} {K : PySem.W.Frag} {mg : Str → Option Value} {base : Heap} {j k : Nat} {f : Addr} {sp sp' : Sp}
theorem FnG.mono (F : FnG P w K mg base j f sp) (h : j ≤ k) : FnG P w K mg base k f sp := fun z => F (z.mono h)
theorem FnG.of (F : FnR P w K mg base CX0 k f sp) : FnG P w K mg base k f sp := fun z e r q => F _ _ _ _ _ _ _ _ z.r e r q
/-- a def, by its body -/
theorem fnG_of {x qual : Str} {st : Stmt} {fd : FuncData} {N ps : List Str} (F : Fun K x qual st f fd) (S : FnScope N ps (defScope st)) (hb : Binds K fd ps []) (len : ∀ vs H Q E, sp vs H Q E → vs.length = ps.length)
    (body : ∀ (cdv : Value) (A : Around) (outer : List Env) (s : Shared) (H : Hp) (vs : List V) (Q : VK) (E : XK), RoomG k (A.deeper (envOfC qual (defScope st) s.heap.objs.size f cdv)) → sp vs H Q E →
      wB (fx P w K mg base N qual st f cdv A outer s H E) (defBody st) { nx := fun _ H' => Q .non H', rt := Q } (L2.start N vs) H) : FnG P w K mg base (k + 1) f sp := by
  intro A outer s H us vs Q E hr e0 rv hq
  obtain ⟨oc, od, kV, doc, pm, an, cdv, ct, osl, rfl, lk, hcd⟩ := F.ex
  have hl := len _ _ _ _ hq
  have hu : us.length = ps.length := by rw [← rv.length, hl]
  have bs := fun b o z => (e0.bs b o z).1
  have KX : K.In s.heap := e0.mod.kin.keeps bs
  have bt := hb s us KX (by rw [List.append_nil]; exact hu)
  rw [List.append_nil] at bt
  refine codeAny_call_function hr.r.depth (KX _ _ lk) rfl S.co S.gen rfl (PySem.W.codeRec_of KX hcd) (bt _ _ _ _ (wpAny_newFunctionEnv_cells S.kind (fun p hp => ?_) fun env he s1 ic => ?_))
  · rcases S.par p.1 (List.of_mem_zip (show (p.1, p.2) ∈ ps.zip us from hp)).1 with c | c
    · exact .inl c
    · exact .inr ⟨c, PySem.W.cellsFrom_some _ _ _ (.inl c)⟩
  · subst he
    refine ⟨(e0.mod.nolimit.keeps bs).keeps ic.toInCall.keep, codeAny_func ?_⟩
    have ht := (pss_w (X := fx P w K mg base N qual st f cdv A outer s H E) (sts := defBody st)).nox
    refine wpAny_mono (ht.run [] s1 (L2.start N vs) H _ (inv_start S hr.r.hd e0 hl rv ic) (body cdv A outer s H vs Q E (hr.deeper _) hq)) (fun fl s' z => ?_) fun _ _ z => z
    cases fl with
    | next => obtain ⟨σ', H', J, q⟩ := z; exact ⟨V.non, H', J.os, J.bare, J.base, J.hok, rfl, q⟩
    | ret u => obtain ⟨v, σ', H', J, ru, q⟩ := z; exact ⟨v, H', J.os, J.bare, J.base, J.hok, ru, q⟩
    | brk => obtain ⟨_, _, _, q⟩ := z; exact q.elim
    | cont => obtain ⟨_, _, _, q⟩ := z; exact q.elim
end
/-- where nothing is shown: the def n keeps it -/
structure Gn {α : Type} (P : Program) (w : World) (K : PySem.W.Frag) (mg : Str → Option Value) (base : Heap) (n : Str) (k : Nat) (A : α → List V → Hp → Prop) (R : α → V → Hp → Prop) : Prop where
  ex : ∃ f : Addr, mg n = some (.ref f) ∧ PySem.W.keepIn K (.ref f) = true ∧ FnG P w K mg base k f (SpF A R)
/-- what is to be shown of its body -/
def BodyG {α : Type} (P : Program) (w : World) (K : PySem.W.Frag) (mg : Str → Option Value) (base : Heap) (N : List Str) (qual : Str) (st : Stmt) (f : Addr) (k : Nat) (A : α → List V → Hp → Prop) (R : α → V → Hp → Prop) : Prop :=
  ∀ (cdv : Value) (Ar : Around) (outer : List Env) (s : Shared) (H0 : Hp) (E : XK) (x : α) (vs : List V) (H Hc : Hp) (D : Ends), RoomG k (fx P w K mg base N qual st f cdv Ar outer s H0 E).A → Ex H Hc → Pz H (A x vs) →
    (∀ v Hn H2, Grow H Hc Hn H2 → Pz Hn (R x v) → D.rt v H2) → (∀ σ Hn H2, Grow H Hc Hn H2 → Pz Hn (R x .non) → D.nx σ H2) →
    wB (fx P w K mg base N qual st f cdv Ar outer s H0 E) (defBody st) D (L2.start N vs) Hc
section
variable {α : Type} {P : Program} {w : World} {K : PySem.W.Frag} {mg : Str → Option Value} {base : Heap} {x qual : Str} {st : Stmt} {f : Addr} {fd : FuncData} {N ps : List Str} {k : Nat} {A : α → List V → Hp → Prop} {R : α → V → Hp → Prop}
theorem okG_of (F : Fun K x qual st f fd) (S : FnScope N ps (defScope st)) (hb : Binds K fd ps []) (len : ∀ a vs H, A a vs H → vs.length = ps.length) (b : BodyG P w K mg base N qual st f k A R) : FnG P w K mg base (k + 1) f (SpF A R) :=
  fnG_of F S hb (fun vs H Q E ⟨a, H1, e, p, _⟩ => len a vs H1 p.now) fun cdv Ar outer s H vs Q E hr ⟨a, H1, e, p, q⟩ =>
    b cdv Ar outer s H E a vs H1 H _ hr e p (fun v Hn H2 g r => q v Hn H2 g r) fun _ Hn H2 g r => q .non Hn H2 g r
theorem Fn.gn {n : Str} (F : Fn P w K mg base n k A R) : Gn P w K mg base n k A R :=
  let ⟨f, a, b, c⟩ := F.ex
  ⟨f, a, b, FnG.of c⟩
end
section
variable {X : Cx} {pins : List (Addr × Obj)} {σ : L2.St} {H : Hp} {s : Shared} {f : Addr} {k : Nat} {sp : Sp} {E : XK}
theorem run_fnG {Q : VK} {us : List Value} {vs : List V} (F : FnG X.prog X.w X.K X.mg X.base k f sp) (hr : RoomG k X.A) (I : Inv X pins σ H s) (r : Vals vs us) (h : sp vs H Q E) :
    codeAny (model X.prog X.w) X.A (.call (.ref f) ⟨us, []⟩) (fun r s' => match r with | .ok (.ret v) => EP X pins σ Q v s' | .ok _ => False | .error e => X.xe e s') s := by
  refine codeAny_mono (F hr I.env0 r h) fun z s' q => ?_
  match z, q with
  | .error e, q => exact q.elim
  | .ok (.ret u), q => exact I.after q
  | .ok .next, q => exact q.elim
  | .ok .brk, q => exact q.elim
  | .ok .cont, q => exact q.elim
theorem pe_callG {x : Str} {pn pos : Pos} {e : Expr} {es : List Expr} {t : TA} (F : FnG X.prog X.w X.K X.mg X.base k f sp) (hr : RoomG k X.A) (hk : PySem.W.keepIn X.K (.ref f) = true) (hm : X.mg x = some (.ref f)) (ha : PA X (e :: es) t) (hg : Gl X x)
    (hd : (x == ("__debug__" : Str)) = false) (hs : starEach (e :: es) X.env = (false, eval e X.env) :: starEach es X.env) (hpl : (backTo pos (starEach es X.env)).any (·.1) = false) :
    PE X (.Call (.Name x pn) (e :: es) [] pos) (fun σ H Q => t σ H fun vs H1 => sp vs H1 Q E) := by
  refine ⟨fun pins s σ H Q I h => wpAny_Call_Name_kw (ld_glob I hg hm (PySem.W.callWith_K (h₀ := X.base) I.ok.mod.kin hk (thn (ha.run pos pins s σ H _ I h) fun us s2 z => ?_) hs hpl) hd)⟩
  obtain ⟨vs, H2, I2, r, q⟩ := z
  exact ⟨I2.kIn, wpAny_call (run_fnG F hr I2 r q)⟩
end
section
variable {α : Type} {A : α → List V → Hp → Prop} {R : α → V → Hp → Prop} {X : Cx} {σ : L2.St} {H : Hp} {P : V → Hp → Prop} {k : Nat} {n : Str} {e : Expr} {es : List Expr} {pos pn : Pos} {vs : List V} {Pa : List V → Hp → Prop}
theorem e_callG (F : Gn X.prog X.w X.K X.mg X.base n k A R) (hr : RoomG k X.A) (ha : Cm H Pa (wA X (e :: es) σ)) (hp : ∀ vs H1, Ex H H1 → Pz H1 (Pa vs) → ∃ x, Pz H1 (A x vs) ∧ ∀ v H2, Ex H1 H2 → R x v H2 → P v H2)
    (hg : Gl X n := by rfl) (hd : (n == ("__debug__" : Str)) = false := by decide) (hs : starEach (e :: es) X.env = (false, eval e X.env) :: starEach es X.env := by rfl) (hpl : (backTo pos (starEach es X.env)).any (·.1) = false := by rfl) :
    Cm H P (wE X (.Call (.Name n pn) (e :: es) [] pos) σ) := by
  obtain ⟨f, hm, hk, G⟩ := F.ex
  refine ce (pe_callG (E := E0) G hr hk hm pa_w hg hd hs hpl) (cm1 (u := fun vs H1 Q => SpF A R vs H1 Q E0) ha fun vs H1 e1 p1 => ?_)
  obtain ⟨x, h1, h2⟩ := hp vs H1 e1 p1
  exact (c_sp h1).imp h2
theorem e_callGD (x : α) (F : Gn X.prog X.w X.K X.mg X.base n k A R) (hr : RoomG k X.A) (ha : Cm H (is vs) (wA X (e :: es) σ)) (hp : Pz H (A x vs))
    (hg : Gl X n := by rfl) (hd : (n == ("__debug__" : Str)) = false := by decide) (hs : starEach (e :: es) X.env = (false, eval e X.env) :: starEach es X.env := by rfl) (hpl : (backTo pos (starEach es X.env)).any (·.1) = false := by rfl) :
    Cm H (R x) (wE X (.Call (.Name n pn) (e :: es) [] pos) σ) :=
  e_callG F hr ha (fun ws H1 e1 p1 => ⟨x, (show ws = vs from p1.now) ▸ hp.mono e1, fun _ _ _ z => z⟩) hg hd hs hpl
end
end LW
set_option Elab.async false
set_option linter.all false
set_option maxRecDepth 100000
set_option maxHeartbeats 2000000
/-! repr of nested lists and tuples -/
namespace LW
open PySem PySem.Spec PyProof.Rows L2
mutual
/-- the value is this data -/
inductive Dv (K : PySem.W.Frag) (H : Hp) : V → PyData → Prop
  | non : Dv K H .non .none
  | bl (b : Bool) : Dv K H (.bl b) (.bool b)
  | int (i : Int) : Dv K H (.int i) (.int i)
  | str (x : Str) : Dv K H (.str x) (.str x)
  | list {a : Addr} {xs : List V} {ds : List PyData} : SqL K H a xs → Dvs K H xs ds → Dv K H (.ref a) (.list ds)
  | tuple {a : Addr} {xs : List V} {ds : List PyData} : SqT K H a xs → Dvs K H xs ds → Dv K H (.ref a) (.tuple ds)
inductive Dvs (K : PySem.W.Frag) (H : Hp) : List V → List PyData → Prop
  | nil : Dvs K H [] []
  | cons {v : V} {d : PyData} {xs : List V} {ds : List PyData} : Dv K H v d → Dvs K H xs ds → Dvs K H (v :: xs) (d :: ds)
end
mutual
theorem Dv.ex {K : PySem.W.Frag} {H H' : Hp} (e : Ex H H') : ∀ {v : V} {d : PyData}, Dv K H v d → Dv K H' v d
  | _, _, .non => .non
  | _, _, .bl b => .bl b
  | _, _, .int i => .int i
  | _, _, .str x => .str x
  | _, _, .list h hs => .list (Evl.ex_l e h) (hs.ex e)
  | _, _, .tuple h hs => .tuple (Evl.ex_t e h) (hs.ex e)
theorem Dvs.ex {K : PySem.W.Frag} {H H' : Hp} (e : Ex H H') : ∀ {xs : List V} {ds : List PyData}, Dvs K H xs ds → Dvs K H' xs ds
  | _, _, .nil => .nil
  | _, _, .cons h hs => .cons (h.ex e) (hs.ex e)
end
theorem Dvs.map {K : PySem.W.Frag} {H : Hp} {α : Type} {f : α → V} {g : α → PyData} : ∀ {l : List α}, (∀ x ∈ l, Dv K H (f x) (g x)) → Dvs K H (l.map f) (l.map g)
  | [], _ => .nil
  | x :: l, h => .cons (h x (List.mem_cons_self ..)) (Dvs.map fun y hy => h y (List.mem_cons_of_mem _ hy))
theorem Dvs.paired {K : PySem.W.Frag} {H : Hp} {α β : Type} {p : β → α → Prop} {f : β → V} {g : α → PyData} (h : ∀ y x, p y x → Dv K H (f y) (g x)) : ∀ {ys : List β} {xs : List α}, Paired p ys xs → Dvs K H (ys.map f) (xs.map g)
  | _, _, .nil => .nil
  | _, _, .cons a b => .cons (h _ _ a) (Dvs.paired h b)
section
variable {X : Cx} {pins : List (Addr × Obj)} {σ : L2.St} {H : Hp} {s : Shared}
mutual
theorem Dv.reads (I : Inv X pins σ H s) : ∀ {v : V} {d : PyData} {u : Value}, Dv X.K H v d → RelV v u → ∃ as, Reads s.heap u d as
  | _, _, u, .non, r => by
    cases (show u = Value.none from r)
    exact ⟨_, .none⟩
  | _, _, u, .bl b, r => by
    cases (show u = Value.bool b from r)
    exact ⟨_, .bool b⟩
  | _, _, u, .int i, r => by
    obtain ⟨t, rfl⟩ := (show ∃ t, u = Value.int i t from r)
    exact ⟨_, .int i t⟩
  | _, _, u, .str x, r => by
    obtain ⟨t, rfl⟩ := (show ∃ t, u = Value.str x t from r)
    exact ⟨_, .str x t⟩
  | _, _, u, .list (a := a) h hs, r => by
    cases (show u = Value.ref a from r)
    obtain ⟨its, rv, ⟨o, n, h1, h2, _, h3⟩, _⟩ := I.list h
    obtain ⟨as, q⟩ := hs.reads I rv
    exact ⟨_, .list h1 h2 h3 q⟩
  | _, _, u, .tuple (a := a) h hs, r => by
    cases (show u = Value.ref a from r)
    obtain ⟨its, rv, ⟨o, h1, h2, n, h3⟩, _⟩ := I.tuple h
    obtain ⟨as, q⟩ := hs.reads I rv
    exact ⟨_, .tuple h1 h2 h3 q⟩
theorem Dvs.reads (I : Inv X pins σ H s) : ∀ {xs : List V} {ds : List PyData} {us : List Value}, Dvs X.K H xs ds → Vals xs us → ∃ as, ReadsAll s.heap us ds as
  | _, _, _, .nil, .nil => ⟨_, .nil⟩
  | _, _, _, .cons h hs, .cons r rs => by
    obtain ⟨as, q⟩ := h.reads I r
    obtain ⟨bs, q2⟩ := hs.reads I rs
    exact ⟨_, .cons q q2⟩
end
/-- it may be shown -/
structure Shw (d : PyData) : Prop where
  ok : d.showable = true
  flat : d.hasDict = false
  deep : d.depth ≤ 40
  len : d.shown.length ≤ sizeLine
theorem cr_repr (hg : X.A.guards = some []) (hu : X.A.units + 64 < cLine) : CallR X (.builtin "repr") (fun xs H Q => ∃ a d, xs = [.ref a] ∧ Dv X.K H (.ref a) d ∧ Shw d ∧ Q (.str d.shown) H) := by
  intro pins s σ H xs us Q I r ⟨a, d, ex, h, w, q⟩
  subst ex
  obtain ⟨u, rfl, ru⟩ := vals1 r
  cases (show u = Value.ref a from ru)
  obtain ⟨as, rd⟩ := h.reads I (show RelV (V.ref a) (Value.ref a) from rfl)
  exact repr_of_reads' rd w.ok (PyData.noDict_hsm w.flat) hg (by have := w.deep; omega) (fun _ _ e => e) (fun h' u tk hk => ⟨.str d.shown, H, I.kept (t' := tk) hk, ⟨u, rfl⟩, q⟩) w.len
end
section
variable {X : Cx} {σ : L2.St} {H : Hp} {e : Expr} {pos pn : Pos} {d : PyData}
theorem e_repr (hg : X.A.guards = some []) (hu : X.A.units + 64 < cLine) (hm : X.mg "repr" = none) (h : Cm H (fun v H' => ∃ a, v = .ref a ∧ Dv X.K H' (.ref a) d) (wE X e σ)) (w : Shw d) (hgl : Gl X "repr" := by rfl)
    (hs : starEach [e] X.env = (false, eval e X.env) :: starEach [] X.env := by rfl) : Cm H (is (V.str d.shown)) (wE X (.Call (.Name "repr" pn) [e] [] pos) σ) :=
  e_blt (cr_repr hg hu) hm (a_cons h a_nil hs) (fun vs H1 e1 p => by
    obtain ⟨u, us, rfl, ⟨a, rfl, q⟩, rfl⟩ := p.now
    exact Cm.ret (fun Hc ex Q z => ⟨a, d, rfl, q.ex ex, w, z⟩) (.const rfl)) hgl (hs := hs)
end
/-! ### types -/
theorem ty_sqt {K : PySem.W.Frag} {H : Hp} {a : Addr} {xs : List V} (h : SqT K H a xs) : TyX K H (.ref a) (.type "tuple") := by
  rcases h with (h | ⟨o, h⟩) | ⟨o, its, n, hk, hc, _⟩
  · exact .base (.tup h)
  · exact .fTuple h
  · exact .kTuple hk hc
theorem ty_sql {K : PySem.W.Frag} {H : Hp} {a : Addr} {xs : List V} (h : SqL K H a xs) : TyX K H (.ref a) (.type "list") := by
  rcases h with (h | ⟨o, h⟩) | ⟨o, its, n, hk, hc, _⟩
  · exact .base (.lst h)
  · exact .base (.frz h)
  · exact .kList hk hc
/-! ### how long, how deep -/
structure ShN (n m : Nat) (d : PyData) : Prop where
  ok : d.showable = true
  flat : d.hasDict = false
  deep : d.depth ≤ n
  len : d.shown.length ≤ m
theorem ShN.shw {n m : Nat} {d : PyData} (h : ShN n m d) (hn : n ≤ 40) (hm : m ≤ 16777216) : Shw d := ⟨h.ok, h.flat, Nat.le_trans h.deep hn, Nat.le_trans h.len (Nat.le_trans hm (by decide))⟩
theorem ShN.mono {n n' m m' : Nat} {d : PyData} (h : ShN n m d) (hn : n ≤ n') (hm : m ≤ m') : ShN n' m' d := ⟨h.ok, h.flat, Nat.le_trans h.deep hn, Nat.le_trans h.len hm⟩
theorem shn_str {x : Str} {m : Nat} (h : ∀ c ∈ x.cps.toList, c < 16 ^ 8) (hm : x.length ≤ m) : ShN 0 (10 * m + 2) (.str x) :=
  ⟨by simp only [PyData.showable], by simp only [PyData.hasDict], by simp only [PyData.depth]; exact Nat.le_refl _, by
    rw [PyData.shown_str]
    have := StrLaws.reprText_len x h
    omega⟩
theorem shn_int {i : Int} {k : Nat} (hk : 0 < k) (hk2 : k ≤ 500) (h : i.natAbs < 10 ^ k) : ShN 0 (k + 1) (.int i) := by
  refine ⟨?_, by simp only [PyData.hasDict], by simp only [PyData.depth]; exact Nat.le_refl _, ?_⟩
  · simp only [PyData.showable, decide_eq_true_eq]
    have h2 : i.natAbs < 2 ^ 1920 := Nat.lt_of_lt_of_le h (Nat.le_trans (Nat.pow_le_pow_right (by decide) hk2) (by decide +kernel))
    exact Nat.lt_of_not_le fun q => by
      have hz : i.natAbs ≠ 0 := by
        intro e
        rw [e] at q
        exact absurd q (by decide)
      exact absurd ((Nat.le_log2 hz).mp q) (by omega)
  · rw [PyData.shown_int]
    have e : (((toString i : String)) : Str).length = (toString i).length := by
      exact PySem.ofString_length (toString i)
    rw [e]
    exact int_text_length_le10 hk h
theorem shn_all {n m : Nat} : ∀ {ds : List PyData}, (∀ d ∈ ds, ShN n m d) → PyData.showableAll ds = true ∧ PyData.hasDictAll ds = false ∧ PyData.depthAll ds ≤ n ∧ piled (PyData.shownAll ds) ≤ ds.length * (m + 2)
  | [], _ => by
    simp only [PyData.showableAll, PyData.hasDictAll, PyData.depthAll, PyData.shownAll, piled_nil]
    simp
  | d :: ds, h => by
    have h1 := h d (List.mem_cons_self ..)
    obtain ⟨a, b, c, e⟩ := shn_all (n := n) (m := m) (ds := ds) fun y hy => h y (List.mem_cons_of_mem _ hy)
    simp only [PyData.showableAll, PyData.hasDictAll, PyData.depthAll, PyData.shownAll, piled_cons, h1.ok, h1.flat, a, b, Bool.and_self, Bool.or_self, List.length_cons, Nat.add_mul, Nat.one_mul, Nat.max_le]
    exact ⟨trivial, trivial, ⟨h1.deep, c⟩, by have := h1.len; omega⟩
theorem join_le (ts : List Str) : (Str.join ", " ts).length ≤ piled ts := by
  cases ts with
  | nil => exact Nat.le_of_eq rfl
  | cons t r => have := join_length_add (t :: r) (by simp); omega
theorem shn_list {n m k : Nat} {ds : List PyData} (h : ∀ d ∈ ds, ShN n m d) (hk : ds.length ≤ k) : ShN (n + 1) (k * (m + 2) + 3) (.list ds) := by
  obtain ⟨a, b, c, e⟩ := shn_all h
  have hm := Nat.mul_le_mul_right (m + 2) hk
  refine ⟨by simp only [PyData.showable, a], by simp only [PyData.hasDict, b], by simp only [PyData.depth]; omega, ?_⟩
  rw [PyData.shown_list, strLen_append, strLen_append]
  have j := join_le (PyData.shownAll ds)
  have e1 : ((("[" : String)) : Str).length = 1 := rfl
  have e2 : ((("]" : String)) : Str).length = 1 := rfl
  rw [e1, e2]
  omega
theorem shn_tuple {n m k : Nat} {ds : List PyData} (h : ∀ d ∈ ds, ShN n m d) (hk : ds.length ≤ k) : ShN (n + 1) (k * (m + 2) + 3) (.tuple ds) := by
  obtain ⟨a, b, c, e⟩ := shn_all h
  have hm := Nat.mul_le_mul_right (m + 2) hk
  refine ⟨by simp only [PyData.showable, a], by simp only [PyData.hasDict, b], by simp only [PyData.depth]; omega, ?_⟩
  rw [PyData.shown_tuple, strLen_append, strLen_append]
  have j := join_le (PyData.shownAll ds)
  have e1 : ((("(" : String)) : Str).length = 1 := rfl
  have e2 : (((if ds.length == 1 then ",)" else ")" : String)) : Str).length ≤ 2 := by split <;> decide
  rw [e1]
  omega
end LW
set_option Elab.async false
set_option linter.all false
set_option maxRecDepth 100000
set_option maxHeartbeats 2000000
/-! texts put together, split -/
namespace LW
open PySem L2
section
variable {X : Cx} {σ : St} {H : Hp} {P : V → Hp → Prop} {e o a b c : Expr} {pos apos p1 p2 p3 : Pos} {x y z : Str} {k : Nat}
theorem c_fmt {te : TE} (h : Cm H (is (V.str x)) (te σ)) (hz : x.length ≤ 100000) : Cm H (is (V.str x)) (tFmt te σ) :=
  cm1D (u := fun v H1 (Q : VK) => (∃ y : Str, v = V.str y ∧ y.length ≤ sizeLine ∧ Q (.str y) H1) ∨ ∃ i : Int, v = V.int i ∧ i.natAbs.log2 < 1920 ∧ Q (.str (toString i)) H1) h (Cm.ret (fun _ _ _ q => .inl ⟨x, rfl, Evl.sz_of hz, q⟩) (.const rfl))
theorem str_e (x : Str) : Str.empty ++ x = x := tx_ext (by
  show (Str.empty.cps ++ x.cps).toList = _
  rw [Array.toList_append]
  have e : Str.empty.cps.toList = [] := by decide +kernel
  rw [e] <;> rfl)
theorem len_app (x y : Str) : (x ++ y).length = x.length + y.length := by
  show (x.cps ++ y.cps).size = _
  exact Array.size_append
/-- f'{a} {b}' -/
theorem e_f2 (ha : Cm H (is (V.str x)) (wE X a σ)) (hb : Cm H (is (V.str y)) (wE X b σ)) (hz : x.length ≤ 50 ∧ y.length ≤ 50) : Cm H (is (V.str (txt2 (x, y)))) (wE X (.JoinedStr [.FormattedValue a (-1) none p1, .Constant (.str " ") k p2, .FormattedValue b (-1) none p3] pos) σ) := by
  have l1 : (" " : Str).length = 1 := by decide +kernel
  refine ce (pe_joined (.cons (pe_fmt pe_w) (.cons (pe_w (e := .Constant (.str " ") k p2)) (.cons (pe_fmt pe_w) .nil)))) ?_
  refine cm1D (u := fun (v : V) H1 (Q : VK) => ∃ y' : Str, v = .str y' ∧ (Str.empty ++ y').length ≤ sizeLine ∧ tJs [wE X (.Constant (.str " ") k p2), tFmt (wE X b)] (Str.empty ++ y') σ H1 fun out H1 => Q (.str out) H1) (c_fmt ha (by omega)) ?_
  refine fun Hc ex Q q => ⟨x, rfl, by rw [str_e]; exact Evl.sz_of (by omega), ?_⟩
  rw [str_e]
  refine (e_str (s := " ")) Hc ex _ fun v Hn H2 g p => ⟨" ", p.now, by rw [len_app, l1]; exact Evl.sz_of (by omega), ?_⟩
  refine (c_fmt hb (by omega)).mono g.k H2 g.s _ fun v Hn2 H3 g2 p => ⟨y, p.now, by rw [len_app, len_app, l1]; exact Evl.sz_of (by omega), q _ Hn2 H3 (g.trans g2) (.const rfl)⟩
/-- tuple(t.split(" ")) of such a text -/
theorem e_tsp {pt ps : Pos} {j : Nat} {p : Str × Str} (hm : X.mg "tuple" = none) (ho : Cm H (is (V.str (txt2 p))) (wE X o σ)) (h1 : Nm p.1) (h2 : Nm p.2) (hg : Gl X "tuple" := by rfl)
    (hs : starEach [Expr.Call (.Attribute o "split" apos) [.Constant (.str " ") j ps] [] pos] X.env = (false, eval (.Call (.Attribute o "split" apos) [.Constant (.str " ") j ps] [] pos) X.env) :: starEach [] X.env := by rfl)
    (hs2 : starEach [Expr.Constant (.str " ") j ps] X.env = [(false, eval (Expr.Constant (.str " ") j ps) X.env)] := by rfl) (hbase : attributeBase o "split" X.env (eval o X.env) = eval o X.env := by rfl) (hline : (apos.endLine == pos.line) = true := by rfl) :
    Cm H (pr p) (wE X (.Call (.Name "tuple" pt) [.Call (.Attribute o "split" apos) [.Constant (.str " ") j ps] [] pos] [] p1) σ) := by
  refine e_ty call_tuple_of hm (a_cons (P := fun v H' => ∃ a, v = .ref a ∧ H' a = some (.lst [.str p.1, .str p.2])) (ce (pe_split pe_w pe_w hs2 hbase hline) ?_) a_nil hs) (fun vs H1 e1 z => ?_) hg (hv := by decide +kernel) (hs := hs)
  · refine cm1D (u := fun (v : V) H1 (Q : VK) => (∃ a, v = .str a) ∧ wE X (.Constant (.str " ") j ps) σ H1 fun y H2 => ∃ a b, v = .str a ∧ [y] = [.str b] ∧ (b.length == 0) = false ∧ a.length + 2 ≤ sizeLine ∧ rNewStrs (Txt.split a b) H2 Q) ho ?_
    refine fun Hc ex Q q => ⟨⟨_, rfl⟩, (e_str (s := " ")) Hc ex _ fun v Hn H2 g z => ?_⟩
    have l := txt2_len h1 h2
    refine ⟨_, " ", rfl, by rw [show v = V.str " " from z.now], by decide +kernel, Evl.sz_of (by omega), ?_⟩
    rw [txt2_split h1 h2]
    exact fun d hd => q _ _ _ (g.trans (Grow.new g.s hd)) fun H' e' => ⟨d, rfl, e' _ _ upd_same⟩
  · obtain ⟨u, us, rfl, ⟨d, rfl, hd⟩, rfl⟩ := z.now
    refine fun Hc ex Q q => ⟨d, _, rfl, .inl ⟨SqL.of (ex _ _ hd), fun l hl => q _ _ _ (Grow.new ex hl) fun H' e' => ⟨l, rfl, e' _ _ upd_same⟩⟩⟩
end
/-! what was put together, sorted -/
def untxt (t : Str) : Str × Str := match Txt.split t (" " : Str) with
  | [a, b] => (a, b)
  | _ => (t, t)
theorem untxt_of {p : Str × Str} (h1 : Nm p.1) (h2 : Nm p.2) : untxt (txt2 p) = p := by
  unfold untxt
  rw [txt2_split h1 h2]
theorem sorted_txts {ps : List (Str × Str)} {ys : List Str} (hn : ∀ p ∈ ps, Nm p.1 ∧ Nm p.2) (hp : ys.Perm (ps.map txt2)) (hs : SortN ys) : ∃ qs : List (Str × Str), ys = qs.map txt2 ∧ qs.Perm ps ∧ SortP qs := by
  have e1 : ys = (ys.map untxt).map txt2 := by
    rw [List.map_map]
    refine (List.map_id ys).symm.trans (List.map_congr_left fun y hy => ?_)
    obtain ⟨p, hp1, rfl⟩ := List.mem_map.mp (hp.mem_iff.mp hy)
    show txt2 p = txt2 (untxt (txt2 p))
    rw [untxt_of (hn p hp1).1 (hn p hp1).2]
  have e2 : (ys.map untxt).Perm ps := by
    refine (hp.map untxt).trans ?_
    rw [List.map_map]
    refine List.Perm.of_eq ((List.map_congr_left fun p hp1 => ?_).trans (List.map_id ps))
    exact untxt_of (hn p hp1).1 (hn p hp1).2
  refine ⟨_, e1, e2, ?_⟩
  have z : SortN ((ys.map untxt).map txt2) := e1 ▸ hs
  refine (List.pairwise_map.mp z).imp_of_mem fun {p q} hp1 hq1 h => fun c => h ((lt_txt2 (hn q (e2.mem_iff.mp hq1)).1 (hn p (e2.mem_iff.mp hp1)).1).mpr c)
/-! lists of pairs, one by one -/
theorem ts_get {H : Hp} : ∀ {ts : List Addr} {ps : List (Str × Str)} {i : Nat} {y : V}, TsAt H ts ps → (ts.map V.ref)[i]? = some y → ∃ t p, y = .ref t ∧ ts[i]? = some t ∧ ps[i]? = some p ∧ H t = some (.tup [.str p.1, .str p.2])
  | _, _, _, _, .nil, e => by simp at e
  | _, _, 0, y, .cons (a := t) (b := p) h r, e => ⟨t, p, by simpa using e.symm, rfl, rfl, h⟩
  | _, _, i + 1, y, .cons (a := t) (b := p) h r, e => by
    obtain ⟨t', p', e1, e2, e3, h'⟩ := ts_get (i := i) r (by simpa using e)
    exact ⟨t', p', e1, by simpa using e2, by simpa using e3, h'⟩
theorem ts_snoc {H : Hp} {t : Addr} {p : Str × Str} (h : H t = some (.tup [.str p.1, .str p.2])) : ∀ {ts : List Addr} {ps : List (Str × Str)}, TsAt H ts ps → TsAt H (ts ++ [t]) (ps ++ [p])
  | _, _, .nil => .cons h .nil
  | _, _, .cons a b => .cons a (ts_snoc h b)
theorem take_snoc {α : Type} {l : List α} {i : Nat} {x : α} (h : l[i]? = some x) : l.take (i + 1) = l.take i ++ [x] := by
  rw [List.take_add_one, h] <;> rfl
/-! a list (q) or a tuple, numbered -/
section
variable {X : Cx} {σ : St} {H : Hp} {e t1 t2 : Expr} {xs : List V} {pos p1 p2 p3 px : Pos} {k : Nat} {a : Addr}
theorem i_enumT {es : List Expr} (h : Cm H (fun ws H' => ∃ a, ws = [V.ref a] ∧ SqT X.K H' a xs) (wA X es σ)) : Ci H xs.length (fun i v H' => ∃ T x, v = .ref T ∧ H' T = some (.tup [.int i, x]) ∧ xs[i]? = some x) (iEnumT X.K (wA X es) σ) := fun Hc e R r =>
  h Hc e _ fun v Hn H2 g p => by
    obtain ⟨a, rfl, _⟩ := p.now
    have z : Pz Hn (fun H' => SqT X.K H' a xs) := fun H' e => by obtain ⟨b, q, z⟩ := p H' e; cases q; exact z
    exact ⟨a, xs, rfl, z _ g.s, r _ Hn H2 g (over_enumT z)⟩
theorem i_enumQ {q : Bool} (h : Cm H (fun v H' => ∃ a, v = .ref a ∧ Sq X.K q H' a xs) (wE X e σ)) (hs : starEach [e] X.env = (false, eval e X.env) :: starEach [] X.env := by rfl) :
    Ci H xs.length (fun i v H' => ∃ T x, v = .ref T ∧ H' T = some (.tup [.int i, x]) ∧ xs[i]? = some x) (fun R => fun Q => iEnum X.K (wA X [e]) σ R Q ∨ iEnumT X.K (wA X [e]) σ R Q) := by
  have z : Cm H (fun ws H' => ∃ a, ws = [V.ref a] ∧ Sq X.K q H' a xs) (wA X [e] σ) := (a_cons h a_nil hs).imp fun ws H' _ ⟨u, us, e1, ⟨a, e2, q⟩, e3⟩ => ⟨a, by rw [e1, e2, e3], q⟩
  cases q with
  | true => exact fun Hc ex R r => .inl (i_enum z Hc ex R r)
  | false => exact fun Hc ex R r => .inr (i_enumT z Hc ex R r)
/-- isinstance(x, (list, tuple)) -/
theorem e_isiLT {q : Bool} (hm : X.mg "isinstance" = none) (ml : X.mg "list" = none) (mt : X.mg "tuple" = none) (h : Cm H (is (V.ref a)) (wE X e σ)) (hq : Pz H (fun H' => Sq X.K q H' a xs)) (hg : Gl X "isinstance" := by rfl) (hgl : Gl X "list" := by rfl) (hgt : Gl X "tuple" := by rfl)
    (hs : starEach [e, .Tuple [.Name "list" p1, .Name "tuple" p2] k p3] X.env = (false, eval e X.env) :: starEach [.Tuple [.Name "list" p1, .Name "tuple" p2] k p3] X.env := by rfl)
    (hs2 : starEach [Expr.Tuple [.Name "list" p1, .Name "tuple" p2] k p3] X.env = (false, eval (.Tuple [.Name "list" p1, .Name "tuple" p2] k p3) X.env) :: starEach [] X.env := by rfl)
    (hs3 : starEach [Expr.Name "list" p1, .Name "tuple" p2] X.env = (false, eval (.Name "list" p1) X.env) :: starEach [.Name "tuple" p2] X.env := by rfl) (hs4 : starEach [Expr.Name "tuple" p2] X.env = (false, eval (.Name "tuple" p2) X.env) :: starEach [] X.env := by rfl) :
    Cm H (is (V.bl true)) (wE X (.Call (.Name "isinstance" px) [e, .Tuple [.Name "list" p1, .Name "tuple" p2] k p3] [] pos) σ) := by
  refine e_blt call_isiT hm (a_cons h (a_cons (P := fun v H' => ∃ tp, v = .ref tp ∧ H' tp = some (.tup [.ty "list", .ty "tuple"])) (e_tup (a_consD (e_bltn (v := .ty "list") hgl ml (by decide +kernel) rfl) (a_consD (e_bltn (v := .ty "tuple") hgt mt (by decide +kernel) rfl) a_nil hs4) hs3) (fun xs _ z => by rw [show xs = _ from z]; exact (by decide : 2 ≤ 100000)) fun xs p H1 e1 z hp => ?_) a_nil hs2) hs) (fun vs H1 e1 p => ?_) hg (hv := by decide +kernel) (hs := hs) (hpl := by rw [hs2] <;> rfl)
  · rw [show xs = _ from z.now] at hp
    exact fun H' e' => ⟨p, rfl, e' _ _ hp⟩
  · obtain ⟨u, us, rfl, rfl, v, vs, rfl, ⟨tp, rfl, htp⟩, rfl⟩ := p.now
    refine fun Hc ex Q z => ?_
    have hqc := hq Hc (e1.trans ex)
    cases q with
    | true => exact ⟨_, tp, _, .type "list", [.type "list", .type "tuple"], true, rfl, ex _ _ htp, .cons (.ty _) (.cons (.ty _) .nil), ty_sql hqc, kitAny_cons (b := true) (kit_ty (by decide +kernel)) (fun z => nomatch z) (fun _ => rfl), z _ _ _ (Grow.refl ex) (.const rfl)⟩
    | false => exact ⟨_, tp, _, .type "tuple", [.type "list", .type "tuple"], true, rfl, ex _ _ htp, .cons (.ty _) (.cons (.ty _) .nil), ty_sqt hqc, kitAny_cons (b := false) (kit_ty (by decide +kernel)) (fun _ => kitAny_cons (b := true) (kit_ty (by decide +kernel)) (fun z => nomatch z) (fun _ => rfl)) (fun z => nomatch z), z _ _ _ (Grow.refl ex) (.const rfl)⟩
end
/-! k in d as a test -/
section
variable {X : Cx} {σ : St} {H : Hp} {i o : Expr} {pos : Pos} {y : V} {a : Addr}
theorem t_din {op : Option V} (hu : X.A.units + 1 < cLine) (hi : Cm H (is y) (wE X i σ)) (ho : Cm H (is (V.ref a)) (wE X o σ)) (h : Pz H (fun H' => DGet H' a y op)) (hm : behindInMarks .In o = false := by rfl) : Cm H (is op.isSome) (wT X (.Compare i [.In] [o] pos) σ) :=
  ct (pt_cmp (pc_din hu pe_w pe_w) hm) (cm2D (r := fun y x H2 (Q : Bool → Hp → Prop) => ∃ a o, x = V.ref a ∧ DGet H2 a y o ∧ ∃ k, V.bl o.isSome = V.bl k ∧ Q k H2) hi ho (Cm.ret (fun Hc e _ q => ⟨a, op, rfl, h Hc e, _, rfl, q⟩) (.const rfl)))
theorem t_dnin {op : Option V} (hu : X.A.units + 1 < cLine) (hi : Cm H (is y) (wE X i σ)) (ho : Cm H (is (V.ref a)) (wE X o σ)) (h : Pz H (fun H' => DGet H' a y op)) (hm : behindInMarks .NotIn o = false := by rfl) : Cm H (is (!op.isSome)) (wT X (.Compare i [.NotIn] [o] pos) σ) :=
  ct (pt_cmp (pc_dnotin hu pe_w pe_w) hm) (cm2D (r := fun y x H2 (Q : Bool → Hp → Prop) => ∃ a o, x = V.ref a ∧ DGet H2 a y o ∧ ∃ k, V.bl (!o.isSome) = V.bl k ∧ Q k H2) hi ho (Cm.ret (fun Hc e _ q => ⟨a, op, rfl, h Hc e, _, rfl, q⟩) (.const rfl)))
end
/-! a text in a list or a tuple; x is None -/
theorem inV_txt {z : Str} {xs : List Str} : inV (.str z) (xs.map V.str) = decide (z ∈ xs) := by
  unfold inV
  induction xs with
  | nil => rfl
  | cons y r ih =>
    rw [List.map_cons, List.any_cons, ih]
    show ((y == z) || decide (z ∈ r)) = decide (z ∈ y :: r)
    by_cases e : y = z
    · subst e; simp
    · have e2 : (y == z) = false := by simpa using e
      rw [e2]
      simp [Ne.symm e]
theorem flat_txt (xs : List Str) : (xs.map V.str).all flatV = true := by
  rw [List.all_map, List.all_eq_true]
  exact fun _ _ => rfl
section
variable {X : Cx} {σ : St} {H : Hp} {i o : Expr} {pos p1 : Pos} {a : Addr} {z : Str} {xs : List Str} {v : V} {j : Nat}
theorem r_inS (h : Pz H (fun H' => SqL X.K H' a (xs.map V.str) ∨ SqT X.K H' a (xs.map V.str))) : Cm H (is (V.bl (decide (z ∈ xs)))) (rIn X.K false (.str z) (.ref a)) :=
  Cm.ret (fun Hc ex Q q => ⟨a, _, rfl, h Hc ex, rfl, flat_txt xs, by rw [inV_txt]; exact q⟩) (.const rfl)
theorem r_ninS (h : Pz H (fun H' => SqL X.K H' a (xs.map V.str) ∨ SqT X.K H' a (xs.map V.str))) : Cm H (is (V.bl (!decide (z ∈ xs)))) (rIn X.K true (.str z) (.ref a)) :=
  Cm.ret (fun Hc ex Q q => ⟨a, _, rfl, h Hc ex, rfl, flat_txt xs, by rw [inV_txt]; exact q⟩) (.const rfl)
theorem e_inS (hi : Cm H (is (V.str z)) (wE X i σ)) (ho : Cm H (is (V.ref a)) (wE X o σ)) (h : Pz H (fun H' => SqL X.K H' a (xs.map V.str) ∨ SqT X.K H' a (xs.map V.str))) (hm : behindInMarks .In o = false := by rfl) : Cm H (is (V.bl (decide (z ∈ xs)))) (wE X (.Compare i [.In] [o] pos) σ) :=
  e_cmpD op_in_seq hm hi ho (r_inS h)
theorem t_inS (hi : Cm H (is (V.str z)) (wE X i σ)) (ho : Cm H (is (V.ref a)) (wE X o σ)) (h : Pz H (fun H' => SqL X.K H' a (xs.map V.str) ∨ SqT X.K H' a (xs.map V.str))) (hm : behindInMarks .In o = false := by rfl) : Cm H (is (decide (z ∈ xs))) (wT X (.Compare i [.In] [o] pos) σ) :=
  t_cmpD op_in_seq hm hi ho (r_inS h)
theorem e_isN (h : Cm H (is v) (wE X i σ)) : Cm H (is (V.bl (decide (v = .non)))) (wE X (.Compare i [.Is] [.Constant .none j p1] pos) σ) :=
  ce (pe_cmp (pc_isN pe_w)) (cm1D (u := fun x H1 (Q : VK) => Q (.bl (decide (x = .non))) H1) h (Cm.ret (fun _ _ _ q => q) (.const rfl)))
end
/-! several objects of one's own become known at once -/
theorem Grow.knowL {H Hc H1 Hc1 : Hp} (g : Grow H Hc H1 Hc1) (as : List Addr) (h : ∀ a ∈ as, Hc a = none ∧ H1 a = none ∧ ∃ o, Hc1 a = some o) : ∃ H3, Grow H Hc H3 Hc1 ∧ Ex H1 H3 ∧ ∀ a ∈ as, H3 a = Hc1 a := by
  have out : ∀ a o, H1 a = some o → a ∉ as := fun a o e m => by rw [(h a m).2.1] at e; cases e
  have e3 : Ex H1 (fun a => if a ∈ as then Hc1 a else H1 a) := fun a o e => by
    show (if a ∈ as then _ else _) = _
    rw [if_neg (out a o e)]
    exact e
  refine ⟨fun a => if a ∈ as then Hc1 a else H1 a, ⟨g.k.trans e3, fun a o e => ?_, g.c, fun a o e m n => ?_⟩, e3, fun a m => if_pos m⟩
  · by_cases m : a ∈ as
    · rw [if_pos m] at e; exact e
    · rw [if_neg m] at e; exact g.s a o e
  · show (if a ∈ as then _ else _) = _
    rw [if_neg fun z => by rw [(h a z).1] at e; cases e]
    exact g.f a o e m n
section
variable {X : Cx} {σ : St} {H Hc : Hp} {o i : Expr} {sts : List Stmt} {pos pos' p2 : Pos} {D : Ends} {d : Addr}
/-- d[k] = [], d and the new list to be one's own -/
theorem b_dputL {kvs : List (Key × V)} {key : Key} (ex : Ex H Hc) (hu : X.A.units + 1 < cLine) (ho : Cm H (is (V.ref d)) (wE X o σ)) (hi : Cm H (is (kV key)) (wE X i σ)) (hl : Hc d = some (.dK kvs)) (hz : kvs.length < 100000)
    (h : ∀ p Hn H2, Hc p = none → Grow H (upd Hc p (.lst [])) Hn H2 → wB X sts D σ (upd H2 d (.dK (putK kvs key (.ref p))))) (hs : swapsWith (.List [] p2) (some (.Subscript o i pos')) pos.line X.env = pure false := by rfl) : wB X (.Assign [.Subscript o i pos'] (.List [] p2) pos :: sts) D σ Hc := by
  refine b_cons (w_s (ps_dput hu pe_w pe_w (pe_lst pa_nil) hs) ⟨Nat.zero_le _, fun p hp => ?_⟩)
  refine ho _ (ex.trans (Evl.Ex.new hp)) _ fun u Hm H3 g3 p3 => hi.mono g3.k H3 g3.s _ fun w Hk H4 g4 p4 => ?_
  obtain rfl : u = .ref d := p3.now
  obtain rfl : w = kV key := p4.now
  exact ⟨d, _, rfl, .inl ⟨kvs, key, g4.c _ _ (g3.c _ _ (Evl.Ex.new hp _ _ hl)), rfl, Evl.sz_lt hz, rfl⟩, h p Hk H4 hp (g3.trans g4)⟩
end
theorem txt_get {xs : List Str} {i : Nat} {x : V} (h : (xs.map V.str)[i]? = some x) : ∃ z, xs[i]? = some z ∧ x = V.str z := by
  rw [List.getElem?_map] at h
  cases e : xs[i]? with
  | none => rw [e] at h; cases h
  | some z => rw [e] at h; exact ⟨z, rfl, (Option.some.inj h).symm⟩
end LW
set_option Elab.async false
set_option linter.all false
set_option maxRecDepth 100000
set_option maxHeartbeats 2000000
/-! pots: lists of two numbers out of which numbers are drawn; a pot stays the same thing, whatever has been drawn -/
namespace LW
open PySem PySem.Spec PyProof.Rows L2
def PotO (p : Addr) : HO := .ext fun h => ∃ (a b : Int) (t u : Tok) (n : Nat), 0 ≤ a ∧ 0 ≤ b ∧ b < 2147483648 ∧ h.get? p = some { cls := .type "list", data := .seq #[.int a t, .int b u] n }
/-- it lies open -/
def PotAt (p : Addr) (H : Hp) : Prop := ∃ a b : Int, 0 ≤ a ∧ 0 ≤ b ∧ b < 2147483648 ∧ H p = some (.lst [.int a, .int b])
def off (H : Hp) (p : Addr) : Hp := fun b => if b = p then none else H b
theorem off_at {H : Hp} {p : Addr} : off H p p = none := if_pos rfl
theorem off_ne {H : Hp} {p b : Addr} (h : b ≠ p) : off H p b = H b := if_neg h
theorem off_some {H : Hp} {p b : Addr} {o : HO} (h : off H p b = some o) : b ≠ p ∧ H b = some o := by
  by_cases q : b = p
  · rw [q, off_at] at h; cases h
  · rw [off_ne q] at h; exact ⟨q, h⟩
section
variable {X : Cx} {pins : List (Addr × Obj)} {σ : L2.St} {H Hc Hn H2 : Hp} {s : Shared} {p : Addr} {o : HO}
theorem pot_open (I : Inv X pins σ H s) (h : H p = some (PotO p)) : ∃ a b : Int, (0 ≤ a ∧ 0 ≤ b ∧ b < 2147483648) ∧ Inv X pins σ (upd H p (.lst [.int a, .int b])) s := by
  obtain ⟨⟨a, b, t, u, n, h1, h2, h3, e⟩, _⟩ := I.hok p _ h
  exact ⟨a, b, ⟨h1, h2, h3⟩, I.write (x := p) (e := p) (t' := s.toks) (by rw [h]; trivial) (.inl rfl) (fun _ _ _ z => z) ⟨_, e⟩ ⟨by show 2 ≤ sizeLine; decide, [.int a t, .int b u], n, .cons ⟨t, rfl⟩ (.cons ⟨u, rfl⟩ .nil), e⟩⟩
theorem pot_new {P : Program} {w : World} {h : Heap} (e : ∃ (a b : Int) (t u : Tok) (n : Nat), 0 ≤ a ∧ 0 ≤ b ∧ b < 2147483648 ∧ h.get? p = some { cls := .type "list", data := .seq #[.int a t, .int b u] n }) : ObjOk P w H h p (PotO p) := by
  refine ⟨e, ?_, fun h1 h2 ⟨a, b, t, u, n, z1, z2, z3, z⟩ k => ⟨a, b, t, u, n, z1, z2, z3, k _ z⟩⟩
  obtain ⟨a, b, t, u, n, _, _, _, z⟩ := e
  exact ⟨_, z⟩
theorem pot_close (I : Inv X pins σ H s) (h : PotAt p H) : Inv X pins σ (upd H p (PotO p)) s := by
  obtain ⟨a, b, h1, h2, h3, e⟩ := h
  obtain ⟨its, n, r, ho, _⟩ := I.lst e
  cases r with
  | cons r0 r => cases r with
    | cons r1 r => cases r with
      | nil =>
        obtain ⟨t, rfl⟩ := r0
        obtain ⟨u, rfl⟩ := r1
        exact I.write (x := p) (e := p) (t' := s.toks) (by rw [e]; trivial) (.inl rfl) (fun _ _ _ z => z) ⟨_, ho⟩ (pot_new ⟨a, b, t, u, n, h1, h2, h3, ho⟩)
/-- the ends of a text that runs on an open pot -/
def shut (D : Ends) (p : Addr) : Ends := { nx := fun σ H => PotAt p H ∧ D.nx σ (upd H p (PotO p)), rt := fun v H => PotAt p H ∧ D.rt v (upd H p (PotO p)) }
theorem b_pot {sts : List Stmt} {D : Ends} (hp : Hc p = some (PotO p)) (h : ∀ a b : Int, 0 ≤ a → 0 ≤ b → b < 2147483648 → wB X sts (shut D p) σ (upd Hc p (.lst [.int a, .int b]))) : wB X sts D σ Hc := by
  intro pins s I
  obtain ⟨a, b, ⟨h1, h2, h3⟩, J⟩ := pot_open I hp
  refine wpAny_mono (h a b h1 h2 h3 pins s J) (fun fl s' z => ?_) fun _ _ z => z
  cases fl with
  | next => obtain ⟨σ', H', J', z1, z2⟩ := z; exact ⟨σ', _, pot_close J' z1, z2⟩
  | ret u => obtain ⟨v, σ', H', J', rv, z1, z2⟩ := z; exact ⟨v, σ', _, pot_close J' z1, rv, z2⟩
  | brk => obtain ⟨_, _, _, z⟩ := z; exact z.elim
  | cont => obtain ⟨_, _, _, z⟩ := z; exact z.elim
/-- what runs on an open pot begins so -/
theorem pot_begin (ex : Ex H Hc) : Grow (off H p) (off Hc p) (off H p) (upd Hc p o) :=
  ⟨Evl.Ex.refl _, fun a u h => by rw [upd_ne (off_some h).1]; exact ex _ _ (off_some h).2, fun a u h => by rw [upd_ne (off_some h).1]; exact (off_some h).2, fun _ _ _ _ h => h⟩
/-- .. and ends so -/
theorem pot_end (ex : Ex H Hc) (h : H p = some o) (g : Grow (off H p) (off Hc p) Hn H2) : Grow H Hc (upd Hn p o) (upd H2 p o) := by
  refine ⟨fun a u q => ?_, fun a u q => ?_, fun a u q => ?_, fun a u q m n => ?_⟩ <;> by_cases z : a = p
  · subst z; rw [h] at q; cases q; exact upd_same
  · rw [upd_ne z]; exact g.k a u (by rw [off_ne z]; exact q)
  · subst z; rw [upd_same] at q ⊢; exact q
  · rw [upd_ne z] at q ⊢; exact g.s a u q
  · subst z; rw [ex _ _ h] at q; cases q; exact upd_same
  · rw [upd_ne z]; exact g.c a u (by rw [off_ne z]; exact q)
  · subst z; rw [h] at n; cases n
  · rw [upd_ne z]; exact g.f a u (by rw [off_ne z]; exact q) m (by rw [off_ne z]; exact n)
end
/-- nothing new is known -/
theorem still {H Hc H2 : Hp} (e1 : Ex H H2) (e2 : Ex Hc H2) : Grow H Hc H H2 := ⟨Evl.Ex.refl _, e1, e2, fun _ _ _ _ h => h⟩
/-! ### any target -/
section
variable {X : Cx} {σ : L2.St} {H Hc : Hp} {P : V → Hp → Prop} {tg e : Expr} {g : TG} {rest : List Stmt} {D : Ends} {pos : Pos}
theorem b_asg (ex : Ex H Hc) (he : Cm H P (wE X e σ)) (hg : PG X tg g) (h : ∀ v Hn H2, Grow H Hc Hn H2 → Pz Hn (P v) → g v σ H2 (wB X rest D)) (hs : swapsWithSole [tg] e pos.line X.env = pure false := by rfl) (hw : swappedStores [tg] e X.env = pure none := by rfl)
    (h1 : (assignEach [tg] X.env).map (·.2) = [assign tg X.env] := by rfl) : wB X (.Assign [tg] e pos :: rest) D σ Hc := b_cons (w_s (ps_asg pe_w hg hs hw h1) (he Hc ex _ h))
end
/-! a new pot -/
section
variable {X : Cx} {σ : L2.St} {H Hc : Hp} {es : List Expr} {rest : List Stmt} {D : Ends} {pos lp : Pos} {a b : Int}
theorem b_retPot (ex : Ex H Hc) (ha : Cm H (is [V.int a, V.int b]) (wA X es σ)) (h1 : 0 ≤ a) (h2 : 0 ≤ b) (h3 : b < 2147483648) (h : ∀ p Hn H2, Grow H Hc Hn H2 → Hn p = some (PotO p) → D.rt (.ref p) H2) : wB X (.Return (some (.List es lp)) pos :: rest) D σ Hc := by
  have z : wB X (.Return (some (.List es lp)) pos :: rest) { nx := fun _ _ => False, rt := fun v H2 => ∃ p, v = .ref p ∧ PotAt p H2 ∧ D.rt v (upd H2 p (PotO p)) } σ Hc := by
    refine b_cons (w_s (ps_ret (pe_lst pa_w)) (ha Hc ex _ fun vs Hn H2 g q => ?_))
    obtain rfl : vs = [V.int a, V.int b] := q.now
    refine ⟨by show 2 ≤ sizeLine; decide, fun p hp => ⟨p, rfl, ⟨a, b, h1, h2, h3, upd_same⟩, ?_⟩⟩
    rw [upd_upd]
    exact h p _ _ (g.trans (Grow.new g.s hp)) upd_same
  intro pins s I
  refine wpAny_mono (z pins s I) (fun fl s' y => ?_) fun _ _ y => y
  cases fl with
  | next => obtain ⟨_, _, _, y⟩ := y; exact y.elim
  | ret u => obtain ⟨v, σ', H', J', rv, p, e, z1, z2⟩ := y; exact ⟨v, σ', _, pot_close J' z1, rv, z2⟩
  | brk => obtain ⟨_, _, _, y⟩ := y; exact y.elim
  | cont => obtain ⟨_, _, _, y⟩ := y; exact y.elim
end
/-! loops whose number of turns is only known to lie in Φ -/
def Cix (H : Hp) (Φ : Nat → Prop) (Y : Nat → V → Hp → Prop) (t : Hp → (It → Hp → Prop) → Prop) : Prop := ∀ Hc, Ex H Hc → ∀ R : It → Hp → Prop, (∀ J n Hn H2, Φ n → Grow H Hc Hn H2 → Over Hn J n Y → R J H2) → t Hc R
theorem i_rngX {X : Cx} {σ : L2.St} {H : Hp} {es : List Expr} {Φ : Nat → Prop} (h : Cm H (fun vs _ => ∃ n : Nat, vs = [V.int (n : Int)] ∧ n ≤ 1000000 ∧ Φ n) (wA X es σ)) : Cix H Φ (fun i x _ => x = .int (i : Int)) (iRng1 (wA X es) σ) := fun Hc e R r =>
  h Hc e _ fun v Hn H2 g p => by
    obtain ⟨n, rfl, hn, hφ⟩ := p.now
    refine ⟨n, rfl, by omega, by omega, r _ n Hn H2 hφ g ?_⟩
    have o := over_range (H := Hn) (lo := 0) (n := n)
    exact ⟨o.go, o.stop, fun i x Hc H' e hi y H1 e1 e2 => by
      obtain ⟨H3, g3, z⟩ := o.yld i x Hc H' e hi y H1 e1 e2
      exact ⟨H3, g3, z.imp fun _ _ q => by rw [q, Int.zero_add]⟩⟩
theorem b_forX {X : Cx} {σ : L2.St} {H Hc : Hp} {tg iter : Expr} {body rest : List Stmt} {pos : Pos} {D : Ends} {wi : TI} {g : TG} {Φ : Nat → Prop} {Y : Nat → V → Hp → Prop} (ex : Ex H Hc) (hp : PassesOwn (model X.prog X.w) X.A X.env X.xe) (hc : X.calm = true)
    (hi : PI X tg iter wi) (hci : Cix H Φ Y (wi σ)) (hg : PG X tg g) (h : ∀ n Hn H2, Φ n → Grow H Hc Hn H2 → Loop X g body rest D n Y σ Hn H2) (hf : ∀ x, foldedSetIterable iter X.env x = pure x := by intro x; rfl) :
    wB X (.For tg iter body [] pos :: rest) D σ Hc := by
  refine b_cons (w_s (ps_for hp hc hi hg pss_w hf) (hci Hc ex _ fun J n Hn H2 hφ g2 ov => ?_))
  obtain ⟨W, h0, hs, hd⟩ := h n Hn H2 hφ g2
  refine ⟨fun i m σ1 Hc1 => m = n - i ∧ i ≤ n ∧ ∃ H1, Ex Hn H1 ∧ Ex H1 Hc1 ∧ W i σ1 H1 Hc1, ⟨n, rfl, Nat.zero_le _, Hn, Evl.Ex.refl _, g2.s, h0⟩, ?_⟩
  rintro i m σ1 Hc1 ⟨rfl, hi, H1, e1, e2, w⟩
  by_cases hlt : i < n
  · refine .inr ⟨ov.go i Hc1 (e1.trans e2) hlt, fun σ3 H3 => ∃ H5, Ex Hn H5 ∧ Ex H5 H3 ∧ W (i + 1) σ3 H5 H3, fun σ3 H3 ⟨H5, a, b, c⟩ => ⟨n - (i + 1), by omega, rfl, hlt, H5, a, b, c⟩, fun x H' y => ?_⟩
    obtain ⟨H3, g3, z⟩ := ov.yld i x Hc1 H' (e1.trans e2) hlt y H1 e1 e2
    exact hs i σ1 H1 Hc1 hlt e1 e2 w x H3 H' g3 z
  · obtain rfl : i = n := by omega
    exact .inl ⟨ov.stop i Hc1 (e1.trans e2) (Nat.le_refl _), hd σ1 H1 Hc1 e1 e2 w⟩
end LW
set_option Elab.async false
set_option linter.all false
set_option maxRecDepth 100000
set_option maxHeartbeats 2000000
/-! instances made: an __init__ by its body, stores to fields of one's own -/
namespace LW
open PySem L2
/-- what is to be shown of an __init__'s body -/
def BodyI {α : Type} (P : Program) (w : World) (K : PySem.W.Frag) (mg : Str → Option Value) (base : Heap) (C : Addr) (N : List Str) (qual : Str) (st : Stmt) (f : Addr) (k : Nat) (A : α → List V → Hp → Prop) (R : α → V → Hp → Prop) : Prop :=
  ∀ (cdv : Value) (Ar : Around) (outer : List Env) (s : Shared) (H0 : Hp) (E : XK) (x : α) (ws : List V) (H Hc : Hp) (p dx : Addr) (D : Ends), Room k (fx P w K mg base N qual st f cdv Ar outer s H0 E).A → Ex H Hc → Hc p = some (.ins C dx []) → H p = none → Pz H (A x ws) →
    (∀ σ Hn H2, Grow H (off Hc p) Hn H2 → Pz Hn (R x (.ref p)) → D.nx σ H2) →
    wB (fx P w K mg base N qual st f cdv Ar outer s H0 E) (defBody st) D (L2.start N (.ref p :: ws)) Hc
/-- the rule of a def, however its defaults stand -/
def DefOk (P : Program) (w : World) (K : PySem.W.Frag) (mg : Str → Option Value) (base : Heap) (N : List Str) (qual : Str) (st : Stmt) (f : Addr) (fd : FuncData) (ps : List Str) (k : Nat) : Prop :=
  ∀ sp : Sp, (∀ vs H Q E, sp vs H Q E → vs.length = ps.length) → (∀ (cdv : Value) (A : Around) (outer : List Env) (s : Shared) (H : Hp) (vs : List V) (Q : VK) (E : XK), Room k (A.deeper (PyProof.Rows.envOfC qual (defScope st) s.heap.objs.size f cdv)) → sp vs H Q E →
    ∃ t, PSs (cxOf CX0 P w K mg base N qual (defScope st) f cdv A outer s H E).nox (defBody st) t ∧ t { nx := fun _ H' => Q .non H', rt := Q } (L2.start N vs) H) → FnOk P w K mg base CX0 (k + 1) f fd ps sp
section
variable {α : Type} {P : Program} {w : World} {K : PySem.W.Frag} {mg : Str → Option Value} {base : Heap} {x qual : Str} {st : Stmt} {f C : Addr} {fd : FuncData} {N ps : List Str} {k : Nat} {A : α → List V → Hp → Prop} {R : α → V → Hp → Prop}
theorem init_of (F : DefOk P w K mg base N qual st f fd ps k) (hb : Binds K fd ps []) (len : ∀ a ws H, A a ws H → ws.length + 1 = ps.length) (b : BodyI P w K mg base C N qual st f k A R) : FnR P w K mg base CX0 (k + 1) f (SpI C A R) := by
  have G : FnOk P w K mg base CX0 (k + 1) f fd ps (SpI C A R) := F _ (fun vs H Q E h => by
    obtain ⟨a, H1, Hb, p, dx, ws, e, _, _, _, _, _, h, _⟩ := h
    rw [e]
    exact len a ws H1 h.now) fun cdv Ar outer s H vs Q E hr h => by
    obtain ⟨a, H1, Hb, p, dx, ws, e, ex, hp, hdx, ne, eH, h, q⟩ := h
    subst e eH
    have hdH : H1 dx = none := Evl.fresh_back ex hdx
    have hpH : H1 p = none := Evl.fresh_back ex hp
    have n1 : upd H1 dx (.own p) p = none := by rw [upd_ne ne.symm]; exact hpH
    have n2 : upd Hb dx (.own p) p = none := by rw [upd_ne ne.symm]; exact hp
    have g0 := Grow.new (o := .own p) ex hdx
    refine ⟨_, pss_w, b cdv Ar outer s _ E a ws (upd H1 dx (.own p)) _ p dx _ hr (g0.s.trans (Evl.Ex.new n2)) upd_same n1 (h.mono g0.k) fun σ Hn H2 g r => q Hn H2 ⟨g0.k.trans g.k, g.s, fun a u z => ?_, fun a u z m n => ?_⟩ r⟩
    · have y : a ≠ p := fun y => by rw [y, hp] at z; cases z
      exact g.c a u (by rw [off_ne y, upd_ne y]; exact g0.c a u z)
    · have y : a ≠ p := fun y => by rw [y, hp] at z; cases z
      exact g.f a u (by rw [off_ne y, upd_ne y]; exact g0.c a u z) m (by rw [upd_ne (fun e => by rw [e, hdx] at z; cases z)]; exact n)
  exact (G.raw hb .nil).imp fun vs H Q E h => by
    rw [List.append_nil]
    exact h
end
section
variable {X : Cx} {σ : St} {H Hc : Hp} {P : V → Hp → Prop} {o value : Expr} {sts : List Stmt} {pos pos' : Pos} {D : Ends} {p C dx : Addr} {fs : List (Str × V)} {f : Str}
/-- o.f = value, o an instance of one's own -/
theorem b_fld (c : Cls X.K C) (n : NoAttr X.K C f) (ex : Ex H Hc) (hv : Cm H P (wE X value σ)) (ho : Cm H (is (V.ref p)) (wE X o σ)) (hl : Hc p = some (.ins C dx fs)) (hz : fs.length < 1000) (h : ∀ v Hn H2, Grow H Hc Hn H2 → Pz Hn (P v) → wB X sts D σ (upd H2 p (.ins C dx (putF f v fs))))
    (hs : swapsWith value (some (.Attribute o f pos')) pos.line X.env = pure false := by rfl) : wB X (.Assign [.Attribute o f pos'] value pos :: sts) D σ Hc := by
  refine b_cons (w_s (ps_fld pe_w pe_w hs) (hv Hc ex _ fun v Hn H2 g q => ho.mono g.k H2 g.s _ fun u Hm H3 g3 q3 => ?_))
  obtain rfl : u = .ref p := q3.now
  exact ⟨p, C, dx, fs, rfl, g3.c _ _ (g.c _ _ hl), c, n, hz, h v Hm H3 (g.trans g3) (q.mono g3.k)⟩
end
/-! behind a look at an own object at p: what else has become known -/
theorem Grow.lookedK {H B H6 X H7 Hc7 : Hp} {p : Addr} {o : HO} (g : Grow H B H6 X) (n : H6 p = none) (g7 : Grow (upd H6 p o) X H7 Hc7) : Grow H B (off H7 p) Hc7 := by
  refine ⟨fun a u e => ?_, fun a u e => g7.s a u (off_some e).2, g.c.trans g7.c, fun a u e m z => ?_⟩
  · have ne : a ≠ p := fun q => by rw [q, Evl.fresh_back g.k n] at e; cases e
    rw [off_ne ne]
    exact g7.k a u (by rw [upd_ne ne]; exact g.k a u e)
  · by_cases q : a = p
    · rw [q]; exact off_at
    · rw [off_ne q]
      exact g7.f a u (g.c a u e) m (by rw [upd_ne q]; exact g.f a u e m z)
theorem off_keep {H7 : Hp} {p z : Addr} {o o' o2 : HO} (hp : H7 p = some o) (h : H7 z = some o') (ne : o ≠ o') : upd (off H7 p) p o2 z = some o' := by
  have q : z ≠ p := fun q => by
    rw [q, hp] at h
    exact ne (Option.some.inj h)
  rw [upd_ne q, off_ne q]
  exact h
/-- list(xs) of a list or a tuple that is known -/
theorem e_listOf {X : Cx} {σ : St} {H : Hp} {e : Expr} {a : Addr} {xs : List V} {px pos : Pos} (hm : X.mg "list" = none) (ho : Cm H (is (V.ref a)) (wE X e σ)) (h : Pz H (fun H' => SqL X.K H' a xs ∨ SqT X.K H' a xs)) (hg : Gl X "list" := by rfl)
    (hs : starEach [e] X.env = (false, eval e X.env) :: starEach [] X.env := by rfl) : Cm H (fun v H' => ∃ b, v = .ref b ∧ H' b = some (.lst xs)) (wE X (.Call (.Name "list" px) [e] [] pos) σ) :=
  e_tyD call_list_of hm (a_consD ho a_nil hs) (fun Hc ex Q q => ⟨a, xs, rfl, h Hc ex, fun l hl => q _ _ _ (Grow.new ex hl) fun H' e' => ⟨l, rfl, e' _ _ upd_same⟩⟩) hg (hv := by decide +kernel) (hs := hs)
/-! ### operators by the class's own methods -/
/-- the operator's method m of the class at C keeps its promise -/
structure Opx {α : Type} (P : Program) (w : World) (K : PySem.W.Frag) (mg : Str → Option Value) (base : Heap) (C : Addr) (m : Str) (k : Nat) (A : α → List V → Hp → Prop) (R : α → V → Hp → Prop) : Prop where
  ex : ∃ f : Addr, HasOp K C m f ∧ FnR P w K mg base CX0 k f (SpF A R)
section
variable {α : Type} {A : α → List V → Hp → Prop} {R : α → V → Hp → Prop} {X : Cx} {σ : St} {H : Hp} {P : V → Hp → Prop} {k : Nat} {C a b dx dy : Addr} {fs gs : List (Str × V)} {i o : Expr} {pos px : Pos} {x : V} {y : α} {c : Bool} {n : Int}
theorem r_ownIn (neg : Bool) (hi : Pz H (fun H' => H' a = some (.ins C dx fs))) (hp : Pz H (A y [.ref a, x])) (hR : ∀ v H', R y v H' → v = .bl c) : Cm H (is (V.bl (if neg then !c else c))) (rOwnIn neg C (SpF A R) E0 x (.ref a)) :=
  fun Hc ex Q q => ⟨a, dx, fs, rfl, hi Hc ex, y, H, ex, hp, fun v Hn H2 g r => ⟨c, hR v Hn r.now, q _ Hn H2 g (.const rfl)⟩⟩
theorem t_in (F : Opx X.prog X.w X.K X.mg X.base C "__contains__" k A R) (hr : Room k X.A) (hx : Cm H (is x) (wE X i σ)) (ho : Cm H (is (V.ref a)) (wE X o σ)) (hi : Pz H (fun H' => H' a = some (.ins C dx fs))) (hp : Pz H (A y [.ref a, x])) (hR : ∀ v H', R y v H' → v = .bl c) (hm : behindInMarks .In o = false := by rfl) :
    Cm H (is c) (wT X (.Compare i [.In] [o] pos) σ) := by
  obtain ⟨f, h, G⟩ := F.ex
  exact t_cmpD (op_ownIn h G hr pass0) hm hx ho (r_ownIn false hi hp hR)
theorem t_nin (F : Opx X.prog X.w X.K X.mg X.base C "__contains__" k A R) (hr : Room k X.A) (hx : Cm H (is x) (wE X i σ)) (ho : Cm H (is (V.ref a)) (wE X o σ)) (hi : Pz H (fun H' => H' a = some (.ins C dx fs))) (hp : Pz H (A y [.ref a, x])) (hR : ∀ v H', R y v H' → v = .bl c) (hm : behindInMarks .NotIn o = false := by rfl) :
    Cm H (is (!c)) (wT X (.Compare i [.NotIn] [o] pos) σ) := by
  obtain ⟨f, h, G⟩ := F.ex
  exact t_cmpD (op_ownNotIn h G hr pass0) hm hx ho (r_ownIn true hi hp hR)
theorem r_ownEq (neg : Bool) (hi : Pz H (fun H' => H' a = some (.ins C dx fs))) (hj : Pz H (fun H' => H' b = some (.ins C dy gs))) (hp : Pz H (A y [.ref a, .ref b])) (hR : ∀ v H', R y v H' → v = .bl c) : Cm H (is (V.bl (if neg then !c else c))) (rOwnEq neg C (SpF A R) E0 (.ref a) (.ref b)) :=
  fun Hc ex Q q => ⟨a, dx, fs, b, dy, gs, rfl, hi Hc ex, rfl, hj Hc ex, y, H, ex, hp, fun v Hn H2 g r => ⟨c, hR v Hn r.now, q _ Hn H2 g (.const rfl)⟩⟩
theorem e_eqO (F : Opx X.prog X.w X.K X.mg X.base C "__eq__" k A R) (hr : Room k X.A) (hx : Cm H (is (V.ref a)) (wE X i σ)) (ho : Cm H (is (V.ref b)) (wE X o σ)) (hi : Pz H (fun H' => H' a = some (.ins C dx fs))) (hj : Pz H (fun H' => H' b = some (.ins C dy gs))) (hp : Pz H (A y [.ref a, .ref b]))
    (hR : ∀ v H', R y v H' → v = .bl c) (hm : behindInMarks .Eq o = false := by rfl) : Cm H (is (V.bl c)) (wE X (.Compare i [.Eq] [o] pos) σ) := by
  obtain ⟨f, h, G⟩ := F.ex
  exact e_cmpD (op_ownEq h G hr pass0) hm hx ho (r_ownEq false hi hj hp hR)
theorem t_neO (F : Opx X.prog X.w X.K X.mg X.base C "__eq__" k A R) (nb : NeBy X.K C) (hr : Room (k + 1) X.A) (hx : Cm H (is (V.ref a)) (wE X i σ)) (ho : Cm H (is (V.ref b)) (wE X o σ)) (hi : Pz H (fun H' => H' a = some (.ins C dx fs))) (hj : Pz H (fun H' => H' b = some (.ins C dy gs))) (hp : Pz H (A y [.ref a, .ref b]))
    (hR : ∀ v H', R y v H' → v = .bl c) (hm : behindInMarks .NotEq o = false := by rfl) : Cm H (is (!c)) (wT X (.Compare i [.NotEq] [o] pos) σ) := by
  obtain ⟨f, h, G⟩ := F.ex
  exact t_cmpD (op_ownNe h nb G hr pass0) hm hx ho (r_ownEq true hi hj hp hR)
theorem e_lenO (F : Opx X.prog X.w X.K X.mg X.base C "__len__" k A R) (hr : Room (k + 1) X.A) (hm : X.mg "len" = none) (ho : Cm H (is (V.ref a)) (wE X o σ)) (hi : Pz H (fun H' => H' a = some (.ins C dx fs))) (hp : Pz H (A y [.ref a])) (hR : ∀ v H', R y v H' → v = .int n) (h0 : 0 ≤ n ∧ n < 1000000) (hg : Gl X "len" := by rfl)
    (hs : starEach [o] X.env = (false, eval o X.env) :: starEach [] X.env := by rfl) : Cm H (is (V.int n)) (wE X (.Call (.Name "len" px) [o] [] pos) σ) := by
  obtain ⟨f, h, G⟩ := F.ex
  exact e_bltD (call_ownLen h G hr pass0) hm (a_consD ho a_nil hs) (fun Hc ex Q q => ⟨a, dx, fs, rfl, hi Hc ex, y, H, ex, hp, fun v Hn H2 g r => ⟨n, hR v Hn r.now, h0.1, by omega, q _ Hn H2 g (.const rfl)⟩⟩) hg boot_len (by decide) (by decide) hs rfl
end
end LW
set_option Elab.async false
set_option linter.all false
set_option maxRecDepth 100000
set_option maxHeartbeats 2000000
/-! == of lists of texts, of lists of pairs -/
namespace LW
open PySem L2
theorem eqv_txts : ∀ xs ys : List Str, PyData.eqvAll (xs.map PyData.str) (ys.map PyData.str) = decide (xs = ys)
  | [], [] => by simp [PyData.eqvAll]
  | [], _ :: _ => by simp [PyData.eqvAll]
  | _ :: _, [] => by simp [PyData.eqvAll]
  | x :: xs, y :: ys => by
    rw [List.map_cons, List.map_cons, PyData.eqvAll, eqv_txts xs ys, PyData.eqv]
    by_cases h : x = y
    · subst h; simp
    · have : (x == y) = false := by simpa using h
      rw [this]
      simp [h]
def dPr (p : Str × Str) : PyData := .tuple [.str p.1, .str p.2]
theorem eqv_prs : ∀ ps qs : List (Str × Str), PyData.eqvAll (ps.map dPr) (qs.map dPr) = decide (ps = qs)
  | [], [] => by simp [PyData.eqvAll]
  | [], _ :: _ => by simp [PyData.eqvAll]
  | _ :: _, [] => by simp [PyData.eqvAll]
  | p :: ps, q :: qs => by
    rw [List.map_cons, List.map_cons, PyData.eqvAll, eqv_prs ps qs]
    have e : PyData.eqv (dPr p) (dPr q) = decide (p = q) := by
      unfold dPr
      rw [PyData.eqv, PyData.eqvAll, PyData.eqvAll, PyData.eqvAll, PyData.eqv, PyData.eqv, Bool.and_true]
      by_cases h : p = q
      · subst h; simp
      · rw [decide_eq_false h]
        by_cases h1 : p.1 = q.1
        · have h2 : ¬ p.2 = q.2 := fun z => h (Prod.ext h1 z)
          have : (p.2 == q.2) = false := by simpa using h2
          rw [this, Bool.and_false]
        · have : (p.1 == q.1) = false := by simpa using h1
          rw [this, Bool.false_and]
    rw [e]
    by_cases h : p = q
    · subst h; simp
    · simp [h]
theorem dp_txts {K : PySem.W.Frag} {H : Hp} : ∀ xs : List Str, DpAll K H (xs.map V.str) (xs.map PyData.str)
  | [] => .nil
  | x :: xs => .cons (.str x) (dp_txts xs)
theorem dp_prs {K : PySem.W.Frag} {H : Hp} : ∀ {ts : List Addr} {ps : List (Str × Str)}, TsAt H ts ps → DpAll K H (ts.map V.ref) (ps.map dPr)
  | _, _, .nil => .nil
  | _, _, .cons h r => .cons (.tup (SqT.of h) (.cons (.str _) (.cons (.str _) .nil))) (dp_prs r)
theorem ok_nm {x : Str} (h : Nm x) : PyData.strOk x = true := by
  unfold PyData.strOk
  rw [← Array.all_toList, List.all_eq_true]
  intro c hc
  have := h.2.2 c hc
  exact decide_eq_true (by omega)
theorem lay_all {ds : List PyData} (h : ∀ d ∈ ds, d.canLay0 = true ∧ d.depth ≤ 1) : PyData.canLayAll0 ds = true ∧ PyData.depthAll ds ≤ 1 := by
  induction ds with
  | nil => exact ⟨by rw [PyData.canLayAll0], by rw [PyData.depthAll]; exact Nat.zero_le _⟩
  | cons d r ih =>
    obtain ⟨a, b⟩ := ih fun y hy => h y (List.mem_cons_of_mem _ hy)
    obtain ⟨c, e⟩ := h d (List.mem_cons_self ..)
    exact ⟨by rw [PyData.canLayAll0, a, c] <;> rfl, by rw [PyData.depthAll]; exact Nat.max_le.mpr ⟨e, b⟩⟩
theorem sh_list {ds : List PyData} (h : ∀ d ∈ ds, d.canLay0 = true ∧ d.depth ≤ 1) : SeqAt.shaped (.list ds) = true := by
  obtain ⟨a, b⟩ := lay_all h
  unfold SeqAt.shaped
  rw [PyData.canLay0, a, Bool.true_and, PyData.depth]
  exact decide_eq_true (by omega)
theorem sh_txts {xs : List Str} (h : ∀ x ∈ xs, Nm x) : SeqAt.shaped (.list (xs.map PyData.str)) = true := sh_list fun d hd => by
  obtain ⟨x, hx, rfl⟩ := List.mem_map.mp hd
  exact ⟨by rw [PyData.canLay0]; exact ok_nm (h x hx), by rw [PyData.depth]; exact Nat.zero_le _⟩
theorem sh_prs {ps : List (Str × Str)} (h : ∀ p ∈ ps, Nm p.1 ∧ Nm p.2) : SeqAt.shaped (.list (ps.map dPr)) = true := sh_list fun d hd => by
  obtain ⟨p, hp, rfl⟩ := List.mem_map.mp hd
  unfold dPr
  refine ⟨?_, ?_⟩
  · rw [PyData.canLay0, PyData.canLayAll0, PyData.canLayAll0, PyData.canLayAll0, PyData.canLay0, PyData.canLay0, ok_nm (h p hp).1, ok_nm (h p hp).2] <;> rfl
  · rw [PyData.depth, PyData.depthAll, PyData.depthAll, PyData.depthAll, PyData.depth, PyData.depth]
    exact Nat.le_refl _
section
variable {X : Cx} {σ : St} {H : Hp} {i o : Expr} {pos : Pos} {a b : Addr} {xs ys : List Str} {ts us : List Addr} {ps qs : List (Str × Str)}
theorem e_eqTxts (hu : X.A.units + 64 < cLine) (hi : Cm H (is (V.ref a)) (wE X i σ)) (ho : Cm H (is (V.ref b)) (wE X o σ)) (h1 : Pz H (fun H' => SqL X.K H' a (xs.map V.str))) (h2 : Pz H (fun H' => SqL X.K H' b (ys.map V.str))) (n1 : ∀ x ∈ xs, Nm x) (n2 : ∀ x ∈ ys, Nm x)
    (hm : behindInMarks .Eq o = false := by rfl) : Cm H (is (V.bl (decide (xs = ys)))) (wE X (.Compare i [.Eq] [o] pos) σ) :=
  e_cmpD (op_eqD hu) hm hi ho (Cm.ret (fun Hc ex Q q => ⟨_, _, .lst (h1 Hc ex) (dp_txts xs), .lst (h2 Hc ex) (dp_txts ys), sh_txts n1, sh_txts n2, by rw [PyData.eqv, eqv_txts]; exact q⟩) (.const rfl))
theorem e_eqPrs (hu : X.A.units + 64 < cLine) (hi : Cm H (is (V.ref a)) (wE X i σ)) (ho : Cm H (is (V.ref b)) (wE X o σ)) (h1 : Pz H (fun H' => SqL X.K H' a (ts.map V.ref) ∧ TsAt H' ts ps)) (h2 : Pz H (fun H' => SqL X.K H' b (us.map V.ref) ∧ TsAt H' us qs)) (n1 : ∀ p ∈ ps, Nm p.1 ∧ Nm p.2) (n2 : ∀ p ∈ qs, Nm p.1 ∧ Nm p.2)
    (hm : behindInMarks .Eq o = false := by rfl) : Cm H (is (V.bl (decide (ps = qs)))) (wE X (.Compare i [.Eq] [o] pos) σ) :=
  e_cmpD (op_eqD hu) hm hi ho (Cm.ret (fun Hc ex Q q => ⟨_, _, .lst (h1 Hc ex).1 (dp_prs (h1 Hc ex).2), .lst (h2 Hc ex).1 (dp_prs (h2 Hc ex).2), sh_prs n1, sh_prs n2, by rw [PyData.eqv, eqv_prs]; exact q⟩) (.const rfl))
end
theorem eqv_pr (p q : Str × Str) : PyData.eqv (dPr p) (dPr q) = decide (p = q) := by
  have z : PyData.eqvAll [dPr p] [dPr q] = decide ([p] = [q]) := eqv_prs [p] [q]
  rw [PyData.eqvAll, PyData.eqvAll, Bool.and_true] at z
  rw [z]
  by_cases h : p = q
  · subst h; simp
  · simp [h]
theorem any_pr {ps : List (Str × Str)} {p : Str × Str} : ((ps.map dPr).any fun z => PyData.eqv z (dPr p)) = decide (p ∈ ps) := by
  induction ps with
  | nil => rfl
  | cons q r ih =>
    rw [List.map_cons, List.any_cons, ih, eqv_pr]
    by_cases h : q = p
    · subst h; simp
    · have h2 : ¬ p = q := fun e => h e.symm
      simp [h, h2]
theorem sh_pr {p : Str × Str} (h1 : Nm p.1) (h2 : Nm p.2) : SeqAt.shaped (dPr p) = true := by
  unfold SeqAt.shaped dPr
  rw [PyData.canLay0, PyData.canLayAll0, PyData.canLayAll0, PyData.canLayAll0, PyData.canLay0, PyData.canLay0, ok_nm h1, ok_nm h2, PyData.depth, PyData.depthAll, PyData.depthAll, PyData.depthAll, PyData.depth, PyData.depth] <;> rfl
end LW
set_option Elab.async false
set_option linter.all false
set_option maxRecDepth 100000
set_option maxHeartbeats 2000000
/-! defs with *args -/
namespace LW
open PySem L2
/-- n arguments, what is left over in a new tuple -/
def StarSp (n : Nat) (sp : Sp) : Sp := fun vs H Q E => ∃ ws rest, vs = ws ++ rest ∧ ws.length = n ∧ rest.length ≤ sizeLine ∧ ∀ p, H p = none → sp (ws ++ [V.ref p]) (upd H p (.tup rest)) Q E
/-- the rule of such a def -/
def StarOk (P : Program) (w : World) (K : PySem.W.Frag) (mg : Str → Option Value) (base : Heap) (N : List Str) (qual : Str) (st : Stmt) (f : Addr) (n k : Nat) : Prop :=
  ∀ sp : Sp, (∀ (cdv : Value) (A : Around) (outer : List Env) (s : Shared) (H : Hp) (vs : List V) (Q : VK) (E : XK), Room k (A.deeper (PyProof.Rows.envOfC qual (defScope st) s.heap.objs.size f cdv)) → sp vs H Q E →
    ∃ t, PSs (cxOf CX0 P w K mg base N qual (defScope st) f cdv A outer s H E).nox (defBody st) t ∧ t { nx := fun _ H' => Q .non H', rt := Q } (L2.start N vs) H) → FnR P w K mg base CX0 (k + 1) f (StarSp n sp)
section
variable {α : Type} {P : Program} {w : World} {K : PySem.W.Frag} {mg : Str → Option Value} {base : Heap} {qual : Str} {st : Stmt} {f : Addr} {N : List Str} {n k : Nat} {A : α → List V → Hp → Prop} {R : α → V → Hp → Prop} {H1 : Hp} {ws rest : List V}
theorem star_of (F : StarOk P w K mg base N qual st f n k) (b : Body P w K mg base N qual st f k A R) : FnR P w K mg base CX0 (k + 1) f (StarSp n (SpF A R)) :=
  F _ fun cdv Ar outer s H vs Q E hr h => by
    obtain ⟨a, H1, e, p, q⟩ := h
    exact ⟨_, pss_w, b cdv Ar outer s H E a vs H1 H _ hr e p (fun v Hn H2 g r => q v Hn H2 g r) fun _ Hn H2 g r => q .non Hn H2 g r⟩
theorem c_star (x : α) (hw : ws.length = n) (hz : rest.length ≤ 100000) (h : ∀ p H2, Ex H1 H2 → H2 p = some (.tup rest) → Pz H2 (A x (ws ++ [.ref p]))) : Cm H1 (R x) (fun Hc Q => StarSp n (SpF A R) (ws ++ rest) Hc Q E0) :=
  fun Hc ex Q q => ⟨ws, rest, rfl, hw, Evl.sz_of hz, fun p hp => ⟨x, upd H1 p (.tup rest), (Grow.new ex hp).s, h p _ (Ex.put (Evl.fresh_back ex hp)) upd_same, fun v Hn H2 g r => q v Hn H2 ((Grow.new ex hp).trans g) r⟩⟩
end
/-! *xs among arguments or items -/
section
variable {X : Cx} {σ : St} {H : Hp} {e : Expr} {es : List Expr} {p1 pos : Pos} {Pa : List V → Hp → Prop} {G : List V → Hp → Prop}
/-- what is starred: a list or a tuple of which G holds -/
theorem a_star (he : Cm H (fun v H' => ∃ a xs, v = .ref a ∧ Pz H' (fun H2 => SqT X.K H2 a xs ∨ SqL X.K H2 a xs) ∧ Pz H' (G xs)) (wE X e σ)) (hr : Cm H Pa (wA X es σ)) (hs : starEach (.Starred e p1 :: es) X.env = (true, eval e X.env) :: starEach es X.env := by rfl) :
    Cm H (fun ws H' => ∃ xs us, ws = xs ++ us ∧ G xs H' ∧ Pa us H') (wA X (.Starred e p1 :: es) σ) := by
  refine ca (StX.pa_star pe_w pa_w hs) fun Hc ex Q q => ?_
  refine he Hc ex _ fun v Hn H2 g pv => ?_
  obtain ⟨a, xs, rfl, e2, e3⟩ := pv.now
  refine ⟨a, xs, rfl, e2 H2 g.s, hr.mono g.k H2 g.s _ fun us Hm H3 g3 pu => q _ Hm H3 (g.trans g3) fun H' e' => ⟨xs, us, rfl, e3 H' (g3.k.trans e'), pu H' e'⟩⟩
theorem atI_neg1 {α : Type} {xs : List α} {x : α} (h : xs[xs.length - 1]? = some x) : atI xs (-1) = some x := by
  have hl := (List.getElem?_eq_some_iff.mp h).1
  unfold atI ixN
  rw [if_neg (by decide), if_pos (by omega)]
  show xs[(-1 + (xs.length : Int)).toNat]? = some x
  rw [show (-1 + (xs.length : Int)).toNat = xs.length - 1 by omega]
  exact h
end
theorem paired_swap {α β : Type} {F : α → β → Prop} : ∀ {l : List α} {r : List β}, Paired F l r → Paired (fun b a => F a b) r l
  | _, _, .nil => .nil
  | _, _, .cons h t => .cons h (paired_swap t)
/-- sorted(pairs) -/
theorem e_sortedPS {X : Cx} {σ : St} {H : Hp} {e : Expr} {a : Addr} {ts : List Addr} {ps qs : List (Str × Str)} {px pos : Pos} (hm : X.mg "sorted" = none) (ho : Cm H (is (V.ref a)) (wE X e σ)) (h : Pz H (fun H' => SqL X.K H' a (ts.map V.ref) ∧ TsAt H' ts ps)) (hp : qs.Perm ps) (hs : SortP qs)
    (hg : Gl X "sorted" := by rfl) (hst : starEach [e] X.env = (false, eval e X.env) :: starEach [] X.env := by rfl) : Cm H (fun v H' => ∃ d us, v = .ref d ∧ H' d = some (.lst (us.map V.ref)) ∧ TsAt H' us qs) (wE X (.Call (.Name "sorted" px) [e] [] pos) σ) :=
  e_bltD cr_sortedPS hm (a_consD ho a_nil hst) (fun Hc ex Q q => ⟨a, ts, ps, rfl, (h Hc ex).1, (h Hc ex).2, fun ts' ps' d ht hp2 hs2 hd => by
    obtain rfl : ps' = qs := sortP_uniq hs2 hs (hp2.trans hp.symm)
    have z := paired_swap (paired_ex (Evl.Ex.new (o := .lst (ts'.map V.ref)) hd) ht)
    obtain ⟨H3, g3, e3, y⟩ := (Grow.new (o := .lst (ts'.map V.ref)) ex hd).knowTs (f := fun p : Str × Str => [V.str p.1, V.str p.2]) z
    exact q _ H3 _ g3 fun H' e' => ⟨d, ts', rfl, e' _ _ (e3 _ _ upd_same), paired_ex e' (paired_swap y)⟩⟩) hg (hv := by decide +kernel) (hs := hst)
theorem e_sortedS {X : Cx} {σ : St} {H : Hp} {e : Expr} {a : Addr} {xs ys : List Str} {px pos : Pos} (hm : X.mg "sorted" = none) (ho : Cm H (is (V.ref a)) (wE X e σ)) (h : Pz H (fun H' => SqL X.K H' a (xs.map V.str))) (hz : xs.length < 64) (hp : ys.Perm xs) (hs : SortN ys)
    (hg : Gl X "sorted" := by rfl) (hst : starEach [e] X.env = (false, eval e X.env) :: starEach [] X.env := by rfl) : Cm H (fun v H' => ∃ d, v = .ref d ∧ H' d = some (.lst (ys.map V.str))) (wE X (.Call (.Name "sorted" px) [e] [] pos) σ) :=
  e_bltD cr_sortedS hm (a_consD ho a_nil hst) (fun Hc ex Q q => ⟨a, xs, rfl, h Hc ex, hz, fun zs d hp2 hs2 hd => by
    obtain rfl : zs = ys := sortN_uniq (sortN_of hs2) hs (hp2.trans hp.symm)
    exact q _ _ _ (Grow.new ex hd) fun H' e' => ⟨d, rfl, e' _ _ upd_same⟩⟩) hg (hv := by decide +kernel) (hs := hst)
end LW
set_option Elab.async false
set_option linter.all false
set_option maxRecDepth 100000
set_option maxHeartbeats 2000000
/-! comprehensions of two for -/
namespace LW
open PySem L2
/-- one row of such a comprehension: the inner walk, its turns -/
def Lc2Row (g g1 : TG) (wi1 : TI) (te : TE) (vs vs1 : List Nat) (σ : St) (n1 : Nat) (A : Nat → List V → Hp → Prop) (x : V) (H1 : Hp) : Prop :=
  ∃ (σ' : St) (Y1 : Nat → V → Hp → Prop), Bind g x (wipe σ vs) H1 σ' ∧ wipe σ' vs = wipe σ vs ∧ Ci H1 n1 Y1 (wi1 σ') ∧ ∀ j y acc H2, j < n1 → Ex H1 H2 → Pz H2 (Y1 j y) → Pz H2 (A j acc) →
    ∃ σ'' : St, Bind g1 y (wipe σ' vs1) H2 σ'' ∧ wipe σ'' vs1 = wipe σ' vs1 ∧ Cm H2 (fun z H' => A (j + 1) (acc ++ [z]) H') (te σ'')
theorem c_lc2 {wi wi1 : TI} {g g1 : TG} {te : TE} {vs vs1 : List Nat} {σ : St} {H : Hp} {n : Nat} {Y : Nat → V → Hp → Prop} {P : V → Hp → Prop} (hci : Ci H n Y (wi σ)) (hn : n ≤ 200) (n1 : Nat → Nat) (hn1 : ∀ i, i < n → n1 i ≤ 200) (A : Nat → Nat → List V → Hp → Prop) (h0 : ∀ H', A 0 0 [] H')
    (hs : ∀ i x H1, i < n → Ex H H1 → Pz H1 (Y i x) → Lc2Row g g1 wi1 te vs vs1 σ (n1 i) (A i) x H1) (hrow : ∀ i acc H1, A i (n1 i) acc H1 → A (i + 1) 0 acc H1)
    (hd : ∀ acc p H1, Ex H H1 → Pz H1 (A n 0 acc) → H1 p = some (.lst acc) → Pz H1 (P (.ref p))) : Cm H P (tLc2 wi g tYes wi1 g1 tYes te vs vs1 σ) := by
  intro Hc e Q q
  refine hci Hc e _ fun J Hn H2 g2 ov => fun Dl hD => ?_
  have hcD : Hc Dl = none := Evl.fresh_back g2.c hD
  refine ⟨fun i m Hc1 => m = n - i ∧ i ≤ n ∧ ∃ H1 acc, Ex Hn H1 ∧ Grow H Hc H1 Hc1 ∧ H1 Dl = none ∧ Hc1 Dl = some (.lst acc) ∧ acc.length ≤ i * 200 ∧ Pz H1 (A i 0 acc), ⟨n, rfl, Nat.zero_le _, Hn, [], Evl.Ex.refl _, g2.mut hcD (Evl.fresh_back g2.s hD), Evl.fresh_back g2.s hD, upd_same, Nat.le_refl _, fun H' _ => h0 H'⟩, ?_⟩
  rintro i m Hc1 ⟨rfl, hi, H1, acc, e1, g1', hD1, hl1, hlen, pacc⟩
  by_cases hlt : i < n
  · refine .inr ⟨ov.go i Hc1 (e1.trans g1'.s) hlt, fun Hc3 => ∃ H3 acc', Ex Hn H3 ∧ Grow H Hc H3 Hc3 ∧ H3 Dl = none ∧ Hc3 Dl = some (.lst acc') ∧ acc'.length ≤ (i + 1) * 200 ∧ Pz H3 (A (i + 1) 0 acc'), fun H' ⟨H3, acc', z1, z2, z3, z4, z5, z6⟩ => ⟨n - (i + 1), by omega, rfl, hlt, H3, acc', z1, z2, z3, z4, z5, z6⟩, fun x H' y => ?_⟩
    obtain ⟨H3, g3, zy⟩ := ov.yld i x Hc1 H' (e1.trans g1'.s) hlt y H1 e1 g1'.s
    obtain ⟨σ', Y1, hb, hw, hci1, ht⟩ := hs i x H3 hlt (g1'.trans g3).k zy
    refine hb H' g3.s _ ⟨hw, ?_⟩
    show wi1 σ' H' _
    have m1 := hn1 i hlt
    refine hci1 H' g3.s _ fun J1 H4 Hc4 g4 ov1 => ?_
    have hl4 := g4.c _ _ (g3.c _ _ hl1)
    have hD4 : H4 Dl = none := g4.un (g3.c _ _ hl1) (g3.un hl1 hD1)
    refine ⟨fun j k Hc5 => k = n1 i - j ∧ j ≤ n1 i ∧ ∃ H5 acc, Ex H4 H5 ∧ Grow H Hc H5 Hc5 ∧ H5 Dl = none ∧ Hc5 Dl = some (.lst acc) ∧ acc.length ≤ i * 200 + j ∧ Pz H5 (A i j acc), ⟨n1 i, rfl, Nat.zero_le _, H4, acc, Evl.Ex.refl _, (g1'.trans g3).trans g4, hD4, hl4, hlen, pacc.mono (g3.k.trans g4.k)⟩, ?_⟩
    rintro j k Hc5 ⟨rfl, hj, H5, acc5, e5, g5, hD5, hl5, hlen5, pacc5⟩
    by_cases hjt : j < n1 i
    · refine .inr ⟨ov1.go j Hc5 (e5.trans g5.s) hjt, fun Hc7 => ∃ H7 acc', Ex H4 H7 ∧ Grow H Hc H7 Hc7 ∧ H7 Dl = none ∧ Hc7 Dl = some (.lst acc') ∧ acc'.length ≤ i * 200 + (j + 1) ∧ Pz H7 (A i (j + 1) acc'), fun H' ⟨H7, acc', z1, z2, z3, z4, z5, z6⟩ => ⟨n1 i - (j + 1), by omega, rfl, hjt, H7, acc', z1, z2, z3, z4, z5, z6⟩, fun x1 H6 y1 => ?_⟩
      obtain ⟨H7, g7, zy7⟩ := ov1.yld j x1 Hc5 H6 (e5.trans g5.s) hjt y1 H5 e5 g5.s
      obtain ⟨σ'', hb2, hw2, hc2⟩ := ht j x1 acc5 H7 hjt ((g4.k.trans e5).trans g7.k) zy7 (pacc5.mono g7.k)
      refine hb2 H6 g7.s _ ⟨hw2, ?_⟩
      show te σ'' H6 _
      refine hc2 H6 g7.s _ fun z H8 Hc8 g8 pz => ?_
      have hl7 := g7.c _ _ hl5
      have hD7 : H7 Dl = none := g7.un hl5 hD5
      have hl8 := g8.c _ _ hl7
      have hD8 : H8 Dl = none := g8.un hl7 hD7
      have big : i * 200 ≤ 200 * 200 := Nat.mul_le_mul_right _ (by omega)
      refine ⟨acc5, hl8, Evl.sz_lt (by omega), H8, acc5 ++ [z], e5.trans (g7.k.trans g8.k), ((g5.trans g7).trans g8).mut hcD hD8, hD8, upd_same, by rw [List.length_append, List.length_singleton]; omega, pz⟩
    · obtain rfl : j = n1 i := by omega
      refine .inl ⟨ov1.stop _ Hc5 (e5.trans g5.s) (Nat.le_refl _), H5, acc5, (e1.trans (g3.k.trans g4.k)).trans e5, g5, hD5, hl5, by omega, pacc5.imp fun H' _ z => hrow i acc5 H' z⟩
  · obtain rfl : i = n := by omega
    refine .inl ⟨ov.stop _ Hc1 (e1.trans g1'.s) (Nat.le_refl _), ?_⟩
    exact q (.ref Dl) (upd H1 Dl (.lst acc)) Hc1 (g1'.know hcD hD1 hl1) (hd acc Dl _ (g1'.k.trans (Evl.Ex.new hD1)) (pacc.mono (Evl.Ex.new hD1)) upd_same)
section
variable {X : Cx}
/-- arguments, in whatever frame the block runs -/
def wAb (X : Cx) (scope : Scope) (es : List Expr) (σ : St) (H : Hp) (Q : List V → Hp → Prop) : Prop := ∀ (s : Shared) (H0 : Hp) (C : Addr) (cl : List (Str × Addr)) (fp : List Addr), wA (X.blk s H0 scope (compEnvC scope cl C X.env) fp) es σ H Q
theorem pa_b {scope : Scope} {es : List Expr} (s : Shared) (H : Hp) (C : Addr) (cl : List (Str × Addr)) (fp : List Addr) : PA (X.blk s H scope (compEnvC scope cl C X.env) fp) es (wAb X scope es) := ⟨fun pos pins s' _ _ _ I h => h s H C cl fp pos pins s' I⟩
theorem c_ab {scope : Scope} {es : List Expr} {σ : St} {H : Hp} {P : List V → Hp → Prop} (h : ∀ (s : Shared) (H0 : Hp) (C : Addr) (cl : List (Str × Addr)) (fp : List Addr), Cm H P (wA (X.blk s H0 scope (compEnvC scope cl C X.env) fp) es σ)) : Cm H P (wAb X scope es σ) :=
  fun Hc e Q q s H0 C cl fp => h s H0 C cl fp Hc e Q q
theorem i_rngB {scope : Scope} {es : List Expr} {σ : St} {H : Hp} {n : Nat} (h : Cm H (is [V.int (n : Int)]) (wAb X scope es σ)) (hb : n ≤ 1000000) : Ci H n (fun i x _ => x = .int (i : Int)) (iRng1 (wAb X scope es) σ) := fun Hc e R r =>
  h Hc e _ fun v Hn H2 g p => ⟨n, p.now, by omega, by omega, r _ Hn H2 g (by
    have o := over_range (H := Hn) (lo := 0) (n := n)
    exact ⟨o.go, o.stop, fun i x Hc H' e hi y H1 e1 e2 => by
      obtain ⟨H3, g3, z⟩ := o.yld i x Hc H' e hi y H1 e1 e2
      exact ⟨H3, g3, z.imp fun _ _ q => by rw [q, Int.zero_add]⟩⟩)⟩
end
end LW
set_option Elab.async false
set_option linter.all false
set_option maxRecDepth 100000
set_option maxHeartbeats 2000000
/-! name = {k: v for ..}: a statement of its own -/
namespace LW
open PySem PySem.Spec PyProof.Rows L2
section
variable {X : Cx} {i : Nat} {y : Str} {py pos spos : Pos} {kx vx tg iter : Expr} {ifs : List Expr} {scope : Scope} {own : List (Str × Nat)} {wi : TI} {g : TG} {tt : TT} {tk tv : TE}
theorem ps_setDc (hc : X.calm = true) (hN : X.N.Nodup) (hy : X.N[i]? = some y) (hyl : X.env.scope.names.lookup y = some .local) (hsw : swapsWith (.DictComp kx vx [⟨tg, iter, ifs, 0⟩] scope pos) (some (.Name y py)) spos.line X.env = pure true) (hi : PI X tg iter wi)
    (ok : BlkOk X.N X.env.scope scope own) (hg : ∀ (s : Shared) (H : Hp) (C : Addr) (cl : List (Str × Addr)) (fp : List Addr), PG (X.blk s H scope (compEnvC scope cl C X.env) fp) tg g)
    (ht : ∀ (s : Shared) (H : Hp) (C : Addr) (cl : List (Str × Addr)) (fp : List Addr), PTs (X.blk s H scope (compEnvC scope cl C X.env) fp) ifs tt) (hk : ∀ (s : Shared) (H : Hp) (C : Addr) (cl : List (Str × Addr)) (fp : List Addr), PE (X.blk s H scope (compEnvC scope cl C X.env) fp) kx tk)
    (hv : ∀ (s : Shared) (H : Hp) (C : Addr) (cl : List (Str × Addr)) (fp : List Addr), PE (X.blk s H scope (compEnvC scope cl C X.env) fp) vx tv) (hs : ∀ x, foldedSetIterable iter X.env x = pure x) :
    PS X (.Assign [.Name y py] (.DictComp kx vx [⟨tg, iter, ifs, 0⟩] scope pos) spos) (tAsg (tDc wi g tt tk tv (own.map (·.2))) (gName i)) := by
  refine ⟨fun pins s σ H D I h => ?_⟩
  rw [exec_Assign_Name_used _ _ _ _ hsw]
  refine wpAny_bind (wpAny_standAt (wpAny_bind ?_))
  show wpAny _ X.A (do let _ ← comprehension (.DictComp kx vx [⟨tg, iter, ifs, 0⟩] scope pos) scope X.env (firstIterPos [⟨tg, iter, ifs, 0⟩] pos) newDict false (eval iter X.env) (some (assign (.Name y py) X.env))) _ _ s
  have h' : tDc wi g tt tk tv (own.map (·.2)) σ H (fun x H1 => gName i x σ H1 D.nx) := h
  refine wpAny_bind (thn (dc_core (Qf := fun _ s' => SP X pins D .next s') hc hN I hi ok hg ht hk hv hs h' fun L C s' m H' J q hn fo => ?_) fun _ s' z => wpAny_pure (wpAny_pure z))
  show wpAny _ _ (assign (.Name y py) X.env (.ref L)) _ _ _
  obtain ⟨k0, k1, k2, k3, k4, k5⟩ := fo
  refine wpAny_assign_Name (store_ok2 (v := V.ref L) J hN hy (.inl hyl) rfl (fun s2 J2 ⟨a, sb, ha⟩ => ⟨m, hn.sameBut sb ?_, fun h3 sb3 => ⟨_, H', J2.turned (t' := s2.toks) (fun b o hb e => (sb3.2 b hb).trans e) k0 k1 k3 k4 k5, q⟩⟩) (.inr hyl))
  rcases ha with e | e
  · rw [e]; exact k1
  · exact fun z => k4 y a e z.symm
theorem b_setDc (i : Nat) {σ : L2.St} {H Hc : Hp} {P : V → Hp → Prop} {rest : List Stmt} {D : Ends} (ex : Ex H Hc) (hc : X.calm = true) (hN : X.N.Nodup) (hy : X.N[i]? = some y) (hyl : X.env.scope.names.lookup y = some .local) (hsw : swapsWith (.DictComp kx vx [⟨tg, iter, ifs, 0⟩] scope pos) (some (.Name y py)) spos.line X.env = pure true)
    (hi : PI X tg iter wi) (ok : BlkOk X.N X.env.scope scope own) (hg : ∀ (s : Shared) (H : Hp) (C : Addr) (cl : List (Str × Addr)) (fp : List Addr), PG (X.blk s H scope (compEnvC scope cl C X.env) fp) tg g)
    (ht : ∀ (s : Shared) (H : Hp) (C : Addr) (cl : List (Str × Addr)) (fp : List Addr), PTs (X.blk s H scope (compEnvC scope cl C X.env) fp) ifs tt) (h : Cm H P (tDc wi g tt (wEb X scope kx) (wEb X scope vx) (own.map (·.2)) σ))
    (k : ∀ v Hn H2, Grow H Hc Hn H2 → Pz Hn (P v) → wB X rest D (σ.set i (some v)) H2) (hf : ∀ x, foldedSetIterable iter X.env x = pure x := by intro x; rfl) : wB X (.Assign [.Name y py] (.DictComp kx vx [⟨tg, iter, ifs, 0⟩] scope pos) spos :: rest) D σ Hc :=
  b_cons (w_s (ps_setDc hc hN hy hyl hsw hi ok hg ht pe_b pe_b hf) (h Hc ex _ k))
end
section
variable {X : Cx} {σ : L2.St} {H Hc : Hp} {P : V → Hp → Prop} {o i value : Expr} {sts : List Stmt} {pos pos' : Pos} {D : Ends} {l : Addr}
/-- d[e] = v, e a tuple that is made there -/
theorem b_dputN {kvs : List (List Key × V)} {key : List Key} (ex : Ex H Hc) (hu : X.A.units + 1 < cLine) (hv : Cm H P (wE X value σ)) (ho : Cm H (is (V.ref l)) (wE X o σ)) (hi : Cm H (fun v H' => ∃ b, v = .ref b ∧ H' b = some (.tup (key.map kV))) (wE X i σ)) (hl : Hc l = some (.dT kvs)) (hz : kvs.length < 100000)
    (h : ∀ v Hn H2, Grow H Hc Hn H2 → Pz Hn (P v) → wB X sts D σ (upd H2 l (.dT (putK kvs key v)))) (hs : swapsWith value (some (.Subscript o i pos')) pos.line X.env = pure false := by rfl) : wB X (.Assign [.Subscript o i pos'] value pos :: sts) D σ Hc := by
  refine b_cons (w_s (ps_dput hu pe_w pe_w pe_w hs) (hv Hc ex _ fun v Hn H2 g p => ho.mono g.k H2 g.s _ fun u Hm H3 g3 p3 => hi.mono (g.trans g3).k H3 g3.s _ fun w Hk H4 g4 p4 => ?_))
  obtain rfl : u = .ref l := p3.now
  obtain ⟨b, rfl, hb⟩ := p4.now
  exact ⟨l, _, rfl, .inr ⟨kvs, key, b, g4.c _ _ (g3.c _ _ (g.c _ _ hl)), rfl, g4.s _ _ hb, Evl.sz_lt hz, rfl⟩, h v Hk H4 (g.trans (g3.trans g4)) (p.mono (g3.trans g4).k)⟩
end
end LW
set_option Elab.async false
set_option linter.all false
set_option maxRecDepth 100000
set_option maxHeartbeats 2000000
/-! o - t, t a tuple, by the class's own method -/
namespace LW
open PySem PySem.Spec PyProof.Rows L2
section
variable {X : Cx} {C f : Addr} {k : Nat} {sp : Sp} {E : XK}
def rOwnT (K : PySem.W.Frag) (C : Addr) (sp : Sp) (E : XK) : R2 := fun x y H Q => ∃ a dx fs b xs, x = .ref a ∧ H a = some (.ins C dx fs) ∧ y = .ref b ∧ SqT K H b xs ∧ sp [x, y] H Q E
theorem op_ownBinT {op : Operator} (c : BinBy X.K C f "tuple" op.info.2) (F : FnR X.prog X.w X.K X.mg X.base CX0 k f sp) (hr : Room k X.A) : OpR X (binaryOp op) (rOwnT X.K C sp E0) := by
  intro pins s σ H x y u v Q I rx ry h
  obtain ⟨a, dx, fs, b, xs, rfl, ha, rfl, hb, q⟩ := h
  cases (show u = Value.ref a from rx)
  cases (show v = Value.ref b from ry)
  obtain ⟨ox, od, J⟩ := inst_at I ha
  obtain ⟨its, rv, ⟨o, ho, hc, n, hd⟩, hz⟩ := I.tuple hb
  have L : PySem.W.Looks (model X.prog X.w) s.heap (typeOf (.ref b)) (.type "tuple") := fun A Q E s2 k q => wpAny_typeOf_ref (k b o ho) (by rw [hc] at *; exact q)
  exact bin_run I.kIn J c L (thn (wpAny_call (run_fnR (vs := [.ref a, .ref b]) F hr pass0 I (.cons (show RelV (.ref a) (.ref a) from rfl) (.cons (show RelV (.ref b) (.ref b) from rfl) .nil)) q)) fun w s' z => cmp_back z)
end
section
variable {α : Type} {A : α → List V → Hp → Prop} {R : α → V → Hp → Prop} {X : Cx} {σ : L2.St} {H : Hp} {k : Nat} {C f a dx : Addr} {fs : List (Str × V)} {i o : Expr} {pos : Pos} {op : Operator} {Pb : V → Hp → Prop} {xs : List V}
/-- o - t -/
theorem e_binT (c : BinBy X.K C f "tuple" op.info.2) (F : FnR X.prog X.w X.K X.mg X.base CX0 k f (SpF A R)) (hr : Room k X.A) (hx : Cm H (is (V.ref a)) (wE X i σ)) (hi : Pz H (fun H' => H' a = some (.ins C dx fs))) (ho : Cm H (fun v H' => ∃ b, v = .ref b ∧ H' b = some (.tup xs)) (wE X o σ)) (y : α)
    (hp : ∀ b H1, Ex H H1 → H1 b = some (.tup xs) → Pz H1 (A y [.ref a, .ref b])) : Cm H (R y) (wE X (.BinOp i op o pos) σ) :=
  e_op (op_ownBinT c F hr) hx ho fun u v H1 e1 p1 p2 => by
    obtain rfl : u = V.ref a := p1.now
    obtain ⟨b, rfl, hb⟩ := p2.now
    exact fun Hc ex Q q => ⟨a, dx, fs, b, xs, rfl, hi Hc (e1.trans ex), rfl, SqT.of (ex _ _ hb), y, H1, ex, hp b H1 e1 hb, fun v Hn H2 g r => q v Hn H2 g r⟩
end
end LW
set_option Elab.async false
set_option linter.all false
set_option maxRecDepth 100000
set_option maxHeartbeats 2000000
/-! the lesser of two texts -/
namespace LW
open PySem PyProof.Rows L2
section
variable {prog : Program} {w : World} {A : Around} {E : Value → Shared → Prop} {s : Shared} {a b : Str} {t u : Tok}
def twoS (a b : Str) (t u : Tok) : Array Value := #[.str a t, .str b u]
def pick (a b : Str) : Nat → Str
  | 0 => a
  | _ => b
theorem two_at {i : Nat} {v : Value} (h : (twoS a b t u)[i]? = some v) : ∃ t', v = .str (pick a b i) t' := by
  match i, h with
  | 0, h => exact ⟨t, (Option.some.inj h).symm⟩
  | 1, h => exact ⟨u, (Option.some.inj h).symm⟩
  | i + 2, h => simp [twoS] at h
theorem cmp_txt : CmpOf prog w A .Lt (fun i v => (twoS a b t u)[i]? = some v) (fun i j => decide ((pick a b i).cps.toList < (pick a b j).cps.toList)) := fun i j vi vj s Q E hi hj h => by
  obtain ⟨t1, rfl⟩ := two_at hi
  obtain ⟨t2, rfl⟩ := two_at hj
  exact richCompare_gives (op := .Lt) (typeIs_str s _ t1) (typeIs_str s _ t2) PySem.F.slot_str_lt PySem.F.entry_str_lt (PySem.F.args_str_lt_2 _ _) (gives_str_lt _ _ t1 t2) (fun x => nomatch x) h
theorem min_txt {Q : Value → Shared → Prop} (hh : A.handled = none) (h : ∀ h' tk, (∀ c o, s.heap.get? c = some o → h'.get? c = some o) → Q (if b.cps.toList < a.cps.toList then .str b u else .str a t) { s with heap := h', toks := tk }) :
    wpAny (model prog w) A (call (.builtin "min") [.str a t, .str b u]) Q E s := by
  have hT : (s.heap.push { cls := .type "tuple", data := .seq #[.str a t, .str b u] }).IsTuple s.heap.objs.size (twoS a b t u) := ⟨_, Heap.get?_push_size _ rfl, rfl, 0, rfl⟩
  have hz : (s.heap.push { cls := .type "tuple", data := .seq #[.str a t, .str b u] }).objs.size = s.heap.objs.size + 1 := Heap.size_push ..
  refine call_min_two (wpAny_pyIter_tuple hT ⟨_, [_, s.heap.objs.size], [_], _, _, _, _, rfl, Walks.tuple (A := A.in1) hh _ s.heap.objs.size (by rw [hz]; exact Nat.ne_of_lt (Nat.lt_succ_self _)) (twoS a b t u), ⟨⟨_, Heap.get?_push_size _ rfl, rfl, rfl⟩, hT.push _⟩, fun c hc => ?_, by exact (by decide : 0 < 2), cmp_txt, fun v h' tk hP hk => ?_⟩)
  · show c < ((s.heap.push _).push _).objs.size
    rw [Heap.size_push, hz]
    simp only [List.mem_cons, List.not_mem_nil, or_false] at hc
    rcases hc with e | e <;> rw [e]
    · rw [hz]; exact Nat.lt_succ_self _
    · exact Nat.lt_succ_of_lt (Nat.lt_succ_self _)
  · have old : ∀ c o, s.heap.get? c = some o → h'.get? c = some o := fun c o e => hk c o (fun hm => by
      have z := Heap.lt_size e
      rw [List.mem_singleton.mp hm, hz] at z
      exact Nat.lt_irrefl _ (Nat.lt_of_succ_lt z)) (Heap.get?_push_of_some _ (Heap.get?_push_of_some _ e))
    have hv : v = if b.cps.toList < a.cps.toList then Value.str b u else Value.str a t := by
      have hP : (twoS a b t u)[argBest (fun i j => decide ((pick a b i).cps.toList < (pick a b j).cps.toList)) 1]? = some v := hP
      by_cases c : b.cps.toList < a.cps.toList
      · rw [show argBest (fun i j => decide ((pick a b i).cps.toList < (pick a b j).cps.toList)) 1 = 1 by simp [argBest, pick, c]] at hP
        rw [if_pos c]
        exact (Option.some.inj hP).symm
      · rw [show argBest (fun i j => decide ((pick a b i).cps.toList < (pick a b j).cps.toList)) 1 = 0 by simp [argBest, pick, c]] at hP
        rw [if_neg c]
        exact (Option.some.inj hP).symm
    rw [hv]
    exact h h' tk old
end
section
variable {X : Cx} {σ : L2.St} {H : Hp} {e1 e2 : Expr} {px pos : Pos} {a b : Str}
theorem call_minS (hc : X.calm = true) : CallR X (.builtin "min") (fun xs H Q => ∃ a b, xs = [.str a, .str b] ∧ Q (.str (if Lt b a then b else a)) H) := by
  intro pins s σ H xs us Q I r h
  obtain ⟨a, b, rfl, q⟩ := h
  obtain ⟨u1, u2, rfl, ⟨t, rfl⟩, ⟨t', rfl⟩⟩ := vals2 r
  refine min_txt (I.ok.hd hc) fun h' tk k => ⟨_, H, I.kept k, ?_, q⟩
  by_cases c : Lt b a
  · rw [if_pos c, if_pos (show b.cps.toList < a.cps.toList from c)]; exact ⟨_, rfl⟩
  · rw [if_neg c, if_neg (show ¬ b.cps.toList < a.cps.toList from c)]; exact ⟨_, rfl⟩
end
end LW
set_option Elab.async false
set_option linter.all false
set_option maxRecDepth 100000
set_option maxHeartbeats 2000000
/-! lists cut, reversed, put together -/
namespace LW
open PySem L2
section
variable {X : Cx} {σ : St} {H Hc : Hp} {o i e e1 e2 : Expr} {pos p1 p2 p3 : Pos} {a : Addr} {xs ys : List V} {n k : Nat} {Pa Pb : V → Hp → Prop}
/-- a new list of xs, known -/
abbrev nl (xs : List V) : V → Hp → Prop := fun v H => ∃ b, v = .ref b ∧ H b = some (.lst xs)
theorem cut_lo {xs : List V} {n : Nat} (h : n ≤ xs.length) : cutV xs (some (n : Int)) none = xs.drop n := by
  unfold cutV
  rw [HT.sIx_none, HT.sIx_nat, Nat.min_eq_left h]
  exact List.take_of_length_le (by rw [List.length_drop]; exact Nat.le_refl _)
theorem cut_hi {xs : List V} {n : Nat} (h : n ≤ xs.length) : cutV xs none (some (n : Int)) = xs.take n := by
  unfold cutV
  rw [HT.sIx_none, HT.sIx_nat, List.drop_zero, Nat.sub_zero, Nat.min_eq_left h]
theorem e_slLo (ho : Cm H (is (V.ref a)) (wE X o σ)) (hi : Cm H (is (V.int (n : Int))) (wE X i σ)) (h : Pz H (fun H' => SqL X.K H' a xs)) (hn : n ≤ xs.length) : Cm H (nl (xs.drop n)) (wE X (.Subscript o (.Slice (some i) none none p2) pos) σ) := by
  refine ce (pe_slice sl_list pe_w (po_some pe_w) po_none) fun Hc ex Q q => ho Hc ex _ fun v Hn H2 g p => ?_
  obtain rfl : v = V.ref a := p.now
  show wE X i σ H2 _
  refine hi.mono g.k H2 g.s _ fun w Hm H3 g3 p3 => ?_
  obtain rfl : w = V.int (n : Int) := p3.now
  refine ⟨(n : Int), rfl, a, xs, rfl, h H3 ((g.k.trans g3.k).trans g3.s), fun b hb => ?_⟩
  rw [cut_lo hn]
  exact q _ _ _ ((g.trans g3).trans (Grow.new g3.s hb)) fun H' e => ⟨b, rfl, e _ _ upd_same⟩
theorem e_slHi (ho : Cm H (is (V.ref a)) (wE X o σ)) (hi : Cm H (is (V.int (n : Int))) (wE X i σ)) (h : Pz H (fun H' => SqL X.K H' a xs)) (hn : n ≤ xs.length) : Cm H (nl (xs.take n)) (wE X (.Subscript o (.Slice none (some i) none p2) pos) σ) := by
  refine ce (pe_slice sl_list pe_w po_none (po_some pe_w)) fun Hc ex Q q => ho Hc ex _ fun v Hn H2 g p => ?_
  obtain rfl : v = V.ref a := p.now
  show wE X i σ H2 _
  refine hi.mono g.k H2 g.s _ fun w Hm H3 g3 p3 => ?_
  obtain rfl : w = V.int (n : Int) := p3.now
  refine ⟨(n : Int), rfl, a, xs, rfl, h H3 ((g.k.trans g3.k).trans g3.s), fun b hb => ?_⟩
  rw [cut_hi hn]
  exact q _ _ _ ((g.trans g3).trans (Grow.new g3.s hb)) fun H' e => ⟨b, rfl, e _ _ upd_same⟩
theorem e_revL (ho : Cm H (is (V.ref a)) (wE X o σ)) (h : Pz H (fun H' => SqL X.K H' a xs)) : Cm H (nl xs.reverse) (wE X (.Subscript o (.Slice none none (some (.UnaryOp .USub (.Constant (.int 1) k p1) p2)) p3) pos) σ) := by
  refine ce (pe_revL pe_w) fun Hc ex Q q => ho Hc ex _ fun v Hn H2 g p => ?_
  obtain rfl : v = V.ref a := p.now
  exact ⟨a, xs, rfl, h H2 (g.k.trans g.s), fun b hb => q _ _ _ (g.trans (Grow.new g.s hb)) fun H' e => ⟨b, rfl, e _ _ upd_same⟩⟩
/-- xs + ys, both new lists -/
theorem e_cat (h1 : Cm H (nl xs) (wE X e1 σ)) (h2 : Cm H (nl ys) (wE X e2 σ)) (hz : xs.length + ys.length ≤ 100000) : Cm H (nl (xs ++ ys)) (wE X (.BinOp e1 .Add e2 pos) σ) :=
  e_op op_cat h1 h2 fun u v H1 e z1 z2 => by
    obtain ⟨b, rfl, hb⟩ := z1.now
    obtain ⟨c, rfl, hc⟩ := z2.now
    exact fun Hc ex Q q => ⟨b, c, xs, ys, rfl, rfl, ex _ _ hb, ex _ _ hc, Evl.sz_of hz, fun p hp => q _ _ _ (Grow.new ex hp) fun H' e => ⟨p, rfl, e _ _ upd_same⟩⟩
end
end LW
set_option Elab.async false
set_option linter.all false
set_option maxRecDepth 100000
set_option maxHeartbeats 2000000
/-! a, b = x, y of locals; l.extend(..) of one's own list -/
namespace LW
open PySem L2
section
variable {X : Cx} {σ : St} {H Hc : Hp} {P : V → Hp → Prop} {Pa : List V → Hp → Prop} {a b o e : Expr} {rest sts : List Stmt} {pos px py pt pt2 apos cpos : Pos} {D : Ends} {x y : Str} {l : Addr} {xs : List V}
theorem b_par (i j : Nat) {kt k2} (ex : Ex H Hc) (hc : X.calm = true) (hN : X.N.Nodup) (ha : Cm H Pa (wA X [a, b] σ)) (hP : ∀ vs H', Pa vs H' → ∃ v w, vs = [v, w]) (h : ∀ v w Hn H2, Grow H Hc Hn H2 → Pz Hn (Pa [v, w]) → wB X rest D ((σ.set i (some v)).set j (some w)) H2)
    (hi : X.N[i]? = some x := by rfl) (hj : X.N[j]? = some y := by rfl) (hij : i ≠ j := by decide) (hx : X.env.scope.names.lookup x = some .local := by rfl) (hy : X.env.scope.names.lookup y = some .local := by rfl)
    (hw : swappedStores [.Tuple [.Name x px, .Name y py] kt pt] (.Tuple [a, b] k2 pt2) X.env = pure (some [x, y]) := by rfl) (hs : swapsWithSole [.Tuple [.Name x px, .Name y py] kt pt] (.Tuple [a, b] k2 pt2) pos.line X.env = pure false := by rfl) :
    wB X (.Assign [.Tuple [.Name x px, .Name y py] kt pt] (.Tuple [a, b] k2 pt2) pos :: rest) D σ Hc :=
  b_cons (w_s (ps_par hc hN hi hj hij hx hy pa_w hw hs) (ha Hc ex _ fun vs Hn H2 g p => by
    obtain ⟨v, w, rfl⟩ := hP vs Hn p.now
    exact ⟨v, w, rfl, h v w Hn H2 g p⟩))
theorem b_ext (ex : Ex H Hc) (ho : Cm H (is (V.ref l)) (wE X o σ)) (hv : Cm H P (wE X e σ)) (hP : ∀ v H', P v H' → ∃ b zs, v = .ref b ∧ H' b = some (.lst zs) ∧ zs.length ≤ 1000) (hl : Hc l = some (.lst xs)) (hz : xs.length ≤ 90000)
    (h : ∀ b zs Hn H2, Grow H Hc Hn H2 → Pz Hn (P (.ref b)) → Hn b = some (.lst zs) → wB X sts D σ (upd H2 l (.lst (xs ++ zs))))
    (hb : attributeBase o "extend" X.env (eval o X.env) = eval o X.env := by rfl)
    (h1 : (((((backTo cpos (starEach [e] X.env)).all fun x => !x.fst) && (backToKw cpos (keywordEach [] X.env)).all fun x => x.fst.isSome) && decide (([e] : List Expr).length + ([] : List Nat).length + (if ([] : List Nat).isEmpty = true then 0 else 1) < 30)) = true) := by rfl)
    (h2 : (apos.endLine == cpos.line) = true := by rfl) (h3 : starEach [e] X.env = (false, eval e X.env) :: starEach [] X.env := by rfl) (hs : swapsWith (.Call (.Attribute o "extend" apos) [e] [] cpos) none pos.line X.env = pure false := by rfl) :
    wB X (.Expr (.Call (.Attribute o "extend" apos) [e] [] cpos) pos :: sts) D σ Hc := by
  refine b_cons (w_s (ps_expr (pe_bm PySem.F.plainAttrs_list PySem.F.slot_list_extend PySem.F.type_list_extend mt_extend pe_w (pa_cons pe_w pa_nil h3) hb h1 h2 h3) hs) ?_)
  refine ho Hc ex _ fun u Hn H2 g p => ?_
  have q : u = .ref l := p.now
  subst q
  refine ⟨.inl ⟨rfl, _, SqL.of (g.c _ _ hl)⟩, hv.mono g.k H2 g.s _ fun v Hm H3 g3 p3 => ?_⟩
  obtain ⟨b, zs, rfl, hbz, hlen⟩ := hP v Hm p3.now
  exact ⟨l, b, xs, zs, rfl, rfl, g3.c _ _ (g.c _ _ hl), g3.s _ _ hbz, Evl.sz_of (by omega), h b zs Hm H3 (g.trans g3) p3 hbz⟩
end
end LW
set_option Elab.async false
set_option linter.all false
set_option maxRecDepth 100000
set_option maxHeartbeats 2000000
/-! the end: a law's own call, where nothing is shown yet -/
namespace LW
open PySem PySem.Spec PyProof.Rows L2
theorem callerG {k : Nat} (h : Room k callerA) : RoomG k callerA := ⟨h, rfl⟩
section
variable {P : Program} {w : World} {K : PySem.W.Frag} {mg mb : Str → Option Value} {k : Nat} {fa a : Addr} {sp : Sp} {s : Shared} {vs : List Value} {ns : List Int}
/-- the script is all that is tracked, or nothing is -/
structure OneAt (K : PySem.W.Frag) (h : Heap) (a : Addr) (ns : List Int) (H : Hp) : Prop where
  only : Only H
  seq : SqL K H a (ns.map V.int)
  ok : ∀ {P : Program} {w : World}, HOk P w H h
  at_ : ∀ b, H b ≠ none → b = a
  out : H a ≠ none → K.lookup a = none
theorem oneAt (KX : K.In s.heap) (ha : s.heap.get? a = some { cls := .type "list", data := .seq vs.toArray }) (hi : IntsAre vs ns) (hl : ns.length ≤ sizeLine) : ∃ H, OneAt K s.heap a ns H := by
  have rv := vals_ints hi
  cases hk : K.lookup a with
  | some o =>
    have e := (KX a o hk).symm.trans ha
    cases e
    refine ⟨fun _ => none, ⟨fun _ => .inl rfl, .inr ⟨_, vs.toArray, _, hk, rfl, rfl, rfl, ?_, ?_⟩, fun {P w} b u z => (nomatch (show (none : Option HO) = some u from z)), fun b z => absurd rfl z, fun z => absurd rfl z⟩⟩
    · rw [List.size_toArray, hi.length]; exact hl
    · simpa using rv
  | none =>
    refine ⟨fun b => if b = a then some (.frz { cls := .type "list", data := .seq vs.toArray } (.lst (ns.map V.int))) else none, ⟨fun b => ?_, .inl (.inr ⟨_, if_pos rfl⟩), fun b u z => ?_, fun b z => ?_, fun _ => hk⟩⟩
    · rcases Decidable.em (b = a) with q | q
      · exact .inr ⟨_, _, if_pos q⟩
      · exact .inl (if_neg q)
    · rcases Decidable.em (b = a) with q | q
      · have z' := (if_pos q).symm.trans z
        cases z'
        subst q
        exact ⟨ha, by rw [List.length_map]; exact hl, vs, _, rv, ha⟩
      · exact nomatch (if_neg q).symm.trans z
    · exact Decidable.byContradiction fun q => z (if_neg q)
theorem law_callG (KX : K.In s.heap) (hns : s.heap.Ns mainGlobals mg) (hb : s.heap.Ns builtinsNs mb) (hbb : ∀ x : Str, x ≠ "__name__" → mb x = bootBuiltins x) (hlim : s.heap.NoLimit) (hg : s.gens = #[])
    (ha : s.heap.get? a = some { cls := .type "list", data := .seq vs.toArray }) (hi : IntsAre vs ns) (hl : ns.length ≤ sizeLine) (hr : Room k callerA) (F : ∀ base : Heap, K.In base → base.Ns mainGlobals mg → FnG P w K mg base k fa sp)
    (hsp : ∀ H : Hp, Only H → SqL K H a (ns.map V.int) → sp [.ref a] H (fun v _ => v = .bl true) fun _ _ _ => False) :
    codeAny (model P w) callerA (.call (.ref fa) ⟨[.ref a], []⟩) (fun r s' => r = .ok (.ret (.bool true)) ∧ OldK s.heap s'.heap ∧ s'.os = s.os ∧ AllBare s'.gens) s := by
  obtain ⟨H, O⟩ := oneAt KX ha hi hl
  have free : ∀ {b : Addr} {o : Obj}, s.heap.get? b = some o → o.cls ≠ .type "list" → H b = none := fun {b o} e n => Decidable.byContradiction fun z => by
    have q := O.at_ b z
    subst q
    cases e.symm.trans ha
    exact n rfl
  have dfree : ∀ {b : Addr} {o : Obj} {es : Array DictEntry} {ep : Nat}, s.heap.get? b = some o → o.data = .dict es ep → H b = none := fun {b o es ep} e d => Decidable.byContradiction fun z => by
    have q := O.at_ b z
    subst q
    cases e.symm.trans ha
    exact nomatch (show Data.seq vs.toArray _ = Data.dict es ep from d)
  have up : ∀ {b : Addr} {m : Str → Option Value}, s.heap.Ns b m → (hidT s.heap H).Ns b m := fun ⟨o, es, ep, e, d, r⟩ => ⟨o, es, ep, hidT_get e (dfree e d), d, r⟩
  have kb : K.In (hidT s.heap H) := fun b o e => hidT_get (KX b o e) (Decidable.byContradiction fun z => by
    have q := O.at_ b z
    subst q
    rw [O.out z] at e
    cases e)
  obtain ⟨ml, l1, l2⟩ := hlim
  have e0 : Env0 P w K mg (hidT s.heap H) callerA [] s H := ⟨rfl, ⟨kb, up hns, ⟨mb, up hb, hbb⟩, ml, up l1, l2⟩, fun _ _ e => of_hidT e, Nat.le_of_eq (hidT_size _ _), trivial, fun b hb => (nomatch (show b ∈ ([] : List Addr) from hb)), O.ok, .of_eq hg⟩
  refine codeAny_mono (F _ kb (up hns) (callerG hr) e0 (.cons (show RelV (V.ref a) (Value.ref a) from rfl) .nil) (hsp H O.only O.seq)) fun r s' h => ?_
  match r, h with
  | .error _, h => exact h.elim
  | .ok .next, h => exact h.elim
  | .ok .brk, h => exact h.elim
  | .ok .cont, h => exact h.elim
  | .ok (.ret u), ⟨v, H', os, bare, un, hok', r', q⟩ =>
    cases (show v = .bl true from q)
    cases (show u = Value.bool true from r')
    refine ⟨rfl, .of_keep fun b o e => ?_, os, bare⟩
    obtain z | ⟨ob, xs, z⟩ := O.only b
    · exact un.keep b o e z (fun y => nomatch (show b ∈ ([] : List Addr) from y)) (by simp)
    · have e1 := (O.ok (P := P) (w := w) b _ z).1
      cases e.symm.trans e1
      exact (hok' b _ (un.frzs b _ _ z)).1
end
/-- as walk_ofK, by a promise where nothing is shown -/
theorem walk_ofG {l : PySem.W.OpenLaw} {n k : Nat} {q : Program} {loose : List Str} {XP : (Str → Option Value) → Heap → Prop} {YP : World → Heap → Prop} {d : DefRec} {K : Params → PySem.W.Frag} {sp : PySem.W.Frag → Sp}
    (hn : l.most = some n) (hn2 : n ≤ sizeLine) (hdf : d.params.defaults = []) (hr : Room k callerA) (hY : ∀ (w : World) (h : Heap), YP w h → (K w.params).In h)
    (F : ∀ (w : World) (mg : Str → Option Value) (fa : Addr) (h : Heap), (K w.params).In h → h.Ns mainGlobals mg → mg d.name = some (.ref fa) → ∀ base : Heap, (K w.params).In base → base.Ns mainGlobals mg → FnG l.prog w (K w.params) mg base k fa (sp (K w.params)))
    (hsp : ∀ (K : PySem.W.Frag) (H : Hp) (a : Addr) (ns : List Int), ns.length ≤ n → Only H → SqL K H a (ns.map V.int) → sp K [.ref a] H (fun v _ => v = .bl true) fun _ _ _ => False) :
    PySem.W.WalkO q loose XP YP l.row.toRowW d [] (fun f vs => PySem.call f vs) := by
  refine Att.attach_call hn hdf fun w s₀ s₁ mg mb fa o pm cd doc a vs ns G Y ho hd hcd hmg hobj hints hlen hg => ?_
  exact law_callG (hY w _ Y) G.T.g G.T.b G.T.builtins G.T.nolimit hg hobj hints (Nat.le_trans hlen hn2) hr (F w mg fa _ (hY w _ Y) G.T.g hmg) fun H => hsp (K w.params) H a ns hlen
end LW
set_option Elab.async false
set_option linter.all false
set_option maxRecDepth 100000
set_option maxHeartbeats 2000000
namespace LW
open PySem PySem.Spec PyProof.Rows L2 He
/-! ### rules of defs, of their texts -/
section
variable {P : Program} {w : World} {K : PySem.W.Frag} {mg : Str → Option Value} {base : Heap} {x qual : Str} {st : Stmt} {f : Addr} {fd : FuncData} {N ps : List Str} {k : Nat}
theorem starOk_of {pv : Str} (F : L2.Fun K x qual st f fd) (S : FnScope N (ps ++ [pv]) (defScope st)) (hb : ∀ (kV doc pm : Value) (an : Option Addr) (cdv ct : Value) (us rest : List Value), us.length = ps.length →
      bindArgs (PySem.W.fnOf x qual (defArgs st) (defBody st) (defScope st) .none kV doc pm an cdv ct) ⟨us ++ rest, []⟩ = (newTuple rest >>= fun t => pure (ps.zip us ++ [(pv, t)]))) : StarOk P w K mg base N qual st f ps.length k := by
  intro sp body
  obtain ⟨oc, od, kV, doc, pm, an, cdv, ct, osl, rfl, lk, hcd⟩ := F.ex
  exact StX.fn_star lk hcd S StX.cxUp_none (hb kV doc pm an cdv ct) fun A outer s H vs Q E hr h => by
    obtain ⟨t, h1, h2⟩ := body cdv A outer s H vs Q E hr h
    exact ⟨t, h1.nox, h2⟩
theorem defOk_of {dvs : List V} (F : FunD K x qual (defArgs st) (defBody st) (defScope st) dvs [] f fd) (S : FnScope N ps (defScope st)) : DefOk P w K mg base N qual st f fd ps k := fun sp len body =>
  F.ok S len fun cdv A outer s H vs Q E hr h => by
    obtain ⟨t, h1, h2⟩ := body cdv A outer s H vs Q E hr h
    exact ⟨t, h1.nox, h2⟩
end
end LW
set_option Elab.async false
set_option linter.all false
set_option maxRecDepth 100000
set_option maxHeartbeats 2000000
namespace K19
open PySem L2 LW
abbrev sName : Stmt := top 20
abbrev sIsLink : Stmt := top 21
abbrev sLinkOf : Stmt := top 22
abbrev sSortN : Stmt := top 24
abbrev sSortL : Stmt := top 25
/-- the module's names that stand for built-ins, and the constants -/
structure Blt (K : PySem.W.Frag) (mg : Str → Option Value) : Prop where
  isi : mg "isinstance" = none
  len : mg "len" = none
  all : mg "all" = none
  «str» : mg "str" = none
  «tuple» : mg "tuple" = none
  list : mg "list" = none
  sorted : mg "sorted" = none
  enum : mg "enumerate" = none
  range : mg "range" = none
  letters : ∃ t, mg "LETTERS" = some (.str "abcdefghijklmnopqrstuvwxyz" t)
  longest : ∃ t, mg "LONGEST_NAME" = some (.int 8 t)
section
variable {P : Program} {w : World} {K : PySem.W.Frag} {mg : Str → Option Value} {base : Heap} {f : Addr} {fd : FuncData}
theorem scName : FnScope ["value", "sign"] ["value"] (defScope sName) := ⟨rfl, rfl, rfl, by decide +kernel, rfl, by decide +kernel, by decide +kernel⟩
theorem letter_in {c : Nat} (h : 97 ≤ c ∧ c ≤ 122) : c ∈ ("abcdefghijklmnopqrstuvwxyz" : Str).cps.toList := by
  have e : ("abcdefghijklmnopqrstuvwxyz" : Str).cps.toList = (List.range 26).map (· + 97) := by decide +kernel
  rw [e]
  exact List.mem_map.mpr ⟨c - 97, List.mem_range.mpr (by omega), by omega⟩
theorem b_name (B : Blt K mg) : Body P w K mg base ["value", "sign"] "is_name" sName f 0 (fun (x : Str) vs _ => vs = [.str x] ∧ Nm x) (fun _ v _ => v = .bl true) := by
  intro cdv Ar outer s H0 E x vs H Hc D hr ex pa rt nx
  obtain ⟨rfl, h1, h2, h3⟩ := pa.now
  obtain ⟨tl, hL⟩ := B.letters
  obtain ⟨tn, hN⟩ := B.longest
  refine b_ifF ex (t_w (w_or (k := false) (k' := false) (t_not (k := true) (t_val (e_isi (ty := .type "str") (u := .type "str") B.isi (e_var 0) (e_bltn (v := .ty "str") rfl B.«str» (by decide +kernel) rfl) (fun _ _ => TyX.base (TyOf.str x)) (.ty _) (kit_ty (by decide +kernel))))) fun _ =>
    w_or1 (t_not (k := true) ?_))) fun Hn H2 g => b_nil (b_ret (P := is (V.bl true)) g.s (Cm.imp (e_all (bs := List.replicate x.cps.size true) rfl B.all ?_) fun v H' _ q => ?_) fun v Hn2 H3 g3 p => rt v _ _ (g.trans g3) p)
  · refine t_is (t_chainI op_le op_le e_int (e_lenS B.len (e_var (v := V.str x) 0) (by omega)) (e_glob (v := V.int 8) rfl hN ⟨tn, rfl⟩)) ?_
    rw [decide_eq_true (by omega), decide_eq_true (by omega)] <;> rfl
  · refine e_lc (own := [("sign", 1)]) (g := gName 1) rfl scName.nd (pi_str pe_w) (blkOk_by (N := ["value", "sign"]) (sc := defScope sName) (by decide +kernel)) (fun _ _ _ _ _ => pg_name (i := 1) scName.nd rfl (.inl rfl)) (fun _ _ _ _ _ => pts_nil)
      (c_lc (i_str (e_var (v := V.str x) 0)) (show x.length ≤ 100000 by omega) (fun i acc _ => acc = (List.replicate i true).map V.bl) (fun _ => rfl) (fun i y acc H1 hi e1 py pacc => ?_) fun acc p H1 e1 pacc hp => ?_)
    · obtain ⟨c, hc, rfl⟩ := py.now
      have hm : c ∈ x.cps.toList := by
        obtain ⟨q1, q2⟩ := Array.getElem?_eq_some_iff.mp hc
        rw [← q2]; exact Array.mem_toList_iff.mpr (Array.getElem_mem q1)
      refine ⟨_, true, bind_name, rfl, c_yes, fun _ => c_eb fun s H0 C cl fp => ?_, fun q => nomatch q⟩
      refine Cm.imp (e_cmpD (x := V.str ⟨#[c]⟩) op_in_sign (by rfl) (e_var 1) (e_glob (v := V.str "abcdefghijklmnopqrstuvwxyz") rfl hL ⟨tl, rfl⟩) (P := is (V.bl true)) (Cm.ret (fun _ _ _ q => ⟨c, _, rfl, rfl, by rw [decide_eq_true (letter_in (h3 c hm))]; exact q⟩) (.const rfl))) fun v H' _ q => ?_
      have ea : acc = (List.replicate i true).map V.bl := pacc.now
      rw [ea, q, List.replicate_succ', List.map_append] <;> rfl
    · have ea : acc = (List.replicate _ true).map V.bl := pacc.now
      subst ea
      exact fun H' e' => ⟨p, rfl, SqL.of (e' _ _ hp)⟩
  · rw [q]
    congr 1
    exact List.all_eq_true.mpr fun b hb => (List.eq_of_mem_replicate hb)
end
end K19
set_option Elab.async false
set_option linter.all false
set_option maxRecDepth 100000
set_option maxHeartbeats 2000000
namespace K19
open PySem L2 LW
abbrev sPot : Stmt := top 40
abbrev sDraw : Stmt := top 41
abbrev sLink : Stmt := top 45
/-- built-ins of the law's own part -/
structure BltL (mg : Str → Option Value) : Prop where
  dm : mg "divmod" = none
  int : mg "int" = none
  max : mg "max" = none
  abs : mg "abs" = none
  len : mg "len" = none
  range : mg "range" = none
section
variable {P : Program} {w : World} {K : PySem.W.Frag} {mg : Str → Option Value} {base : Heap} {f : Addr} {fd : FuncData}
/-- a number is drawn -/
def AD : Addr × Int → List V → Hp → Prop := fun x vs H => vs = [.ref x.1, .int x.2] ∧ H x.1 = some (PotO x.1) ∧ 0 < x.2 ∧ x.2 < 1073741824
def RD : Addr × Int → V → Hp → Prop := fun x v _ => ∃ r : Int, v = .int r ∧ 0 ≤ r ∧ r < x.2
theorem scDraw : FnScope ["_law_pot_here", "_law_size", "_law_digit"] ["_law_pot_here", "_law_size"] (defScope sDraw) := ⟨rfl, rfl, rfl, by decide +kernel, rfl, by decide +kernel, by decide +kernel⟩
theorem b_draw (B : BltL mg) : Body P w K mg base ["_law_pot_here", "_law_size", "_law_digit"] "_law_draw" sDraw f 0 AD RD := by
  intro cdv Ar outer s H0 E x vs H Hc D hr ex pa rt nx
  obtain ⟨p, n⟩ := x
  obtain ⟨rfl, hp, h1, h2⟩ := pa.now
  refine b_pot (p := p) (ex _ _ hp) fun a b ha hb hb2 => ?_
  have g0 := pot_begin (p := p) (o := .lst [V.int a, V.int b]) ex
  have own : Ex (upd (off H p) p (.lst [V.int a, V.int b])) (upd Hc p (.lst [V.int a, V.int b])) := g0.s.own upd_same
  have ix : ∀ {H'}, Ex (upd (off H p) p (.lst [V.int a, V.int b])) H' → Pz H' (fun H' => SqL K H' p [V.int a, V.int b]) := fun e => .sql (SqL.of (e _ _ upd_same))
  refine b_if own (k := decide (0 < a)) (t_cmpD op_gt (by rfl) (e_item (j := 0) (e_var 0) e_int (ix (Evl.Ex.refl _)) rfl) e_int (r_I0 (g := fun i j => V.bl (decide (j < i))) (i := a) (j := 0))) (fun hk Hn H2 g => ?_) fun hk Hn H2 g => ?_
  · have g1 := g0.looked (n := off_at) g
    refine b_asg (H := upd (off H p) p (.lst [V.int a, V.int b])) (g := gTup K 2 (gCons (gSub (wE _ _) (wE _ _) rSetL) (gCons (gName 2) gNil))) (P := fun v H' => ∃ t, v = .ref t ∧ SqT K H' t [V.int (a / n), V.int (a % n)]) (g.k.trans g.s)
      (e_bltD (P := fun v H' => ∃ t, v = .ref t ∧ SqT K H' t [V.int (a / n), V.int (a % n)]) call_divmod B.dm (a_consD (e_item (j := 0) (e_var 0) e_int (ix (Evl.Ex.refl _)) rfl) (a_consD (e_var 1) a_nil)) ?_) (pg_tup rfl (pgs_cons (pg_sub pe_w pe_w set_list) (pgs_cons (pg_name (i := 2) scDraw.nd rfl (.inl rfl)) pgs_nil))) ?_
    · exact Cm.fresh (o := .tup [V.int (a / n), V.int (a % n)]) (fun _ _ Q q => ⟨a, n, rfl, ⟨h1, h2⟩, q⟩) fun t _ H' e => ⟨t, rfl, .of (e _ _ upd_same)⟩
    · intro v Hm H3 g3 pv
      obtain ⟨t, rfl, hq⟩ := pv H3 g3.s
      have hp3 : H3 p = some (.lst [V.int a, V.int b]) := g3.c _ _ (g.c _ _ upd_same)
      refine ⟨t, _, rfl, hq, rfl, _, _, rfl, ?_⟩
      refine (e_var (H := Hm) (v := V.ref p) 0) H3 g3.s _ fun u Hk H4 g4 q => (e_int (H := Hk) (i := 0)) H4 g4.s _ fun u2 Hl H5 g5 q2 => ?_
      obtain rfl : u = V.ref p := q.now
      obtain rfl : u2 = V.int 0 := q2.now
      refine ⟨p, _, 0, 0, rfl, rfl, g5.c _ _ (g4.c _ _ hp3), by rfl, V.int (a % n), [], rfl, rfl, ?_⟩
      have hm : 0 ≤ a / n := Int.ediv_nonneg ha (Int.le_of_lt h1)
      refine b_ret (P := is (V.int (a % n))) (Evl.Ex.refl _) (e_var 2) fun v Hz H6 g6 p6 => ?_
      obtain rfl : v = V.int (a % n) := p6.now
      have hp6 : H6 p = some (.lst [V.int (a / n), V.int b]) := g6.c _ _ upd_same
      refine ⟨⟨a / n, b, hm, hb, hb2, hp6⟩, rt _ _ _ (pot_end (Hn := off H p) ex hp (still ?_ ?_)) fun _ _ => ⟨_, rfl, Int.emod_nonneg _ (by omega), Int.emod_lt_of_pos _ h1⟩⟩
      · exact ((((g1.s.trans g3.c).trans g4.c).trans g5.c).mut off_at).trans g6.c
      · exact ((((g1.c.trans g3.c).trans g4.c).trans g5.c).mut off_at).trans g6.c
  · have g1 := g0.looked (n := off_at) g
    refine b_nil ?_
    generalize hb' : (b * 48271 + 12161) % 2147483587 = b'
    have hb0 : 0 ≤ b' := by rw [← hb']; exact Int.emod_nonneg _ (by decide)
    have hb1 : b' < 2147483587 := by rw [← hb']; exact Int.emod_lt_of_pos _ (by decide)
    refine b_asg (H := upd (off H p) p (.lst [V.int a, V.int b])) (g := gSub (wE _ _) (wE _ _) rSetL) (P := is (V.int b')) (g.k.trans g.s)
      (e_opD op_mod (e_tyD (P := is (V.int (b * 48271 + 12161))) call_int1 B.int (a_consD (e_opD op_add (e_opD op_mul (e_item (j := 1) (e_var 0) e_int (ix (Evl.Ex.refl _)) rfl) e_int (r_I (g := fun i j => V.int (i * j)) (i := b) (j := 48271) (.inr ⟨by decide, by decide⟩))) e_int (r_I0 (g := fun i j => V.int (i + j)) (i := b * 48271) (j := 12161))) a_nil)
        (Cm.ret (fun _ _ _ q => .inl ⟨_, rfl, q⟩) (.const rfl))) e_int (t_is (r_I (g := fun i j => V.int (i % j)) (i := b * 48271 + 12161) (j := 2147483587) (by decide)) (by rw [hb']))) (pg_sub pe_w pe_w set_list) fun v Hm H3 g3 pv => ?_
    obtain rfl : v = V.int b' := pv.now
    refine (e_var (H := Hm) (v := V.ref p) 0) H3 g3.s _ fun u Hk H4 g4 q => (e_int (H := Hk) (i := 1)) H4 g4.s _ fun u2 Hl H5 g5 q2 => ?_
    obtain rfl : u = V.ref p := q.now
    obtain rfl : u2 = V.int 1 := q2.now
    refine ⟨p, _, 1, 1, rfl, rfl, g5.c _ _ (g4.c _ _ (g3.c _ _ (g.c _ _ upd_same))), by rfl, ?_⟩
    have own5 : Ex (upd (off H p) p (.lst [V.int a, V.int b'])) (upd H5 p (.lst [V.int a, V.int b'])) := Ex.own (((((g1.s.trans g3.c).trans g4.c).trans g5.c).mut off_at)) upd_same
    have ix5 : ∀ {H'}, Ex (upd (off H p) p (.lst [V.int a, V.int b'])) H' → Pz H' (fun H' => SqL K H' p [V.int a, V.int b']) := fun e => .sql (SqL.of (e _ _ upd_same))
    refine b_ret (P := is (V.int (b' * b' % 2147483549 / 13 % n))) own5 (e_opD op_mod (e_tyD (P := is (V.int (b' * b' % 2147483549 / 13))) call_int1 B.int (a_consD (e_opD op_fdiv (e_opD op_mod (e_tyD (P := is (V.int (b' * b'))) call_int1 B.int
      (a_consD (e_opD op_mul (e_item (j := 1) (e_var 0) e_int (ix5 (Evl.Ex.refl _)) rfl) (e_item (j := 1) (e_var 0) e_int (ix5 (Evl.Ex.refl _)) rfl) (r_I (g := fun i j => V.int (i * j)) (i := b') (j := b') (.inr ⟨by omega, by omega⟩))) a_nil) (Cm.ret (fun _ _ _ q => .inl ⟨_, rfl, q⟩) (.const rfl)))
      e_int (r_I (g := fun i j => V.int (i % j)) (i := b' * b') (j := 2147483549) (by decide))) e_int (r_I (g := fun i j => V.int (i / j)) (i := b' * b' % 2147483549) (j := 13) ⟨by decide, by decide⟩)) a_nil) (Cm.ret (fun _ _ _ q => .inl ⟨_, rfl, q⟩) (.const rfl)))
      (e_var 1) (r_I (g := fun i j => V.int (i % j)) (i := b' * b' % 2147483549 / 13) (j := n) h1)) fun v Hz H6 g6 p6 => ?_
    obtain rfl : v = V.int (b' * b' % 2147483549 / 13 % n) := p6.now
    refine ⟨⟨a, b', ha, hb0, by omega, g6.c _ _ upd_same⟩, rt _ _ _ (pot_end (Hn := off H p) ex hp (still ?_ ?_)) fun _ _ => ⟨_, rfl, Int.emod_nonneg _ (by omega), Int.emod_lt_of_pos _ h1⟩⟩
    · exact ((((g1.s.trans g3.c).trans g4.c).trans g5.c).mut off_at).trans g6.c
    · exact ((((g1.c.trans g3.c).trans g4.c).trans g5.c).mut off_at).trans g6.c
end
end K19
set_option Elab.async false
set_option linter.all false
set_option maxRecDepth 100000
set_option maxHeartbeats 2000000
namespace K19
open PySem L2 LW
section
variable {P : Program} {w : World} {K : PySem.W.Frag} {mg : Str → Option Value} {base : Heap} {f : Addr} {fd : FuncData}
def AName : Str → List V → Hp → Prop := fun x vs _ => vs = [.str x] ∧ Nm x
def RTrue {α : Type} : α → V → Hp → Prop := fun _ v _ => v = .bl true
/-- two different names -/
def Lk (p : Str × Str) : Prop := Nm p.1 ∧ Nm p.2 ∧ p.1 ≠ p.2
def AIsL (K : PySem.W.Frag) : Str × Str → List V → Hp → Prop := fun p vs H => ∃ t, vs = [.ref t] ∧ SqT K H t [.str p.1, .str p.2] ∧ Lk p
theorem scIsL : FnScope ["value"] ["value"] (defScope sIsLink) := ⟨rfl, rfl, rfl, by decide +kernel, rfl, by decide +kernel, by decide +kernel⟩
theorem b_isLink (B : Blt K mg) (FN : Fn P w K mg base "is_name" 1 AName RTrue) : Body P w K mg base ["value"] "is_link" sIsLink f 1 (AIsL K) RTrue := by
  intro cdv Ar outer s H0 E x vs H Hc D hr ex pa rt nx
  obtain ⟨t, rfl, h1, h2, h3, h4⟩ := pa.now
  have tq : Pz H (fun H' => SqT K H' t [V.str x.1, V.str x.2]) := .sqt h1
  refine b_ifF ex (t_w (w_or (k := false) (k' := false) (t_not (k := true) (t_val (e_isi (ty := .type "tuple") (u := .type "tuple") B.isi (e_var 0) (e_bltn (v := .ty "tuple") rfl B.«tuple» (by decide +kernel) rfl) ?_ (.ty _) (kit_ty (by decide +kernel))))) fun _ =>
    w_or1 ?_)) fun Hn H2 g => b_nil (b_ret (P := is (V.bl true)) g.s ?_ fun v Hn2 H3 g3 p => rt v _ _ (g.trans g3) p)
  · exact tq.imp fun _ _ z => ty_sqt z
  · exact t_is (t_cmpD op_ne (by rfl) (e_len B.len (e_var 0) (tq.imp fun _ _ z => .inr z)) e_int (r_ne (x := V.int 2) (y := V.int 2) rfl)) rfl
  · have q := tq.mono g.k
    exact e_and (k := true) (k' := true) (e_callD x.1 FN hr (a_consD (e_itemT (j := 0) (e_var 0) e_int q rfl) a_nil) (.const ⟨rfl, h2⟩)) fun _ =>
      e_and (k := true) (k' := true) (e_callD x.2 FN hr (a_consD (e_itemT (j := 1) (e_var 0) e_int q rfl) a_nil) (.const ⟨rfl, h3⟩)) fun _ =>
        e_one (t_is (e_cmpD op_ne (by rfl) (e_itemT (j := 0) (e_var 0) e_int q rfl) (e_itemT (j := 1) (e_var 0) e_int q rfl) (r_ne (x := V.str x.1) (y := V.str x.2) rfl)) (by rw [decide_eq_false (fun z => h4 (V.str.inj z))] <;> rfl))
def ALkO : Str × Str → List V → Hp → Prop := fun p vs _ => vs = [.str p.1, .str p.2] ∧ Lk p
def RLkO : Str × Str → V → Hp → Prop := fun p => pr (lnk p.1 p.2)
theorem scLkO : FnScope ["one", "other"] ["one", "other"] (defScope sLinkOf) := ⟨rfl, rfl, rfl, by decide +kernel, rfl, by decide +kernel, by decide +kernel⟩
theorem b_linkOf (B : Blt K mg) (FN : Fn P w K mg base "is_name" 1 AName RTrue) : Body P w K mg base ["one", "other"] "link_of" sLinkOf f 1 ALkO RLkO := by
  intro cdv Ar outer s H0 E x vs H Hc D hr ex pa rt nx
  obtain ⟨rfl, h2, h3, h4⟩ := pa.now
  refine b_ifF ex (t_not (k := true) (t_val (e_callD x.1 FN hr (a_consD (e_var 0) a_nil) (.const ⟨rfl, h2⟩)))) fun Hn H2 g => b_nil ?_
  refine b_ifF g.s (t_w (w_or (k := false) (k' := false) (t_not (k := true) (t_val (e_callD x.2 FN hr (a_consD (e_var 1) a_nil) (.const ⟨rfl, h3⟩)))) fun _ => w_or1 (t_is (t_cmpD op_eq (by rfl) (e_var 0) (e_var 1) (r_eq (x := V.str x.1) (y := V.str x.2) rfl)) (decide_eq_false fun z => h4 (V.str.inj z))))) fun Hn2 H3 g2 => b_nil ?_
  refine b_ret (P := pr (lnk x.1 x.2)) g2.s (e_if (k := decide (Lt x.1 x.2)) (t_cmpD op_lt_str (by rfl) (e_var 0) (e_var 1) (Cm.ret (fun _ _ _ q => ⟨x.1, x.2, rfl, rfl, q⟩) (.const rfl))) (fun hk => ?_) fun hk => ?_) fun v Hn3 H4 g3 p => rt v _ _ (g.trans (g2.trans g3)) p
  · refine e_tup (a_consD (e_var 0) (a_consD (e_var 1) a_nil)) (fun xs _ z => by rw [show xs = _ from z]; exact (by decide : 2 ≤ 100000)) fun xs p H1 e1 z hp => ?_
    rw [show xs = _ from z.now] at hp
    exact fun H' e' => ⟨p, rfl, by rw [show lnk x.1 x.2 = (x.1, x.2) from if_pos (of_decide_eq_true hk)]; exact e' _ _ hp⟩
  · refine e_tup (a_consD (e_var 1) (a_consD (e_var 0) a_nil)) (fun xs _ z => by rw [show xs = _ from z]; exact (by decide : 2 ≤ 100000)) fun xs p H1 e1 z hp => ?_
    rw [show xs = _ from z.now] at hp
    exact fun H' e' => ⟨p, rfl, by rw [show lnk x.1 x.2 = (x.2, x.1) from if_neg (of_decide_eq_false hk)]; exact e' _ _ hp⟩
end
end K19
set_option Elab.async false
set_option linter.all false
set_option maxRecDepth 100000
set_option maxHeartbeats 2000000
namespace K19
open PySem L2 LW
section
variable {P : Program} {w : World} {K : PySem.W.Frag} {mg : Str → Option Value} {base : Heap} {f : Addr} {fd : FuncData}
/-- a list (q) or a tuple of few texts -/
def ANs (K : PySem.W.Frag) : Bool × List Str → List V → Hp → Prop := fun x vs H => ∃ a, vs = [.ref a] ∧ Sq K x.1 H a (x.2.map V.str) ∧ x.2.length ≤ 60
def RSortN (K : PySem.W.Frag) : Bool × List Str → V → Hp → Prop := fun x v H => ∃ a ys, v = .ref a ∧ H a = some (.lst (ys.map V.str)) ∧ ys.Perm x.2 ∧ SortN ys
theorem scSortN : FnScope ["names", "name"] ["names"] (defScope sSortN) := ⟨rfl, rfl, rfl, by decide +kernel, rfl, by decide +kernel, by decide +kernel⟩
theorem b_sortN (B : Blt K mg) : Body P w K mg base ["names", "name"] "sorted_names" sSortN f 0 (ANs K) (RSortN K) := by
  intro cdv Ar outer s H0 E x vs H Hc D hr ex pa rt nx
  obtain ⟨q, xs⟩ := x
  obtain ⟨a, rfl, h1, hz⟩ := pa.now
  have hz : xs.length ≤ 60 := hz
  have hs : Pz H (fun H' => Sq K q H' a (xs.map V.str)) := fun H' e => h1.ex e
  refine b_ret ex (e_blt cr_sortedS B.sorted (a_cons (P := fun v H' => ∃ a, v = .ref a ∧ SqL K H' a (xs.map V.str)) (e_lc (own := [("name", 1)]) (g := gName 1) rfl scSortN.nd (pi_or (pi_list pe_w) (pi_tup pe_w)) (blkOk_by (N := ["names", "name"]) (sc := defScope sSortN) (by decide +kernel)) (fun _ _ _ _ _ => pg_name (i := 1) scSortN.nd rfl (.inl rfl)) (fun _ _ _ _ _ => pts_nil)
    (c_lc (i_sq (q := q) (xs := xs.map V.str) (Cm.imp (e_var (v := V.ref a) 0) fun v H' e z => ⟨a, z, hs H' e⟩)) (by simp; omega) (fun i acc _ => acc = (xs.take i).map V.str) (fun _ => rfl) (fun i y acc H1 hi e1 py pacc => ?_) fun acc p H1 e1 pacc hp => ?_)) a_nil) fun vs H1 e1 p1 => ?_) fun v Hn H2 g p => rt v _ _ g p
  · have hi' : i < xs.length := by simpa using hi
    obtain rfl : y = V.str xs[i] := by
      have z := py.now
      rw [List.getElem?_map, List.getElem?_eq_getElem hi'] at z
      exact (Option.some.inj z).symm
    refine ⟨_, true, bind_name, rfl, c_yes, fun _ => c_eb fun s H0 C cl fp => ?_, fun q => nomatch q⟩
    refine Cm.imp (e_tyD (P := is (V.str xs[i])) SkE.call_str_str B.«str» (a_consD (e_var 1) a_nil) (Cm.ret (fun _ _ _ q => ⟨_, rfl, q⟩) (.const rfl))) fun v H' _ z => ?_
    have ea : acc = (xs.take i).map V.str := pacc.now
    rw [ea, z, List.take_succ_eq_append_getElem hi', List.map_append] <;> rfl
  · have ea : acc = (xs.take xs.length).map V.str := by simpa using pacc.now
    rw [List.take_length] at ea
    subst ea
    exact fun H' e' => ⟨p, rfl, SqL.of (e' _ _ hp)⟩
  · obtain ⟨u, us, rfl, ⟨b, rfl, _⟩, rfl⟩ := p1.now
    refine fun Hc ex Q q => ?_
    obtain ⟨_, _, e, ⟨_, rfl, z⟩, rfl⟩ := p1 Hc ex
    cases e
    refine ⟨b, xs, rfl, z, by omega, fun ys p hp hs hn => q _ _ _ (Grow.new ex hn) fun H' e' => ⟨p, ys, rfl, e' _ _ upd_same, hp, sortN_of hs⟩⟩
/-- a list of few pairs of names -/
def APs (K : PySem.W.Frag) : List (Str × Str) → List V → Hp → Prop := fun ps vs H => ∃ a ts, vs = [.ref a] ∧ SqL K H a (ts.map V.ref) ∧ TsAt H ts ps ∧ ps.length ≤ 60 ∧ ∀ p ∈ ps, Lk p
def RSortP (K : PySem.W.Frag) : List (Str × Str) → V → Hp → Prop := fun ps v H => ∃ a ts qs, v = .ref a ∧ H a = some (.lst (ts.map V.ref)) ∧ TsAt H ts qs ∧ qs.Perm ps ∧ SortP qs
theorem scSortL : FnScope ["links", "texts", "one", "other", "text"] ["links"] (defScope sSortL) := ⟨rfl, rfl, rfl, by decide +kernel, rfl, by decide +kernel, by decide +kernel⟩
theorem b_sortL (B : Blt K mg) : Body P w K mg base ["links", "texts", "one", "other", "text"] "sorted_links" sSortL f 0 (APs K) (RSortP K) := by
  intro cdv Ar outer s H0 E ps vs H Hc D hr ex pa rt nx
  obtain ⟨a, ts, rfl, h1, h2, hz, hn⟩ := pa.now
  have hlen := h2.length
  have hs : Pz H (fun H' => SqL K H' a (ts.map V.ref)) := .sql h1
  refine b_set 1 ex (P := fun v H' => ∃ b ys, v = .ref b ∧ H' b = some (.lst (ys.map V.str)) ∧ ys.Perm (ps.map txt2) ∧ SortN ys) (e_blt cr_sortedS B.sorted (a_cons (P := txts K (ps.map txt2)) (e_lc (own := [("one", 2), ("other", 3)]) (g := gTup K 2 (gCons (gName 2) (gCons (gName 3) gNil))) rfl scSortL.nd (pi_list pe_w)
    (blkOk_by (N := ["links", "texts", "one", "other", "text"]) (sc := defScope sSortL) (by decide +kernel)) (fun _ _ _ _ _ => pg_tup rfl (pgs_cons (pg_name (i := 2) scSortL.nd rfl (.inl rfl)) (pgs_cons (pg_name (i := 3) scSortL.nd rfl (.inl rfl)) pgs_nil))) (fun _ _ _ _ _ => pts_nil)
    (c_lc (i_list (xs := ts.map V.ref) (Cm.imp (e_var (v := V.ref a) 0) fun v H' e z => ⟨a, z, hs H' e⟩)) (by simp; omega) (fun i acc _ => acc = ((ps.take i).map txt2).map V.str) (fun _ => rfl) (fun i y acc H1 hi e1 py pacc => ?_) fun acc p H1 e1 pacc hp => ?_)) a_nil) fun vs H1 e1 p1 => ?_) (fun v Hn H2 g p => ?_) scSortL.nd
  · obtain ⟨t, p, rfl, ht, hp, hH⟩ := ts_get h2 py.now
    have hm : p ∈ ps := List.mem_of_getElem? hp
    refine ⟨_, true, bind_two (.sqt (SqT.of (e1 _ _ hH))), rfl, c_yes, fun _ => c_eb fun s H0 C cl fp => ?_, fun q => nomatch q⟩
    refine Cm.imp (e_f2 (x := p.1) (y := p.2) (e_var 2) (e_var 3) ⟨by have := (hn p hm).1.2.1; omega, by have := (hn p hm).2.1.2.1; omega⟩) fun v H' _ z => ?_
    have ea : acc = ((ps.take i).map txt2).map V.str := pacc.now
    rw [ea, z, take_snoc hp, List.map_append, List.map_append] <;> rfl
  · have ea : acc = ((ps.take (ts.map V.ref).length).map txt2).map V.str := pacc.now
    rw [List.length_map, hlen, List.take_length] at ea
    subst ea
    exact fun H' e' => ⟨p, rfl, SqL.of (e' _ _ hp)⟩
  · obtain ⟨u, us, rfl, ⟨b, rfl, _⟩, rfl⟩ := p1.now
    refine fun Hc ex Q q => ?_
    obtain ⟨_, _, e, ⟨_, e3, z⟩, rfl⟩ := p1 Hc ex
    cases e
    cases e3
    refine ⟨b, ps.map txt2, rfl, z, by simp; omega, fun ys p hp hs hn => q _ _ _ (Grow.new ex hn) fun H' e' => ⟨p, ys, rfl, e' _ _ upd_same, hp, sortN_of hs⟩⟩
  · obtain ⟨b, ys, rfl, hb, hp, hsn⟩ := p.now
    obtain ⟨qs, rfl, hq, hsp⟩ := sorted_txts (fun p hp => ⟨(hn p hp).1, (hn p hp).2.1⟩) hp hsn
    refine b_ret (P := RSortP K ps) g.s (e_lc (own := [("text", 4)]) (g := gName 4) rfl scSortL.nd (pi_list pe_w) (blkOk_by (N := ["links", "texts", "one", "other", "text"]) (sc := defScope sSortL) (by decide +kernel)) (fun _ _ _ _ _ => pg_name (i := 4) scSortL.nd rfl (.inl rfl)) (fun _ _ _ _ _ => pts_nil)
      (c_lc (i_list (xs := (qs.map txt2).map V.str) (Cm.imp (e_var (v := V.ref b) 1) fun v H' e z => ⟨b, z, SqL.of (e _ _ hb)⟩)) (by have := hq.length_eq; simp; omega) (fun i acc H' => ∃ us, acc = us.map V.ref ∧ TsAt H' us (qs.take i)) (fun _ => ⟨[], rfl, .nil⟩) (fun i y acc H1 hi e1 py pacc => ?_) fun acc p H1 e1 pacc hp => ?_)) fun v Hn2 H3 g3 p => rt v _ _ (g.trans g3) p
    · obtain ⟨q, hq1, rfl⟩ : ∃ q, qs[i]? = some q ∧ y = V.str (txt2 q) := by
        have z := py.now
        rw [List.getElem?_map, List.getElem?_map] at z
        cases e : qs[i]? with
        | none => rw [e] at z; cases z
        | some q => rw [e] at z; exact ⟨q, rfl, (Option.some.inj z).symm⟩
      have hm : Lk q := hn q (hq.mem_iff.mp (List.mem_of_getElem? hq1))
      refine ⟨_, true, bind_name, rfl, c_yes, fun _ => c_eb fun s H0 C cl fp => ?_, fun q => nomatch q⟩
      refine Cm.imp (e_tsp (p := q) B.«tuple» (e_var 4) hm.1 hm.2.1) fun v H' e z => ?_
      obtain ⟨d, rfl, hd⟩ := z
      obtain ⟨us, rfl, hu⟩ := pacc H' e
      refine ⟨us ++ [d], by simp, ?_⟩
      rw [take_snoc hq1]
      exact ts_snoc hd hu
    · obtain ⟨us, rfl, hu⟩ := pacc.now
      rw [show (List.map V.str (List.map txt2 qs)).length = qs.length by simp, List.take_length] at hu
      exact fun H' e' => ⟨p, us, qs, rfl, e' _ _ hp, paired_ex e' hu, hq, hsp⟩
end
end K19
set_option Elab.async false
set_option linter.all false
set_option maxRecDepth 100000
set_option maxHeartbeats 2000000
namespace K19
open PySem L2 LW
abbrev sIsList : Stmt := top 27
abbrev sChkN : Stmt := top 28
abbrev sJoins : Stmt := top 29
abbrev sChkL : Stmt := top 30
section
variable {P : Program} {w : World} {K : PySem.W.Frag} {mg : Str → Option Value} {base : Heap} {f : Addr} {fd : FuncData}
def ASq (K : PySem.W.Frag) : Bool × List V → List V → Hp → Prop := fun x vs H => ∃ a, vs = [.ref a] ∧ Sq K x.1 H a x.2
theorem scIsList : FnScope ["value"] ["value"] (defScope sIsList) := ⟨rfl, rfl, rfl, by decide +kernel, rfl, by decide +kernel, by decide +kernel⟩
theorem b_isList (B : Blt K mg) : Body P w K mg base ["value"] "is_list" sIsList f 0 (ASq K) RTrue := by
  intro cdv Ar outer s H0 E x vs H Hc D hr ex pa rt nx
  obtain ⟨q, xs⟩ := x
  obtain ⟨a, rfl, h1⟩ := pa.now
  exact b_ret (P := is (V.bl true)) ex (e_isiLT (q := q) (xs := xs) B.isi B.list B.«tuple» (e_var 0) (fun H' e => h1.ex e)) fun v Hn H2 g p => rt v _ _ g p
/-- nodes: a list (q) or a tuple of different names -/
structure Nds (xs : List Str) : Prop where
  len : xs.length ≤ 60
  ne : xs ≠ []
  nd : xs.Nodup
  nm : ∀ x ∈ xs, Nm x
def ANds (K : PySem.W.Frag) : Bool × List Str → List V → Hp → Prop := fun x vs H => ∃ a, vs = [.ref a] ∧ Sq K x.1 H a (x.2.map V.str) ∧ Nds x.2
def RNon {α : Type} : α → V → Hp → Prop := fun _ v _ => v = .non
abbrev nChkN : List Str := ["nodes", "seen", "position", "node"]
theorem scChkN : FnScope nChkN ["nodes"] (defScope sChkN) := ⟨rfl, rfl, rfl, by decide +kernel, rfl, by decide +kernel, by decide +kernel⟩
theorem not_taken {α : Type} {xs : List α} (nd : xs.Nodup) {i : Nat} {x : α} (h : xs[i]? = some x) : x ∉ xs.take i := by
  intro m
  obtain ⟨j, hj, e⟩ := List.mem_take_iff_getElem.mp m
  obtain ⟨hi, e2⟩ := List.getElem?_eq_some_iff.mp h
  have := (List.getElem_inj (h₀ := by omega) (h₁ := hi) nd).mp (e.trans e2.symm)
  omega
theorem b_chkN (B : Blt K mg) (FL : Fn P w K mg base "is_list" 1 (ASq K) RTrue) (FN : Fn P w K mg base "is_name" 1 AName RTrue) : Body P w K mg base nChkN "check_nodes" sChkN f 1 (ANds K) RNon := by
  intro cdv Ar outer s H0 E x vs H Hc D hr ex pa rt nx
  obtain ⟨q, xs⟩ := x
  obtain ⟨a, rfl, h1, N⟩ := pa.now
  have h1 : Sq K q H a (xs.map V.str) := h1
  have N : Nds xs := N
  have hN := N.len
  have hq : Pz H (fun H' => Sq K q H' a (xs.map V.str)) := fun H' e => h1.ex e
  refine b_ifF ex (t_w (w_or (k := false) (k' := false) (t_not (k := true) (t_val (e_callD (q, xs.map V.str) FL hr (a_consD (e_var 0) a_nil) (fun H' e => ⟨a, rfl, hq H' e⟩)))) fun _ =>
    w_or1 (t_is (t_cmpD op_eq (by rfl) (e_len (xs := xs.map V.str) B.len (e_var 0) (hq.imp fun _ _ z => z.any)) e_int (r_eq (x := V.int ((xs.map V.str).length : Int)) (y := V.int 0) rfl)) ?_))) fun Hn H2 g => b_nil (b_dnewK 1 g.s (fun l hl => ?_) scChkN.nd)
  · refine decide_eq_false fun z => ?_
    have z' := V.int.inj z
    rw [List.length_map] at z'
    exact N.ne (List.eq_nil_of_length_eq_zero (by omega))
  · have hlH : Hn l = none := Evl.fresh_back g.s hl
    refine b_for (H := Hn) (g := gTup K 2 (gCons (gName 2) (gCons (gName 3) gNil))) (g.s.trans (Evl.Ex.new hl)) PassesOwn.never rfl (pi_or (pi_enum rfl B.enum pa_w) (pi_enumT rfl B.enum pa_w)) (i_enumQ (q := q) (xs := xs.map V.str) (Cm.imp (e_var (v := V.ref a) 0) fun v H' e z => ⟨a, z, hq H' (g.k.trans e)⟩))
      (pg_tup rfl (pgs_cons (pg_name (i := 2) scChkN.nd rfl (.inl rfl)) (pgs_cons (pg_name (i := 3) scChkN.nd rfl (.inl rfl)) pgs_nil))) fun H1 H3 g1 => ?_
    have gg := (still (g.s.trans (Evl.Ex.new hl)) (Evl.Ex.new hl)).trans g1
    refine ⟨fun i σ1 H4 Hc4 => ∃ (u v : Option V) (kvs : List (Key × V)), σ1 = [some (.ref a), some (.ref l), u, v] ∧ H4 l = none ∧ Hc4 l = some (.dK kvs) ∧ kvs.length ≤ i ∧ (∀ x, x ∉ xs.take i → valV kvs (.inr x) = none) ∧ Grow Hn H2 H4 Hc4, ⟨none, none, [], rfl, g1.un upd_same hlH, g1.c _ _ upd_same, Nat.le_refl _, fun _ _ => rfl, gg⟩, ?_, ?_⟩
    · rintro i σ1 H4 Hc4 hi e4 e5 ⟨u, v, kvs, rfl, hl4, hc4, hk, hv, g4⟩ x H5 Hc5 g5 py
      have hi : i < xs.length := by simpa using hi
      obtain ⟨T, y, rfl, hT, hy⟩ := py.now
      obtain ⟨z, hz, rfl⟩ : ∃ z, xs[i]? = some z ∧ y = V.str z := by
        rw [List.getElem?_map] at hy
        cases e : xs[i]? with
        | none => rw [e] at hy; cases hy
        | some z => rw [e] at hy; exact ⟨z, rfl, (Option.some.inj hy).symm⟩
      refine bind_two (K := K) (.sqt (SqT.of hT)) Hc5 g5.s _ ?_
      have hl5 := g5.c _ _ hc4
      have n5 := g5.un hc4 hl4
      have nm := N.nm z (List.mem_of_getElem? hz)
      have hz0 := hv z (not_taken N.nd hz)
      refine b_ifF (H := upd H5 l (.dK kvs)) (g5.s.own hl5) (t_w (w_or (k := false) (k' := false) (t_not (k := true) (t_val (e_callD z FN hr (a_consD (e_var 3) a_nil) (.const ⟨rfl, nm⟩)))) fun _ =>
        w_or1 (t_is (t_din (hu_of hr) (e_var 3) (e_var 1) (pz_dK (key := .inr z) (.at upd_same))) (by rw [hz0] <;> rfl)))) fun H6 H7 g6 => b_nil ?_
      have g7 := (g4.trans g5).looked n5 g6
      refine b_dput (key := .inr z) (l := l) (kvs := kvs) (P := is (V.bl true)) g7.s (hu_of hr) e_bl (e_var 1) (e_var 3) (g6.c _ _ hl5) (by omega) fun w H8 H9 g8 p8 => b_nil ?_
      have hl9 : H9 l = some (.dK kvs) := g8.c _ _ (g6.c _ _ hl5)
      have n8 : H8 l = none := g8.un (g6.c _ _ hl5) n5
      refine ⟨H8, (e4.trans g5.k).trans g8.k, g8.s.mut n8, _, _, _, rfl, n8, upd_same, ?_, fun x hx => ?_, (g7.trans g8).mut hl n8⟩
      · have := length_putK kvs (.inr z : Key) w; omega
      · rw [take_snoc hz] at hx
        rw [valV_put, if_neg (fun e => hx (List.mem_append_right _ (by rw [Sum.inr.inj e]; exact List.mem_singleton_self z)))]
        exact hv x fun m => hx (List.mem_append_left _ m)
    · rintro σ1 H4 Hc4 e4 e5 ⟨u, v, kvs, rfl, hl4, hc4, hk, hv, g4⟩
      exact b_nil (nx _ _ _ (g.trans g4) (.const rfl))
/-- None, or nodes among which there are the two of each pair -/
def KnV (K : PySem.W.Frag) (o : Option (Bool × List Str)) (v : V) (H : Hp) : Prop := match o with
  | none => v = .non
  | some x => ∃ a, v = .ref a ∧ Sq K x.1 H a (x.2.map V.str)
def KnP (o : Option (Bool × List Str)) (p : Str × Str) : Prop := match o with
  | none => True
  | some x => p.1 ∈ x.2 ∧ p.2 ∈ x.2
theorem KnV.ex {o : Option (Bool × List Str)} {v : V} {H H' : Hp} (e : Ex H H') (h : KnV K o v H) : KnV K o v H' := by
  cases o with
  | none => exact h
  | some x => obtain ⟨a, h1, h2⟩ := h; exact ⟨a, h1, h2.ex e⟩
def AJn (K : PySem.W.Frag) : (Str × Str) × Option (Bool × List Str) → List V → Hp → Prop := fun x vs H => ∃ t v, vs = [.ref t, v] ∧ SqT K H t [.str x.1.1, .str x.1.2] ∧ Lk x.1 ∧ KnV K x.2 v H ∧ KnP x.2 x.1
theorem scJoins : FnScope ["link", "nodes"] ["link", "nodes"] (defScope sJoins) := ⟨rfl, rfl, rfl, by decide +kernel, rfl, by decide +kernel, by decide +kernel⟩
theorem b_joins (B : Blt K mg) (FI : Fn P w K mg base "is_link" 2 (AIsL K) RTrue) : Body P w K mg base ["link", "nodes"] "joins_known" sJoins f 2 (AJn K) RTrue := by
  intro cdv Ar outer s H0 E x vs H Hc D hr ex pa rt nx
  obtain ⟨p, o⟩ := x
  obtain ⟨t, v, rfl, h1, h2, h3, h4⟩ := pa.now
  have h1 : SqT K H t [.str p.1, .str p.2] := h1
  have hq := Pz.sqt h1
  refine b_ifF ex (t_not (k := true) (t_val (e_callD p FI hr (a_consD (e_var 0) a_nil) (fun H' e => ⟨t, rfl, hq H' e, h2⟩)))) fun Hn H2 g => b_nil (b_ret (P := is (V.bl true)) g.s ?_ fun v Hn2 H3 g3 q => rt v _ _ (g.trans g3) q)
  cases o with
  | none =>
    obtain rfl : v = .non := h3
    exact e_or (k := true) (k' := true) (t_is (e_isN (v := V.non) (e_var 1)) rfl) fun z => nomatch z
  | some y =>
    obtain ⟨q, xs⟩ := y
    obtain ⟨a, rfl, h5⟩ := h3
    have h5 : Sq K q H a (xs.map V.str) := h5
    have hs : Pz Hn (fun H' => SqL K H' a (xs.map V.str) ∨ SqT K H' a (xs.map V.str)) := fun H' e => (h5.ex (g.k.trans e)).any
    have m1 : p.1 ∈ xs := h4.1
    have m2 : p.2 ∈ xs := h4.2
    exact e_or (k := false) (k' := true) (t_is (e_isN (v := V.ref a) (e_var 1)) rfl) fun _ => e_one (e_and (k := true) (k' := true) (t_is (e_inS (xs := xs) (e_itemT (j := 0) (e_var 0) e_int (hq.mono g.k) rfl) (e_var 1) hs) (by rw [decide_eq_true m1])) fun _ =>
      e_one (t_is (e_inS (xs := xs) (e_itemT (j := 1) (e_var 0) e_int (hq.mono g.k) rfl) (e_var 1) hs) (by rw [decide_eq_true m2])))
end
end K19
set_option Elab.async false
set_option linter.all false
set_option maxRecDepth 100000
set_option maxHeartbeats 2000000
namespace K19
open PySem L2 LW
def kLk (p : Str × Str) : List Key := [.inr p.1, .inr p.2]
def lk (p : Str × Str) : Str × Str := lnk p.1 p.2
theorem kLk_inj {p q : Str × Str} (h : kLk p = kLk q) : p = q := by
  unfold kLk at h
  injection h with h1 h2
  injection h2 with h2 _
  exact Prod.ext (Sum.inr.inj h1) (Sum.inr.inj h2)
theorem valV_none {κ : Type} [DecidableEq κ] {kvs : List (κ × V)} {k : κ} (h : k ∉ kvs.map (·.1)) : valV kvs k = none := by
  unfold valV
  rw [List.find?_eq_none.mpr fun x hx => by
    simp only [decide_eq_true_eq]
    exact fun e => h (List.mem_map.mpr ⟨x, hx, e⟩)] <;> rfl
theorem ts_keys {H : Hp} : ∀ {kvs : List (List Key × V)} {bs : List Addr} {qs : List (Str × Str)}, Paired (fun p b => H b = some (.tup (p.1.map kV))) kvs bs → kvs.map (·.1) = qs.map kLk → TsAt H bs qs
  | _, _, [], .nil, _ => .nil
  | _, _, q :: r, .cons h t, e => by
    rw [List.map_cons, List.map_cons] at e
    injection e with e1 e2
    rw [e1] at h
    exact .cons h (ts_keys t e2)
section
variable {P : Program} {w : World} {K : PySem.W.Frag} {mg : Str → Option Value} {base : Heap} {f : Addr} {fd : FuncData}
/-- links, a list (q) or a tuple, and nodes -/
structure Lks (ps : List (Str × Str)) (o : Option (Bool × List Str)) : Prop where
  len : ps.length ≤ 60
  lk : ∀ p ∈ ps, Lk p
  nd : (ps.map K19.lk).Nodup
  kn : ∀ p ∈ ps, KnP o p
def ALks (K : PySem.W.Frag) : (Bool × List (Str × Str)) × Option (Bool × List Str) → List V → Hp → Prop := fun x vs H => ∃ a ts v, vs = [.ref a, v] ∧ Sq K x.1.1 H a (ts.map V.ref) ∧ TsAt H ts x.1.2 ∧ KnV K x.2 v H ∧ Lks x.1.2 x.2
def RLks (K : PySem.W.Frag) : (Bool × List (Str × Str)) × Option (Bool × List Str) → V → Hp → Prop := fun x => RSortP K (x.1.2.map lk)
abbrev nChkL : List Str := ["links", "nodes", "seen", "position", "link", "pair"]
theorem scChkL : FnScope nChkL ["links", "nodes"] (defScope sChkL) := ⟨rfl, rfl, rfl, by decide +kernel, rfl, by decide +kernel, by decide +kernel⟩
theorem b_chkL (B : Blt K mg) (FL : Fn P w K mg base "is_list" 1 (ASq K) RTrue) (FJ : Fn P w K mg base "joins_known" 3 (AJn K) RTrue) (FO : Fn P w K mg base "link_of" 2 ALkO RLkO) (FS : Fn P w K mg base "sorted_links" 1 (APs K) (RSortP K)) :
    Body P w K mg base nChkL "checked_links" sChkL f 3 (ALks K) (RLks K) := by
  intro cdv Ar outer s H0 E x vs H Hc D hr ex pa rt nx
  obtain ⟨⟨q, ps⟩, o⟩ := x
  obtain ⟨a, ts, v, rfl, h1, h2, h3, N⟩ := pa.now
  have h1 : Sq K q H a (ts.map V.ref) := h1
  have h2 : TsAt H ts ps := h2
  have h3 : KnV K o v H := h3
  have N : Lks ps o := N
  have hN := N.len
  have hl2 := h2.length
  have hq : Pz H (fun H' => Sq K q H' a (ts.map V.ref)) := fun H' e => h1.ex e
  refine b_ifF ex (t_not (k := true) (t_val (e_callD (q, ts.map V.ref) FL (hr.mono (by decide)) (a_consD (e_var 0) a_nil) (fun H' e => ⟨a, rfl, hq H' e⟩)))) fun Hn H2 g => b_nil (b_dnewT 2 g.s (fun l hl => ?_) scChkL.nd)
  have hlH : Hn l = none := Evl.fresh_back g.s hl
  refine b_for (H := Hn) (g := gTup K 2 (gCons (gName 3) (gCons (gName 4) gNil))) (g.s.trans (Evl.Ex.new hl)) PassesOwn.never rfl (pi_or (pi_enum rfl B.enum pa_w) (pi_enumT rfl B.enum pa_w)) (i_enumQ (q := q) (xs := ts.map V.ref) (Cm.imp (e_var (v := V.ref a) 0) fun v H' e z => ⟨a, z, hq H' (g.k.trans e)⟩))
    (pg_tup rfl (pgs_cons (pg_name (i := 3) scChkL.nd rfl (.inl rfl)) (pgs_cons (pg_name (i := 4) scChkL.nd rfl (.inl rfl)) pgs_nil))) fun H1 H3 g1 => ?_
  have gg := (still (g.s.trans (Evl.Ex.new hl)) (Evl.Ex.new hl)).trans g1
  refine ⟨fun i σ1 H4 Hc4 => ∃ (u u2 u3 : Option V) (kvs : List (List Key × V)), σ1 = [some (.ref a), some v, some (.ref l), u, u2, u3] ∧ H4 l = none ∧ Hc4 l = some (.dT kvs) ∧ kvs.map (·.1) = ((ps.take i).map lk).map kLk ∧ Grow Hn H2 H4 Hc4, ⟨none, none, none, [], rfl, g1.un upd_same hlH, g1.c _ _ upd_same, rfl, gg⟩, ?_, ?_⟩
  · rintro i σ1 H4 Hc4 hi e4 e5 ⟨u, u2, u3, kvs, rfl, hl4, hc4, hk, g4⟩ x H5 Hc5 g5 py
    obtain ⟨T, y, rfl, hT, hy⟩ := py.now
    obtain ⟨t, p, rfl, ht, hp, hH⟩ := ts_get h2 hy
    have hm : p ∈ ps := List.mem_of_getElem? hp
    have lkp := N.lk p hm
    refine bind_two (K := K) (.sqt (SqT.of hT)) Hc5 g5.s _ ?_
    have hl5 := g5.c _ _ hc4
    have n5 := g5.un hc4 hl4
    have eH : Ex H H5 := (g.k.trans g4.k).trans g5.k
    have tq : Pz H5 (fun H' => SqT K H' t [V.str p.1, V.str p.2]) := .sqt (SqT.of (eH _ _ hH))
    refine b_ifF g5.s (t_not (k := true) (t_val (e_callD (p, o) FJ hr (a_consD (e_var 4) (a_consD (e_var 1) a_nil)) (fun H' e => ⟨t, v, rfl, tq H' e, lkp, h3.ex (eH.trans e), N.kn p hm⟩)))) fun H6 H7 g6 => b_nil ?_
    refine b_set 5 g6.s (e_callD p FO (hr.mono (by decide)) (a_consD (e_itemT (j := 0) (e_var 4) e_int (tq.mono g6.k) rfl) (a_consD (e_itemT (j := 1) (e_var 4) e_int (tq.mono g6.k) rfl) a_nil)) (.const ⟨rfl, lkp⟩)) (fun w H8 H9 g8 p8 => ?_) scChkL.nd
    obtain ⟨b, rfl, hb⟩ := p8.now
    have hl9 := g8.c _ _ (g6.c _ _ hl5)
    have n8 : H8 l = none := g8.un (g6.c _ _ hl5) (g6.un hl5 n5)
    have hb2 : Pz H8 (fun H' => H' b = some (.tup ((kLk (lk p)).map kV))) := .at hb
    have hp' : (ps.map lk)[i]? = some (lk p) := by rw [List.getElem?_map, hp] <;> rfl
    have hv : valV kvs (kLk (lk p)) = none := valV_none fun m => by
      rw [hk] at m
      obtain ⟨z, hz, e⟩ := List.mem_map.mp m
      rw [kLk_inj e, List.map_take] at hz
      exact not_taken N.nd hp' hz
    refine b_ifF (H := upd H8 l (.dT kvs)) (g8.s.own hl9) (t_is (t_din (hu_of hr) (e_var 5) (e_var 2) (pz_dT (key := kLk (lk p)) (.at upd_same) (hb2.mono (Ex.put n8)))) (by rw [hv] <;> rfl)) fun H10 H11 g10 => b_nil ?_
    have gz := ((g4.trans g5).trans (g6.trans g8)).looked n8 g10
    have hlen : kvs.length ≤ 60 := by
      have z := congrArg List.length hk
      simp only [List.length_map, List.length_take] at z
      omega
    refine b_dputT (key := kLk (lk p)) (l := l) (kvs := kvs) (b := b) (P := is (V.bl true)) gz.s (hu_of hr) e_bl (e_var 2) (e_var 5) hb2 (g10.c _ _ hl9) (by omega) fun w H12 H13 g12 p12 => b_nil ?_
    have hl13 : H13 l = some (.dT kvs) := g12.c _ _ (g10.c _ _ hl9)
    have n12 : H12 l = none := g12.un (g10.c _ _ hl9) n8
    refine ⟨H12, (e4.trans g5.k).trans ((g6.k.trans g8.k).trans g12.k), g12.s.mut n12, _, _, _, _, rfl, n12, upd_same, ?_, (gz.trans g12).mut hl n12⟩
    rw [putK_new _ hv, List.map_append, hk, take_snoc hp, List.map_append, List.map_append] <;> rfl
  · rintro σ1 H4 Hc4 e4 e5 ⟨u, u2, u3, kvs, rfl, hl4, hc4, hk, g4⟩
    rw [List.length_map, hl2, List.take_length] at hk
    refine b_ret (H := upd H4 l (.dT kvs)) (P := RLks K ((q, ps), o)) (e5.own hc4) (e_call FS (hr.mono (by decide)) (a_cons (P := fun v H' => ∃ p bs, v = .ref p ∧ SqL K H' p (bs.map V.ref) ∧ TsAt H' bs (ps.map lk)) (e_ty (call_list_dT rfl) B.list (a_consD (e_var 2) a_nil) fun vs H5 e5 z => ?_) a_nil) fun vs H5 e5 z => ?_) fun v H6 H7 g6 p6 => ?_
    · obtain rfl : vs = [V.ref l] := z.now
      refine fun Hc ex Q q => ⟨l, kvs, rfl, .inl (ex _ _ (e5 _ _ upd_same)), fun p bs hp hb => ?_⟩
      obtain ⟨H9, g9, e9, z9⟩ := (Grow.new (o := .lst (bs.map V.ref)) ex hp).knowTs (Paired.mapP hb fun _ _ q => Evl.Ex.new hp _ _ q)
      exact q _ _ _ g9 fun H' e' => ⟨p, bs, rfl, SqL.of (e' _ _ (e9 _ _ upd_same)), paired_ex e' (ts_keys z9 hk)⟩
    · obtain ⟨w, ws, rfl, ⟨p, bs, rfl, z1, z2⟩, rfl⟩ := z.now
      refine ⟨ps.map lk, fun H' e' => ⟨p, bs, rfl, Evl.ex_l e' z1, paired_ex e' z2, by rw [List.length_map]; exact hN, fun r hr => ?_⟩, fun _ _ _ q => q⟩
      obtain ⟨r0, h0, rfl⟩ := List.mem_map.mp hr
      obtain ⟨m1, m2, m3⟩ := N.lk r0 h0
      unfold lk
      rcases lnk_cases r0.1 r0.2 with e | e <;> rw [e]
      · exact ⟨m1, m2, m3⟩
      · exact ⟨m2, m1, fun e => m3 e.symm⟩
    · refine rt _ _ _ (g.trans (?_)) p6
      exact (g4.know hl hl4 hc4).trans g6
end
end K19
set_option Elab.async false
set_option linter.all false
set_option maxRecDepth 100000
set_option maxHeartbeats 2000000
namespace K19
open PySem L2 LW
abbrev sNear : Stmt := top 32
/-- whom the links join to x, in their order -/
def nb (ls : List (Str × Str)) (x : Str) : List Str := ls.filterMap fun p => if p.1 = x then some p.2 else if p.2 = x then some p.1 else none
theorem nb_snoc (ls : List (Str × Str)) (p : Str × Str) (x : Str) : nb (ls ++ [p]) x = nb ls x ++ (if p.1 = x then [p.2] else if p.2 = x then [p.1] else []) := by
  unfold nb
  rw [List.filterMap_append]
  congr 1
  rw [List.filterMap_cons, List.filterMap_nil]
  by_cases h : p.1 = x
  · rw [if_pos h, if_pos h]
  · rw [if_neg h, if_neg h]
    by_cases h2 : p.2 = x
    · rw [if_pos h2, if_pos h2]
    · rw [if_neg h2, if_neg h2]
/-- a dict at d from ns to lists at as -/
def tbl (ns : List Str) (as : List Addr) : List (Key × V) := (ns.zip as).map fun p => (.inr p.1, .ref p.2)
structure Tb (Hc : Hp) (d : Addr) (ns : List Str) (as : List Addr) (c : Str → List Str) : Prop where
  len : ns.length = as.length
  dict : Hc d = some (.dK (tbl ns as))
  at_ : ∀ (j : Nat) (x : Str) (a : Addr), ns[j]? = some x → as[j]? = some a → Hc a = some (.lst ((c x).map V.str))
  nd : as.Nodup
  out : d ∉ as
theorem tbl_val {ns : List Str} {as : List Addr} (len : ns.length = as.length) (nd : ns.Nodup) : ∀ {j : Nat} {x : Str} {a : Addr}, ns[j]? = some x → as[j]? = some a → valV (tbl ns as) (.inr x) = some (.ref a) := by
  intro j x a h1 h2
  have m : (Sum.inr x, V.ref a) ∈ tbl ns as := List.mem_map.mpr ⟨(x, a), List.mem_of_getElem? (i := j) (by rw [List.getElem?_zip_eq_some]; exact ⟨h1, h2⟩), rfl⟩
  have nk : ((tbl ns as).map (·.1)).Nodup := by
    unfold tbl
    rw [List.map_map]
    have e : (ns.zip as).map (((fun q : Key × V => q.1) ∘ fun p : Str × Addr => ((Sum.inr p.1 : Key), V.ref p.2))) = ((ns.zip as).map (·.1)).map Sum.inr := by rw [List.map_map] <;> rfl
    rw [e]
    refine List.Pairwise.map (R := fun a b : Str => a ≠ b) Sum.inr (fun a b hab z => hab (Sum.inr.inj z)) ?_
    rw [List.map_fst_zip (Nat.le_of_eq len)]
    exact nd
  exact val_nodup nk _ m
theorem tbl_none {ns : List Str} {as : List Addr} {x : Str} (h : x ∉ ns) : valV (tbl ns as) (.inr x) = none := valV_none fun m => by
  obtain ⟨q, hq, e⟩ := List.mem_map.mp m
  obtain ⟨p, hp, rfl⟩ := List.mem_map.mp hq
  exact h (Sum.inr.inj e ▸ (List.of_mem_zip hp).1)
theorem tbl_snoc {ns : List Str} {as : List Addr} (h : ns.length = as.length) (x : Str) (a : Addr) : tbl (ns ++ [x]) (as ++ [a]) = tbl ns as ++ [(.inr x, .ref a)] := by
  unfold tbl
  rw [List.zip_append h, List.map_append] <;> rfl
theorem Tb.ex {Hc H2 : Hp} {d : Addr} {ns : List Str} {as : List Addr} {c : Str → List Str} (t : Tb Hc d ns as c) (e : Ex Hc H2) : Tb H2 d ns as c := ⟨t.len, e _ _ t.dict, fun j x a h1 h2 => e _ _ (t.at_ j x a h1 h2), t.nd, t.out⟩
theorem Tb.any {Hc : Hp} {d a : Addr} {ns : List Str} {as : List Addr} {c : Str → List Str} (t : Tb Hc d ns as c) (m : a ∈ as) : ∃ xs, Hc a = some (.lst xs) := by
  obtain ⟨k, hk⟩ := List.getElem?_of_mem m
  have hkl := (List.getElem?_eq_some_iff.mp hk).1
  exact ⟨_, t.at_ k _ a (List.getElem?_eq_getElem (by rw [t.len]; exact hkl)) hk⟩
/-- one more name -/
theorem Tb.snoc {Hc H2 : Hp} {d p : Addr} {ns : List Str} {as : List Addr} {c : Str → List Str} {x : Str} (t : Tb Hc d ns as c) (hx : x ∉ ns) (hp : Hc p = none) (e : Ex (upd Hc p (.lst [])) H2) (hc : c x = []) : Tb (upd H2 d (.dK (putK (tbl ns as) (.inr x) (.ref p)))) d (ns ++ [x]) (as ++ [p]) c := by
  have hpa : p ∉ as := fun m => by
    obtain ⟨j, hj⟩ := List.getElem?_of_mem m
    have hjl := (List.getElem?_eq_some_iff.mp hj).1
    have := t.at_ j (ns[j]'(by rw [t.len]; exact hjl)) p (List.getElem?_eq_getElem _) hj
    rw [hp] at this
    cases this
  have hpd : p ≠ d := fun z => by
    have := t.dict
    rw [← z, hp] at this
    cases this
  refine ⟨by simp [t.len], by rw [upd_same, putK_new _ (tbl_none hx), tbl_snoc t.len], fun j y a h1 h2 => ?_, ?_, ?_⟩
  · have ho : ∀ b, b ∈ as → b ≠ d := fun b m z => t.out (z ▸ m)
    by_cases hj : j < ns.length
    · rw [List.getElem?_append_left hj] at h1
      rw [List.getElem?_append_left (by rw [← t.len]; exact hj)] at h2
      have ha := List.mem_of_getElem? h2
      rw [upd_ne (ho a ha)]
      refine e _ _ ?_
      rw [upd_ne (fun z : a = p => hpa (z ▸ ha))]
      exact t.at_ j y a h1 h2
    · have hj2 : j = ns.length := by
        have := (List.getElem?_eq_some_iff.mp h1).1
        rw [List.length_append, List.length_singleton] at this
        omega
      subst hj2
      rw [List.getElem?_append_right (Nat.le_refl _), Nat.sub_self] at h1
      rw [t.len, List.getElem?_append_right (Nat.le_refl _), Nat.sub_self] at h2
      cases h1
      cases h2
      rw [upd_ne hpd, hc]
      exact e _ _ upd_same
  · exact List.nodup_append.mpr ⟨t.nd, List.nodup_cons.mpr ⟨List.not_mem_nil, List.nodup_nil⟩, fun b hb b' hb' => by rw [List.mem_singleton.mp hb']; exact fun z => hpa (z ▸ hb)⟩
  · intro m
    rcases List.mem_append.mp m with m | m
    · exact t.out m
    · exact hpd (List.mem_singleton.mp m).symm
/-- a list grows -/
theorem Tb.app {Hc : Hp} {d a : Addr} {ns : List Str} {as : List Addr} {c : Str → List Str} {x y : Str} {j : Nat} (t : Tb Hc d ns as c) (nd : ns.Nodup) (h1 : ns[j]? = some x) (h2 : as[j]? = some a) : Tb (upd Hc a (.lst ((c x).map V.str ++ [V.str y]))) d ns as (fun z => if z = x then c x ++ [y] else c z) := by
  have ha := List.mem_of_getElem? h2
  refine ⟨t.len, by rw [upd_ne (fun z : d = a => t.out (z ▸ ha))]; exact t.dict, fun k z b k1 k2 => ?_, t.nd, t.out⟩
  by_cases e : k = j
  · subst e
    rw [h1] at k1
    rw [h2] at k2
    cases k1
    cases k2
    rw [upd_same]
    show _ = some (HO.lst ((if x = x then c x ++ [y] else c x).map V.str))
    rw [if_pos rfl, List.map_append] <;> rfl
  · have hb : b ≠ a := fun z => by
      obtain ⟨l1, e1⟩ := List.getElem?_eq_some_iff.mp h2
      obtain ⟨l2, e2⟩ := List.getElem?_eq_some_iff.mp k2
      exact e ((List.getElem_inj (h₀ := l2) (h₁ := l1) t.nd).mp (by rw [e1, e2, z]))
    have hz : z ≠ x := fun q => by
      obtain ⟨l1, e1⟩ := List.getElem?_eq_some_iff.mp h1
      obtain ⟨l2, e2⟩ := List.getElem?_eq_some_iff.mp k1
      exact e ((List.getElem_inj (h₀ := l2) (h₁ := l1) nd).mp (by rw [e1, e2, q]))
    rw [upd_ne hb]
    show _ = some (HO.lst ((if z = x then c x ++ [y] else c z).map V.str))
    rw [if_neg hz]
    exact t.at_ k z b k1 k2
theorem Tb.congr {Hc : Hp} {d : Addr} {ns : List Str} {as : List Addr} {c c' : Str → List Str} (t : Tb Hc d ns as c) (h : ∀ x ∈ ns, c x = c' x) : Tb Hc d ns as c' := ⟨t.len, t.dict, fun j x a h1 h2 => by rw [← h x (List.mem_of_getElem? h1)]; exact t.at_ j x a h1 h2, t.nd, t.out⟩
section
variable {P : Program} {w : World} {K : PySem.W.Frag} {mg : Str → Option Value} {base : Heap} {f : Addr} {fd : FuncData}
structure Net0 (ns : List Str) (ls : List (Str × Str)) : Prop where
  ln : ns.length ≤ 60
  ll : ls.length ≤ 60
  nd : ns.Nodup
  lk : ∀ p ∈ ls, p.1 ∈ ns ∧ p.2 ∈ ns ∧ p.1 ≠ p.2
def ANear (K : PySem.W.Frag) : List Str × List (Str × Str) → List V → Hp → Prop := fun x vs H => ∃ a b ts, vs = [.ref a, .ref b] ∧ SqL K H a (x.1.map V.str) ∧ SqL K H b (ts.map V.ref) ∧ TsAt H ts x.2 ∧ Net0 x.1 x.2
def RNear : List Str × List (Str × Str) → V → Hp → Prop := fun x v H => ∃ d as, v = .ref d ∧ Tb H d x.1 as (nb x.2)
abbrev nNear : List Str := ["nodes", "links", "table", "node", "one", "other"]
theorem scNear : FnScope nNear ["nodes", "links"] (defScope sNear) := ⟨rfl, rfl, rfl, by decide +kernel, rfl, by decide +kernel, by decide +kernel⟩
theorem b_near : Body P w K mg base nNear "neighbour_table" sNear f 0 (ANear K) RNear := by
  intro cdv Ar outer s H0 E x vs H Hc D hr ex pa rt nx
  obtain ⟨ns, ls⟩ := x
  obtain ⟨a, b, ts, rfl, h1, h2, h3, N⟩ := pa.now
  have h1 : SqL K H a (ns.map V.str) := h1
  have h3 : TsAt H ts ls := h3
  have N : Net0 ns ls := N
  have hN := N.ln
  have hM := N.ll
  have hl3 := h3.length
  refine b_dnewK 2 ex (fun d hd => ?_) scNear.nd
  have hdH : H d = none := Evl.fresh_back ex hd
  refine b_for (H := H) (g := gName 3) (ex.trans (Evl.Ex.new hd)) PassesOwn.never rfl (pi_list pe_w) (i_list (xs := ns.map V.str) (Cm.imp (e_var (v := V.ref a) 0) fun v H' e z => ⟨a, z, Evl.ex_l e h1⟩)) (pg_name (i := 3) scNear.nd rfl (.inl rfl)) fun H1 H3 g1 => ?_
  have gg := (still (ex.trans (Evl.Ex.new hd)) (Evl.Ex.new hd)).trans g1
  refine ⟨fun i σ1 H4 Hc4 => ∃ (u : Option V) (as : List Addr), σ1 = [some (.ref a), some (.ref b), some (.ref d), u, none, none] ∧ Tb Hc4 d (ns.take i) as (fun _ => []) ∧ H4 d = none ∧ (∀ a ∈ as, H4 a = none ∧ Hc a = none) ∧ Grow H Hc H4 Hc4,
    ⟨none, [], rfl, ⟨rfl, g1.c _ _ upd_same, fun j x a h _ => by simp at h, List.nodup_nil, List.not_mem_nil⟩, g1.un upd_same hdH, fun a m => absurd m List.not_mem_nil, gg⟩, ?_, ?_⟩
  · rintro i σ1 H4 Hc4 hi e4 e5 ⟨u, as, rfl, t, hd4, has, g4⟩ x H5 Hc5 g5 py
    obtain ⟨z, hz, rfl⟩ := txt_get py.now
    have t5 := t.ex g5.c
    have hd5 : H5 d = none := g5.un t.dict hd4
    refine b_dputL (key := .inr z) (d := d) (kvs := tbl (ns.take i) as) g5.s (hu_of hr) (e_var 2) (e_var 3) t5.dict (by unfold tbl; simp; omega) fun p Hn H6 hp g6 => b_nil ?_
    have hpd : d ≠ p := fun e => by
      have := t5.dict
      rw [e, hp] at this
      cases this
    have hdn : Hn d = none := g6.un (by rw [upd_ne hpd]; exact t5.dict) hd5
    have hpn : Hn p = none := g6.un upd_same (Evl.fresh_back g5.s hp)
    refine ⟨Hn, (e4.trans g5.k).trans g6.k, g6.s.mut hdn, some (.str z), as ++ [p], rfl, ?_, hdn, fun b m => ?_, (((g4.trans g5).trans (still (g5.s.trans (Evl.Ex.new hp)) (Evl.Ex.new hp))).trans g6).mut hd hdn⟩
    · rw [take_snoc hz]
      exact t5.snoc (not_taken N.nd hz) hp g6.c rfl
    · rcases List.mem_append.mp m with m | m
      · obtain ⟨xs, q0⟩ := t.any m
        have q := g5.c _ _ q0
        have hbp : b ≠ p := fun e => by rw [e, hp] at q; cases q
        exact ⟨g6.un (o := .lst xs) (by rw [upd_ne hbp]; exact q) (g5.un q0 (has b m).1), (has b m).2⟩
      · rw [List.mem_singleton.mp m]
        exact ⟨hpn, Evl.fresh_back (g4.trans g5).c hp⟩
  · rintro σ1 H4 Hc4 e4 e5 ⟨u, as, rfl, t, hd4, has, g4⟩
    rw [List.length_map, List.take_length] at t
    have hb : Ex H H4 := g4.k
    refine b_for (H := H4) (g := gTup K 2 (gCons (gName 4) (gCons (gName 5) gNil))) g4.s PassesOwn.never rfl (pi_list pe_w) (i_list (xs := ts.map V.ref) (Cm.imp (e_var (v := V.ref b) 1) fun v H' e z => ⟨b, z, Evl.ex_l (hb.trans e) h2⟩))
      (pg_tup rfl (pgs_cons (pg_name (i := 4) scNear.nd rfl (.inl rfl)) (pgs_cons (pg_name (i := 5) scNear.nd rfl (.inl rfl)) pgs_nil))) fun H5 H6 g5 => ?_
    have un : ∀ {H7 Hc7}, Grow H4 Hc4 H7 Hc7 → ∀ a ∈ as, H7 a = none ∧ Hc a = none := fun {H7 Hc7} gx a m => by
      obtain ⟨xs, q0⟩ := t.any m
      exact ⟨gx.un q0 (has a m).1, (has a m).2⟩
    refine ⟨fun i σ1 H7 Hc7 => ∃ (u v1 v2 : Option V), σ1 = [some (.ref a), some (.ref b), some (.ref d), u, v1, v2] ∧ Tb Hc7 d ns as (nb (ls.take i)) ∧ H7 d = none ∧ (∀ a ∈ as, H7 a = none ∧ Hc a = none) ∧ Grow H Hc H7 Hc7,
      ⟨u, none, none, rfl, (t.ex g5.c).congr fun _ _ => rfl, g5.un t.dict hd4, un g5, g4.trans g5⟩, ?_, ?_⟩
    · rintro i σ1 H7 Hc7 hi e7 e7' ⟨u, v1, v2, rfl, t7, hd7, has7, g7⟩ x H8 Hc8 g8 py
      obtain ⟨q, p, rfl, hq, hp, hH⟩ := ts_get h3 py.now
      obtain ⟨m1, m2, ne⟩ := N.lk p (List.mem_of_getElem? hp)
      have eH : Ex H H8 := g7.k.trans g8.k
      refine bind_two (K := K) (.sqt (SqT.of (eH _ _ hH))) Hc8 g8.s _ ?_
      obtain ⟨j1, hj1⟩ := List.getElem?_of_mem m1
      obtain ⟨j2, hj2⟩ := List.getElem?_of_mem m2
      obtain ⟨a1, k1⟩ : ∃ a1, as[j1]? = some a1 := ⟨_, List.getElem?_eq_getElem (by rw [← t.len]; exact (List.getElem?_eq_some_iff.mp hj1).1)⟩
      obtain ⟨a2, k2⟩ : ∃ a2, as[j2]? = some a2 := ⟨_, List.getElem?_eq_getElem (by rw [← t.len]; exact (List.getElem?_eq_some_iff.mp hj2).1)⟩
      have ma1 := List.mem_of_getElem? k1
      have ma2 := List.mem_of_getElem? k2
      have t8 := t7.ex g8.c
      have hd8 : H8 d = none := g8.un t7.dict hd7
      have n1 : H8 a1 = none := g8.un (t7.at_ _ _ _ hj1 k1) (has7 a1 ma1).1
      have n2 : H8 a2 = none := g8.un (t7.at_ _ _ _ hj2 k2) (has7 a2 ma2).1
      have short : ∀ x, (nb (ls.take i) x).length < 100000 := fun x => Nat.lt_of_le_of_lt (List.length_filterMap_le _ _) (by rw [List.length_take]; omega)
      refine b_app (H := upd H8 d (.dK (tbl ns as))) (l := a1) (P := is (V.str p.2)) (xs := (nb (ls.take i) p.1).map V.str) (g8.s.own t8.dict) (e_dget (hu_of hr) (e_var 2) (e_var 4) (by have q := pz_dK (key := .inr p.1) (.at (upd_same (H := H8) (a := d) (o := .dK (tbl ns as)))); rw [tbl_val t.len N.nd hj1 k1] at q; exact q)) (e_var 5) (t8.at_ _ _ _ hj1 k1) (by rw [List.length_map]; exact short _) fun v Hn H9 g9 pv => ?_
      obtain rfl : v = V.str p.2 := pv.now
      have ga := (g7.trans g8).looked hd8 g9
      have t9 := (t8.ex g9.c).app N.nd hj1 k1 (y := p.2)
      have gb := ga.mut (o := .lst ((nb (ls.take i) p.1).map V.str ++ [V.str p.2])) (has7 a1 ma1).2 n1
      refine b_app (H := upd H8 d (.dK (tbl ns as))) (l := a2) (P := is (V.str p.1)) (xs := (if p.2 = p.1 then nb (ls.take i) p.1 ++ [p.2] else nb (ls.take i) p.2).map V.str) (gb.s.own t9.dict) (e_dget (hu_of hr) (e_var 2) (e_var 5) (by have q := pz_dK (key := .inr p.2) (.at (upd_same (H := H8) (a := d) (o := .dK (tbl ns as)))); rw [tbl_val t.len N.nd hj2 k2] at q; exact q)) (e_var 4) (t9.at_ _ _ _ hj2 k2) (by rw [if_neg ne.symm, List.length_map]; exact short _) fun v Hm H10 g10 pv => b_nil ?_
      obtain rfl : v = V.str p.1 := pv.now
      have gc := gb.looked hd8 g10
      have t10 := (t9.ex g10.c).app N.nd hj2 k2 (y := p.1)
      refine ⟨H8, (e7.trans g8.k), gc.s.mut n2, u, some (.str p.1), some (.str p.2), rfl, t10.congr fun x hx => ?_, hd8, fun a m => ?_, gc.mut (has7 a2 ma2).2 n2⟩
      · rw [take_snoc hp, nb_snoc]
        by_cases hx2 : x = p.2
        · subst hx2
          rw [if_pos rfl, if_neg ne.symm, if_neg ne, if_pos rfl]
        · rw [if_neg hx2]
          by_cases hx1 : x = p.1
          · subst hx1
            rw [if_pos rfl, if_pos rfl]
          · rw [if_neg hx1, if_neg (fun e => hx1 e.symm), if_neg (fun e => hx2 e.symm), List.append_nil]
      · obtain ⟨xs, q0⟩ := t7.any m
        exact ⟨g8.un q0 (has7 a m).1, (has7 a m).2⟩
    · rintro σ1 H7 Hc7 e7 e7' ⟨u, v1, v2, rfl, t7, hd7, has7, g7⟩
      rw [List.length_map, hl3, List.take_length] at t7
      obtain ⟨H8, g8, e8, k8⟩ := g7.knowL (d :: as) fun a m => by
        rcases List.mem_cons.mp m with rfl | m
        · exact ⟨hd, hd7, _, t7.dict⟩
        · obtain ⟨xs, q0⟩ := t7.any m
          exact ⟨(has7 a m).2, (has7 a m).1, _, q0⟩
      have t8 : Tb H8 d ns as (nb ls) := ⟨t7.len, (k8 d (List.mem_cons_self ..)).trans t7.dict, fun j x a h1 h2 => (k8 a (List.mem_cons_of_mem _ (List.mem_of_getElem? h2))).trans (t7.at_ j x a h1 h2), t7.nd, t7.out⟩
      refine b_ret (P := is (V.ref d)) g8.s (e_var 2) fun v H9 H10 g10 p10 => rt v _ _ (g8.trans g10) ?_
      obtain rfl : v = V.ref d := p10.now
      exact fun H' e' => ⟨d, as, rfl, t8.ex (g10.k.trans e')⟩
end
end K19
set_option Elab.async false
set_option linter.all false
set_option maxRecDepth 100000
set_option maxHeartbeats 2000000
namespace K19
open PySem L2 LW
def along (xs : List Str) : List (Str × Str) := xs.zip (xs.drop 1)
theorem along_get {xs : List Str} {i : Nat} (h : i < xs.length - 1) : ∃ x y, xs[i]? = some x ∧ xs[i + 1]? = some y ∧ (along xs)[i]? = some (x, y) := by
  refine ⟨xs[i]'(by omega), xs[i + 1]'(by omega), List.getElem?_eq_getElem _, List.getElem?_eq_getElem _, ?_⟩
  unfold along
  rw [List.getElem?_zip_eq_some]
  exact ⟨List.getElem?_eq_getElem _, by rw [List.getElem?_drop, Nat.add_comm]; exact List.getElem?_eq_getElem _⟩
section
variable {P : Program} {w : World} {K : PySem.W.Frag} {mg : Str → Option Value} {base : Heap} {f : Addr} {fd : FuncData}
def AAlong (K : PySem.W.Frag) : List Str → List V → Hp → Prop := fun xs vs H => ∃ a, vs = [.ref a] ∧ SqT K H a (xs.map V.str) ∧ xs.length ≤ 60
/-- a new list of these pairs -/
def RPs : List (Str × Str) → V → Hp → Prop := fun ps v H => ∃ a ts, v = .ref a ∧ H a = some (.lst (ts.map V.ref)) ∧ TsAt H ts ps
def RAlong : List Str → V → Hp → Prop := fun xs => RPs (along xs)
end
end K19
set_option Elab.async false
set_option linter.all false
set_option maxRecDepth 100000
set_option maxHeartbeats 2000000
namespace K19
open PySem L2 LW
abbrev sNet : Stmt := top 34
abbrev sInit : Stmt := inClass sNet 2
/-- the class Net -/
structure NetF (K : PySem.W.Frag) (mg : Str → Option Value) (C : Addr) : Prop where
  mgN : mg "Net" = some (.ref C)
  cls : Cls K C
  n1 : NoAttr K C "_nodes"
  n2 : NoAttr K C "_links"
  n3 : NoAttr K C "_near"
  mc : ∃ mc u v, ClX.CRead K C mc ∧ ClX.CVal K C mc "MOST_NODES" (.int 60) u ∧ ClX.CVal K C mc "MOST_LINKS" (.int 120) v
/-- what a net holds -/
structure Nt (ns : List Str) (ls : List (Str × Str)) : Prop where
  len : ns.length ≤ 60
  ne : ns ≠ []
  nd : ns.Nodup
  nm : ∀ x ∈ ns, Nm x
  sn : SortN ns
  ll : ls.length ≤ 60
  nl : ls.Nodup
  lk : ∀ p ∈ ls, p.1 ∈ ns ∧ p.2 ∈ ns ∧ Lt p.1 p.2
  sp : SortP ls
/-- a net at a -/
def NetAt (C : Addr) (a : Addr) (ns : List Str) (ls : List (Str × Str)) (H : Hp) : Prop := ∃ dx l1 l2 l3 ts as, H a = some (.ins C dx [("_nodes", .ref l1), ("_links", .ref l2), ("_near", .ref l3)]) ∧ H l1 = some (.lst (ns.map V.str)) ∧ H l2 = some (.lst (ts.map V.ref)) ∧ TsAt H ts ls ∧ Tb H l3 ns as (nb ls)
theorem NetAt.ex {C a : Addr} {ns : List Str} {ls : List (Str × Str)} {H H' : Hp} (e : Ex H H') (h : NetAt C a ns ls H) : NetAt C a ns ls H' := by
  obtain ⟨dx, l1, l2, l3, ts, as, h1, h2, h3, h4, h5⟩ := h
  exact ⟨dx, l1, l2, l3, ts, as, e _ _ h1, e _ _ h2, e _ _ h3, paired_ex e h4, h5.ex e⟩
theorem lk_lt {p : Str × Str} (h : Lk p) : Lt (lk p).1 (lk p).2 := by
  unfold lk lnk
  by_cases e : Lt p.1 p.2
  · rw [if_pos e]; exact e
  · rw [if_neg e]
    exact Decidable.byContradiction fun z => h.2.2 (Lt.tri e z)
section
variable {P : Program} {w : World} {K : PySem.W.Frag} {mg : Str → Option Value} {base : Heap} {f C : Addr} {fd : FuncData}
structure NetIn where
  q : Bool
  xs : List Str
  q2 : Bool
  ps : List (Str × Str)
structure NetIn.Ok (x : NetIn) : Prop where
  nds : Nds x.xs
  lks : Lks x.ps (some (x.q, x.xs))
def ANet (K : PySem.W.Frag) : NetIn → List V → Hp → Prop := fun x vs H => ∃ a b ts, vs = [.ref a, .ref b] ∧ Sq K x.q H a (x.xs.map V.str) ∧ Sq K x.q2 H b (ts.map V.ref) ∧ TsAt H ts x.ps ∧ x.Ok
def RNet (C : Addr) : NetIn → V → Hp → Prop := fun x v H => ∃ a ns ls, v = .ref a ∧ NetAt C a ns ls H ∧ ns.Perm x.xs ∧ ls.Perm (x.ps.map lk) ∧ Nt ns ls
abbrev nInit : List Str := ["self", "nodes", "links", "kept"]
theorem scInit : FnScope nInit ["self", "nodes", "links"] (defScope sInit) := ⟨rfl, rfl, rfl, by decide +kernel, rfl, by decide +kernel, by decide +kernel⟩
theorem nt_of {x : NetIn} (o : x.Ok) {ns : List Str} {ls : List (Str × Str)} (h1 : ns.Perm x.xs) (h2 : ls.Perm (x.ps.map lk)) (s1 : SortN ns) (s2 : SortP ls) : Nt ns ls := by
  refine ⟨by rw [h1.length_eq]; exact o.nds.len, fun e => o.nds.ne (by rw [e] at h1; exact h1.symm.eq_nil), h1.nodup_iff.mpr o.nds.nd, fun x hx => o.nds.nm x (h1.mem_iff.mp hx), s1, by rw [h2.length_eq, List.length_map]; exact o.lks.len, h2.nodup_iff.mpr o.lks.nd, fun p hp => ?_, s2⟩
  obtain ⟨q, hq, rfl⟩ := List.mem_map.mp (h2.mem_iff.mp hp)
  have k := o.lks.lk q hq
  obtain ⟨m1, m2⟩ : q.1 ∈ x.xs ∧ q.2 ∈ x.xs := o.lks.kn q hq
  refine ⟨?_, ?_, lk_lt k⟩ <;> unfold lk <;> rcases lnk_cases q.1 q.2 with e | e <;> rw [e] <;> first | exact h1.mem_iff.mpr m1 | exact h1.mem_iff.mpr m2
theorem b_init (B : Blt K mg) (F : NetF K mg C) (F1 : Fn P w K mg base "check_nodes" 2 (ANds K) RNon) (F2 : Fn P w K mg base "checked_links" 4 (ALks K) (RLks K)) (F3 : Fn P w K mg base "sorted_names" 1 (ANs K) (RSortN K)) (F4 : Fn P w K mg base "neighbour_table" 1 (ANear K) RNear) :
    BodyI P w K mg base C nInit "Net.__init__" sInit f 4 (ANet K) (RNet C) := by
  intro cdv Ar outer s H0 E x ws H Hc p dx D hr ex hp hpH pa nx
  obtain ⟨a, b, ts, rfl, h1, h2, h3, o⟩ := pa.now
  obtain ⟨mc, u, v, r, c1, c2⟩ := F.mc
  have hq : Pz H (fun H' => Sq K x.q H' a (x.xs.map V.str)) := fun H' e => h1.ex e
  have l1 := o.nds.len
  have l2 := o.lks.len
  have g00 : Grow H (off Hc p) H Hc := still ex fun y z e => (off_some e).2
  refine b_expr ex (e_callD (x.q, x.xs) F1 (hr.mono (by decide)) (a_consD (e_var 1) a_nil) (fun H' e => ⟨a, rfl, hq H' e, o.nds⟩)) fun _ H1 Hc1 g1 _ => ?_
  refine b_set 3 g1.s (e_callD ((x.q2, x.ps), some (x.q, x.xs)) F2 hr (a_consD (e_var 2) (a_consD (e_var 1) a_nil)) (fun H' e => ⟨b, ts, .ref a, rfl, h2.ex (g1.k.trans e), paired_ex (g1.k.trans e) h3, ⟨a, rfl, hq H' (g1.k.trans e)⟩, o.lks⟩)) (fun v2 H2 Hc2 g2 p2 => ?_) scInit.nd
  obtain ⟨b2, ts2, qs, rfl, hb2, ht2, hp2, sp2⟩ := p2.now
  have lq : qs.length ≤ 60 := by rw [hp2.length_eq, List.length_map]; exact l2
  have lt2 := ht2.length
  have hq2 := hq.mono (g1.k.trans g2.k)
  refine b_ifF g2.s (t_is (t_cmpD op_gt (by rfl) (e_len (xs := x.xs.map V.str) B.len (e_var (v := V.ref a) 1) (hq2.imp fun _ _ z => z.any)) (e_cval r c1 (e_glob rfl F.mgN rfl)) (r_I0 (g := fun i j => V.bl (decide (j < i))) (i := ((x.xs.map V.str).length : Int)) (j := 60))) ?_) fun H3 Hc3 g3 => b_nil ?_
  · refine decide_eq_false fun z => ?_
    rw [List.length_map] at z
    omega
  refine b_ifF g3.s (t_is (t_cmpD op_gt (by rfl) (e_len (xs := ts2.map V.ref) B.len (e_var (v := V.ref b2) 3) (fun H' e => .inl (SqL.of (e _ _ (g3.k _ _ hb2))))) (e_cval r c2 (e_glob rfl F.mgN rfl)) (r_I0 (g := fun i j => V.bl (decide (j < i))) (i := ((ts2.map V.ref).length : Int)) (j := 120))) ?_) fun H4 Hc4 g4 => b_nil ?_
  · refine decide_eq_false fun z => ?_
    rw [List.length_map] at z
    omega
  have ga := ((g00.trans g1).trans (g2.trans g3)).trans g4
  have hpc : Hc4 p = some (.ins C dx []) := g4.c _ _ (g3.c _ _ (g2.c _ _ (g1.c _ _ hp)))
  have pn4 : H4 p = none := (g1.trans (g2.trans (g3.trans g4))).un hp hpH
  have hq4 := hq2.mono (g3.k.trans g4.k)
  refine b_fld F.cls F.n1 g4.s (e_callD (x.q, x.xs) F3 (hr.mono (by decide)) (a_consD (e_var 1) a_nil) (fun H' e => ⟨a, rfl, hq4 H' e, l1⟩)) (e_var 0) hpc (by decide) fun v5 H5 Hc5 g5 p5 => ?_
  obtain ⟨c5, ns, rfl, hc5, hp5, sn5⟩ := p5.now
  have pn5 : H5 p = none := g5.un hpc pn4
  have nopp : off Hc p p = none := off_at
  have f1 : putF "_nodes" (V.ref c5) [] = ([("_nodes", V.ref c5)] : List (Str × V)) := rfl
  rw [f1]
  have gb := (ga.trans g5).mut (o := .ins C dx [("_nodes", V.ref c5)]) nopp pn5
  refine b_fld F.cls F.n2 gb.s (P := is (V.ref b2)) (e_var 3) (e_var 0) upd_same (by exact (by decide : 1 < 1000)) fun v6 H6 Hc6 g6 p6 => ?_
  obtain rfl : v6 = V.ref b2 := p6.now
  have pn6 : H6 p = none := g6.un upd_same pn5
  have f2 : putF "_links" (V.ref b2) [("_nodes", V.ref c5)] = ([("_nodes", V.ref c5), ("_links", V.ref b2)] : List (Str × V)) := rfl
  rw [f2]
  have gc := (gb.trans g6).mut (o := .ins C dx [("_nodes", V.ref c5), ("_links", V.ref b2)]) nopp pn6
  have hb6 : H6 b2 = some (.lst (ts2.map V.ref)) := g6.k _ _ (g5.k _ _ (g4.k _ _ (g3.k _ _ hb2)))
  have hc6 := g6.k _ _ hc5
  have ht6 : TsAt H6 ts2 qs := paired_ex (g3.k.trans (g4.k.trans (g5.k.trans g6.k))) ht2
  have nt := nt_of o hp5 hp2 sn5 sp2
  have ep := Ex.put (o := .ins C dx [("_nodes", V.ref c5), ("_links", V.ref b2)]) pn6
  refine b_fld (H := upd H6 p (.ins C dx [("_nodes", V.ref c5), ("_links", V.ref b2)])) F.cls F.n3 (gc.s.own upd_same) (e_callD (ns, qs) F4 (hr.mono (by decide)) (a_consD (e_fld (v := V.ref c5) F.cls F.n1 (e_var 0) (.at upd_same) rfl) (a_consD (e_var 3) a_nil))
    (fun H' e => ⟨c5, b2, ts2, rfl, SqL.of (e _ _ (ep _ _ hc6)), SqL.of (e _ _ (ep _ _ hb6)), paired_ex (ep.trans e) ht6, ⟨nt.len, nt.ll, nt.nd, fun p hp => ⟨(nt.lk p hp).1, (nt.lk p hp).2.1, fun z => Lt.irr _ (z ▸ (nt.lk p hp).2.2)⟩⟩⟩)) (e_var 0) upd_same (by exact (by decide : 2 < 1000)) fun v7 H7 Hc7 g7 p7 => b_nil ?_
  obtain ⟨d, as, rfl, t7⟩ := p7.now
  have f3 : putF "_near" (V.ref d) [("_nodes", V.ref c5), ("_links", V.ref b2)] = ([("_nodes", V.ref c5), ("_links", V.ref b2), ("_near", V.ref d)] : List (Str × V)) := rfl
  rw [f3]
  have p7' := g7.k _ _ upd_same
  have gd := ((gc.lookedK pn6 g7).mut (o := .ins C dx [("_nodes", V.ref c5), ("_links", V.ref b2), ("_near", V.ref d)]) nopp off_at).know nopp off_at upd_same
  refine nx _ _ _ gd fun H' e' => ⟨p, ns, qs, rfl, ⟨dx, c5, b2, d, ts2, as, e' _ _ upd_same, ?_, ?_, ?_, ?_⟩, hp5, hp2, nt⟩
  · exact e' _ _ (off_keep p7' (g7.k _ _ (ep _ _ hc6)) (by intro z; cases z))
  · exact e' _ _ (off_keep p7' (g7.k _ _ (ep _ _ hb6)) (by intro z; cases z))
  · exact Paired.mapP ht6 fun _ _ z => e' _ _ (off_keep p7' (g7.k _ _ (ep _ _ z)) (by intro z; cases z))
  · refine ⟨t7.len, e' _ _ (off_keep p7' t7.dict (by intro z; cases z)), fun j y b h1 h2 => e' _ _ (off_keep p7' (t7.at_ j y b h1 h2) (by intro z; cases z)), t7.nd, t7.out⟩
end
end K19
set_option Elab.async false
set_option linter.all false
set_option maxRecDepth 100000
set_option maxHeartbeats 2000000
namespace K19
open PySem L2 LW
abbrev sNodes : Stmt := inClass sNet 7
abbrev sLinks : Stmt := inClass sNet 8
abbrev sSize : Stmt := inClass sNet 9
abbrev sLen : Stmt := inClass sNet 10
abbrev sCont : Stmt := inClass sNet 22
abbrev sEq : Stmt := inClass sNet 23
abbrev sNeedL : Stmt := top 38
theorem nb_mem {ls : List (Str × Str)} {p : Str × Str} (h : (p.1, p.2) ∈ ls ∨ (p.2, p.1) ∈ ls) (ne : p.1 ≠ p.2) : p.2 ∈ nb ls p.1 := by
  unfold nb
  rw [List.mem_filterMap]
  rcases h with h | h
  · exact ⟨_, h, if_pos rfl⟩
  · exact ⟨_, h, by rw [if_neg (fun e => ne e.symm), if_pos rfl]⟩
theorem lk_mem {ls : List (Str × Str)} {p : Str × Str} (h : lk p ∈ ls) : (p.1, p.2) ∈ ls ∨ (p.2, p.1) ∈ ls := by
  unfold lk at h
  rcases lnk_cases p.1 p.2 with e | e <;> rw [e] at h
  · exact .inl h
  · exact .inr h
section
variable {P : Program} {w : World} {K : PySem.W.Frag} {mg : Str → Option Value} {base : Heap} {f C : Addr} {fd : FuncData}
/-- a net at hand -/
structure NetV where
  a : Addr
  ns : List Str
  ls : List (Str × Str)
def NetV.At (C : Addr) (x : NetV) (H : Hp) : Prop := NetAt C x.a x.ns x.ls H ∧ Nt x.ns x.ls
def ASelf (C : Addr) : NetV → List V → Hp → Prop := fun x vs H => vs = [.ref x.a] ∧ x.At C H
theorem scNodes : FnScope ["self"] ["self"] (defScope sNodes) := ⟨rfl, rfl, rfl, by decide +kernel, rfl, by decide +kernel, by decide +kernel⟩
theorem scLinks : FnScope ["self"] ["self"] (defScope sLinks) := ⟨rfl, rfl, rfl, by decide +kernel, rfl, by decide +kernel, by decide +kernel⟩
theorem scSize : FnScope ["self"] ["self"] (defScope sSize) := ⟨rfl, rfl, rfl, by decide +kernel, rfl, by decide +kernel, by decide +kernel⟩
theorem scLen : FnScope ["self"] ["self"] (defScope sLen) := ⟨rfl, rfl, rfl, by decide +kernel, rfl, by decide +kernel, by decide +kernel⟩
def RNodes : NetV → V → Hp → Prop := fun x v H => ∃ b, v = .ref b ∧ H b = some (.lst (x.ns.map V.str))
def RLinks : NetV → V → Hp → Prop := fun x => RPs x.ls
def RSize : NetV → V → Hp → Prop := fun x v _ => v = .int (x.ls.length : Int)
def RLen : NetV → V → Hp → Prop := fun x v _ => v = .int (x.ns.length : Int)
theorem b_nodes (B : Blt K mg) (F : NetF K mg C) : Body P w K mg base ["self"] "Net.nodes" sNodes f 0 (ASelf C) RNodes := by
  intro cdv Ar outer s H0 E x vs H Hc D hr ex pa rt nx
  obtain ⟨rfl, ⟨dx, l1, l2, l3, ts, as, h1, h2, h3, h4, h5⟩, nt⟩ := pa.now
  exact b_ret ex (e_listOf (a := l1) (xs := x.ns.map V.str) B.list (e_fld (v := V.ref l1) F.cls F.n1 (e_var 0) (.at h1) rfl) (fun H' e => .inl (SqL.of (e _ _ h2)))) fun v Hn H2 g p => rt v _ _ g p
theorem b_links (B : Blt K mg) (F : NetF K mg C) : Body P w K mg base ["self"] "Net.links" sLinks f 0 (ASelf C) RLinks := by
  intro cdv Ar outer s H0 E x vs H Hc D hr ex pa rt nx
  obtain ⟨rfl, ⟨dx, l1, l2, l3, ts, as, h1, h2, h3, h4, h5⟩, nt⟩ := pa.now
  exact b_ret ex (e_listOf (a := l2) (xs := ts.map V.ref) B.list (e_fld (v := V.ref l2) F.cls F.n2 (e_var 0) (.at h1) rfl) (fun H' e => .inl (SqL.of (e _ _ h3)))) fun v Hn H2 g p => rt v _ _ g (p.imp fun H' e ⟨b, z1, z2⟩ => ⟨b, ts, z1, z2, paired_ex (g.k.trans e) h4⟩)
theorem b_size (B : Blt K mg) (F : NetF K mg C) : Body P w K mg base ["self"] "Net.size" sSize f 0 (ASelf C) RSize := by
  intro cdv Ar outer s H0 E x vs H Hc D hr ex pa rt nx
  obtain ⟨rfl, ⟨dx, l1, l2, l3, ts, as, h1, h2, h3, h4, h5⟩, nt⟩ := pa.now
  have e : (ts.map V.ref).length = x.ls.length := by rw [List.length_map]; exact h4.length
  exact b_ret (P := is (V.int (x.ls.length : Int))) ex (t_is (e_len (xs := ts.map V.ref) B.len (e_fld (v := V.ref l2) F.cls F.n2 (e_var 0) (.at h1) rfl) (fun H' e => .inl (SqL.of (e _ _ h3)))) (by rw [e])) fun v Hn H2 g p => rt v _ _ g p
theorem b_len (B : Blt K mg) (F : NetF K mg C) : Body P w K mg base ["self"] "Net.__len__" sLen f 0 (ASelf C) RLen := by
  intro cdv Ar outer s H0 E x vs H Hc D hr ex pa rt nx
  obtain ⟨rfl, ⟨dx, l1, l2, l3, ts, as, h1, h2, h3, h4, h5⟩, nt⟩ := pa.now
  have e : (x.ns.map V.str).length = x.ns.length := List.length_map _
  exact b_ret (P := is (V.int (x.ns.length : Int))) ex (t_is (e_len (xs := x.ns.map V.str) B.len (e_fld (v := V.ref l1) F.cls F.n1 (e_var 0) (.at h1) rfl) (fun H' e => .inl (SqL.of (e _ _ h2)))) (by rw [e])) fun v Hn H2 g p => rt v _ _ g p
/-! a link of the net -/
def ACont (C : Addr) (K : PySem.W.Frag) : NetV × (Str × Str) → List V → Hp → Prop := fun x vs H => ∃ t, vs = [.ref x.1.a, .ref t] ∧ SqT K H t [.str x.2.1, .str x.2.2] ∧ x.1.At C H ∧ Lk x.2 ∧ lk x.2 ∈ x.1.ls
theorem scCont : FnScope ["self", "x"] ["self", "x"] (defScope sCont) := ⟨rfl, rfl, rfl, by decide +kernel, rfl, by decide +kernel, by decide +kernel⟩
theorem b_cont (B : Blt K mg) (F : NetF K mg C) (FI : Fn P w K mg base "is_link" 2 (AIsL K) RTrue) : Body P w K mg base ["self", "x"] "Net.__contains__" sCont f 2 (ACont C K) RTrue := by
  intro cdv Ar outer s H0 E x vs H Hc D hr ex pa rt nx
  obtain ⟨x, p⟩ := x
  obtain ⟨t, rfl, hT, ⟨⟨dx, l1, l2, l3, ts, as, h1, h2, h3, h4, h5⟩, nt⟩, hl, hm⟩ := pa.now
  have hT : SqT K H t [.str p.1, .str p.2] := hT
  have hm : lk p ∈ x.ls := hm
  have h1 : H x.a = some (.ins C dx [("_nodes", .ref l1), ("_links", .ref l2), ("_near", .ref l3)]) := h1
  have h5 : Tb H l3 x.ns as (nb x.ls) := h5
  have nt : Nt x.ns x.ls := nt
  have hq := Pz.sqt hT
  have m2 := lk_mem hm
  have m1 : p.1 ∈ x.ns := m2.elim (fun z => (nt.lk _ z).1) fun z => (nt.lk _ z).2.1
  obtain ⟨j, hj⟩ := List.getElem?_of_mem m1
  obtain ⟨a1, k1⟩ : ∃ a1, as[j]? = some a1 := ⟨_, List.getElem?_eq_getElem (by rw [← h5.len]; exact (List.getElem?_eq_some_iff.mp hj).1)⟩
  have hv := tbl_val h5.len nt.nd hj k1
  refine b_ifT ex (t_val (e_callD p FI hr (a_consD (e_var 1) a_nil) (fun H' e => ⟨t, rfl, hq H' e, hl⟩))) fun Hn H2 g => ?_
  have hn : Pz Hn (fun H' => DGet H' l3 (V.str p.1) (some (.ref a1))) := by
    have q := pz_dK (key := .inr p.1) (Pz.at (g.k _ _ h5.dict))
    rw [hv] at q
    exact q
  have fl : ∀ {H'}, Ex Hn H' → Pz H' (fun H'' => H'' x.a = some (.ins C dx [("_nodes", .ref l1), ("_links", .ref l2), ("_near", .ref l3)])) := fun e => .at (e _ _ (g.k _ _ h1))
  refine b_ret (P := is (V.bl true)) g.s (e_and (k := true) (k' := true) (t_is (e_din (hu_of hr) (e_itemT (j := 0) (e_var 1) e_int (hq.mono g.k) rfl) (e_fld (v := V.ref l3) F.cls F.n3 (e_var 0) (fl (Evl.Ex.refl _)) rfl) hn) rfl) fun _ =>
    e_one (t_is (e_inS (z := p.2) (xs := nb x.ls p.1) (e_itemT (j := 1) (e_var 1) e_int (hq.mono g.k) rfl) (e_dget (hu_of hr) (e_fld (v := V.ref l3) F.cls F.n3 (e_var 0) (fl (Evl.Ex.refl _)) rfl) (e_itemT (j := 0) (e_var 1) e_int (hq.mono g.k) rfl) hn) (fun H' e => .inl (SqL.of (e _ _ (g.k _ _ (h5.at_ _ _ _ hj k1)))))) (by rw [decide_eq_true (nb_mem m2 hl.2.2)]))) fun v Hn2 H3 g3 q => rt v _ _ (g.trans g3) q
def ANeedL (C : Addr) (K : PySem.W.Frag) : NetV × (Str × Str) → List V → Hp → Prop := ACont C K
theorem scNeedL : FnScope ["net", "link"] ["net", "link"] (defScope sNeedL) := ⟨rfl, rfl, rfl, by decide +kernel, rfl, by decide +kernel, by decide +kernel⟩
theorem b_needL (B : Blt K mg) (FI : Fn P w K mg base "is_link" 2 (AIsL K) RTrue) (FC : Opx P w K mg base C "__contains__" 3 (ACont C K) RTrue) : Body P w K mg base ["net", "link"] "need_link" sNeedL f 3 (ACont C K) RNon := by
  intro cdv Ar outer s H0 E x vs H Hc D hr ex pa rt nx
  obtain ⟨x, p⟩ := x
  obtain ⟨t, rfl, hT, hA, hl, hm⟩ := pa.now
  have hT : SqT K H t [.str p.1, .str p.2] := hT
  have hq := Pz.sqt hT
  have hA : x.At C H := hA
  obtain ⟨⟨dx, l1, l2, l3, ts, as, h1, hrest⟩, nt⟩ := id hA
  refine b_ifF ex (t_w (w_or (k := false) (k' := false) (t_not (k := true) (t_val (e_callD p FI (hr.mono (by decide)) (a_consD (e_var 1) a_nil) (fun H' e => ⟨t, rfl, hq H' e, hl⟩)))) fun _ =>
    w_or1 (t_nin (c := true) (y := (x, p)) FC hr (e_var 1) (e_var 0) (.at h1) (fun H' e => ⟨t, rfl, hq H' e, ⟨hA.1.ex e, hA.2⟩, hl, hm⟩) (fun _ _ z => z)))) fun Hn H2 g => b_nil (b_nil (nx _ _ _ g (.const rfl)))
/-! == of nets -/
/-- what isinstance asks of the class -/
structure NetTy (K : PySem.W.Frag) (C : Addr) : Prop where
  ha : PySem.W.findIn K (.ref C) "__class__" = some (some (.builtin "object.__class__"))
  hn : PySem.W.specialIn K (.builtin "object.__class__") "__get__" = some (some (.builtin "getset_descriptor.__get__"))
  htk : PySem.W.takesIn K (.builtin "object.__class__") = some true
  hm : PySem.W.mroIn K C (.type "object") = some true
  kit : PySem.W.kitOne K (.ref C) (.ref C) = some true
def AEq (C : Addr) : NetV × NetV → List V → Hp → Prop := fun x vs H => vs = [.ref x.1.a, .ref x.2.a] ∧ x.1.At C H ∧ x.2.At C H
def REq : NetV × NetV → V → Hp → Prop := fun x v _ => v = .bl (decide (x.1.ns = x.2.ns ∧ x.1.ls = x.2.ls))
theorem scEq : FnScope ["self", "other"] ["self", "other"] (defScope sEq) := ⟨rfl, rfl, rfl, by decide +kernel, rfl, by decide +kernel, by decide +kernel⟩
theorem Nt.nml {ns : List Str} {ls : List (Str × Str)} (nt : Nt ns ls) : ∀ p ∈ ls, Nm p.1 ∧ Nm p.2 := fun p hp => ⟨nt.nm _ (nt.lk p hp).1, nt.nm _ (nt.lk p hp).2.1⟩
theorem b_eq (B : Blt K mg) (F : NetF K mg C) (T : NetTy K C) : Body P w K mg base ["self", "other"] "Net.__eq__" sEq f 0 (AEq C) REq := by
  intro cdv Ar outer s H0 E x vs H Hc D hr ex pa rt nx
  obtain ⟨x, y⟩ := x
  obtain ⟨rfl, ⟨⟨dx, l1, l2, l3, ts, as, h1, h2, h3, h4, h5⟩, nt⟩, ⟨dy, m1, m2, m3, us, bs, k1, k2, k3, k4, k5⟩, nt'⟩ := pa.now
  have h1 : H x.a = some (.ins C dx [("_nodes", .ref l1), ("_links", .ref l2), ("_near", .ref l3)]) := h1
  have k1 : H y.a = some (.ins C dy [("_nodes", .ref m1), ("_links", .ref m2), ("_near", .ref m3)]) := k1
  have h2 : H l1 = some (.lst (x.ns.map V.str)) := h2
  have k2 : H m1 = some (.lst (y.ns.map V.str)) := k2
  have h4 : TsAt H ts x.ls := h4
  have k4 : TsAt H us y.ls := k4
  have nt : Nt x.ns x.ls := nt
  have nt' : Nt y.ns y.ls := nt'
  have hu : (fx P w K mg base ["self", "other"] "Net.__eq__" sEq f cdv Ar outer s H0 E).A.units + 64 < cLine := hr.units
  refine b_ret (P := is (V.bl (decide (x.ns = y.ns ∧ x.ls = y.ls)))) ex (t_is (e_and (k := true) (k' := decide (x.ns = y.ns) && decide (x.ls = y.ls)) (e_isi (ty := .ref C) (u := .ref C) (c := V.ref C) B.isi (e_var (v := V.ref y.a) 1) (e_glob (v := V.ref C) rfl F.mgN rfl) (fun H' e => .base (.ins (e _ _ k1) F.cls T.ha T.hn T.htk T.hm)) (.own C) T.kit) fun _ =>
    e_and (k := decide (x.ns = y.ns)) (e_eqTxts hu (e_fld (v := V.ref l1) F.cls F.n1 (e_var 0) (.at h1) rfl) (e_fld (v := V.ref m1) F.cls F.n1 (e_var 1) (.at k1) rfl) (fun H' e => SqL.of (e _ _ h2)) (fun H' e => SqL.of (e _ _ k2)) nt.nm nt'.nm) fun _ =>
      e_one (e_eqPrs hu (e_fld (v := V.ref l2) F.cls F.n2 (e_var 0) (.at h1) rfl) (e_fld (v := V.ref m2) F.cls F.n2 (e_var 1) (.at k1) rfl) (fun H' e => ⟨SqL.of (e _ _ h3), paired_ex e h4⟩) (fun H' e => ⟨SqL.of (e _ _ k3), paired_ex e k4⟩) nt.nml nt'.nml)) ?_) fun v Hn H2 g q => rt v _ _ g q
  rw [Bool.true_and, ← Bool.decide_and]
end
end K19
set_option Elab.async false
set_option linter.all false
set_option maxRecDepth 100000
set_option maxHeartbeats 2000000
namespace K19
open PySem L2 LW
abbrev sOf : Stmt := inClass sNet 3
abbrev sPath : Stmt := inClass sNet 4
abbrev sRing : Stmt := inClass sNet 5
abbrev sFull : Stmt := inClass sNet 6
theorem lk_eq {p q : Str × Str} (h : lk p = lk q) : (p.1 = q.1 ∧ p.2 = q.2) ∨ (p.1 = q.2 ∧ p.2 = q.1) := by
  unfold lk at h
  rcases lnk_cases p.1 p.2 with e | e <;> rcases lnk_cases q.1 q.2 with e2 | e2 <;> rw [e, e2] at h <;> injection h with h1 h2
  · exact .inl ⟨h1, h2⟩
  · exact .inr ⟨h1, h2⟩
  · exact .inr ⟨h2, h1⟩
  · exact .inl ⟨h2, h1⟩
theorem nd_at {α : Type} {xs : List α} (nd : xs.Nodup) {i j : Nat} {x : α} (h1 : xs[i]? = some x) (h2 : xs[j]? = some x) : i = j := by
  obtain ⟨l1, e1⟩ := List.getElem?_eq_some_iff.mp h1
  obtain ⟨l2, e2⟩ := List.getElem?_eq_some_iff.mp h2
  exact (List.getElem_inj (h₀ := l1) (h₁ := l2) nd).mp (e1.trans e2.symm)
theorem along_at {xs : List Str} {i : Nat} {p : Str × Str} (h : (along xs)[i]? = some p) : xs[i]? = some p.1 ∧ xs[i + 1]? = some p.2 := by
  unfold along at h
  obtain ⟨a, b⟩ := List.getElem?_zip_eq_some.mp h
  rw [List.getElem?_drop, Nat.add_comm] at b
  exact ⟨a, b⟩
theorem along_lks {xs : List Str} (N : Nds xs) : (∀ p ∈ along xs, Lk p ∧ p.1 ∈ xs ∧ p.2 ∈ xs) ∧ ((along xs).map lk).Nodup := by
  refine ⟨fun p hp => ?_, List.pairwise_iff_getElem.mpr fun i j hi hj hij e => ?_⟩
  · obtain ⟨i, hi⟩ := List.getElem?_of_mem hp
    obtain ⟨a, b⟩ := along_at hi
    have ma := List.mem_of_getElem? a
    have mb := List.mem_of_getElem? b
    exact ⟨⟨N.nm _ ma, N.nm _ mb, fun z => by rw [z] at a; have := nd_at N.nd a b; omega⟩, ma, mb⟩
  · rw [List.length_map] at hi hj
    rw [List.getElem_map, List.getElem_map] at e
    obtain ⟨a, b⟩ := along_at (List.getElem?_eq_getElem hi)
    obtain ⟨c, d⟩ := along_at (List.getElem?_eq_getElem hj)
    rcases lk_eq e with ⟨z, _⟩ | ⟨z, _⟩
    · rw [z] at a; have := nd_at N.nd a c; omega
    · rw [z] at a; have := nd_at N.nd a d; omega
/-- .. and back to the first -/
def around (xs : List Str) : List (Str × Str) := match xs.getLast?, xs.head? with
  | some z, some a => along xs ++ [(z, a)]
  | _, _ => along xs
theorem around_of {xs : List Str} (h : 3 ≤ xs.length) : ∃ z a, xs[xs.length - 1]? = some z ∧ xs[0]? = some a ∧ around xs = along xs ++ [(z, a)] := by
  refine ⟨xs[xs.length - 1]'(by omega), xs[0]'(by omega), List.getElem?_eq_getElem _, List.getElem?_eq_getElem _, ?_⟩
  unfold around
  rw [List.getLast?_eq_getElem?, List.head?_eq_getElem?, List.getElem?_eq_getElem (by omega : xs.length - 1 < xs.length), List.getElem?_eq_getElem (by omega : 0 < xs.length)]
theorem around_lks {xs : List Str} (N : Nds xs) (h : 3 ≤ xs.length) : (∀ p ∈ around xs, Lk p ∧ p.1 ∈ xs ∧ p.2 ∈ xs) ∧ ((around xs).map lk).Nodup := by
  obtain ⟨k1, k2⟩ := along_lks N
  obtain ⟨z, a, hz, ha, e⟩ := around_of h
  have mz := List.mem_of_getElem? hz
  have ma := List.mem_of_getElem? ha
  have ne : z ≠ a := fun q => by rw [q] at hz; have := nd_at N.nd hz ha; omega
  rw [e]
  refine ⟨fun p hp => ?_, ?_⟩
  · rcases List.mem_append.mp hp with m | m
    · exact k1 p m
    · rw [List.mem_singleton.mp m]
      exact ⟨⟨N.nm _ mz, N.nm _ ma, ne⟩, mz, ma⟩
  · rw [List.map_append]
    refine List.nodup_append.mpr ⟨k2, List.nodup_cons.mpr ⟨List.not_mem_nil, List.nodup_nil⟩, fun p hp q hq e2 => ?_⟩
    rw [List.mem_singleton.mp hq] at e2
    obtain ⟨r, hr, rfl⟩ := List.mem_map.mp hp
    obtain ⟨i, hi⟩ := List.getElem?_of_mem hr
    obtain ⟨b, c⟩ := along_at hi
    have li := (List.getElem?_eq_some_iff.mp c).1
    rcases lk_eq e2 with ⟨q1, q2⟩ | ⟨q1, q2⟩
    · rw [q1] at b; have := nd_at N.nd b hz; omega
    · rw [q1] at b; rw [q2] at c; have := nd_at N.nd b ha; have := nd_at N.nd c hz; omega
section
variable {P : Program} {w : World} {K : PySem.W.Frag} {mg : Str → Option Value} {base : Heap} {f fi C : Addr} {fd : FuncData}
/-- the class makes nets -/
structure MkN (P : Program) (w : World) (K : PySem.W.Frag) (mg : Str → Option Value) (base : Heap) (C fi : Addr) : Prop where
  cl : Mk K C fi
  init : FnR P w K mg base CX0 5 fi (SpI C (ANet K) (RNet C))
/-- a net of these nodes and pairs -/
def RMade (C : Addr) (xs : List Str) (ps : List (Str × Str)) : V → Hp → Prop := fun v H => ∃ a ns ls, v = .ref a ∧ NetAt C a ns ls H ∧ ns.Perm xs ∧ ls.Perm (ps.map lk) ∧ Nt ns ls
end
end K19
set_option Elab.async false
set_option linter.all false
set_option maxRecDepth 100000
set_option maxHeartbeats 2000000
namespace K19
open PySem L2 LW
theorem keys_old {κ : Type} [DecidableEq κ] {kvs : List (κ × V)} {k : κ} (v : V) (h : k ∈ kvs.map (·.1)) : (putK kvs k v).map (·.1) = kvs.map (·.1) := by
  obtain ⟨q, hq, e⟩ := List.mem_map.mp h
  have ha : (kvs.any fun kv => decide (kv.1 = k)) = true := List.any_eq_true.mpr ⟨q, hq, decide_eq_true e⟩
  unfold putK
  rw [if_pos ha, List.map_map]
  exact List.map_congr_left fun p _ => by
    show (if p.1 = k then (p.1, v) else p).1 = p.1
    split <;> rfl
theorem keys_new {κ : Type} [DecidableEq κ] {kvs : List (κ × V)} {k : κ} (v : V) (h : k ∉ kvs.map (·.1)) : (putK kvs k v).map (·.1) = kvs.map (·.1) ++ [k] := by
  rw [putK_new v (valV_none h), List.map_append] <;> rfl
/-- the names so far -/
structure Seen (kvs : List (Key × V)) (ks : List Str) : Prop where
  keys : kvs.map (·.1) = ks.map Sum.inr
  nd : ks.Nodup
theorem Seen.put {kvs : List (Key × V)} {ks : List Str} (s : Seen kvs ks) (x : Str) (v : V) : Seen (putK kvs (.inr x) v) (if x ∈ ks then ks else ks ++ [x]) := by
  have m : (Sum.inr x : Key) ∈ kvs.map (·.1) ↔ x ∈ ks := by
    rw [s.keys]
    exact ⟨fun h => by obtain ⟨y, hy, e⟩ := List.mem_map.mp h; exact Sum.inr.inj e ▸ hy, fun h => List.mem_map.mpr ⟨x, h, rfl⟩⟩
  refine ⟨?_, ?_⟩
  · by_cases h : x ∈ ks
    · rw [keys_old v (m.mpr h), if_pos h]; exact s.keys
    · rw [keys_new v (fun z => h (m.mp z)), if_neg h, s.keys, List.map_append] <;> rfl
  · by_cases h : x ∈ ks
    · rw [if_pos h]; exact s.nd
    · rw [if_neg h]
      exact List.nodup_append.mpr ⟨s.nd, List.nodup_cons.mpr ⟨List.not_mem_nil, List.nodup_nil⟩, fun a ha b hb z => h (by rw [List.mem_singleton.mp hb] at z; exact z ▸ ha)⟩
theorem mem_put {ks : List Str} {x y : Str} : y ∈ (if x ∈ ks then ks else ks ++ [x]) ↔ y ∈ ks ∨ y = x := by
  by_cases h : x ∈ ks
  · rw [if_pos h]
    exact ⟨.inl, fun z => z.elim id fun e => e ▸ h⟩
  · rw [if_neg h, List.mem_append, List.mem_singleton]
theorem lk_lk {p : Str × Str} (h : Lt p.1 p.2) : lk p = p := by
  unfold lk lnk
  rw [if_pos h]
section
variable {P : Program} {w : World} {K : PySem.W.Frag} {mg : Str → Option Value} {base : Heap} {f fi C : Addr} {fd : FuncData}
structure Ofs (ps : List (Str × Str)) : Prop where
  len : ps.length ≤ 30
  ne : ps ≠ []
  lk : ∀ p ∈ ps, Lk p
  nd : (ps.map K19.lk).Nodup
def AOf (K : PySem.W.Frag) : List (Str × Str) → List V → Hp → Prop := fun ps vs H => ∃ t ts, vs = [.ref t] ∧ SqT K H t (ts.map V.ref) ∧ TsAt H ts ps ∧ Ofs ps
def ROf (C : Addr) : List (Str × Str) → V → Hp → Prop := fun ps v H => ∃ a ns ls, v = .ref a ∧ NetAt C a ns ls H ∧ (∀ x, x ∈ ns ↔ ∃ p ∈ ps, x = p.1 ∨ x = p.2) ∧ ls.Perm (ps.map lk) ∧ Nt ns ls
abbrev nOf : List Str := ["links", "kept", "nodes", "one", "other"]
theorem scOf : FnScope nOf ["links"] (defScope sOf) := ⟨rfl, rfl, rfl, by decide +kernel, rfl, by decide +kernel, by decide +kernel⟩
end
end K19
set_option Elab.async false
set_option linter.all false
set_option maxRecDepth 100000
set_option maxHeartbeats 2000000
namespace K19
open PySem L2 LW
section
variable {P : Program} {w : World} {K : PySem.W.Frag} {mg : Str → Option Value} {base : Heap} {f : Addr} {fd : FuncData}
def APot (K : PySem.W.Frag) : List Int × Int → List V → Hp → Prop := fun x vs H => ∃ a, vs = [.ref a, .int x.2] ∧ SqL K H a (x.1.map V.int) ∧ 0 ≤ x.2 ∧ x.2 < 10
def RPot {α : Type} : α → V → Hp → Prop := fun _ v H => ∃ p, v = .ref p ∧ H p = some (PotO p)
abbrev nPot : List Str := ["_law_script", "_law_k", "_law_cell"]
theorem scPot : FnScope nPot ["_law_script", "_law_k"] (defScope sPot) := ⟨rfl, rfl, rfl, by decide +kernel, rfl, by decide +kernel, by decide +kernel⟩
theorem b_pot (B : BltL mg) : Body P w K mg base nPot "_law_pot" sPot f 0 (APot K) RPot := by
  intro cdv Ar outer s H0 E x vs H Hc D hr ex pa rt nx
  obtain ⟨xs, k⟩ := x
  obtain ⟨a, rfl, h1, hk, hk2⟩ := pa.now
  have h1 : SqL K H a (xs.map V.int) := h1
  have hk : 0 ≤ k := hk
  have hk2 : k < 10 := hk2
  have hq := Pz.sql h1
  refine b_set 2 ex (P := is (V.int (29 * k + 8))) (e_opD op_add (e_opD op_mul e_int (e_var 1) (r_I (g := fun i j => V.int (i * j)) (i := 29) (j := k) (.inl ⟨by decide, by decide⟩))) e_int (r_I0 (g := fun i j => V.int (i + j)) (i := 29 * k) (j := 8))) (fun v H1 Hc1 g1 p1 => ?_) scPot.nd
  obtain rfl : v = V.int (29 * k + 8) := p1.now
  have fin : ∀ (c : Int) (Hn H2 : Hp), Grow H Hc Hn H2 → wB (fx P w K mg base nPot "_law_pot" sPot f cdv Ar outer s H0 E) ((defBody sPot).drop 2) D [some (.ref a), some (.int k), some (.int c)] H2 := fun c Hn H2 g => by
    generalize hb : (c % 2147483549 + 7) * (2 * k + 3) ^ 3 % 2147483477 + 1 = b
    have c0 : 0 ≤ c % 2147483549 := Int.emod_nonneg _ (by decide)
    have c1 : c % 2147483549 < 2147483549 := Int.emod_lt_of_pos _ (by decide)
    have b0 : 0 ≤ b := by rw [← hb]; have := Int.emod_nonneg ((c % 2147483549 + 7) * (2 * k + 3) ^ 3) (show (2147483477 : Int) ≠ 0 by decide); omega
    have b1 : b < 2147483648 := by rw [← hb]; have := Int.emod_lt_of_pos ((c % 2147483549 + 7) * (2 * k + 3) ^ 3) (show (0 : Int) < 2147483477 by decide); omega
    refine b_retPot (a := if c - 1000000000000000000 > 0 then c - 1000000000000000000 else 0) (b := b) g.s (a_consD (e_bltD (call_max2 rfl) B.max (a_consD e_int (a_consD (e_opD op_sub (e_var 2) (e_opD op_pow e_int e_int (t_is (r_I (g := fun i j => V.int (i ^ j.toNat)) (i := 10) (j := 18) ⟨by decide, by decide, by decide⟩) (by rfl))) (r_I0 (g := fun i j => V.int (i - j)) (i := c) (j := 1000000000000000000))) a_nil)) ?_) (a_consD ?_ a_nil)) (by split <;> omega) b0 b1 fun p Hn2 H3 g2 hp => rt _ _ _ (g.trans g2) fun H' e => ⟨p, rfl, e _ _ hp⟩
    · exact Cm.ret (fun _ _ _ q => ⟨_, _, rfl, q⟩) (.const rfl)
    · refine t_is (e_opD op_add (e_opD op_mod (e_opD op_mul (e_tyD (P := is (V.int (c % 2147483549 + 7))) call_int1 B.int (a_consD (e_opD op_add (e_opD op_mod (e_tyD (P := is (V.int c)) call_int1 B.int (a_consD (e_var 2) a_nil) (Cm.ret (fun _ _ _ q => .inl ⟨_, rfl, q⟩) (.const rfl))) e_int (r_I (g := fun i j => V.int (i % j)) (i := c) (j := 2147483549) (by decide))) e_int (r_I0 (g := fun i j => V.int (i + j)) (i := c % 2147483549) (j := 7))) a_nil) (Cm.ret (fun _ _ _ q => .inl ⟨_, rfl, q⟩) (.const rfl)))
        (e_opD op_pow (e_opD op_add (e_opD op_mul e_int (e_var 1) (r_I (g := fun i j => V.int (i * j)) (i := 2) (j := k) (.inl ⟨by decide, by decide⟩))) e_int (r_I0 (g := fun i j => V.int (i + j)) (i := 2 * k) (j := 3))) e_int (r_I (g := fun i j => V.int (i ^ j.toNat)) (i := 2 * k + 3) (j := 3) ⟨by decide, by decide, by omega⟩)) (r_I (g := fun i j => V.int (i * j)) (i := c % 2147483549 + 7) (j := (2 * k + 3) ^ (3 : Int).toNat) (.inl ⟨by omega, by omega⟩))) e_int
        (r_I (g := fun i j => V.int (i % j)) (i := (c % 2147483549 + 7) * (2 * k + 3) ^ (3 : Int).toNat) (j := 2147483477) (by decide))) e_int (r_I0 (g := fun i j => V.int (i + j)) (i := (c % 2147483549 + 7) * (2 * k + 3) ^ (3 : Int).toNat % 2147483477) (j := 1))) ?_
      rw [← hb] <;> rfl
  have hq1 := hq.mono g1.k
  refine b_if g1.s (k := decide (k < ((xs.map V.int).length : Int))) (t_cmpD op_lt (by rfl) (e_var 1) (e_len (xs := xs.map V.int) B.len (e_var (v := V.ref a) 0) (hq1.imp fun _ _ z => .inl z)) (r_I0 (g := fun i j => V.bl (decide (i < j))) (i := k) (j := ((xs.map V.int).length : Int)))) (fun hk3 Hn H2 g2 => ?_) fun _ Hn H2 g2 => b_nil (fin _ _ _ (g1.trans g2))
  have hk4 : k < (xs.length : Int) := by have z := of_decide_eq_true hk3; rw [List.length_map] at z; exact z
  obtain ⟨n, rfl⟩ : ∃ n : Nat, k = (n : Int) := ⟨k.toNat, by omega⟩
  have hn : n < xs.length := by omega
  refine b_set 2 g2.s (P := is (V.int (if xs[n] < 0 then -xs[n] else xs[n]))) (e_bltD call_abs B.abs (a_consD (v := V.int xs[n]) (e_item (j := n) (e_var 0) (e_var 1) (hq1.mono g2.k) (by rw [List.getElem?_map, List.getElem?_eq_getElem hn] <;> rfl)) a_nil) (Cm.ret (fun _ _ _ q => ⟨_, rfl, q⟩) (.const rfl))) (fun v H3 H4 g3 p3 => ?_) scPot.nd
  obtain rfl : v = V.int (if xs[n] < 0 then -xs[n] else xs[n]) := p3.now
  exact b_nil (fin _ _ _ ((g1.trans g2).trans g3))
end
end K19
set_option Elab.async false
set_option linter.all false
set_option maxRecDepth 100000
set_option maxHeartbeats 2000000
namespace K19
open PySem L2 LW
section
variable {P : Program} {w : World} {K : PySem.W.Frag} {mg : Str → Option Value} {base : Heap} {f : Addr} {fd : FuncData}
def AP2 : Str × Str → List V → Hp → Prop := fun p vs _ => vs = [.str p.1, .str p.2]
abbrev nLink : List Str := ["_law_this", "_law_mate"]
theorem scLink : FnScope nLink nLink (defScope sLink) := ⟨rfl, rfl, rfl, by decide +kernel, rfl, by decide +kernel, by decide +kernel⟩
theorem b_link : Body P w K mg base nLink "_law_link" sLink f 0 AP2 RLkO := by
  intro cdv Ar outer s H0 E x vs H Hc D hr ex pa rt nx
  obtain rfl := pa.now
  refine b_ret (P := pr (lnk x.1 x.2)) ex (e_if (k := decide (Lt x.1 x.2)) (t_cmpD op_lt_str (by rfl) (e_var 0) (e_var 1) (Cm.ret (fun _ _ _ q => ⟨x.1, x.2, rfl, rfl, q⟩) (.const rfl))) (fun hk => ?_) fun hk => ?_) fun v Hn3 H4 g3 p => rt v _ _ g3 p
  · refine e_tup (a_consD (e_var 0) (a_consD (e_var 1) a_nil)) (fun xs _ z => by rw [show xs = _ from z]; exact (by decide : 2 ≤ 100000)) fun xs p H1 e1 z hp => ?_
    rw [show xs = _ from z.now] at hp
    exact fun H' e' => ⟨p, rfl, by rw [show lnk x.1 x.2 = (x.1, x.2) from if_pos (of_decide_eq_true hk)]; exact e' _ _ hp⟩
  · refine e_tup (a_consD (e_var 1) (a_consD (e_var 0) a_nil)) (fun xs _ z => by rw [show xs = _ from z]; exact (by decide : 2 ≤ 100000)) fun xs p H1 e1 z hp => ?_
    rw [show xs = _ from z.now] at hp
    exact fun H' e' => ⟨p, rfl, by rw [show lnk x.1 x.2 = (x.2, x.1) from if_neg (of_decide_eq_false hk)]; exact e' _ _ hp⟩
/-! a name is drawn -/
def APt : Addr → List V → Hp → Prop := fun p vs H => vs = [.ref p] ∧ H p = some (PotO p)
def RNm {α : Type} : α → V → Hp → Prop := fun _ v _ => ∃ x, v = .str x ∧ Nm x
theorem abc_at {i : Nat} (h : i < 26) : ("abcdefghijklmnopqrstuvwxyz" : Str).cps.toList[i]? = some (i + 97) := by
  have e : ("abcdefghijklmnopqrstuvwxyz" : Str).cps.toList = (List.range 26).map (· + 97) := by decide +kernel
  rw [e, List.getElem?_map, List.getElem?_range h] <;> rfl
theorem ad {p : Addr} {n : Int} {H : Hp} (h : H p = some (PotO p)) (h1 : 0 < n) (h2 : n < 1073741824) : AD (p, n) [.ref p, .int n] H := ⟨rfl, h, h1, h2⟩
end
end K19
set_option Elab.async false
set_option linter.all false
set_option maxRecDepth 100000
set_option maxHeartbeats 2000000
/-! while; pop; a comprehension that changes a list of one's own -/
namespace LW
open PySem L2
section
variable {X : Cx} {σ : St} {H Hc : Hp} {c e o : Expr} {body rest : List Stmt} {pos px apos cpos : Pos} {D : Ends}
/-- where a turn of the loop ends: with less to do -/
def less (H : Hp) (J : Nat → St → Hp → Hp → Prop) (m : Nat) (σ4 : St) (H4 : Hp) : Prop := ∃ m' H5, m' < m ∧ Ex H H5 ∧ Ex H5 H4 ∧ J m' σ4 H5 H4
theorem b_while (hp : PassesOwn (model X.prog X.w) X.A X.env X.xe) {J : Nat → St → Hp → Hp → Prop} {m0 : Nat} (ex : Ex H Hc) (h0 : J m0 σ H Hc)
    (hs : ∀ m σ1 H1 Hc1, Ex H H1 → Ex H1 Hc1 → J m σ1 H1 Hc1 → ∃ (k : Bool) (H0 : Hp), Ex H0 Hc1 ∧ Cm H0 (is k) (wT X c σ1) ∧
      (k = true → ∀ Hn H2, Grow H0 Hc1 Hn H2 → wB X body { D with nx := less H J m, ct := less H J m, bk := wB X rest D } σ1 H2) ∧ (k = false → ∀ Hn H2, Grow H0 Hc1 Hn H2 → wB X rest D σ1 H2)) :
    wB X (.While c body [] pos :: rest) D σ Hc := by
  refine b_cons (w_s (ps_while hp pt_w pss_w) ⟨fun m σ1 Hc1 => ∃ H1, Ex H H1 ∧ Ex H1 Hc1 ∧ J m σ1 H1 Hc1, ⟨m0, H, Evl.Ex.refl _, ex, h0⟩, ?_⟩)
  rintro m σ1 Hc1 ⟨H1, e1, e2, j⟩
  obtain ⟨k, H0, e0, hc, hT, hF⟩ := hs m σ1 H1 Hc1 e1 e2 j
  refine hc Hc1 e0 _ fun b Hn H2 g p => ?_
  have q : b = k := p.now
  subst q
  cases b with
  | true =>
    rw [if_pos rfl]
    exact ⟨less H J m, fun σ' H' ⟨m', H5, a, b, c, d⟩ => ⟨m', a, H5, b, c, d⟩, hT rfl Hn H2 g⟩
  | false =>
    rw [if_neg Bool.false_ne_true]
    exact hF rfl Hn H2 g
/-- x = l.pop(), l a list of one's own -/
theorem b_setPop (i : Nat) {n : Str} {l : Addr} {xs : List V} {y : V} (ex : Ex H Hc) (ho : Cm H (is (V.ref l)) (wE X o σ)) (hl : Hc l = some (.lst xs)) (hy : xs[xs.length - 1]? = some y) (h : ∀ Hn H2, Grow H Hc Hn H2 → wB X rest D (σ.set i (some y)) (upd H2 l (.lst xs.dropLast)))
    (hN : X.N.Nodup) (hi : X.N[i]? = some n := by rfl) (hx : Loc X.env.scope n := by exact Or.inl rfl) (hs : swapsWith (.Call (.Attribute o "pop" apos) [] [] cpos) (some (.Name n px)) pos.line X.env = pure false := by rfl)
    (hf : X.fn n = true ∨ X.env.scope.names.lookup n = some .local := by first | exact .inl rfl | exact .inr rfl | assumption)
    (hb : attributeBase o "pop" X.env (eval o X.env) = eval o X.env := by rfl) (h2 : (apos.endLine == cpos.line) = true := by rfl) :
    wB X (.Assign [.Name n px] (.Call (.Attribute o "pop" apos) [] [] cpos) pos :: rest) D σ Hc := by
  refine b_cons (w_s (ps_set hN hi hx (pe_bm0 PySem.F.plainAttrs_list PySem.F.slot_list_pop PySem.F.type_list_pop mt_pop pe_w hb h2) hs hf) ?_)
  refine ho Hc ex _ fun u Hn H2 g p => ?_
  have q : u = .ref l := p.now
  subst q
  have hl2 := g.c _ _ hl
  exact ⟨.inl ⟨rfl, _, SqL.of hl2⟩, l, xs, y, rfl, rfl, hl2, hy, h Hn H2 g⟩
end
/-! ### what happens beside a list of one's own -/
theorem off_ex {H Hc : Hp} {l : Addr} (e : Ex H Hc) (n : H l = none) : Ex H (off Hc l) := fun a u h => by
  rw [off_ne (fun z : a = l => by rw [z, n] at h; cases h)]
  exact e a u h
theorem off_le {Hc : Hp} {l : Addr} : Ex (off Hc l) Hc := fun a u h => (off_some h).2
/-- l is out of sight of who called -/
theorem Grow.offs {H0 Hc0 H Hc H1 Hc1 : Hp} {l : Addr} (g : Grow H0 Hc0 H Hc) (n0 : Hc0 l = none) (g1 : Grow H (off Hc l) H1 (off Hc1 l)) : Grow H0 Hc0 H1 Hc1 := by
  refine ⟨g.k.trans g1.k, g1.s.trans off_le, fun a u h => ?_, fun a u h m z => ?_⟩
  · have ne : a ≠ l := fun z => by rw [z, n0] at h; cases h
    exact (off_some (g1.c a u (by rw [off_ne ne]; exact g.c a u h))).2
  · have ne : a ≠ l := fun z => by rw [z, n0] at h; cases h
    exact g1.f a u (by rw [off_ne ne]; exact g.c a u h) m (g.f a u h m z)
section
variable {X : Cx} {σ : St} {H Hc : Hp} {o e : Expr} {apos cpos : Pos} {l : Addr} {xs : List V}
/-- l.pop(i), l a list of one's own -/
theorem w_popAt {Q : VK} (ex : Ex H Hc) (n : H l = none) (hl : Hc l = some (.lst xs)) (hz : xs.length ≤ 1000) (ho : Cm (upd H l (.lst xs)) (is (V.ref l)) (wE X o σ)) (he : Cm (upd H l (.lst xs)) (fun v _ => ∃ k : Nat, v = .int (k : Int) ∧ k < xs.length) (wE X e σ))
    (q : ∀ (k : Nat) (y : V) (H2 : Hp), xs[k]? = some y → Grow H (off Hc l) H (off H2 l) → H2 l = some (.lst (xs.eraseIdx k)) → Q y H2)
    (hb : attributeBase o "pop" X.env (eval o X.env) = eval o X.env := by rfl)
    (h1 : (((((backTo cpos (starEach [e] X.env)).all fun x => !x.fst) && (backToKw cpos (keywordEach [] X.env)).all fun x => x.fst.isSome) && decide (([e] : List Expr).length + ([] : List Nat).length + (if ([] : List Nat).isEmpty = true then 0 else 1) < 30)) = true) := by rfl)
    (h2 : (apos.endLine == cpos.line) = true := by rfl) (h3 : starEach [e] X.env = (false, eval e X.env) :: starEach [] X.env := by rfl) :
    wE X (.Call (.Attribute o "pop" apos) [e] [] cpos) σ Hc Q := by
  have own : Ex (upd H l (.lst xs)) Hc := ex.own hl
  refine w_e (pe_bm PySem.F.plainAttrs_list PySem.F.slot_list_pop PySem.F.type_list_pop mt_popAt pe_w (pa_cons pe_w pa_nil h3) hb h1 h2 h3) ?_
  refine ho Hc own _ fun u Hn H2 g p => ?_
  have q1 : u = .ref l := p.now
  subst q1
  have hl2 := g.c _ _ hl
  refine ⟨.inl ⟨rfl, _, SqL.of hl2⟩, he.mono g.k H2 g.s _ fun v Hm H3 g3 p3 => ?_⟩
  obtain ⟨k, rfl, hk⟩ := p3.now
  have hl3 := g3.c _ _ hl2
  have cc : Ex Hc H3 := g.c.trans g3.c
  refine ⟨l, xs, (k : Int), k, xs[k], rfl, rfl, hl3, by omega, by omega, ?_, List.getElem?_eq_getElem hk, q k _ _ (List.getElem?_eq_getElem hk) (still ?_ ?_) upd_same⟩
  · unfold seqIndex?
    first | (simp; omega) | (rw [if_neg (by omega)]; simp [hk])
  · intro a u h
    have ne : a ≠ l := fun z => by rw [z, n] at h; cases h
    rw [off_ne ne, upd_ne ne]
    exact cc a u (ex a u h)
  · intro a u h
    obtain ⟨ne, h'⟩ := off_some h
    rw [off_ne ne, upd_ne ne]
    exact cc a u h'
theorem off_upd {H0 : Hp} {p : Addr} {ob : HO} (ne : p ≠ l) : off (upd H0 p ob) l = upd (off H0 l) p ob := by
  funext a
  by_cases h : a = l
  · subst h
    rw [off_at, upd_ne (fun z => ne z.symm), off_at]
  · rw [off_ne h]
    by_cases h2 : a = p
    · subst h2; rw [upd_same, upd_same]
    · rw [upd_ne h2, upd_ne h2, off_ne h]
theorem Grow.offB {Hn H2 : Hp} {ys : List V} (g : Grow H Hc Hn H2) (n : H l = none) (h : Hc l = some (.lst ys)) : Grow H (off Hc l) Hn (off H2 l) := by
  refine ⟨g.k, off_ex g.s (g.un h n), fun a u q => ?_, fun a u q m z => g.f a u (off_some q).2 m z⟩
  obtain ⟨ne, q'⟩ := off_some q
  rw [off_ne ne]
  exact g.c a u q'
/-- a comprehension that changes the list l of one's own -/
theorem w_lcO {wi : TI} {g : TG} {te : TE} {vs : List Nat} {n : Nat} {Y : Nat → V → Hp → Prop} (ex : Ex H Hc) (hl0 : H l = none) (hl : Hc l = some (.lst xs)) (hci : Ci H n Y (wi σ)) (hn : n ≤ 100000) (A : Nat → List V → List V → Prop) (h0 : A 0 [] xs)
    (hs : ∀ i x acc ys H1 Hc1, i < n → Ex H H1 → Ex H1 Hc1 → H1 l = none → Hc1 l = some (.lst ys) → Pz H1 (Y i x) → A i acc ys → ∃ σ', Bind g x (wipe σ vs) H1 σ' ∧ wipe σ' vs = wipe σ vs ∧
      ∀ Q : VK, (∀ y ys' H2 Hc2, Grow H1 (off Hc1 l) H2 (off Hc2 l) → H2 l = none → Hc2 l = some (.lst ys') → A (i + 1) (acc ++ [y]) ys' → Q y Hc2) → te σ' Hc1 Q)
    {Q : VK} (q : ∀ p acc ys H1 Hc1, Grow H (off Hc l) H1 (off Hc1 l) → H1 p = some (.lst acc) → A n acc ys → Q (.ref p) Hc1) : tLc wi g tYes te vs σ Hc Q := by
  refine hci Hc ex _ fun J Hn H2 g2 ov => fun Dl hD => ?_
  have hl2 := g2.c _ _ hl
  have hln := g2.un hl hl0
  have neD : Dl ≠ l := fun z => by rw [z, hl2] at hD; cases hD
  have hcD : off Hc l Dl = none := by rw [off_ne neD]; exact Evl.fresh_back g2.c hD
  have hnD : Hn Dl = none := Evl.fresh_back g2.s hD
  have g0 := (g2.offB hl0 hl).mut (o := .lst []) hcD hnD
  rw [← off_upd neD] at g0
  refine ⟨fun i m Hc1 => m = n - i ∧ i ≤ n ∧ ∃ H1 acc ys, Ex Hn H1 ∧ Grow H (off Hc l) H1 (off Hc1 l) ∧ Ex H1 Hc1 ∧ H1 l = none ∧ Hc1 l = some (.lst ys) ∧ H1 Dl = none ∧ Hc1 Dl = some (.lst acc) ∧ acc.length ≤ i ∧ A i acc ys,
    ⟨n, rfl, Nat.zero_le _, Hn, [], xs, Evl.Ex.refl _, g0, g0.s.trans off_le, hln, by rw [upd_ne neD.symm]; exact hl2, hnD, upd_same, Nat.le_refl _, h0⟩, ?_⟩
  rintro i m Hc1 ⟨rfl, hi, H1, acc, ys, e1, g1, s1, n1, hl1, hD1, hDl, hlen, pa⟩
  rcases Nat.lt_or_ge i n with hlt | hge
  · refine .inr ⟨ov.go i Hc1 (e1.trans s1) hlt, fun Hc3 => ∃ H1 acc ys, Ex Hn H1 ∧ Grow H (off Hc l) H1 (off Hc3 l) ∧ Ex H1 Hc3 ∧ H1 l = none ∧ Hc3 l = some (.lst ys) ∧ H1 Dl = none ∧ Hc3 Dl = some (.lst acc) ∧ acc.length ≤ i + 1 ∧ A (i + 1) acc ys, ?_, ?_⟩
    · rintro H3 ⟨a, b, c, d⟩
      exact ⟨n - (i + 1), by omega, rfl, hlt, a, b, c, d⟩
    · intro x H' y
      obtain ⟨H3, g3, z⟩ := ov.yld i x Hc1 H' (e1.trans s1) hlt y H1 e1 s1
      have hl3 := g3.c _ _ hl1
      have n3 := g3.un hl1 n1
      obtain ⟨σ', Tb, Tw, T⟩ := hs i x acc ys H3 H' hlt (g1.k.trans g3.k) g3.s n3 hl3 z pa
      refine Tb H' g3.s _ ⟨Tw, ?_⟩
      show te σ' H' _
      refine T _ fun y ys' H4 Hc4 g4 n4 hl4 a4 => ?_
      have hD3 : H3 Dl = none := g3.un hDl hD1
      have hDo : off H' l Dl = some (.lst acc) := by rw [off_ne neD]; exact g3.c _ _ hDl
      have hD4 : H4 Dl = none := g4.un hDo hD3
      have hDc : Hc4 Dl = some (.lst acc) := (off_some (g4.c _ _ hDo)).2
      have G := ((g1.trans (g3.offB n1 hl1)).trans g4).mut (o := .lst (acc ++ [y])) hcD hD4
      rw [← off_upd neD] at G
      refine ⟨acc, hDc, Evl.sz_lt (by omega), H4, acc ++ [y], ys', e1.trans (g3.k.trans g4.k), G, G.s.trans off_le, n4, by rw [upd_ne neD.symm]; exact hl4, hD4, upd_same, ?_, a4⟩
      rw [List.length_append, List.length_singleton]; omega
  · have qe : i = n := by omega
    subst qe
    refine .inl ⟨ov.stop i Hc1 (e1.trans s1) (Nat.le_refl _), ?_⟩
    exact q Dl acc ys (upd H1 Dl (.lst acc)) Hc1 (g1.know hcD hD1 (by rw [off_ne neD]; exact hDl)) upd_same pa
end
section
variable {X : Cx} {σ : St} {H Hc : Hp} {e : Expr} {rest : List Stmt} {pos px pn cpos : Pos} {D : Ends} {a : Addr} {xs : List V}
/-- x = list(xs), a list of one's own -/
theorem b_setListOf (i : Nat) {nm : Str} (ex : Ex H Hc) (hm : X.mg "list" = none) (ho : Cm H (is (V.ref a)) (wE X e σ)) (h : Pz H (fun H' => SqL X.K H' a xs ∨ SqT X.K H' a xs)) (k : ∀ l Hn H2, Grow H Hc Hn H2 → H2 l = none → wB X rest D (σ.set i (some (.ref l))) (upd H2 l (.lst xs)))
    (hN : X.N.Nodup) (hi : X.N[i]? = some nm := by rfl) (hx : Loc X.env.scope nm := by exact Or.inl rfl) (hs : swapsWith (.Call (.Name "list" pn) [e] [] cpos) (some (.Name nm px)) pos.line X.env = pure false := by rfl)
    (hf : X.fn nm = true ∨ X.env.scope.names.lookup nm = some .local := by first | exact .inl rfl | exact .inr rfl | assumption) (hg : Gl X "list" := by rfl) (hst : starEach [e] X.env = (false, eval e X.env) :: starEach [] X.env := by rfl) :
    wB X (.Assign [.Name nm px] (.Call (.Name "list" pn) [e] [] cpos) pos :: rest) D σ Hc := by
  refine b_cons (w_s (ps_set hN hi hx (pe_callTy call_list_of hg hm (by decide +kernel) pa_w (by decide) (by decide) hst (by rfl)) hs hf) ?_)
  refine a_consD ho a_nil hst Hc ex _ fun vs Hn H2 g p => ?_
  have q : vs = [V.ref a] := p.now
  subst q
  exact ⟨a, xs, rfl, h H2 (g.k.trans g.s), fun l hl => k l Hn H2 g hl⟩
end
end LW
set_option Elab.async false
set_option linter.all false
set_option maxRecDepth 100000
set_option maxHeartbeats 2000000
namespace K19
open PySem L2 LW
abbrev sPick : Stmt := top 42
abbrev sMixed : Stmt := top 43
section
variable {P : Program} {w : World} {K : PySem.W.Frag} {mg : Str → Option Value} {base : Heap} {f : Addr} {fd : FuncData}
/-- a pot, and a list of some values -/
def APk (K : PySem.W.Frag) : Addr × List V → List V → Hp → Prop := fun x vs H => ∃ a, vs = [.ref x.1, .ref a] ∧ H x.1 = some (PotO x.1) ∧ SqL K H a x.2 ∧ x.2 ≠ [] ∧ x.2.length ≤ 1000
def RPk : Addr × List V → V → Hp → Prop := fun x v _ => v ∈ x.2
abbrev nPick : List Str := ["_law_pot_here", "_law_some"]
theorem scPick : FnScope nPick nPick (defScope sPick) := ⟨rfl, rfl, rfl, by decide +kernel, rfl, by decide +kernel, by decide +kernel⟩
theorem b_pick (B : BltL mg) (FD : Fn P w K mg base "_law_draw" 1 AD RD) : Body P w K mg base nPick "_law_pick" sPick f 1 (APk K) RPk := by
  intro cdv Ar outer s H0 E x vs H Hc D hr ex pa rt nx
  obtain ⟨p, xs⟩ := x
  obtain ⟨a, rfl, hp, h1, ne, hz⟩ := pa.now
  have hp : H p = some (PotO p) := hp
  have h1 : SqL K H a xs := h1
  have hz : xs.length ≤ 1000 := hz
  have hl : 0 < xs.length := List.length_pos_iff.mpr ne
  refine b_ret (P := fun v _ => v ∈ xs) ex (e_ix (Pa := is (V.ref a)) (Pb := RD (p, (xs.length : Int))) ix_list (e_var 1) (e_callD (p, (xs.length : Int)) FD hr (a_consD (e_var 0) (a_consD (e_len (xs := xs) B.len (e_var (v := V.ref a) 1) (fun H' e => .inl (Evl.ex_l e h1))) a_nil)) fun H' e => ad (e _ _ hp) (by omega) (by omega)) fun x y H3 e3 px py => ?_) fun v Hn H2 g p => rt v _ _ g p
  obtain rfl : x = V.ref a := px.now
  obtain ⟨r, rfl, r0, r1⟩ := py.now
  obtain ⟨k, rfl⟩ : ∃ k : Nat, r = (k : Int) := ⟨r.toNat, by omega⟩
  have hk : k < xs.length := by have : (k : Int) < (xs.length : Int) := r1; omega
  exact Cm.imp (r_ixL (v := xs[k]) (fun H' e => Evl.ex_l (e3.trans e) h1) (by unfold atI ixN; simp [hk])) fun v H' _ q => (show v = xs[k] from q) ▸ List.getElem_mem hk
theorem eraseIdx_perm {α : Type} : ∀ {ys : List α} {k : Nat} (h : k < ys.length), (ys[k] :: ys.eraseIdx k).Perm ys
  | y :: r, 0, _ => by simp
  | y :: r, k + 1, h => by
    have h' : k < r.length := by simpa using h
    rw [List.getElem_cons_succ, List.eraseIdx_cons_succ]
    exact (List.Perm.swap _ _ _).trans ((eraseIdx_perm h').cons y)
/-! a list in a drawn sequence -/
def AMix (K : PySem.W.Frag) : Addr × List V → List V → Hp → Prop := fun x vs H => ∃ a, vs = [.ref x.1, .ref a] ∧ H x.1 = some (PotO x.1) ∧ SqL K H a x.2 ∧ x.2.length ≤ 1000
def RMix : Addr × List V → V → Hp → Prop := fun x v H => ∃ b ws, v = .ref b ∧ H b = some (.lst ws) ∧ ws.Perm x.2
abbrev nMixed : List Str := ["_law_pot_here", "_law_some", "_law_pack", "_law_turn"]
theorem scMixed : FnScope nMixed ["_law_pot_here", "_law_some"] (defScope sMixed) := ⟨rfl, rfl, rfl, by decide +kernel, rfl, by decide +kernel, by decide +kernel⟩
theorem b_mixed (B : BltL mg) (hL : mg "list" = none) (FD : Fn P w K mg base "_law_draw" 1 AD RD) : Body P w K mg base nMixed "_law_mixed" sMixed f 1 (AMix K) RMix := by
  intro cdv Ar outer s H0 E x vs H Hc D hr ex pa rt nx
  obtain ⟨p, xs⟩ := x
  obtain ⟨a, rfl, hp, h1, hz⟩ := pa.now
  have hp : H p = some (PotO p) := hp
  have h1 : SqL K H a xs := h1
  have hz : xs.length ≤ 1000 := hz
  refine b_setListOf 2 ex hL (e_var 1) (fun H' e => .inl (Evl.ex_l e h1)) (fun l H1 Hc1 g1 hl => ?_) scMixed.nd (hx := .inr rfl)
  have n1 : H1 l = none := Evl.fresh_back g1.s hl
  have g2 : Grow H Hc H1 (upd Hc1 l (.lst xs)) := g1.trans (still (g1.s.trans (Evl.Ex.new hl)) (Evl.Ex.new hl))
  have h2 : SqL K H1 a xs := Evl.ex_l g1.k h1
  refine b_cons (w_s (ps_ret pe_w) ?_)
  show wE (fx P w K mg base nMixed "_law_mixed" sMixed f cdv Ar outer s H0 E) _ _ _ _
  refine w_e (X := fx P w K mg base nMixed "_law_mixed" sMixed f cdv Ar outer s H0 E) (pe_lc (X := fx P w K mg base nMixed "_law_mixed" sMixed f cdv Ar outer s H0 E) (own := [("_law_turn", 3)]) (g := gName 3) rfl scMixed.nd (pi_range1 rfl B.range pa_w) (blkOk_by (N := nMixed) (sc := defScope sMixed) (by decide +kernel)) (fun _ _ _ _ _ => pg_name (i := 3) scMixed.nd rfl (.inl rfl)) (fun _ _ _ _ _ => pts_nil) pe_b)
    (w_lcO (l := l) (xs := xs) (n := xs.length) g2.s n1 upd_same (i_rng1 (n := (xs.length : Int)) (a_consD (e_len (xs := xs) B.len (e_var (v := V.ref a) 1) (fun H' e => .inl (Evl.ex_l e h2))) a_nil) (by omega) (by omega)) (by omega)
      (fun i acc ys => (acc ++ ys).Perm xs ∧ ys.length = xs.length - i) ⟨List.Perm.refl _, rfl⟩ (fun i x acc ys H3 Hc3 hi e3 s3 n3 l3 _ ⟨pm, hlen⟩ => ?_) ?_)
  · refine ⟨_, bind_name, rfl, fun Q q => fun s0 H00 C cl fp => ?_⟩
    have hyl : 0 < ys.length := by omega
    have hyz : ys.length ≤ 1000 := by omega
    have hpp : (upd H3 l (.lst ys)) p = some (PotO p) := by
      rw [upd_ne (fun z : p = l => by have h := e3 _ _ (g1.k _ _ hp); rw [z, n3] at h; cases h)]
      exact e3 _ _ (g1.k _ _ hp)
    refine w_popAt s3 n3 l3 hyz (e_var 2) (Cm.imp (e_callD (p, (ys.length : Int)) FD hr (a_consD (e_var 0) (a_consD (e_len (xs := ys) B.len (e_var (v := V.ref l) 2) (fun H' e => .inl (SqL.of (e _ _ upd_same)))) a_nil)) fun H' e => ad (e _ _ hpp) (by omega) (by omega)) fun v H' _ z => ?_) fun k y H4 hk g4 l4 => ?_
    · obtain ⟨r, rfl, r0, r1⟩ := z
      exact ⟨r.toNat, by congr 1; omega, by have : r < (ys.length : Int) := r1; omega⟩
    · have hkl := (List.getElem?_eq_some_iff.mp hk).1
      refine q y _ H3 H4 g4 n3 l4 ⟨?_, by rw [List.length_eraseIdx_of_lt hkl]; omega⟩
      have pe : (y :: ys.eraseIdx k).Perm ys := by
        have e := (List.getElem?_eq_some_iff.mp hk).2
        rw [← e]
        exact (eraseIdx_perm hkl)
      rw [List.append_assoc, List.singleton_append]
      exact (List.Perm.append_left acc pe).trans pm
  · intro b acc ys H3 Hc3 g3 hb ⟨pm, hlen⟩
    have e : ys = [] := List.eq_nil_of_length_eq_zero (by have : ys.length = xs.length - (xs.length : Int).toNat := hlen; omega)
    rw [e, List.append_nil] at pm
    exact rt _ _ _ (g1.offs (Evl.fresh_back g1.c hl) (by
      have z : off (upd Hc1 l (.lst xs)) l = off Hc1 l := by
        funext c
        by_cases h : c = l
        · rw [h, off_at, off_at]
        · rw [off_ne h, off_ne h, upd_ne h]
      rw [z] at g3
      exact g3)) fun H' e' => ⟨b, acc, rfl, e' _ _ hb, pm⟩
end
end K19
set_option Elab.async false
set_option linter.all false
set_option maxRecDepth 100000
set_option maxHeartbeats 2000000
/-! x, y = e, []; "..".join(..); a comprehension over a drawn number of turns -/
namespace LW
open PySem L2
section
variable {X : Cx} {σ : St} {H Hc : Hp} {P : V → Hp → Prop} {e o : Expr} {rest : List Stmt} {pos px py pt pt2 pl apos cpos : Pos} {D : Ends} {x y : Str}
theorem new_two {Hn H2 : Hp} {l T : Addr} {v : V} (g : Grow H Hc Hn H2) (hl : H2 l = none) (hT : (upd H2 l (.lst [])) T = none) : Grow H Hc Hn (upd (upd H2 l (.lst [])) T (.tup [v, .ref l])) ∧ Hn l = none ∧ (upd (upd H2 l (.lst [])) T (.tup [v, .ref l])) l = some (.lst []) ∧ Hc l = none := by
  have ne : l ≠ T := fun z => by rw [← z, upd_same] at hT; cases hT
  have e : Ex H2 (upd (upd H2 l (.lst [])) T (.tup [v, .ref l])) := (Evl.Ex.new hl).trans (Evl.Ex.new hT)
  exact ⟨g.trans (still (g.s.trans e) e), Evl.fresh_back g.s hl, by rw [upd_ne ne, upd_same], Evl.fresh_back g.c hl⟩
/-- x, y = e, [], x or y seen by a comprehension -/
theorem b_asgNew (i j : Nat) {kt k2} (ex : Ex H Hc) (he : Cm H P (wE X e σ)) (h : ∀ v l Hn H2, Grow H Hc Hn H2 → Pz Hn (P v) → Hn l = none → H2 l = some (.lst []) → Hc l = none → wB X rest D ((σ.set i (some v)).set j (some (.ref l))) H2)
    (hg : PG X (.Tuple [.Name x px, .Name y py] kt pt) (gTup X.K 2 (gCons (gName i) (gCons (gName j) gNil))))
    (hs : swapsWithSole [.Tuple [.Name x px, .Name y py] kt pt] (.Tuple [e, .List [] pl] k2 pt2) pos.line X.env = pure false := by rfl) (hw : swappedStores [.Tuple [.Name x px, .Name y py] kt pt] (.Tuple [e, .List [] pl] k2 pt2) X.env = pure none := by rfl)
    (h1 : (assignEach [.Tuple [.Name x px, .Name y py] kt pt] X.env).map (·.2) = [assign (.Tuple [.Name x px, .Name y py] kt pt) X.env] := by rfl) (hst : starEach [e, .List [] pl] X.env = (false, eval e X.env) :: starEach [.List [] pl] X.env := by rfl) :
    wB X (.Assign [.Tuple [.Name x px, .Name y py] kt pt] (.Tuple [e, .List [] pl] k2 pt2) pos :: rest) D σ Hc := by
  refine b_cons (w_s (ps_asg (pe_tup (pa_cons pe_w (pa_cons (pe_lst pa_nil) pa_nil (by rfl)) hst)) hg hs hw h1) (he Hc ex _ fun v Hn H2 g p => ⟨Nat.zero_le _, fun l hl => ⟨?_, fun T hT => ?_⟩⟩))
  · exact (by decide : 2 ≤ sizeLine)
  · obtain ⟨G, n, s, c⟩ := new_two (v := v) g hl hT
    exact ⟨T, [v, .ref l], rfl, SqT.of upd_same, rfl, v, [.ref l], rfl, .ref l, [], rfl, rfl, h v l Hn _ G p n s c⟩
/-- x, y = e, [], of locals -/
theorem b_parNew (i j : Nat) {kt k2} (ex : Ex H Hc) (hc : X.calm = true) (hN : X.N.Nodup) (he : Cm H P (wE X e σ)) (h : ∀ v l Hn H2, Grow H Hc Hn H2 → Pz Hn (P v) → Hn l = none → H2 l = some (.lst []) → Hc l = none → wB X rest D ((σ.set i (some v)).set j (some (.ref l))) H2)
    (hi : X.N[i]? = some x := by rfl) (hj : X.N[j]? = some y := by rfl) (hij : i ≠ j := by decide) (hx : X.env.scope.names.lookup x = some .local := by rfl) (hy : X.env.scope.names.lookup y = some .local := by rfl)
    (hw : swappedStores [.Tuple [.Name x px, .Name y py] kt pt] (.Tuple [e, .List [] pl] k2 pt2) X.env = pure (some [x, y]) := by rfl) (hs : swapsWithSole [.Tuple [.Name x px, .Name y py] kt pt] (.Tuple [e, .List [] pl] k2 pt2) pos.line X.env = pure false := by rfl)
    (hst : starEach [e, .List [] pl] X.env = (false, eval e X.env) :: starEach [.List [] pl] X.env := by rfl) :
    wB X (.Assign [.Tuple [.Name x px, .Name y py] kt pt] (.Tuple [e, .List [] pl] k2 pt2) pos :: rest) D σ Hc := by
  refine b_cons (w_s (ps_par hc hN hi hj hij hx hy (pa_cons pe_w (pa_cons (pe_lst pa_nil) pa_nil (by rfl)) hst) hw hs) (he Hc ex _ fun v Hn H2 g p => ⟨Nat.zero_le _, fun l hl => ⟨v, .ref l, rfl, ?_⟩⟩))
  have n := Evl.Ex.new (o := HO.lst []) hl
  exact h v l Hn _ (g.trans (still (g.s.trans n) n)) p (Evl.fresh_back g.s hl) upd_same (Evl.fresh_back g.c hl)
/-- s.join(xs) -/
theorem e_join {z : Str} {φ : List Str → Prop} (ho : Cm H (is (V.str z)) (wE X o σ)) (he : Cm H (fun v H' => ∃ a ys, v = .ref a ∧ SqL X.K H' a (ys.map V.str) ∧ φ ys ∧ (ys.map (·.length)).sum + ys.length * z.length ≤ 16777216) (wE X e σ))
    (hb : attributeBase o "join" X.env (eval o X.env) = eval o X.env := by rfl)
    (h1 : (((((backTo cpos (starEach [e] X.env)).all fun x => !x.fst) && (backToKw cpos (keywordEach [] X.env)).all fun x => x.fst.isSome) && decide (([e] : List Expr).length + ([] : List Nat).length + (if ([] : List Nat).isEmpty = true then 0 else 1) < 30)) = true) := by rfl)
    (h2 : (apos.endLine == cpos.line) = true := by rfl) (h3 : starEach [e] X.env = (false, eval e X.env) :: starEach [] X.env := by rfl) :
    Cm H (fun v _ => ∃ ys, v = .str (Txt.join z ys) ∧ φ ys) (wE X (.Call (.Attribute o "join" apos) [e] [] cpos) σ) := by
  refine ce (pe_bm PySem.F.plainAttrs_str PySem.F.slot_str_join PySem.F.type_str_join mt_join pe_w (pa_cons pe_w pa_nil h3) hb h1 h2 h3) ?_
  intro Hc e0 Q q
  refine ho Hc e0 _ fun u Hn H2 g p => ?_
  have q1 : u = .str z := p.now
  subst q1
  refine ⟨rfl, he.mono g.k H2 g.s _ fun v Hm H3 g3 p3 => ?_⟩
  obtain ⟨a, ys, rfl, hs, hφ, hz⟩ := p3 H3 g3.s
  exact ⟨z, a, ys, rfl, rfl, .inl hs, hz, q _ Hm H3 (g.trans g3) (.const ⟨ys, rfl, hφ⟩)⟩
end
/-- a comprehension over a range of a drawn length -/
theorem c_lcX {wi : TI} {g : TG} {tt : TT} {te : TE} {vs : List Nat} {σ : St} {H : Hp} {Φ : Nat → Prop} {Y : Nat → V → Hp → Prop} {P : V → Hp → Prop} (hci : Cix H Φ Y (wi σ)) (hn : ∀ n, Φ n → n ≤ 100000) (A : Nat → List V → Hp → Prop) (h0 : ∀ H', A 0 [] H')
    (hs : ∀ n i x acc H1, Φ n → i < n → Ex H H1 → Pz H1 (Y i x) → Pz H1 (A i acc) → LcTurn g tt te vs σ (fun ys => A (i + 1) (acc ++ ys)) (A (i + 1) acc) x H1)
    (hd : ∀ n acc p H1, Φ n → Ex H H1 → Pz H1 (A n acc) → H1 p = some (.lst acc) → Pz H1 (P (.ref p))) : Cm H P (tLc wi g tt te vs σ) := by
  intro Hc e Q q
  refine hci Hc e _ fun J n Hn H2 hφ g2 ov => ?_
  have ci : Ci Hn n Y (fun (Hc' : Hp) (R : It → Hp → Prop) => R J Hc') := fun Hc' e' R h => h J Hn Hc' (Grow.refl e') ov
  exact c_lc (wi := fun _ Hc' R => R J Hc') (σ := σ) (g := g) (tt := tt) (te := te) (vs := vs) (P := P) ci (hn n hφ) A h0 (fun i x acc H1 hi e1 => hs n i x acc H1 hφ hi (g2.k.trans e1)) (fun acc p H1 e1 => hd n acc p H1 hφ (g2.k.trans e1)) H2 g2.s Q fun v Hn' H2' g p => q v Hn' H2' (g2.trans g) p
end LW
set_option Elab.async false
set_option linter.all false
set_option maxRecDepth 100000
set_option maxHeartbeats 2000000
namespace K19
open PySem L2 LW
abbrev sNamed : Stmt := top 44
/-! ### labels -/
theorem nd_len {α : Type} [DecidableEq α] : ∀ (l D : List α), l.Nodup → (∀ x ∈ l, x ∈ D) → l.length ≤ D.length
  | [], _, _, _ => Nat.zero_le _
  | x :: l, D, hn, hs => by
    have h := List.nodup_cons.mp hn
    have hx := hs x (List.mem_cons_self ..)
    have ih := nd_len l (D.erase x) h.2 fun y hy => (List.mem_erase_of_ne fun e : y = x => h.1 (e ▸ hy)).mpr (hs y (List.mem_cons_of_mem _ hy))
    have e := List.length_erase_of_mem hx
    have p := List.length_pos_of_mem hx
    rw [List.length_cons]
    omega
def ok (c : Nat) : Prop := 97 ≤ c ∧ c ≤ 122
def One (y : Str) : Prop := ∃ c, y = ⟨#[c]⟩ ∧ ok c
theorem cps_app (x y : Str) : (x ++ y).cps.toList = x.cps.toList ++ y.cps.toList := by
  show (x.cps ++ y.cps).toList = _
  rw [Array.toList_append]
theorem glue_go : ∀ (r : List Str) (acc : Array Nat), (∀ y ∈ r, One y) → (∀ c ∈ acc.toList, ok c) →
    (r.foldl (fun acc p => acc ++ ("" : Str).cps ++ p.cps) acc).size = acc.size + r.length ∧ ∀ c ∈ (r.foldl (fun acc p => acc ++ ("" : Str).cps ++ p.cps) acc).toList, ok c
  | [], acc, _, h => ⟨rfl, h⟩
  | y :: r, acc, hr, h => by
    obtain ⟨c, rfl, hc⟩ := hr y (List.mem_cons_self ..)
    have e0 : ("" : Str).cps = #[] := by decide +kernel
    have e : acc ++ ("" : Str).cps ++ (⟨#[c]⟩ : Str).cps = acc ++ #[c] := by rw [e0, Array.append_empty]
    obtain ⟨z1, z2⟩ := glue_go r (acc ++ #[c]) (fun y hy => hr y (List.mem_cons_of_mem _ hy)) fun d hd => by
      rw [Array.toList_append] at hd
      rcases List.mem_append.mp hd with m | m
      · exact h d m
      · rw [List.mem_singleton.mp m]; exact hc
    rw [List.foldl_cons, e]
    refine ⟨?_, z2⟩
    rw [z1, Array.size_append, List.length_cons]
    show acc.size + 1 + r.length = _
    omega
theorem glue_ok {ys : List Str} (ne : ys ≠ []) (h : ∀ y ∈ ys, One y) : (Txt.join "" ys).length = ys.length ∧ ∀ c ∈ (Txt.join "" ys).cps.toList, ok c := by
  cases ys with
  | nil => exact (ne rfl).elim
  | cons y r =>
    obtain ⟨c, rfl, hc⟩ := h y (List.mem_cons_self ..)
    obtain ⟨z1, z2⟩ := glue_go r #[c] (fun y hy => h y (List.mem_cons_of_mem _ hy)) fun d hd => by rw [List.mem_singleton.mp hd]; exact hc
    refine ⟨?_, z2⟩
    show (r.foldl (fun acc p => acc ++ ("" : Str).cps ++ p.cps) #[c]).size = _
    rw [z1, List.length_cons]
    show 1 + r.length = _
    omega
/-- the spare ones -/
def spare1 (x : Str) (t : Nat) : Str := x ++ ⟨#[t % 26 + 97]⟩ ++ ⟨#[t / 26 + 97]⟩
def spares (x : Str) : List Str := (List.range 100).map (spare1 x)
theorem spare_inj {x : Str} {t u : Nat} (h : spare1 x t = spare1 x u) : t = u := by
  have e := congrArg (fun s : Str => s.cps.toList) h
  simp only [spare1, cps_app, List.append_assoc] at e
  have e2 := List.append_cancel_left e
  injection e2 with a b
  injection b with b _
  omega
theorem spares_nd (x : Str) : (spares x).Nodup := by
  unfold spares
  refine List.Pairwise.map (R := fun a b : Nat => a ≠ b) _ (fun a b hab z => hab (spare_inj z)) List.nodup_range
/-- a label: short -/
structure Lb (x : Str) (n : Nat) : Prop where
  lo : 1 ≤ x.length
  hi : x.length ≤ n
  ok : ∀ c ∈ x.cps.toList, K19.ok c
theorem Lb.nm {x : Str} {n : Nat} (h : Lb x n) (hn : n ≤ 8) : Nm x := ⟨h.lo, Nat.le_trans h.hi hn, h.ok⟩
theorem Lb.mono {x : Str} {n m : Nat} (h : Lb x n) (hn : n ≤ m) : Lb x m := ⟨h.lo, Nat.le_trans h.hi hn, h.ok⟩
theorem spare_lb {x : Str} {n t : Nat} (h : Lb x n) (ht : t < 100) : Lb (spare1 x t) (n + 2) := by
  have l1 : (⟨#[t % 26 + 97]⟩ : Str).length = 1 := rfl
  have l2 : (⟨#[t / 26 + 97]⟩ : Str).length = 1 := rfl
  have lo := h.lo
  have hi := h.hi
  refine ⟨?_, ?_, fun c hc => ?_⟩
  · unfold spare1; rw [len_app, len_app, l1, l2]; omega
  · unfold spare1; rw [len_app, len_app, l1, l2]; omega
  · unfold spare1 at hc
    rw [cps_app, cps_app] at hc
    rcases List.mem_append.mp hc with m | m
    · rcases List.mem_append.mp m with m | m
      · exact h.ok c m
      · rw [List.mem_singleton.mp m]; exact ⟨by omega, by omega⟩
    · rw [List.mem_singleton.mp m]; exact ⟨by omega, by omega⟩
theorem spares_left {x : Str} {ns ts : List Str} (h : ns.length + ts.length < 100) : ∃ z r, (spares x).filter (fun c => !decide (c ∈ ns) && !decide (c ∈ ts)) = z :: r ∧ z ∈ spares x ∧ z ∉ ns ∧ z ∉ ts := by
  cases e : (spares x).filter (fun c => !decide (c ∈ ns) && !decide (c ∈ ts)) with
  | nil =>
    have z := nd_len (spares x) (ns ++ ts) (spares_nd x) fun y hy => by
      have w := List.filter_eq_nil_iff.mp e y hy
      rw [List.mem_append]
      by_cases m : y ∈ ns
      · exact .inl m
      · by_cases m2 : y ∈ ts
        · exact .inr m2
        · simp [m, m2] at w
    have l : (spares x).length = 100 := by unfold spares; rw [List.length_map, List.length_range]
    rw [List.length_append] at z
    omega
  | cons z r =>
    have m : z ∈ (spares x).filter (fun c => !decide (c ∈ ns) && !decide (c ∈ ts)) := by rw [e]; exact List.mem_cons_self ..
    obtain ⟨m1, m2⟩ := List.mem_filter.mp m
    simp only [Bool.and_eq_true, Bool.not_eq_true', decide_eq_false_iff_not] at m2
    exact ⟨z, r, rfl, m1, m2.1, m2.2⟩
end K19
set_option Elab.async false
set_option linter.all false
set_option maxRecDepth 100000
set_option maxHeartbeats 2000000
namespace K19
open PySem L2 LW
section
variable {P : Program} {w : World} {K : PySem.W.Frag} {mg : Str → Option Value} {base : Heap} {f : Addr} {fd : FuncData}
theorem sum_one : ∀ {ys : List Str}, (∀ y ∈ ys, One y) → (ys.map (·.length)).sum = ys.length
  | [], _ => rfl
  | y :: r, h => by
    obtain ⟨c, rfl, _⟩ := h y (List.mem_cons_self ..)
    rw [List.map_cons, List.sum_cons, sum_one fun z hz => h z (List.mem_cons_of_mem _ hz), List.length_cons]
    show 1 + r.length = _
    omega
/-- so many different labels, none of them taken -/
structure Fresh (ys taken : List Str) (n : Nat) : Prop where
  len : ys.length = n
  nd : ys.Nodup
  lb : ∀ y ∈ ys, Lb y 5 ∧ y ∉ taken
def ANamed (K : PySem.W.Frag) : Addr × Nat × List Str → List V → Hp → Prop := fun x vs H => ∃ a, vs = [.ref x.1, .int (x.2.1 : Int), .ref a] ∧ H x.1 = some (PotO x.1) ∧ SqL K H a (x.2.2.map V.str) ∧ x.2.1 ≤ 60 ∧ x.2.1 + x.2.2.length < 100
def RNamed : Addr × Nat × List Str → V → Hp → Prop := fun x v H => ∃ b ys, v = .ref b ∧ H b = some (.lst (ys.map V.str)) ∧ Fresh ys x.2.2 x.2.1
abbrev nNamed : List Str := ["_law_pot_here", "_law_size", "_law_taken", "_law_letters", "_law_found", "_law_k", "_law_label", "_law_spare", "_law_turn", "_law_near_here"]
theorem scNamed : FnScope nNamed ["_law_pot_here", "_law_size", "_law_taken"] (defScope sNamed) := ⟨rfl, rfl, rfl, by decide +kernel, rfl, by decide +kernel, by decide +kernel⟩
def fOne (ys : List Str) : Prop := (ys ≠ [] ∧ ys.length ≤ 3) ∧ ∀ y ∈ ys, One y
theorem b_named (B : BltL mg) (FD : Fn P w K mg base "_law_draw" 1 AD RD) : Body P w K mg base nNamed "_law_named" sNamed f 1 (ANamed K) RNamed := by
  intro cdv Ar outer s H0 E x vs H Hc D hr ex pa rt nx
  obtain ⟨p, n, ts⟩ := x
  obtain ⟨a, rfl, hp, h1, hn, hz⟩ := pa.now
  have hp : H p = some (PotO p) := hp
  have h1 : SqL K H a (ts.map V.str) := h1
  have hn : n ≤ 60 := hn
  have hz : n + ts.length < 100 := hz
  refine b_asgNew 3 4 ex (P := is (V.str "abcdefghijklmnopqrstuvwxyz")) e_str (fun v l H1 Hc1 g1 p1 n1 l1 hl => ?_) (pg_tup rfl (pgs_cons (pg_name (i := 3) scNamed.nd rfl (.inr rfl)) (pgs_cons (pg_name (i := 4) scNamed.nd rfl (.inr rfl)) pgs_nil)))
  obtain rfl : v = V.str "abcdefghijklmnopqrstuvwxyz" := p1.now
  refine b_for (H := H1) (g := gName 5) g1.s PassesOwn.never rfl (pi_range1 rfl B.range pa_w) (i_rng1 (n := (n : Int)) (a_consD (e_var 1) a_nil) (by omega) (by omega)) (pg_name (i := 5) scNamed.nd rfl (.inl rfl)) fun H2 Hc2 g2 => ?_
  refine ⟨fun i σ1 H4 Hc4 => ∃ (ns : List Str) (u1 u2 u3 : Option V), σ1 = [some (.ref p), some (.int (n : Int)), some (.ref a), some (.str "abcdefghijklmnopqrstuvwxyz"), some (.ref l), u1, u2, u3, none, none] ∧ H4 l = none ∧ Hc4 l = some (.lst (ns.map V.str)) ∧ ns.length = i ∧ ns.Nodup ∧ (∀ x ∈ ns, Lb x 5 ∧ x ∉ ts) ∧ Grow H Hc H4 Hc4,
    ⟨[], none, none, none, rfl, g2.un l1 n1, g2.c _ _ l1, rfl, List.nodup_nil, fun x hx => absurd hx List.not_mem_nil, g1.trans g2⟩, ?_, ?_⟩
  · rintro i σ1 H4 Hc4 hi e4 e5 ⟨ns, u1, u2, u3, rfl, hl4, hc4, hlen, hnd, hnm, g4⟩ y H5 Hc5 g5 py
    have hi : i < n := by have : i < (n : Int).toNat := hi; omega
    have pt : ∀ {H'}, Ex H5 H' → H' p = some (PotO p) := fun e => e _ _ ((g4.k.trans g5.k) _ _ hp)
    refine b_set 6 g5.s (P := fun v _ => ∃ z, v = V.str z ∧ Lb z 3) (Cm.imp (e_join (z := "") (φ := fOne) e_str ?_) fun v H' _ z => ?_) (fun v H6 Hc6 g6 p6 => ?_) scNamed.nd (hx := .inr rfl)
    · refine e_lc (own := [("_law_turn", 8)]) (g := gName 8) rfl scNamed.nd (pi_range1 rfl B.range pa_w) (blkOk_by (N := nNamed) (sc := defScope sNamed) (by decide +kernel)) (fun _ _ _ _ _ => pg_name (i := 8) scNamed.nd rfl (.inl rfl)) (fun _ _ _ _ _ => pts_nil)
        (c_lcX (Φ := fun n => 1 ≤ n ∧ n ≤ 3) (i_rngX (Cm.imp (a_cons (P := fun v _ => ∃ n : Nat, v = V.int (n : Int) ∧ 1 ≤ n ∧ n ≤ 3) (e_op op_add (e_int (i := 1)) (e_callD (p, 3) FD hr (a_consD (e_var 0) (a_consD e_int a_nil)) fun H' e => ad (pt e) (by decide) (by decide)) fun x2 y2 H6 e6 px2 py2 => ?_) a_nil) fun vs H' e z => ?_)) (fun m hm => by omega)
          (fun i acc _ => ∃ ys : List Str, acc = ys.map V.str ∧ ys.length = i ∧ ∀ y ∈ ys, One y) (fun _ => ⟨[], rfl, rfl, fun y hy => absurd hy List.not_mem_nil⟩) (fun m i x acc H6 hm hi e6 px pacc => ?_) fun m acc q H6 hm e6 pacc hq => ?_)
      · obtain rfl : x2 = V.int 1 := px2.now
        obtain ⟨r, rfl, r0, r1⟩ := py2.now
        have r1 : r < 3 := r1
        refine (r_I0 (g := fun i j => V.int (i + j)) (i := 1) (j := r)).imp fun v _ _ z => ⟨(1 + r).toNat, ?_, by omega, by omega⟩
        rw [show v = V.int (1 + r) from z]
        congr 1
        omega
      · obtain ⟨u, us, rfl, ⟨m, rfl, m1, m2⟩, rfl⟩ := z
        exact ⟨m, rfl, by omega, m1, m2⟩
      · refine ⟨_, true, bind_name, rfl, c_yes, fun _ => c_eb fun s0 H00 C0 cl fp => ?_, fun q => nomatch q⟩
        refine Cm.imp (e_ix (P := fun v _ => ∃ c, v = V.str ⟨#[c]⟩ ∧ ok c) (Pa := is (V.str "abcdefghijklmnopqrstuvwxyz")) (Pb := RD (p, 26)) ix_str (e_var 3) (e_callD (p, 26) FD hr (a_consD (e_var 0) (a_consD e_int a_nil)) fun H' e => ad (pt (e6.trans e)) (by decide) (by decide)) fun x2 y2 H7 e7 px2 py2 => ?_) fun v H' e z => ?_
        · obtain rfl := px2.now
          obtain ⟨r, rfl, r0, r1⟩ := py2.now
          have r1 : r < 26 := r1
          obtain ⟨n, rfl⟩ : ∃ n : Nat, r = (n : Int) := ⟨r.toNat, by omega⟩
          exact (r_ixS (by decide +kernel) (L2.atI_nat (abc_at (i := n) (by omega)))).imp fun v _ _ z => ⟨n + 97, z, by omega, by omega⟩
        · obtain ⟨c, rfl, hc⟩ := z
          obtain ⟨ys, rfl, hl, hy⟩ := pacc H' e
          refine ⟨ys ++ [⟨#[c]⟩], by rw [List.map_append] <;> rfl, by rw [List.length_append, hl] <;> rfl, fun y hy2 => ?_⟩
          rcases List.mem_append.mp hy2 with m | m
          · exact hy y m
          · rw [List.mem_singleton.mp m]; exact ⟨c, rfl, hc⟩
      · obtain ⟨ys, rfl, hl, hy⟩ := pacc.now
        have l0 : ("" : Str).length = 0 := by decide +kernel
        refine fun H' e' => ⟨q, ys, rfl, SqL.of (e' _ _ hq), ⟨⟨fun z => ?_, by omega⟩, hy⟩, ?_⟩
        · rw [z] at hl; have : 0 = m := hl; omega
        · rw [sum_one hy, l0]; omega
    · obtain ⟨ys, rfl, ⟨ne, h3⟩, h4⟩ := z
      obtain ⟨z1, z2⟩ := glue_ok ne h4
      have : 0 < ys.length := List.length_pos_iff.mpr ne
      exact ⟨_, rfl, by omega, by omega, z2⟩
    obtain ⟨z, rfl, hz3⟩ := p6.now
    have hl6 := g6.c _ _ (g5.c _ _ hc4)
    have n6 : H6 l = none := g6.un (g5.c _ _ hc4) (g5.un hc4 hl4)
    have g6' := (g4.trans g5).trans g6
    have tk : ∀ {H'}, Ex (upd H6 l (.lst (ns.map V.str))) H' → SqL K H' a (ts.map V.str) := fun e => Evl.ex_l (g6'.k.trans ((Ex.put n6).trans e)) h1
    have fd' : ∀ {H'}, Ex (upd H6 l (.lst (ns.map V.str))) H' → SqL K H' l (ns.map V.str) := fun e => SqL.of (e _ _ upd_same)
    refine b_if (H := upd H6 l (.lst (ns.map V.str))) (g6.s.own hl6) (k := decide (z ∈ ns) || decide (z ∈ ts)) (t_w (w_or (t_inS (e_var 6) (e_var 4) (fun H' e => .inl (fd' e))) fun _ => w_or1 (t_inS (e_var 6) (e_var 2) (fun H' e => .inl (tk e))))) (fun hk H7 Hc7 g7 => ?_) fun hk H7 Hc7 g7 => b_nil ?_
    · have hl7 := g7.c _ _ hl6
      have g7' := g6'.looked n6 g7
      obtain ⟨c, r, hc, hc1, hc2, hc3⟩ := spares_left (x := z) (ns := ns) (ts := ts) (by omega)
      obtain ⟨t, ht, rfl⟩ := List.mem_map.mp hc1
      have ht : t < 100 := List.mem_range.mp ht
      have own : Ex (upd H6 l (.lst (ns.map V.str))) Hc7 := g7.k.trans g7.s
      refine b_setLc 7 (H := upd H6 l (.lst (ns.map V.str))) (P := fun v H' => ∃ b, v = V.ref b ∧ H' b = some (.lst ((spares z).map V.str))) own rfl scNamed.nd rfl rfl rfl (pi_range1 rfl B.range pa_w) (own := [("_law_turn", 8)]) (g := gName 8) (blkOk_by (N := nNamed) (sc := defScope sNamed) (by decide +kernel)) (fun _ _ _ _ _ => pg_name (i := 8) scNamed.nd rfl (.inl rfl)) (fun _ _ _ _ _ => pts_nil)
        (c_lc (i_rng1 (n := 100) (a_consD e_int a_nil) (by decide) (by decide)) (by decide) (fun i acc _ => acc = ((List.range i).map (spare1 z)).map V.str) (fun _ => rfl) (fun j y acc H9 hj e9 py pacc => ?_) fun acc q H9 e9 pacc hq => ?_) (fun v H8 Hc8 g8 p8 => ?_)
      · obtain rfl : y = V.int (0 + (j : Int)) := py.now
        have hj : j < 100 := by have : j < (100 : Int).toNat := hj; omega
        refine ⟨_, true, bind_name, rfl, c_yes, fun _ => c_eb fun s0 H00 C0 cl fp => ?_, fun q => nomatch q⟩
        have l1 : (⟨#[j % 26 + 97]⟩ : Str).length = 1 := rfl
        have l2 : (⟨#[j / 26 + 97]⟩ : Str).length = 1 := rfl
        have zh := hz3.hi
        refine Cm.imp (e_opD (P := is (V.str (spare1 z j))) (x := V.str (z ++ ⟨#[j % 26 + 97]⟩)) (y := V.str ⟨#[j / 26 + 97]⟩) op_add_str
          (e_opD (x := V.str z) (y := V.str ⟨#[j % 26 + 97]⟩) op_add_str (e_var 6) (e_ixD ix_str (e_var (v := V.str "abcdefghijklmnopqrstuvwxyz") 3) (t_is (e_opD op_mod (e_var (v := V.int (0 + (j : Int))) 8) e_int (r_I (g := fun i j => V.int (i % j)) (i := 0 + (j : Int)) (j := 26) (by decide))) (show V.int ((0 + (j : Int)) % 26) = V.int ((j % 26 : Nat) : Int) by congr 1; omega)) (r_ixS (by decide +kernel) (L2.atI_nat (abc_at (i := j % 26) (by omega)))))
            (Cm.ret (fun Hc ex Q q => ⟨_, _, rfl, rfl, by rw [l1]; exact Evl.sz_of (by omega), q⟩) (.const rfl)))
          (e_ixD ix_str (e_var (v := V.str "abcdefghijklmnopqrstuvwxyz") 3) (t_is (e_opD op_fdiv (e_var (v := V.int (0 + (j : Int))) 8) e_int (r_I (g := fun i j => V.int (i / j)) (i := 0 + (j : Int)) (j := 26) ⟨by decide, by decide⟩)) (show V.int ((0 + (j : Int)) / 26) = V.int ((j / 26 : Nat) : Int) by congr 1; omega)) (r_ixS (by decide +kernel) (L2.atI_nat (abc_at (i := j / 26) (by omega)))))
          (Cm.ret (fun Hc ex Q q => ⟨_, _, rfl, rfl, by rw [len_app, l1, l2]; exact Evl.sz_of (by omega), q⟩) (.const rfl))) fun v H' _ q => ?_
        have ea : acc = ((List.range j).map (spare1 z)).map V.str := pacc.now
        rw [ea, show v = V.str (spare1 z j) from q, List.range_succ, List.map_append, List.map_append] <;> rfl
      · have ea : acc = ((List.range (100 : Int).toNat).map (spare1 z)).map V.str := pacc.now
        subst ea
        exact fun H' e' => ⟨q, rfl, e' _ _ hq⟩
      · obtain ⟨b, rfl, hb⟩ := p8.now
        have hl8 := g8.c _ _ hl7
        have e68 : Ex (upd H6 l (.lst (ns.map V.str))) H8 := g8.k
        refine b_set 6 (H := H8) g8.s (P := is (V.str (spare1 z t))) (e_ix (Pa := lst K ((spare1 z t :: r).map V.str)) (Pb := is (V.int 0)) ix_list ?_ e_int fun x2 y2 H9 e9 px py => ?_) (fun v H9 Hc9 g9 p9 => b_nil ?_) scNamed.nd (hx := .inr rfl)
        · refine Cm.imp (e_lc (P := lst K (((spares z).filter fun c => !decide (c ∈ ns) && !decide (c ∈ ts)).map V.str)) (own := [("_law_near_here", 9)]) (g := gName 9) rfl scNamed.nd (pi_list pe_w) (blkOk_by (N := nNamed) (sc := defScope sNamed) (by decide +kernel)) (fun _ _ _ _ _ => pg_name (i := 9) scNamed.nd rfl (.inl rfl)) (fun s H C cl fp => pts_one (pt_b s H C cl fp))
            (c_lc (i_list (xs := (spares z).map V.str) (Cm.imp (e_var (v := V.ref b) 7) fun v H' e z => ⟨b, z, SqL.of (e _ _ hb)⟩)) (by unfold spares; simp) (fun i acc _ => acc = (((spares z).take i).filter fun c => !decide (c ∈ ns) && !decide (c ∈ ts)).map V.str) (fun _ => rfl) (fun j y acc H9 hj e9 py pacc => ?_) fun acc q H9 e9 pacc hq => ?_)) fun v H' _ q => by rw [hc] at q; exact q
          · obtain ⟨c, hcj, rfl⟩ := txt_get py.now
            have ea : acc = (((spares z).take j).filter fun c => !decide (c ∈ ns) && !decide (c ∈ ts)).map V.str := pacc.now
            refine ⟨_, !decide (c ∈ ns) && !decide (c ∈ ts), bind_name, rfl, c_tb fun s H0 C cl fp => t_w (w_and (t_cmpD op_notIn_seq (by rfl) (e_var 9) (e_var 4) (r_ninS fun H' e => .inl (fd' (e68.trans (e9.trans e))))) fun _ => w_and1 (t_cmpD op_notIn_seq (by rfl) (e_var 9) (e_var 2) (r_ninS fun H' e => .inl (tk (e68.trans (e9.trans e)))))), fun q => c_eb fun s H0 C cl fp => ?_, fun q => ?_⟩
            · refine Cm.imp (e_var (v := V.str c) 9) fun v H' _ z => ?_
              rw [ea, show v = V.str c from z, take_snoc hcj, List.filter_append, List.map_append, List.filter_cons_of_pos (by exact q), List.filter_nil] <;> rfl
            · refine .const ?_
              rw [ea, take_snoc hcj, List.filter_append, List.filter_cons_of_neg (by rw [q]; exact Bool.false_ne_true), List.filter_nil, List.append_nil]
          · have ea : acc = (((spares z).take ((spares z).map V.str).length).filter fun c => !decide (c ∈ ns) && !decide (c ∈ ts)).map V.str := pacc.now
            rw [List.length_map, List.take_length] at ea
            subst ea
            exact fun H' e' => ⟨q, rfl, SqL.of (e' _ _ hq)⟩
        · obtain ⟨a, rfl, hxa⟩ := pz_lst px
          obtain rfl := py.now
          exact r_ixL hxa (L2.atI_nat (j := 0) (by rfl))
        · obtain rfl := p9.now
          have hl9 := g9.c _ _ hl8
          have g9' := g6'.looked n6 ((g7.trans (still (g7.s.trans (g8.c)) g8.c)).trans (still (g7.s.trans (g8.c.trans g9.c)) g9.c) |> fun z => z)
          have g10 : Grow H Hc H6 Hc9 := g9'
          refine b_app (l := l) (xs := ns.map V.str) (P := is (V.str (spare1 z t))) g10.s (e_var 4) (e_var 6) hl9 (by rw [List.length_map]; omega) fun v8 H10 Hc10 g11 p8 => b_nil ?_
          obtain rfl := p8.now
          have n8 : H10 l = none := g11.un hl9 n6
          refine ⟨H10, ((e4.trans g5.k).trans g6.k).trans g11.k, g11.s.mut n8, ns ++ [spare1 z t], _, _, _, rfl, n8, by rw [upd_same, List.map_append] <;> rfl, by rw [List.length_append, hlen] <;> rfl, List.nodup_append.mpr ⟨hnd, List.nodup_cons.mpr ⟨List.not_mem_nil, List.nodup_nil⟩, fun a ha b hb q => hc2 (by rw [List.mem_singleton.mp hb] at q; exact q ▸ ha)⟩, fun a ha => ?_, (g10.trans g11).mut hl n8⟩
          rcases List.mem_append.mp ha with m | m
          · exact hnm a m
          · rw [List.mem_singleton.mp m]; exact ⟨spare_lb hz3 ht, hc3⟩
    · have hl7 := g7.c _ _ hl6
      have g7' := g6'.looked n6 g7
      have hk1 : z ∉ ns := fun m => by rw [decide_eq_true m] at hk; cases hk
      have hk2 : z ∉ ts := fun m => by rw [decide_eq_true m, Bool.or_true] at hk; cases hk
      refine b_app (l := l) (xs := ns.map V.str) (P := is (V.str z)) g7'.s (e_var 4) (e_var 6) hl7 (by rw [List.length_map]; omega) fun v8 H8 Hc8 g8 p8 => b_nil ?_
      obtain rfl := p8.now
      have n8 : H8 l = none := g8.un hl7 n6
      refine ⟨H8, ((e4.trans g5.k).trans g6.k).trans g8.k, g8.s.mut n8, ns ++ [z], _, _, _, rfl, n8, by rw [upd_same, List.map_append] <;> rfl, by rw [List.length_append, hlen] <;> rfl, List.nodup_append.mpr ⟨hnd, List.nodup_cons.mpr ⟨List.not_mem_nil, List.nodup_nil⟩, fun a ha b hb q => hk1 (by rw [List.mem_singleton.mp hb] at q; exact q ▸ ha)⟩, fun a ha => ?_, (g7'.trans g8).mut hl n8⟩
      rcases List.mem_append.mp ha with m | m
      · exact hnm a m
      · rw [List.mem_singleton.mp m]; exact ⟨hz3.mono (by decide), hk2⟩
  · rintro σ1 H4 Hc4 e4 e5 ⟨ns, u1, u2, u3, rfl, hl4, hc4, hlen, hnd, hnm, g4⟩
    refine b_ret (P := is (V.ref l)) g4.s (e_var 4) fun v H5 Hc5 g5 p5 => rt v (upd H5 l (.lst (ns.map V.str))) _ ((g4.trans g5).know hl (g5.un hc4 hl4) (g5.c _ _ hc4)) ?_
    obtain rfl := p5.now
    have e : ns.length = n := by have : ns.length = (n : Int).toNat := hlen; omega
    exact fun H' e' => ⟨l, ns, rfl, e' _ _ upd_same, e, hnd, hnm⟩
end
end K19
set_option Elab.async false
set_option linter.all false
set_option maxRecDepth 100000
set_option maxHeartbeats 2000000
/-! {"k": e, "l": e2}; a pair in, or not in, a list of pairs -/
namespace LW
open PySem L2
section
variable {X : Cx} {σ : St} {H : Hp} {P1 P2 : V → Hp → Prop} {e1 e2 i o : Expr} {pos p1 p2 : Pos} {k1 k2 : Str} {j1 j2 : Nat}
theorem e_disp2 (h1 : Cm H P1 (wE X e1 σ)) (h2 : Cm H P2 (wE X e2 σ)) (ne : k2 ≠ k1 := by decide) :
    Cm H (fun v H' => ∃ p v1 v2, v = .ref p ∧ H' p = some (.dK [(.inr k1, v1), (.inr k2, v2)]) ∧ P1 v1 H' ∧ P2 v2 H') (wE X (.Dict [some (.Constant (.str k1) j1 p1), some (.Constant (.str k2) j2 p2)] [e1, e2] pos) σ) := by
  refine ce (pe_disp (pps_cons pe_str pe_w (pps_cons pe_str pe_w pps_nil)) rfl rfl (fun z => by cases z) (by exact (by decide : 2 ≤ 15))) fun Hc ex Q q p hp => ?_
  have n0 : H p = none := Evl.fresh_back ex hp
  have x0 := Evl.Ex.new (o := HO.dK []) hp
  refine h1 _ (ex.trans x0) _ fun v1 Hn H2 g1 q1 => ?_
  refine h2.mono g1.k H2 g1.s _ fun v2 Hm H3 g2 q2 => ?_
  have gg := g1.trans g2
  have hm : Hm p = none := gg.un upd_same n0
  have G := (((still (ex.trans x0) x0).trans gg).mut (o := .dK [(.inr k1, v1), (.inr k2, v2)]) hp hm).know hp hm upd_same
  refine ⟨gg.c _ _ upd_same, [(.inr k1, v1), (.inr k2, v2)], rfl, by exact (by decide : 2 ≤ 15), ?_⟩
  have em : mergeK [] [((.inr k1 : Key), v1), (.inr k2, v2)] = [(.inr k1, v1), (.inr k2, v2)] := by
    have z : ¬ k1 = k2 := fun z => ne z.symm
    simp [mergeK, putK, z]
  rw [em]
  exact q _ _ _ G fun H' e' => ⟨p, v1, v2, rfl, e' _ _ upd_same, q1 H' (g2.k.trans ((Evl.Ex.new hm).trans e')), q2 H' ((Evl.Ex.new hm).trans e')⟩
variable {a : Addr} {ts : List Addr} {ps : List (Str × Str)} {p : Str × Str} {pos3 : Pos}
theorem t_ninPr (hu : X.A.units + 65 < cLine) (hi : Cm H (pr p) (wE X i σ)) (ho : Cm H (is (V.ref a)) (wE X o σ)) (h : Pz H (fun H' => SqL X.K H' a (ts.map V.ref) ∧ TsAt H' ts ps)) (np : Nm p.1 ∧ Nm p.2) (nps : ∀ q ∈ ps, Nm q.1 ∧ Nm q.2) (hm : behindInMarks .NotIn o = false := by rfl) :
    Cm H (is (!decide (p ∈ ps))) (wT X (.Compare i [.NotIn] [o] pos) σ) :=
  t_cmp (op_notInD hu) hm hi ho fun x y H1 ex1 px py => by
    obtain ⟨t, rfl, ht⟩ := px.now
    obtain rfl : y = V.ref a := py.now
    refine Cm.ret (fun Hc ex Q q => ⟨dPr p, ps.map dPr, .tup (SqT.of (ex _ _ ht)) (.cons (.str _) (.cons (.str _) .nil)), .lst (h Hc (ex1.trans ex)).1 (dp_prs (h Hc (ex1.trans ex)).2), sh_pr np.1 np.2, sh_prs nps, ?_⟩) (.const rfl)
    rw [any_pr]; exact q
theorem t_inPr (hu : X.A.units + 65 < cLine) (hi : Cm H (pr p) (wE X i σ)) (ho : Cm H (is (V.ref a)) (wE X o σ)) (h : Pz H (fun H' => SqL X.K H' a (ts.map V.ref) ∧ TsAt H' ts ps)) (np : Nm p.1 ∧ Nm p.2) (nps : ∀ q ∈ ps, Nm q.1 ∧ Nm q.2) (hm : behindInMarks .In o = false := by rfl) :
    Cm H (is (decide (p ∈ ps))) (wT X (.Compare i [.In] [o] pos) σ) :=
  t_cmp (op_inD hu) hm hi ho fun x y H1 ex1 px py => by
    obtain ⟨t, rfl, ht⟩ := px.now
    obtain rfl : y = V.ref a := py.now
    refine Cm.ret (fun Hc ex Q q => ⟨dPr p, ps.map dPr, .tup (SqT.of (ex _ _ ht)) (.cons (.str _) (.cons (.str _) .nil)), .lst (h Hc (ex1.trans ex)).1 (dp_prs (h Hc (ex1.trans ex)).2), sh_pr np.1 np.2, sh_prs nps, ?_⟩) (.const rfl)
    rw [any_pr]; exact q
end
end LW
set_option Elab.async false
set_option linter.all false
set_option maxRecDepth 100000
set_option maxHeartbeats 2000000
namespace K19
open PySem L2 LW
theorem sort_ex {α : Type} {lt : α → α → Prop} [∀ x y, Decidable (lt x y)] (irr : ∀ x, ¬ lt x x) (tr : ∀ x y z, lt x y → lt y z → lt x z) (tri : ∀ x y, ¬ lt x y → ¬ lt y x → x = y) (xs : List α) : ∃ ys : List α, ys.Perm xs ∧ ys.Pairwise fun x y => ¬ lt y x := by
  have s := List.pairwise_mergeSort (le := fun x y => !decide (lt y x)) (fun a b c h1 h2 => by
    simp only [Bool.not_eq_true', decide_eq_false_iff_not] at h1 h2 ⊢
    intro h
    by_cases e : lt a b
    · exact h2 (tr _ _ _ h e)
    · rw [tri a b e h1] at h; exact h2 h) (fun a b => by
    by_cases h : lt b a
    · have h2 : ¬ lt a b := fun z => irr _ (tr _ _ _ h z)
      simp [h2]
    · simp [h]) xs
  exact ⟨_, List.mergeSort_perm xs _, s.imp fun h => by simpa using h⟩
theorem sortN_ex (xs : List Str) : ∃ ys : List Str, ys.Perm xs ∧ SortN ys := sort_ex Lt.irr (fun _ _ _ => Lt.tr) (fun _ _ => Lt.tri) xs
theorem sortP_ex (xs : List (Str × Str)) : ∃ ys : List (Str × Str), ys.Perm xs ∧ SortP ys := sort_ex LtP.irr (fun _ _ _ => LtP.tr) (fun _ _ => LtP.tri) xs
end K19
set_option Elab.async false
set_option linter.all false
set_option maxRecDepth 100000
set_option maxHeartbeats 2000000
namespace K19
open PySem L2 LW
abbrev sAny : Stmt := top 46
section
variable {P : Program} {w : World} {K : PySem.W.Frag} {mg : Str → Option Value} {base : Heap} {f : Addr} {fd : FuncData}
/-- a model: nodes and links, sorted -/
def MdlAt (d : Addr) (ns : List Str) (ls : List (Str × Str)) (H : Hp) : Prop := ∃ a b ts, H d = some (.dK [(.inr "spots", .ref a), (.inr "pairs", .ref b)]) ∧ H a = some (.lst (ns.map V.str)) ∧ H b = some (.lst (ts.map V.ref)) ∧ TsAt H ts ls
theorem MdlAt.ex {d : Addr} {ns : List Str} {ls : List (Str × Str)} {H H' : Hp} (e : Ex H H') (h : MdlAt d ns ls H) : MdlAt d ns ls H' := by
  obtain ⟨a, b, ts, h1, h2, h3, h4⟩ := h
  exact ⟨a, b, ts, e _ _ h1, e _ _ h2, e _ _ h3, paired_ex e h4⟩
def AAny : Addr × Nat × Nat → List V → Hp → Prop := fun x vs H => vs = [.ref x.1, .int (x.2.1 : Int), .int (x.2.2 : Int)] ∧ H x.1 = some (PotO x.1) ∧ 1 ≤ x.2.1 ∧ x.2.1 ≤ 50 ∧ x.2.2 ≤ 50
def RAny : Addr × Nat × Nat → V → Hp → Prop := fun x v H => ∃ d ns ls, v = .ref d ∧ MdlAt d ns ls H ∧ Nt ns ls ∧ ns.length ≤ x.2.1 ∧ ls.length ≤ x.2.2 ∧ ∀ y ∈ ns, y.length ≤ 5
abbrev nAny : List Str := ["_law_pot_here", "_law_most", "_law_size", "_law_spots", "_law_pairs", "_law_turn", "_law_this", "_law_mate"]
theorem scAny : FnScope nAny ["_law_pot_here", "_law_most", "_law_size"] (defScope sAny) := ⟨rfl, rfl, rfl, by decide +kernel, rfl, by decide +kernel, by decide +kernel⟩
/-- the pairs so far -/
structure Qs (ns : List Str) (qs : List (Str × Str)) : Prop where
  nd : qs.Nodup
  lk : ∀ p ∈ qs, p.1 ∈ ns ∧ p.2 ∈ ns ∧ Lt p.1 p.2
theorem Qs.nm {ns : List Str} {qs : List (Str × Str)} (h : Qs ns qs) (hn : ∀ x ∈ ns, Nm x) : ∀ p ∈ qs, Nm p.1 ∧ Nm p.2 := fun p hp => ⟨hn _ (h.lk p hp).1, hn _ (h.lk p hp).2.1⟩
theorem b_any (B : BltL mg) (hS : mg "sorted" = none) (FD : Fn P w K mg base "_law_draw" 1 AD RD) (FN : Fn P w K mg base "_law_named" 2 (ANamed K) RNamed) (FP : Fn P w K mg base "_law_pick" 2 (APk K) RPk) (FL : Fn P w K mg base "_law_link" 1 AP2 RLkO) :
    Body P w K mg base nAny "_law_any" sAny f 2 AAny RAny := by
  intro cdv Ar outer s H0 E x vs H Hc D hr ex pa rt nx
  obtain ⟨p, m, k⟩ := x
  obtain ⟨rfl, hp, hm1, hm2, hk⟩ := pa.now
  have hp : H p = some (PotO p) := hp
  have hm1 : 1 ≤ m := hm1
  have hm2 : m ≤ 50 := hm2
  have hk : k ≤ 50 := hk
  have hu : (fx P w K mg base nAny "_law_any" sAny f cdv Ar outer s H0 E).A.units + 65 < cLine := by have := hr.un; omega
  refine b_parNew 3 4 (P := fun v H' => ∃ b ys, v = .ref b ∧ H' b = some (.lst (ys.map V.str)) ∧ Fresh ys [] ys.length ∧ 1 ≤ ys.length ∧ ys.length ≤ m) ex rfl scAny.nd (e_call FN hr (a_cons (P := is (V.ref p)) (e_var 0) (a_cons (P := fun v _ => ∃ n : Nat, v = V.int (n : Int) ∧ 1 ≤ n ∧ n ≤ m)
    (e_op op_add (e_int (i := 1)) (e_callD (p, (m : Int)) FD (hr.mono (by decide)) (a_consD (e_var 0) (a_consD (e_var 1) a_nil)) fun H' e => ad (e _ _ hp) (by omega) (by omega)) fun x2 y2 H6 e6 px2 py2 => ?_)
    (a_cons (P := fun v H' => ∃ b, v = .ref b ∧ H' b = some (.lst [])) (e_lst a_nil (fun xs _ z => by rw [show xs = _ from z]; exact (by decide : 0 ≤ 100000)) fun xs q H3 e3 z hq => ?_) a_nil))) fun vs H1 e1 p1 => ?_) (fun v l H1 Hc1 g1 p1 n1 l1 hl => ?_)
  · obtain rfl : x2 = V.int 1 := px2.now
    obtain ⟨r, rfl, r0, r1⟩ := py2.now
    have r1 : r < (m : Int) := r1
    refine (r_I0 (g := fun i j => V.int (i + j)) (i := 1) (j := r)).imp fun v _ _ z => ⟨(1 + r).toNat, ?_, by omega, by omega⟩
    rw [show v = V.int (1 + r) from z]
    congr 1
    omega
  · rw [show xs = _ from z.now] at hq
    exact fun H' e' => ⟨q, rfl, e' _ _ hq⟩
  · obtain ⟨_, _, rfl, rfl, _, _, rfl, ⟨n, rfl, n1, n2⟩, _, _, rfl, ⟨b, rfl, hb⟩, rfl⟩ := p1.now
    refine ⟨(p, n, []), fun H' e => ⟨b, rfl, e _ _ (e1 _ _ hp), SqL.of (e _ _ hb), by show n ≤ 60; omega, by show n + 0 < 100; omega⟩, fun v H2 e2 z => ?_⟩
    obtain ⟨c, ys, rfl, hc, F⟩ := z
    have fl : ys.length = n := F.len
    exact ⟨c, ys, rfl, hc, ⟨rfl, F.nd, F.lb⟩, by omega, by omega⟩
  · obtain ⟨b, ns, rfl, hb, F, h1, h2⟩ := p1.now
    have nm : ∀ x ∈ ns, Nm x := fun x hx => (F.lb x hx).1.nm (by decide)
    have ne : ns ≠ [] := fun z => by rw [z] at h1; exact absurd h1 (by decide)
    have hp1 : H1 p = some (PotO p) := g1.k _ _ hp
    refine b_forX (H := H1) (Φ := fun n => n ≤ k) (g := gName 5) g1.s PassesOwn.never rfl (pi_range1 rfl B.range pa_w) (i_rngX (Cm.imp (a_cons (P := fun v _ => ∃ n : Nat, v = V.int (n : Int) ∧ n ≤ k)
      (Cm.imp (e_callD (p, (k : Int) + 1) FD (hr.mono (by decide)) (a_consD (e_var 0) (a_consD (e_opD op_add (e_var 2) e_int (r_I0 (g := fun i j => V.int (i + j)) (i := (k : Int)) (j := 1))) a_nil)) fun H' e => ad (e _ _ hp1) (by omega) (by omega)) fun v _ _ ⟨r, z1, z2, z3⟩ => ⟨r.toNat, by rw [z1]; congr 1; omega, by have z3 : r < (k : Int) + 1 := z3; omega⟩) a_nil) fun vs H' e z => ?_)) (pg_name (i := 5) scAny.nd rfl (.inl rfl)) fun n H2 Hc2 hn g2 => ?_
    · obtain ⟨u, us, rfl, ⟨m, rfl, m1⟩, rfl⟩ := z
      exact ⟨m, rfl, by omega, m1⟩
    · refine ⟨fun i σ1 H4 Hc4 => ∃ (ts : List Addr) (qs : List (Str × Str)) (u1 u2 u3 : Option V), σ1 = [some (.ref p), some (.int (m : Int)), some (.int (k : Int)), some (.ref b), some (.ref l), u1, u2, u3] ∧ H4 l = none ∧ Hc4 l = some (.lst (ts.map V.ref)) ∧ TsAt H4 ts qs ∧ qs.length ≤ i ∧ Qs ns qs ∧ Grow H Hc H4 Hc4,
        ⟨[], [], none, none, none, rfl, g2.un l1 n1, g2.c _ _ l1, .nil, Nat.le_refl _, ⟨List.nodup_nil, fun p hp => absurd hp List.not_mem_nil⟩, g1.trans g2⟩, ?_, ?_⟩
      · rintro i σ1 H4 Hc4 hi e4 e5 ⟨ts, qs, u1, u2, u3, rfl, hl4, hc4, hts, hlen, hQ, g4⟩ y H5 Hc5 g5 py
        have hn : n ≤ k := hn
        have pt : ∀ {H'}, Ex H5 H' → H' p = some (PotO p) := fun e => e _ _ ((g4.k.trans g5.k) _ _ hp)
        have sp : ∀ {H'}, Ex H5 H' → SqL K H' b (ns.map V.str) := fun e => SqL.of (e _ _ (((g2.k.trans e4).trans g5.k) _ _ hb))
        have pk : ∀ {H'}, Ex H5 H' → APk K (p, ns.map V.str) [.ref p, .ref b] H' := fun e => ⟨b, rfl, pt e, sp e, by simpa using ne, by show (ns.map V.str).length ≤ 1000; rw [List.length_map]; omega⟩
        refine b_par 6 7 g5.s rfl scAny.nd (Pa := fun vs _ => ∃ y z, vs = [V.str y, V.str z] ∧ y ∈ ns ∧ z ∈ ns) (Cm.imp (a_cons (P := RPk (p, ns.map V.str)) (e_callD (p, ns.map V.str) FP hr (a_consD (e_var 0) (a_consD (e_var 3) a_nil)) fun H' e => pk e) (a_cons (P := RPk (p, ns.map V.str)) (e_callD (p, ns.map V.str) FP hr (a_consD (e_var 0) (a_consD (e_var 3) a_nil)) fun H' e => pk e) a_nil)) fun vs H' e z => ?_) (fun vs _ z => ?_) (fun v v2 H6 Hc6 g6 p6 => ?_)
        · obtain ⟨_, _, rfl, h1, _, _, rfl, h2, rfl⟩ := z
          obtain ⟨y, hy, rfl⟩ := List.mem_map.mp h1
          obtain ⟨z, hz, rfl⟩ := List.mem_map.mp h2
          exact ⟨y, z, rfl, hy, hz⟩
        · obtain ⟨y, z, rfl, _⟩ := z
          exact ⟨_, _, rfl⟩
        · obtain ⟨y, z, e, hy, hz⟩ := p6.now
          injection e with e1 e2
          injection e2 with e2 _
          subst e1 e2
          have hl6 := g6.c _ _ (g5.c _ _ hc4)
          have n6 : H6 l = none := g6.un (g5.c _ _ hc4) (g5.un hc4 hl4)
          have g6' := (g4.trans g5).trans g6
          have t6 : TsAt H6 ts qs := paired_ex (g5.k.trans g6.k) hts
          have own : Ex (upd H6 l (.lst (ts.map V.ref))) Hc6 := g6.s.own hl6
          have nn := hQ.nm nm
          refine b_if (H := upd H6 l (.lst (ts.map V.ref))) own (k := !decide (y = z) && (!decide (lnk y z ∈ qs))) (t_w (w_and (k := !decide (y = z)) (t_is (t_cmpD op_ne (by rfl) (e_var 6) (e_var 7) (r_ne (x := V.str y) (y := V.str z) rfl)) (by by_cases h : y = z <;> simp [h])) fun hk => w_and1 (t_ninPr hu (e_callD (y, z) FL (hr.mono (by decide)) (a_consD (e_var 6) (a_consD (e_var 7) a_nil)) (.const rfl)) (e_var 4) (fun H' e => ⟨SqL.of (e _ _ upd_same), paired_ex ((Ex.put n6).trans e) t6⟩) ?_ nn))) (fun hk H7 Hc7 g7 => ?_) fun hk H7 Hc7 g7 => b_nil (b_nil ?_)
          · rcases lnk_cases y z with e | e <;> rw [e]
            · exact ⟨nm _ hy, nm _ hz⟩
            · exact ⟨nm _ hz, nm _ hy⟩
          · have hne : y ≠ z := fun h => by simp [h] at hk
            have hnew : lnk y z ∉ qs := fun h => by simp [h] at hk
            have hl7 := g7.c _ _ hl6
            have g7' := g6'.looked n6 g7
            refine b_app (l := l) (xs := ts.map V.ref) g7'.s (e_var 4) (e_callD (y, z) FL (hr.mono (by decide)) (a_consD (e_var 6) (a_consD (e_var 7) a_nil)) (.const rfl)) hl7 (by rw [List.length_map, hts.length]; omega) fun v8 H8 Hc8 g8 p8 => b_nil (b_nil ?_)
            obtain ⟨t, rfl, ht⟩ := p8.now
            have n8 : H8 l = none := g8.un hl7 n6
            refine ⟨H8, (e4.trans g5.k).trans (g6.k.trans g8.k), g8.s.mut n8, ts ++ [t], qs ++ [lnk y z], _, _, _, rfl, n8, by rw [upd_same, List.map_append] <;> rfl, ts_snoc ht (paired_ex g8.k t6), by rw [List.length_append, List.length_singleton]; omega, ⟨?_, fun q hq => ?_⟩, (g7'.trans g8).mut hl n8⟩
            · exact List.nodup_append.mpr ⟨hQ.nd, List.nodup_cons.mpr ⟨List.not_mem_nil, List.nodup_nil⟩, fun a ha b hb e => hnew (by rw [List.mem_singleton.mp hb] at e; exact e ▸ ha)⟩
            · rcases List.mem_append.mp hq with h | h
              · exact hQ.lk q h
              · rw [List.mem_singleton.mp h]
                refine ⟨?_, ?_, lk_lt (p := (y, z)) ⟨nm _ hy, nm _ hz, hne⟩⟩ <;> rcases lnk_cases y z with e | e <;> rw [e] <;> assumption
          · have g7' := g6'.looked n6 g7
            exact ⟨H6, (e4.trans g5.k).trans g6.k, g7'.s, ts, qs, _, _, _, rfl, n6, g7.c _ _ hl6, t6, by omega, hQ, g7'⟩
      · rintro σ1 H4 Hc4 e4 e5 ⟨ts, qs, u1, u2, u3, rfl, hl4, hc4, hts, hlen, hQ, g4⟩
        have hn : n ≤ k := hn
        have own : Ex (upd H4 l (.lst (ts.map V.ref))) Hc4 := g4.s.own hc4
        obtain ⟨ms, hms, sm⟩ : ∃ ms, ms.Perm ns ∧ SortN ms := sortN_ex ns
        obtain ⟨rs, hrs, sr⟩ : ∃ rs, rs.Perm qs ∧ SortP rs := sortP_ex qs
        refine b_ret (H := upd H4 l (.lst (ts.map V.ref))) own (e_disp2 (P1 := fun v H' => ∃ d, v = .ref d ∧ H' d = some (.lst (ms.map V.str))) (e_sortedS (xs := ns) hS (e_var 3) (fun H' e => SqL.of (e _ _ (((g2.k.trans e4).trans (Ex.put hl4)) _ _ hb))) (by omega) hms sm) (e_sortedPS (ts := ts) (ps := qs) hS (e_var 4) (fun H' e => ⟨SqL.of (e _ _ upd_same), paired_ex ((Ex.put hl4).trans e) hts⟩) hrs sr)) fun v H6 Hc6 g6 p6 => rt v _ _ (((g4.know hl hl4 hc4)).trans g6) ?_
        refine p6.imp fun H' e z => ?_
        obtain ⟨d, v1, v2, rfl, hd, ⟨a1, rfl, ha1⟩, a2, us, rfl, ha2, hu2⟩ := z
        refine ⟨d, ms, rs, rfl, ⟨a1, a2, us, hd, ha1, ha2, hu2⟩, ⟨by rw [hms.length_eq]; omega, fun z => ?_, hms.nodup_iff.mpr F.nd, fun x hx => nm x (hms.mem_iff.mp hx), sm, by rw [hrs.length_eq]; omega, hrs.nodup_iff.mpr hQ.nd, fun q hq => ?_, sr⟩, by rw [hms.length_eq]; exact h2, by rw [hrs.length_eq]; show qs.length ≤ k; omega, fun y hy => (F.lb y (hms.mem_iff.mp hy)).1.hi⟩
        · have := hms.length_eq; rw [z] at this; have : 0 = ns.length := this; omega
        · obtain ⟨z1, z2, z3⟩ := hQ.lk q (hrs.mem_iff.mp hq)
          exact ⟨hms.mem_iff.mpr z1, hms.mem_iff.mpr z2, z3⟩
end
end K19
set_option Elab.async false
set_option linter.all false
set_option maxRecDepth 100000
set_option maxHeartbeats 4000000
/-! sets of texts: set(texts), sorted of such a set -/
namespace LWS
open PySem PySem.Spec PyProof.Rows L2
def txOf (e : Int × Value) : Str := match e.2 with
  | .str x _ => x
  | _ => Str.empty
section
variable {P : Program} {w : World} {A : Around} {E : Value → Shared → Prop} {s : Shared} {h h' : Heap} {a : Addr} {ks : List Str} {x : Str} {u : Tok}
abbrev skd (P : Program) (w : World) : PySem.KeyKind P w Str := PySem.strKind P w
def TxE (P : Program) (w : World) (e : Int × Value) : Prop := ∃ x u, e = ((skd P w).hash x, Value.str x u)
theorem txE_is {e : Int × Value} (g : TxE P w e) (x : Str) : (skd P w).is x e.2 = true ↔ txOf e = x := by
  obtain ⟨y, u, rfl⟩ := g
  simp [PySem.strKind, Value.isStrOf, txOf]
theorem txE_elems {l : List (Int × Value)} (g : ∀ e ∈ l, TxE P w e) : ElemsOf (skd P w) l := fun e he => by
  obtain ⟨x, u, rfl⟩ := g e he
  exact ⟨⟨x, strKind_is P w x u, rfl⟩, rfl⟩
/-- the texts ks, each once, are what the set at a holds; its table can be walked -/
def TxS (P : Program) (w : World) (h : Heap) (a : Addr) (ks : List Str) : Prop :=
  ∃ o es ep t, h.get? a = some o ∧ o.ExactSet ∧ o.data = .set es ep t ∧ ((∀ e ∈ es.toList, TxE P w e) ∧ (es.toList.map txOf).Perm ks ∧ ks.Nodup) ∧ es.size < scanBound ∧ t.fits es.size = true ∧ (Ris t.place.toList ∧ (w.params.followText "set-order" = true ∨ t.led = true))
theorem TxS.at (R : TxS P w h a ks) (k : ∀ o, h.get? a = some o → h'.get? a = some o) : TxS P w h' a ks := let ⟨o, es, ep, t, ho, r⟩ := R; ⟨o, es, ep, t, k o ho, r⟩
theorem TxS.new (P : Program) (w : World) (h : Heap) : TxS P w (h.push { cls := .type "set", dict := none, data := .set #[] 0 (.fresh 0 0 (!w.params.followText "set-order")) }) h.objs.size [] := by
  refine ⟨_, #[], 0, _, Heap.get?_push_size _ rfl, ⟨rfl, rfl, rfl⟩, rfl, ⟨fun e he => absurd he (by simp), List.Perm.refl _, List.nodup_nil⟩, by unfold scanBound; decide, by rfl, ?_, ?_⟩
  · exact ris_range 0
  · show _ ∨ (!w.params.followText "set-order") = true
    cases w.params.followText "set-order" <;> simp
/-- the table with one more, laid anew if it is too full -/
theorem tx_tail {g : Bool → Sem Unit} (hg : ∀ b s₁ (Q' : Unit → Shared → Prop), Q' () s₁ → wpAny (model P w) A (g b) Q' E s₁) {o : Obj} {es es1 : Array (Int × Value)} {ep : Nat} {t t2 : SetTable} (ho : s.heap.get? a = some o) (hex : o.ExactSet) (hd : o.data = .set es ep t)
    (good : (∀ e ∈ es1.toList, TxE P w e) ∧ (es1.toList.map txOf).Perm ks ∧ ks.Nodup) (hb : es1.size < scanBound) (hf : t2.fits es1.size = true) (hr : Ris t2.place.toList ∧ (w.params.followText "set-order" = true ∨ t2.led = true)) {wd : Bool} {R : Option Bool → Shared → Prop}
    (hR : ∀ h', Heap.SameBut a s.heap h' → TxS P w h' a ks → R (some true) { s with heap := h' }) :
    wpAny (model P w) A (storeSet a es1 t2 >>= fun _ => if (!wd && t2.tooFull) = true then g (relayAll t2 es1 (SetTable.grown es1.size)).2.2 >>= fun _ => storeSet a (relayAll t2 es1 (SetTable.grown es1.size)).1 (relayAll t2 es1 (SetTable.grown es1.size)).2.1 >>= fun _ => pure (some true) else pure (some true)) R E s := by
  have sb := Heap.SameBut.update s.heap a (Obj.putSet es1 t2)
  have ho1 := L2.store_at (es' := es1) (t' := t2) ho hd
  refine wpAny_bind (wpAny_storeSet_of ho hd (?_ : _) (fits_of_scanBound hb))
  by_cases full : (!wd && t2.tooFull) = true
  · rw [if_pos full]
    have p := relayAll_perm t2 es1 (SetTable.grown es1.size)
    have f := relayAll_fits t2 es1 (SetTable.grown es1.size)
    have r := relayAll_ris t2 es1 (SetTable.grown es1.size)
    have l := relayAll_led t2 es1 (SetTable.grown es1.size)
    revert p f r l
    generalize relayAll t2 es1 (SetTable.grown es1.size) = Z
    intro p f r l
    have z : Z.1.size = es1.size := by rw [← Array.length_toList, ← Array.length_toList]; exact p.length_eq
    have hb' : Z.1.size < scanBound := z ▸ hb
    refine wpAny_bind (hg _ _ _ (wpAny_bind (wpAny_storeSet_of ho1 rfl (wpAny_pure (hR _ (sb.trans (Heap.SameBut.update _ a _)) ?_)) (fits_of_scanBound hb'))))
    exact ⟨_, Z.1, _, Z.2.1, L2.store_at (es' := Z.1) (t' := Z.2.1) ho1 rfl, hex, rfl, ⟨fun e he => good.1 e (p.mem_iff.mp he), (p.map txOf).trans good.2.1, good.2.2⟩, hb', f, r, hr.2.imp id fun q => l.trans q⟩
  · rw [if_neg full]
    exact wpAny_pure (hR _ sb ⟨_, es1, _, t2, ho1, hex, rfl, good, hb, hf, hr⟩)
def more (ks : List Str) (x : Str) : List Str := if x ∈ ks then ks else ks ++ [x]
theorem tx_add {Q : Bool → Shared → Prop} (R : TxS P w s.heap a ks) (room : ks.length + 1 < scanBound) (hQ : ∀ b h', Heap.SameBut a s.heap h' → TxS P w h' a (more ks x) → Q b { s with heap := h' }) : wpAny (model P w) A (setAddHashed a (.str x u) ((skd P w).hash x)) Q E s := by
  obtain ⟨o, es, ep, t, ho, hex, hd, ⟨g, pm, nd⟩, hb, hf, hr, hl⟩ := R
  have el : ElemsOf (skd P w) es.toList := txE_elems g
  have sc : (Value.str x u).scannable = true := rfl
  have mem : x ∈ ks ↔ ∃ e ∈ es.toList, (skd P w).is x e.2 = true := by
    rw [← pm.mem_iff, List.mem_map]
    exact ⟨fun ⟨e, he, q⟩ => ⟨e, he, (txE_is (g e he) x).mpr q⟩, fun ⟨e, he, q⟩ => ⟨e, he, (txE_is (g e he) x).mp q⟩⟩
  unfold setAddHashed setAddHashedIn
  refine wpAny_holding (wpAny_bind (wpAny_setState_of ho hd hf ?_))
  dsimp only
  rw [byScan_of sc hb el, if_pos rfl]
  unfold setAddByScan
  refine wpAny_bind (wpAny_bind (wpAny_rule (wpAny_bind (wpAny_setScan_of (strKind_is P w x u) ho hd hf el ?_))))
  cases hfi : List.findIdx? (fun e => (skd P w).is x e.2) es.toList with
  | some j =>
    obtain ⟨hj, pj, _⟩ := List.findIdx?_eq_some_iff_getElem.mp hfi
    have m : x ∈ ks := mem.mpr ⟨_, List.getElem_mem hj, pj⟩
    refine wpAny_pure (wpAny_pure (hQ _ s.heap (.refl a s.heap) ?_))
    rw [more, if_pos m]
    exact ⟨o, es, ep, t, ho, hex, hd, ⟨g, pm, nd⟩, hb, hf, hr, hl⟩
  | none =>
    have m : x ∉ ks := fun z => by
      obtain ⟨e, he, q⟩ := mem.mp z
      exact absurd (List.findIdx?_eq_none_iff.mp hfi e he) (by rw [q]; decide)
    have em : more ks x = ks ++ [x] := if_neg m
    rw [em] at hQ
    have p1 := layNew_perm t es ((skd P w).hash x) (.str x u)
    have f1 := layNew_fits t es ((skd P w).hash x) (.str x u)
    have r1 := layNew_ris t es ((skd P w).hash x) (.str x u) hr
    have l1 := layNew_led t es ((skd P w).hash x) (.str x u)
    dsimp only
    revert p1 f1 r1 l1
    generalize layNew t es ((skd P w).hash x) (.str x u) = Z
    obtain ⟨e1, t1, wd, gave⟩ := Z
    intro p1 f1 r1 l1
    dsimp only at p1 f1 r1 l1 ⊢
    have pc : e1.toList.Perm (es.toList ++ [((skd P w).hash x, Value.str x u)]) := by rw [Array.toList_push] at p1; exact p1
    have good : (∀ e ∈ e1.toList, TxE P w e) ∧ (e1.toList.map txOf).Perm (ks ++ [x]) ∧ (ks ++ [x]).Nodup := by
      refine ⟨fun e he => ?_, ?_, ?_⟩
      · rcases List.mem_append.mp (pc.mem_iff.mp he) with z | z
        · exact g e z
        · exact ⟨x, u, List.mem_singleton.mp z⟩
      · refine (pc.map txOf).trans ?_
        rw [List.map_append]
        exact List.Perm.append pm (List.Perm.refl _)
      · exact List.nodup_append.mpr ⟨nd, by simp, fun b hb c hc q => m (by rw [List.mem_singleton.mp hc] at q; exact q ▸ hb)⟩
    have sz : e1.size = ks.length + 1 := by
      have q := pc.length_eq
      have q2 := pm.length_eq
      rw [List.length_append, List.length_singleton, Array.length_toList] at q
      rw [List.length_map] at q2
      omega
    have hb1 : e1.size < scanBound := by omega
    have led : w.params.followText "set-order" = true ∨ t1.led = true := hl.imp id fun z => l1.trans z
    have gv : ∀ (b : Bool) (s₁ : Shared) (Q' : Unit → Shared → Prop), Q' () s₁ → wpAny (model P w) A (match b with | true => rule "set.scan.the-table-gave-way" | false => pure ()) Q' E s₁ := fun b s₁ Q' q => by
      cases b
      · exact wpAny_pure q
      · exact wpAny_rule q
    refine wpAny_bind (gv _ _ _ ?_)
    split
    · refine wpAny_bind ?_
      rw [hashByValue_scannable 8 sc]
      refine wpAny_pure (tx_tail gv ho hex hd good hb1 ?_ ?_ fun h' sb r => ?_)
      · split
        · exact f1
        · exact SetTable.fits_plain_off f1
      · split <;> exact ⟨r1, led⟩
      · dsimp only
        exact wpAny_pure (hQ _ h' sb r)
    · refine wpAny_bind (wpAny_pure ?_)
      simp only [↓reduceIte]
      exact tx_tail gv ho hex hd good hb1 f1 ⟨r1, led⟩ fun h' sb r => by
        dsimp only
        exact wpAny_pure (hQ _ h' sb r)
end
end LWS
set_option Elab.async false
set_option linter.all false
set_option maxRecDepth 100000
set_option maxHeartbeats 4000000
namespace LWS
open PySem PySem.Spec PyProof.Rows L2
theorem mem_more {ks : List Str} {x y : Str} : y ∈ more ks x ↔ y ∈ ks ∨ y = x := by
  unfold more
  by_cases h : x ∈ ks
  · rw [if_pos h]
    exact ⟨.inl, fun z => z.elim id fun e => e ▸ h⟩
  · rw [if_neg h, List.mem_append, List.mem_singleton]
theorem len_more {ks : List Str} {x : Str} : (more ks x).length ≤ ks.length + 1 := by
  unfold more
  split <;> simp
section
variable {P : Program} {w : World} {A : Around} {R : Result → Shared → Prop} {I : Addr} {fp wr : List Addr} {G : Array GenState → Array GenState → Prop} {n : Nat} {Y : Nat → Value → Prop} {St : Nat → Shared → Prop}
theorem tx_loop (W : WalksS P w A.in1 I fp wr G n Y St) (S : Addr) (hSf : S ∉ fp) {xs : List Str} (hn : xs.length = n) (hv : ∀ i v, Y i v → ∃ t, v = .str (xs.getD i Str.empty) t) (hb : n + 1 < scanBound) :
    ∀ (k i : Nat) (s : Shared) (ks : List Str), n - i = k → i ≤ n → St i s → TxS P w s.heap S ks → (∀ x, x ∈ ks ↔ x ∈ xs.take i) → ks.length ≤ i →
      (∀ s' ks', Moved (S :: wr) G s s' → TxS P w s'.heap S ks' → (∀ x, x ∈ ks' ↔ x ∈ xs) → ks'.length ≤ n → R (.ok (.ret .none)) s') → codeAny (model P w) A (.builtin "set.update.loop" ⟨[.ref S, .ref I], []⟩) R s := by
  have out : S ∉ wr := fun h => hSf (W.sub _ h)
  have up : ∀ b ∈ wr, b ∈ S :: wr := fun b hb => List.mem_cons_of_mem _ hb
  have go : ∀ {s : Shared}, wpAny (model P w) A.in1 (Builtin.«set.update.loop» ⟨[.ref S, .ref I], []⟩) (fun f s' => match f with | .done f => R (.ok f) s' | .again c => c.quiet = true ∧ codeAny (model P w) A c R s') (fun e s' => R (.error e) s') s → codeAny (model P w) A (.builtin "set.update.loop" ⟨[.ref S, .ref I], []⟩) R s := fun q => by
    refine codeAny_builtin F.entry_set_update_loop ?_
    rw [Around.under_plainId F.plain_set_update_loop _]
    exact q
  intro k
  induction k with
  | zero =>
    intro i s ks hk hi hst T hm hl hR
    obtain rfl : i = n := by omega
    refine go ?_
    show wpAny _ A.in1 (pyNext (.ref I) >>= fun x => _) _ _ s
    refine wpAny_bind (W.done s _ _ hst fun s' mv => wpAny_pure (hR s' ks (mv.mono up) (T.at fun o => mv.heap S o out) (fun x => ?_) hl))
    rw [hm x, ← hn, List.take_length]
  | succ k ih =>
    intro i s ks hk hi hst T hm hl hR
    have lt : i < n := by omega
    refine go ?_
    show wpAny _ A.in1 (pyNext (.ref I) >>= fun x => _) _ _ s
    refine wpAny_bind (W.item i s _ _ lt hst fun v s' hY hst' mv => ?_)
    obtain ⟨t, rfl⟩ := hv i v hY
    show wpAny _ A.in1 (holding _ (setAdd S (.str (xs.getD i Str.empty) t)) >>= fun x => _) _ _ s'
    refine wpAny_bind (wpAny_holding ?_)
    unfold setAdd
    refine wpAny_holding (wpAny_bind ((skd P w).pyHash (k := xs.getD i Str.empty) (strKind_is _ _ _ _) ?_))
    refine tx_add (s := { s' with toks := s'.toks + 1 }) (T.at fun o => mv.heap S o out) (by omega) fun b h' sb T2 => ?_
    refine wpAny_pure ⟨plainId_quiet F.plain_set_update_loop _, ih (i + 1) _ _ (by omega) lt (W.frame _ s' _ _ hst' (Nat.le_succ _) fun b hb o e => (sb.2 b fun z => hSf (z ▸ hb)).trans e) T2 (fun x => ?_) (Nat.le_trans len_more (by omega)) fun s2 ks2 mv2 => hR s2 ks2 (Moved.trans W.gtrans ((mv.mono up).then_heap (Nat.le_succ _) fun b o hb e => (sb.2 b fun z => hb (z ▸ List.mem_cons_self)).trans e) mv2)⟩
    have at_ : xs[i]? = some (xs.getD i Str.empty) := by rw [List.getD_eq_getElem?_getD, List.getElem?_eq_getElem (by omega)] <;> rfl
    rw [mem_more, hm x, LW.take_snoc at_, List.mem_append, List.mem_singleton]
end
section
variable {P : Program} {w : World} {A : Around} {E : Value → Shared → Prop} {s : Shared}
/-- set(a): made, then filled -/
theorem set_made (a : Value) {Q Q₁ : Value → Shared → Prop} (hnew : codeAny (model P w) A.in1 (.call (.builtin "set.__new__") ⟨[.type "set", a], []⟩) (wants Q₁ E) s)
    (hnext : ∀ obj s₁, Q₁ obj s₁ → s₁.TypeIs obj "set" ∧ wpAny (model P w) A.in1.in1 (Builtin.«set.__init__» ⟨[obj, a], []⟩) (fun fin s' => match fin with | .done f => wants (fun r s₂ => r = .none ∧ Q obj s₂) E (.ok f) s' | .again c' => c'.quiet = true ∧ codeAny (model P w) A.in1 c' (wants (fun r s₂ => r = .none ∧ Q obj s₂) E) s')
        (fun e s' => wants (fun r s₂ => r = .none ∧ Q obj s₂) E (.error e) s') s₁) : wpAny (model P w) A (call (.type "set") [a]) Q E s := by
  have ft := F.called_set
  obtain ⟨c, tl, hmro⟩ := ft.mro
  have i1 := ft.made
  have i2 := ft.sub
  have i3 := ft.notType
  have i4 := ft.canCreate
  have i5 := F.typeCall_set_1 a
  refine wpAny_call (codeAny_of_tree (?_ : wpAny _ _ (callAny (.type "set") _) _ _ _))
  refine wpAny_pure ⟨Code.quiet_builtin _ (by decide +kernel), codeAny_builtin F.entry_type_call (?_ : _)⟩
  rw [Around.under_plain (weight_type_call_type "set" [a] []) rfl]
  repeat (any_goals (first | wp_step | assumption))
  refine codeAny_mono hnew fun r s₁ hr => ?_
  match r, hr with
  | .ok (.ret obj), hr =>
    obtain ⟨hT, hi⟩ := hnext _ _ hr
    have i6 := ft.init.lookup
    have i7 := ft.init.bind obj
    repeat (any_goals (first | wp_step | assumption))
    refine codeAny_mono (codeAny_call_builtin ft.init.plain F.entry_set_init (check_set_init_1 hT hi)) fun r₂ s₂ hr₂ => ?_
    match r₂, hr₂ with
    | .ok (.ret r), hr₂ =>
      obtain ⟨rfl, hq⟩ := hr₂
      repeat (any_goals (first | wp_step | assumption))
    | .error e, hr₂ => exact hr₂
    | .ok .next, hr₂ => exact hr₂.elim
    | .ok .brk, hr₂ => exact hr₂.elim
    | .ok .cont, hr₂ => exact hr₂.elim
  | .error e, hr => exact hr
  | .ok .next, hr => exact hr.elim
  | .ok .brk, hr => exact hr.elim
  | .ok .cont, hr => exact hr.elim
theorem call_setS {l : Addr} {items : Array Value} {xs : List Str} {Q : Value → Shared → Prop} (hh : A.handled = none) (hl : s.heap.IsList l items) (hi : StrsAre items.toList xs) (hb : xs.length + 1 < scanBound)
    (h : ∀ (h' : Heap) (tk : Nat) ks, TxS P w h' s.heap.objs.size ks → (∀ x, x ∈ ks ↔ x ∈ xs) → ks.length ≤ xs.length → (∀ b o, s.heap.get? b = some o → h'.get? b = some o) → Q (.ref s.heap.objs.size) { s with heap := h', toks := tk }) : wpAny (model P w) A (call (.type "set") [.ref l]) Q E s := by
  have sz : xs.length = items.size := by rw [← StrsAre.len_eq hi, Array.length_toList]
  let h1 := s.heap.push { cls := .type "set", dict := none, data := .set #[] 0 (.fresh 0 0 (!w.params.followText "set-order")) }
  have hS : h1.get? s.heap.objs.size = some { cls := .type "set", dict := none, data := .set #[] 0 (.fresh 0 0 (!w.params.followText "set-order")) } := Heap.get?_push_size _ rfl
  refine set_made (.ref l) (Q₁ := fun obj s₁ => obj = .ref s.heap.objs.size ∧ s₁ = { s with heap := h1 }) (code_set_led1 (.ref l) ⟨rfl, rfl⟩) fun obj s₁ ⟨e1, e2⟩ => ?_
  subst e1 e2
  refine ⟨⟨_, hS, rfl⟩, ?_⟩
  obtain ⟨⟨oc, odi, oda, osl⟩, ho, hc, nl, hd⟩ := hl
  replace hc : oc = .type "list" := hc
  replace hd : oda = .seq items nl := hd
  subst hc hd
  have ho' : h1.get? l = some { cls := .type "list", dict := odi, data := .seq items nl, slots := osl } := Heap.get?_push_of_some _ ho
  have s1 := F.sub_list_set
  have s2 := F.sub_list_frozenset
  have s3 : (Value.type "list" == Value.type "dict") = false := by decide
  have hl1 : h1.IsList l items := ⟨_, ho', rfl, nl, rfl⟩
  have T0 : TxS P w h1 s.heap.objs.size [] := TxS.new P w s.heap
  have z1 : h1.objs.size = s.heap.objs.size + 1 := Heap.size_push ..
  have k1 : ∀ b o, s.heap.get? b = some o → h1.get? b = some o := fun b o e => Heap.get?_push_of_some _ e
  have lS : l < s.heap.objs.size := Heap.lt_size ho
  clear_value h1
  unfold Builtin.«set.__init__» noKeywords Builtin.Frozenset.updateFrom
  generalize hPI : pyIter = PI
  wp_walk
  subst hPI
  refine wpAny_pyIter_list hl1 (wpAny_bind (wpAny_runValue ?_))
  have h3 : A.in1.in1.in1.handled = none := by simp [hh]
  have ne : l ≠ h1.objs.size := Nat.ne_of_lt (by rw [z1]; exact Nat.lt_succ_of_lt lS)
  refine tx_loop ((Walks.list h3 _ l ne items).toS) s.heap.objs.size (fun m => ?_) sz (fun i v hv => SS.strs_at hi i v (by rw [Array.getElem?_toList]; exact hv)) (by omega) (items.size - 0) 0 _ [] (by omega) (Nat.zero_le _) ⟨⟨_, Heap.get?_push_size _ rfl, rfl, rfl⟩, hl1.push _⟩ (T0.at fun o e => Heap.get?_push_of_some _ e) (fun x => by simp) (Nat.zero_le _) fun s' ks mv T hm hlen => ?_
  · rcases List.mem_cons.mp m with m | m
    · rw [z1] at m
      exact absurd m (Nat.ne_of_lt (Nat.lt_succ_self _))
    · exact absurd (List.mem_singleton.mp m) (Nat.ne_of_gt lS)
  · obtain ⟨h', g', d', tk', os'⟩ := s'
    obtain rfl : g' = s.gens := mv.gens
    obtain rfl : d' = s.drawn := mv.drawn
    obtain rfl : os' = s.os := mv.os
    refine wpAny_pure (wpAny_pure ⟨rfl, h h' tk' ks T hm (by omega) fun b o e => ?_⟩)
    have lb := Heap.lt_size e
    exact mv.heap b o (fun m => by
      rcases List.mem_cons.mp m with m | m
      · exact absurd m (Nat.ne_of_lt lb)
      · rw [List.mem_singleton.mp m, z1] at lb; exact absurd lb (Nat.not_lt_of_le (Nat.le_succ _))) (Heap.get?_push_of_some _ (k1 b o e))
end
end LWS
set_option Elab.async false
set_option linter.all false
set_option maxRecDepth 100000
set_option maxHeartbeats 4000000
namespace LWS
open PySem PySem.Spec PyProof.Rows L2
section
variable {P : Program} {w : World} {A : Around} {E : Value → Shared → Prop} {s : Shared} {a : Addr} {ks : List Str}
theorem strs_txs : ∀ {l : List (Int × Value)}, (∀ e ∈ l, TxE P w e) → StrsAre (l.map (·.2)) (l.map txOf)
  | [], _ => .nil
  | e :: r, g => by
    obtain ⟨x, u, rfl⟩ := g e List.mem_cons_self
    exact .cons x u (strs_txs fun e he => g e (List.mem_cons_of_mem _ he))
/-- sorted(s) of fewer than 64 texts -/
theorem sorted_txs {Q : Value → Shared → Prop} (R : TxS P w s.heap a ks) (hh : A.handled = none) (h64 : ks.length < 64)
    (hQ : ∀ s' p (out : Array Value) (c : Nat) (ys : List Str), (∀ b o, s.heap.get? b = some o → s'.heap.get? b = some o) → s'.gens = s.gens ∧ s'.os = s.os → s.heap.objs.size ≤ p → s'.heap.get? p = some (seqObj "list" out c) → StrsAre out.toList ys → ys.Perm ks → sortedS ys = true → Q (.ref p) s') :
    wpAny (model P w) A (call (.builtin "sorted") [.ref a]) Q E s := by
  obtain ⟨o, es, ep, t, ho, hex, hd, ⟨g, pm, nd⟩, hb, hf, hr, hl⟩ := R
  refine Calls.call_function_entry kind_sorted plain_sorted entry_sorted (args_sorted1 _) ?_
  unfold Builtin.«sorted»
  refine wpAny_bind (m := checkCount "sorted" 1 1 _) (wpAny_pure (wpAny_bind (collect_set (A := A.in1) hh ⟨o, ho, hex.1, hd⟩ hf hb hr hl fun s1 vs k1 hz g1 o1 pv => ?_)))
  have lv : vs.length = ks.length := by rw [pv.length_eq, List.length_map, ← pm.length_eq, List.length_map]
  have g' : ∀ e ∈ vs, ∃ x u, e = Value.str x u := fun v hv => by
    obtain ⟨e, he, rfl⟩ := List.mem_map.mp (pv.mem_iff.mp hv)
    obtain ⟨x, u, rfl⟩ := g e he
    exact ⟨x, u, rfl⟩
  have hS : StrsAre vs (vs.map fun v => txOf (0, v)) := by
    clear lv pv
    induction vs with
    | nil => exact .nil
    | cons v r ih =>
      obtain ⟨x, u, rfl⟩ := g' v List.mem_cons_self
      exact .cons x u (ih fun e he => g' e (List.mem_cons_of_mem _ he))
  have pk : (vs.map fun v => txOf (0, v)).Perm ks := by
    refine ((pv.map fun v => txOf (0, v)).trans ?_).trans pm
    rw [List.map_map]
    exact List.Perm.of_eq (List.map_congr_left fun e _ => rfl)
  refine wpAny_bind (wpAny_newList ?_ (by rw [lv, sizeLine_eq]; omega))
  have hoL : (s1.heap.push (seqObj "list" vs.toArray 0)).get? s1.heap.objs.size = some (seqObj "list" vs.toArray 0) := Heap.get?_push_size _ rfl
  refine wpAny_bind (wpAny_holding (wpAny_call_entry slot_list_sort ⟨_, hoL, rfl⟩ entry_list_sort (list_sort_treeK strKind_oneLt hoL hS.keysOf (fun v₁ v₂ rest e => keyKind_strs (by rw [← e]; exact hS)) (by rw [lv]; exact h64) fun st' hp hs => ?_) (args_list_sort _)))
  obtain ⟨ys, y1, y2, y3⟩ := sorted_out_str hS hp hs
  obtain ⟨c, hc⟩ := sortedHeap_at (vs := vs) (out := (arrOf st').map (·.2)) hoL
  refine ⟨_, rfl, wpAny_pure ⟨_, rfl, hQ _ s1.heap.objs.size _ c ys (fun b u e => ?_) ⟨g1, o1⟩ hz hc y1 (y2.trans pk) y3⟩⟩
  have q := k1 b u e
  have hlt := Heap.lt_size q
  exact (sortedHeap_old (Nat.ne_of_lt hlt) (by rw [size_push']; exact Nat.lt_succ_of_lt hlt)).trans (Heap.get?_push_of_some _ q)
end
/-- the set of these texts at a -/
def TxO (P : Program) (w : World) (a : Addr) (ks : List Str) : HO := .ext fun h => TxS P w h a ks
theorem txO_new {w : World} {P : Program} {H : Hp} {h : Heap} {a : Addr} {ks : List Str} (R : TxS P w h a ks) : ObjOk P w H h a (TxO P w a ks) := by
  have ⟨o, _, _, _, ho, _⟩ := R
  exact ⟨R, ⟨o, ho⟩, fun h1 h2 p k => TxS.at p k⟩
def rSetS (X : Cx) : List V → Hp → VK → Prop := fun vs H Q => ∃ (l : Addr) (xs : List Str), vs = [V.ref l] ∧ SqL X.K H l (xs.map V.str) ∧ xs.length ≤ 60 ∧ ∀ p ks, H p = none → (∀ x, x ∈ ks ↔ x ∈ xs) → ks.Nodup → ks.length ≤ xs.length → Q (.ref p) (upd H p (TxO X.prog X.w p ks))
theorem cr_setS {X : Cx} (hc : X.calm = true) : CallR X (.type "set") (rSetS X) := by
  intro pins s σ H vs us Q I r h
  obtain ⟨l, xs, rfl, hs, hz, q⟩ := h
  obtain ⟨its, rv, hl, _⟩ := I.list hs
  rw [Vals.ref1 r]
  refine call_setS (I.ok.hd hc) hl.isList (by rw [List.toList_toArray]; exact rv.strs) (by unfold scanBound; omega) fun h' tk ks T hm hlen k => ?_
  have nd : ks.Nodup := by obtain ⟨_, _, _, _, _, _, _, ⟨_, _, nd⟩, _⟩ := T; exact nd
  exact ⟨.ref _, upd H s.heap.objs.size (TxO X.prog X.w s.heap.objs.size ks), I.laid (t' := tk) k (Nat.le_refl _) (txO_new T), rfl, q _ ks (I.hok.fresh (Nat.le_refl _)) hm nd hlen⟩
def rSortTx (X : Cx) : List V → Hp → VK → Prop := fun vs H Q => ∃ (a : Addr) (ks : List Str), vs = [V.ref a] ∧ H a = some (TxO X.prog X.w a ks) ∧ ks.length < 64 ∧ ∀ ys p, ys.Perm ks → sortedS ys = true → H p = none → Q (.ref p) (upd H p (.lst (ys.map V.str)))
theorem cr_sortTx {X : Cx} (hc : X.calm = true) : CallR X (.builtin "sorted") (rSortTx X) := by
  intro pins s σ H vs us Q I r h
  obtain ⟨a, ks, rfl, ha, h64, q⟩ := h
  rw [Vals.ref1 r]
  refine sorted_txs (P := X.prog) (w := X.w) (I.hok a _ ha).1 (I.ok.hd hc) h64 fun s' p out c ys k ⟨g, o⟩ hp hg h1 h2 h3 => ?_
  have hlen : (ys.map V.str).length ≤ sizeLine := by rw [List.length_map, h2.length_eq]; exact small64 h64
  have hn : H p = none := I.hok.fresh hp
  have J : Inv X pins σ (upd H p (.lst (ys.map V.str))) { s with heap := s'.heap, gens := s'.gens, drawn := s'.drawn, toks := s'.toks } :=
    I.call (ch := []) (Un.laid k hp hn) (I.hok.laid k hp ⟨hlen, out.toList, c, vals_of_strs h1, hg⟩) (by rw [g]; exact I.bare) (fun _ z => nomatch z)
  have e : s' = { s with heap := s'.heap, gens := s'.gens, drawn := s'.drawn, toks := s'.toks } := by
    cases s'; cases s; cases o; rfl
  rw [e]
  exact ⟨.ref p, _, J, rfl, q ys p h2 h3 hn⟩
end LWS
namespace LW
open PySem L2
/-- sorted(set(e)), e a list of texts -/
theorem e_sortSet {X : Cx} {σ : St} {H : Hp} {e : Expr} {xs : List Str} {p1 p2 p3 pos : Pos} (hc : X.calm = true) (m1 : X.mg "sorted" = none) (m2 : X.mg "set" = none) (h : Cm H (nl (xs.map V.str)) (wE X e σ)) (hz : xs.length ≤ 60) (g1 : Gl X "sorted" := by rfl) (g2 : Gl X "set" := by rfl)
    (s1 : starEach [Expr.Call (.Name "set" p1) [e] [] p2] X.env = (false, eval (.Call (.Name "set" p1) [e] [] p2) X.env) :: starEach [] X.env := by rfl) (s2 : starEach [e] X.env = (false, eval e X.env) :: starEach [] X.env := by rfl) :
    Cm H (fun v H' => ∃ d ys, v = .ref d ∧ H' d = some (.lst (ys.map V.str)) ∧ ys.Nodup ∧ SortN ys ∧ ∀ x, x ∈ ys ↔ x ∈ xs) (wE X (.Call (.Name "sorted" p3) [.Call (.Name "set" p1) [e] [] p2] [] pos) σ) := by
  refine e_blt (LWS.cr_sortTx hc) m1 (a_cons (P := fun v H' => ∃ d ks, v = .ref d ∧ H' d = some (LWS.TxO X.prog X.w d ks) ∧ (∀ x, x ∈ ks ↔ x ∈ xs) ∧ ks.Nodup ∧ ks.length ≤ 60) (e_ty (LWS.cr_setS hc) m2 (a_cons h a_nil s2) (fun vs H1 e1 z => ?_) g2 (by decide +kernel) (by decide) (by decide) s2 (by rfl)) a_nil s1) (fun vs H1 e1 z => ?_) g1 (by decide +kernel) (by decide) (by decide) s1 (by rfl)
  · obtain ⟨_, _, rfl, ⟨b, rfl, hb⟩, rfl⟩ := z.now
    exact fun Hc ex Q q => ⟨b, xs, rfl, SqL.of (ex _ _ hb), hz, fun p ks hp hm nd hl => q _ _ _ (Grow.new ex hp) fun H' e' => ⟨p, ks, rfl, e' _ _ upd_same, hm, nd, Nat.le_trans hl hz⟩⟩
  · obtain ⟨_, _, rfl, ⟨d, ks, rfl, hd, hm, nd, hl⟩, rfl⟩ := z.now
    exact fun Hc ex Q q => ⟨d, ks, rfl, ex _ _ hd, by omega, fun ys p hp hs hn => q _ _ _ (Grow.new ex hn) fun H' e' => ⟨p, ys, rfl, e' _ _ upd_same, hp.nodup_iff.mpr nd, sortN_of hs, fun x => hp.mem_iff.trans (hm x)⟩⟩
end LW
set_option Elab.async false
set_option linter.all false
set_option maxRecDepth 100000
set_option maxHeartbeats 2000000
/-! tests whose outcome is drawn; xs[a:b] -/
namespace LW
open PySem L2
section
variable {X : Cx} {σ : St} {H Hc : Hp} {P : V → Hp → Prop} {a b c o i j : Expr} {pos p2 : Pos} {op : CmpOp} {r : R2} {Pa Pb : V → Hp → Prop} {ad : Addr} {xs : List V} {n m : Nat}
/-- true or false -/
abbrev any2 : Bool → Hp → Prop := fun _ _ => True
theorem t_cmpX (ho : OpR X (compareOp op) r) (hm : behindInMarks op b = false) (ha : Cm H Pa (wE X a σ)) (hb : Cm H Pb (wE X b σ)) (hr : ∀ x y H1, Ex H H1 → Pz H1 (Pa x) → Pz H1 (Pb y) → ∃ k, Cm H1 (is (V.bl k)) (r x y)) : Cm H any2 (wT X (.Compare a [op] [b] pos) σ) :=
  ct (pt_cmpR ho pe_w pe_w hm) (cm1 (Pa := fun v _ => ∃ k, v = V.bl k) (u := fun v Hc Q => ∃ c, v = .bl c ∧ Q c Hc) (cm2 ha hb fun x y H1 e p q => by
    obtain ⟨k, z⟩ := hr x y H1 e p q
    exact z.imp fun v H' _ e => ⟨k, e⟩) fun v H1 e p => by
    obtain ⟨k, rfl⟩ := p.now
    exact Cm.ret (fun _ _ _ q => ⟨k, rfl, q⟩) (.const trivial))
theorem e_ifX (h : Cm H any2 (wT X c σ)) (h1 : Cm H P (wE X a σ)) (h2 : Cm H P (wE X b σ)) : Cm H P (wE X (.IfExp c a b pos) σ) :=
  ce (pe_ifExp pt_w pe_w pe_w) (cm1 (u := fun k Hc Q => if k = true then wE X a σ Hc Q else wE X b σ Hc Q) h fun k H1 e _ => by
    cases k with
    | true => exact h1.mono e
    | false => exact h2.mono e)
theorem cut_lh {xs : List V} {n m : Nat} (h : n ≤ xs.length) (h2 : m ≤ xs.length) : cutV xs (some (n : Int)) (some (m : Int)) = (xs.drop n).take (m - n) := by
  unfold cutV
  rw [HT.sIx_nat, HT.sIx_nat, Nat.min_eq_left h, Nat.min_eq_left h2]
theorem e_slLH (ho : Cm H (is (V.ref ad)) (wE X o σ)) (hi : Cm H (is (V.int (n : Int))) (wE X i σ)) (hj : Cm H (is (V.int (m : Int))) (wE X j σ)) (h : Pz H (fun H' => SqL X.K H' ad xs)) (hn : n ≤ xs.length) (hm : m ≤ xs.length) : Cm H (nl ((xs.drop n).take (m - n))) (wE X (.Subscript o (.Slice (some i) (some j) none p2) pos) σ) := by
  refine ce (pe_slice sl_list pe_w (po_some pe_w) (po_some pe_w)) fun Hc ex Q q => ho Hc ex _ fun v Hn H2 g p => ?_
  obtain rfl : v = V.ref ad := p.now
  show wE X i σ H2 _
  refine hi.mono g.k H2 g.s _ fun w Hm H3 g3 p3 => ?_
  obtain rfl : w = V.int (n : Int) := p3.now
  refine ⟨(n : Int), rfl, ?_⟩
  show wE X j σ H3 _
  refine hj.mono (g.k.trans g3.k) H3 g3.s _ fun w Hm H4 g4 p4 => ?_
  obtain rfl : w = V.int (m : Int) := p4.now
  refine ⟨(m : Int), rfl, ad, xs, rfl, h H4 (((g.k.trans g3.k).trans g4.k).trans g4.s), fun b hb => ?_⟩
  rw [cut_lh hn hm]
  exact q _ _ _ (((g.trans g3).trans g4).trans (Grow.new g4.s hb)) fun H' e => ⟨b, rfl, e _ _ upd_same⟩
end
end LW
set_option Elab.async false
set_option linter.all false
set_option maxRecDepth 100000
set_option maxHeartbeats 2000000
/-! a comprehension over a list that is only known to be of a kind -/
namespace LW
open PySem L2
theorem ciL {K : PySem.W.Frag} {H : Hp} {a : Addr} {xs : List V} (h : Pz H (fun H' => SqL K H' a xs)) : Ci H xs.length (fun i x _ => xs[i]? = some x) (fun (Hc : Hp) (R : It → Hp → Prop) => R (Itl K a) Hc) := fun Hc e R k => k _ H Hc (Grow.refl e) (over_list h)
theorem c_lcL {K : PySem.W.Frag} {te0 : TE} {g : TG} {tt : TT} {te : TE} {vs : List Nat} {σ : St} {H : Hp} {P Pa : V → Hp → Prop} (h : Cm H Pa (te0 σ))
    (k : ∀ v H1, Ex H H1 → Pz H1 (Pa v) → ∃ a xs, v = .ref a ∧ Pz H1 (fun H' => SqL K H' a xs) ∧ Cm H1 P (tLc (fun _ Hc R => R (Itl K a) Hc) g tt te vs σ)) : Cm H P (tLc (iList K te0) g tt te vs σ) := by
  intro Hc e Q q
  refine h Hc e _ fun v Hn H2 g2 p => ?_
  obtain ⟨a, xs, rfl, hs, c⟩ := k v Hn g2.k p
  exact ⟨a, rfl, ⟨xs, hs H2 g2.s⟩, c H2 g2.s Q fun v Hm H3 g3 p3 => q v Hm H3 (g2.trans g3) p3⟩
/-- the addresses of a list of known pairs in another sequence -/
theorem perm_refs {ts : List Addr} {ws : List V} (h : ws.Perm (ts.map V.ref)) : ∃ us : List Addr, ws = us.map V.ref ∧ us.Perm ts := by
  have hr : ∀ w ∈ ws, ∃ a, w = V.ref a := fun w hw => by
    obtain ⟨a, _, rfl⟩ := List.mem_map.mp (h.mem_iff.mp hw)
    exact ⟨a, rfl⟩
  obtain ⟨us, rfl⟩ : ∃ us : List Addr, ws = us.map V.ref := by
    clear h
    induction ws with
    | nil => exact ⟨[], rfl⟩
    | cons w r ih =>
      obtain ⟨a, rfl⟩ := hr w (List.mem_cons_self ..)
      obtain ⟨us, rfl⟩ := ih fun x hx => hr x (List.mem_cons_of_mem _ hx)
      exact ⟨a :: us, rfl⟩
  refine ⟨us, rfl, ?_⟩
  have z := h.map (fun v : V => match v with | .ref a => a | _ => 0)
  rw [List.map_map, List.map_map] at z
  have id1 : ∀ l : List Addr, l.map ((fun v : V => match v with | .ref a => a | _ => 0) ∘ V.ref) = l := fun l => by
    induction l with
    | nil => rfl
    | cons x r ih => rw [List.map_cons, ih] <;> rfl
  rw [id1, id1] at z
  exact z
theorem perm_ts {H : Hp} {ts us : List Addr} {qs : List (Str × Str)} (h : TsAt H ts qs) (p : us.Perm ts) : ∃ rs, TsAt H us rs ∧ rs.Perm qs := by
  induction p generalizing qs with
  | nil => exact ⟨_, h, List.Perm.refl _⟩
  | cons x _ ih =>
    cases h with
    | cons a b =>
      obtain ⟨rs, r1, r2⟩ := ih b
      exact ⟨_ :: rs, .cons a r1, r2.cons _⟩
  | swap x y l =>
    cases h with
    | cons a b =>
      cases b with
      | cons c d => exact ⟨_, .cons c (.cons a d), List.Perm.swap _ _ _⟩
  | trans _ _ ih1 ih2 =>
    obtain ⟨rs, r1, r2⟩ := ih2 h
    obtain ⟨rs2, r3, r4⟩ := ih1 r1
    exact ⟨rs2, r3, r4.trans r2⟩
/-- texts in another sequence -/
theorem perm_strs {xs : List Str} {ws : List V} (h : ws.Perm (xs.map V.str)) : ∃ ys : List Str, ws = ys.map V.str ∧ ys.Perm xs := by
  have hr : ∀ w ∈ ws, ∃ a, w = V.str a := fun w hw => by
    obtain ⟨a, _, rfl⟩ := List.mem_map.mp (h.mem_iff.mp hw)
    exact ⟨a, rfl⟩
  obtain ⟨us, rfl⟩ : ∃ us : List Str, ws = us.map V.str := by
    clear h
    induction ws with
    | nil => exact ⟨[], rfl⟩
    | cons w r ih =>
      obtain ⟨a, rfl⟩ := hr w (List.mem_cons_self ..)
      obtain ⟨us, rfl⟩ := ih fun x hx => hr x (List.mem_cons_of_mem _ hx)
      exact ⟨a :: us, rfl⟩
  refine ⟨us, rfl, ?_⟩
  have z := h.map (fun v : V => match v with | .str a => a | _ => Str.empty)
  rw [List.map_map, List.map_map] at z
  have id1 : ∀ l : List Str, l.map ((fun v : V => match v with | .str a => a | _ => Str.empty) ∘ V.str) = l := fun l => by
    induction l with
    | nil => rfl
    | cons x r ih => rw [List.map_cons, ih] <;> rfl
  rw [id1, id1] at z
  exact z
end LW
set_option Elab.async false
set_option linter.all false
set_option maxRecDepth 100000
set_option maxHeartbeats 2000000
namespace K19
open PySem L2 LW
abbrev sTurned : Stmt := top 47
section
variable {P : Program} {w : World} {K : PySem.W.Frag} {mg : Str → Option Value} {base : Heap} {f : Addr} {fd : FuncData}
def ATurn (K : PySem.W.Frag) : Addr × List (Str × Str) → List V → Hp → Prop := fun x vs H => ∃ a ts, vs = [.ref x.1, .ref a] ∧ H x.1 = some (PotO x.1) ∧ SqL K H a (ts.map V.ref) ∧ TsAt H ts x.2 ∧ x.2.length ≤ 200
/-- one of the two ways to tell a pair -/
def Way (q r : Str × Str) : Prop := r = q ∨ r = (q.2, q.1)
theorem Way.lk {q r : Str × Str} (h : Way q r) : lk r = lk q := by
  rcases h with rfl | rfl
  · rfl
  · unfold K19.lk lnk
    by_cases h1 : Lt q.1 q.2
    · rw [if_pos h1, if_neg (fun h2 => Lt.as h1 h2)]
    · by_cases h2 : Lt q.2 q.1
      · rw [if_pos h2, if_neg h1]
      · have e : q.1 = q.2 := Lt.tri h1 h2
        rw [if_neg h1, if_neg h2, e]
def RTurn : Addr × List (Str × Str) → V → Hp → Prop := fun x v H => ∃ (b : Addr) (us : List Addr) (qs rs : List (Str × Str)), v = .ref b ∧ H b = some (.lst (us.map V.ref)) ∧ TsAt H us rs ∧ qs.Perm x.2 ∧ rs.map lk = qs.map lk ∧ ∀ r ∈ rs, ∃ q ∈ x.2, Way q r
abbrev nTurned : List Str := ["_law_pot_here", "_law_pairs", "_law_this", "_law_mate"]
theorem scTurned : FnScope nTurned ["_law_pot_here", "_law_pairs"] (defScope sTurned) := ⟨rfl, rfl, rfl, by decide +kernel, rfl, by decide +kernel, by decide +kernel⟩
theorem b_turned (B : BltL mg) (FD : Fn P w K mg base "_law_draw" 1 AD RD) (FM : Fn P w K mg base "_law_mixed" 2 (AMix K) RMix) : Body P w K mg base nTurned "_law_turned" sTurned f 2 (ATurn K) RTurn := by
  intro cdv Ar outer s H0 E x vs H Hc D hr ex pa rt nx
  obtain ⟨p, qs⟩ := x
  obtain ⟨a, ts, rfl, hp, h1, h2, hz⟩ := pa.now
  have hp : H p = some (PotO p) := hp
  have h2 : TsAt H ts qs := h2
  have hz : qs.length ≤ 200 := hz
  have l2 := h2.length
  refine b_ret (P := RTurn (p, qs)) ex (e_lc (own := [("_law_this", 2), ("_law_mate", 3)]) (g := gTup K 2 (gCons (gName 2) (gCons (gName 3) gNil))) rfl scTurned.nd (pi_list pe_w) (blkOk_by (N := nTurned) (sc := defScope sTurned) (by decide +kernel)) (fun _ _ _ _ _ => pg_tup rfl (pgs_cons (pg_name (i := 2) scTurned.nd rfl (.inl rfl)) (pgs_cons (pg_name (i := 3) scTurned.nd rfl (.inl rfl)) pgs_nil))) (fun _ _ _ _ _ => pts_nil)
    (c_lcL (e_callD (p, ts.map V.ref) FM hr (a_consD (e_var 0) (a_consD (e_var 1) a_nil)) fun H' e => ⟨a, rfl, e _ _ hp, Evl.ex_l e h1, by show (ts.map V.ref).length ≤ 1000; rw [List.length_map, l2]; omega⟩) fun v H1 e1 p1 => ?_)) fun v Hn H2 g p => rt v _ _ g p
  obtain ⟨b, ws, rfl, hb, pm⟩ := p1.now
  obtain ⟨us, rfl, pu⟩ := perm_refs pm
  obtain ⟨rs, hrs, pr⟩ := perm_ts (paired_ex e1 h2) pu
  have lr := hrs.length
  have lq := pr.length_eq
  refine ⟨b, us.map V.ref, rfl, fun H' e => SqL.of (e _ _ hb), c_lc (ciL fun H' e => SqL.of (e _ _ hb)) (by rw [List.length_map, lr]; omega) (fun i acc H' => ∃ (os : List Addr) (zs : List (Str × Str)), acc = os.map V.ref ∧ TsAt H' os zs ∧ zs.map lk = (rs.take i).map lk ∧ ∀ r ∈ zs, ∃ q ∈ qs, Way q r) (fun _ => ⟨[], [], rfl, .nil, rfl, fun r hr => absurd hr List.not_mem_nil⟩) (fun i y acc H3 hi e3 py pacc => ?_) fun acc d H3 e3 pacc hd => ?_⟩
  · obtain ⟨t, q, rfl, ht, hq, hH⟩ := ts_get hrs py.now
    refine ⟨_, true, bind_two (K := K) (.sqt (SqT.of (e3 _ _ hH))), rfl, c_yes, fun _ => c_eb fun s0 H00 C0 cl fp => ?_, fun q => nomatch q⟩
    refine Cm.imp (e_ifX (P := fun v H' => ∃ t r, v = .ref t ∧ H' t = some (.tup [.str r.1, .str r.2]) ∧ Way q r) (t_cmpX (Pa := RD (p, 2)) (Pb := is (V.int 0)) op_eq (by rfl) (e_callD (p, 2) FD (hr.mono (by decide)) (a_consD (e_var 0) (a_consD e_int a_nil)) fun H' e => ad (((e1.trans e3).trans e) _ _ hp) (by decide) (by decide)) e_int fun x y H4 e4 px py => ?_) ?_ ?_) fun v H' e z => ?_
    · obtain ⟨r, rfl, r0, r1⟩ := px.now
      obtain rfl := py.now
      exact ⟨_, r_eq (x := V.int r) (y := V.int 0) rfl⟩
    · refine e_tup (a_consD (v := V.str q.1) (e_var 2) (a_consD (v := V.str q.2) (e_var 3) a_nil)) (fun xs _ z => by rw [show xs = _ from z]; exact (by decide : 2 ≤ 100000)) fun xs p H1 e1 z hp => ?_
      rw [show xs = _ from z.now] at hp
      exact fun H' e' => ⟨p, q, rfl, e' _ _ hp, .inl rfl⟩
    · refine e_tup (a_consD (v := V.str q.2) (e_var 3) (a_consD (v := V.str q.1) (e_var 2) a_nil)) (fun xs _ z => by rw [show xs = _ from z]; exact (by decide : 2 ≤ 100000)) fun xs p H1 e1 z hp => ?_
      rw [show xs = _ from z.now] at hp
      exact fun H' e' => ⟨p, (q.2, q.1), rfl, e' _ _ hp, .inr rfl⟩
    · obtain ⟨t2, r, rfl, ht2, hw⟩ := z
      obtain ⟨os, zs, rfl, ho, hm, hall⟩ := pacc H' e
      refine ⟨os ++ [t2], zs ++ [r], by simp, ts_snoc ht2 ho, by rw [List.map_append, hm, take_snoc hq, List.map_append, List.map_cons, hw.lk] <;> rfl, fun r' hr' => ?_⟩
      rcases List.mem_append.mp hr' with m | m
      · exact hall r' m
      · rw [List.mem_singleton.mp m]; exact ⟨q, pr.mem_iff.mp (List.mem_of_getElem? hq), hw⟩
  · obtain ⟨os, zs, rfl, ho, hm, hall⟩ := pacc.now
    rw [List.length_map, lr, List.take_length] at hm
    exact fun H' e' => ⟨d, os, rs, zs, rfl, e' _ _ hd, paired_ex e' ho, pr, hm, hall⟩
end
end K19
set_option Elab.async false
set_option linter.all false
set_option maxRecDepth 100000
set_option maxHeartbeats 2000000
namespace K19
open PySem L2 LW
abbrev sSub : Stmt := inClass sNet 18
abbrev sPart : Stmt := inClass sNet 21
abbrev sNeedN : Stmt := top 35
section
variable {P : Program} {w : World} {K : PySem.W.Frag} {mg : Str → Option Value} {base : Heap} {f fi C : Addr} {fd : FuncData}
theorem scNeedN : FnScope ["net"] ["net"] (defScope sNeedN) := ⟨rfl, rfl, rfl, by decide +kernel, rfl, by decide +kernel, by decide +kernel⟩
theorem b_needN (B : Blt K mg) (F : NetF K mg C) (T : NetTy K C) : Body P w K mg base ["net"] "need_net" sNeedN f 0 (ASelf C) RNon := by
  intro cdv Ar outer s H0 E x vs H Hc D hr ex pa rt nx
  obtain ⟨rfl, ⟨dx, l1, l2, l3, ts, as, h1, _⟩, nt⟩ := pa.now
  exact b_ifF ex (t_not (k := true) (t_val (e_isi (ty := .ref C) (u := .ref C) (c := V.ref C) B.isi (e_var (v := V.ref x.a) 0) (e_glob (v := V.ref C) rfl F.mgN rfl) (fun H' e => .base (.ins (e _ _ h1) F.cls T.ha T.hn T.htk T.hm)) (.own C) T.kit))) fun Hn H2 g => b_nil (b_nil (nx _ _ _ g (.const rfl)))
end
end K19
set_option Elab.async false
set_option linter.all false
set_option maxRecDepth 100000
set_option maxHeartbeats 2000000
namespace K19
open PySem L2 LW
section
variable {P : Program} {w : World} {K : PySem.W.Frag} {mg : Str → Option Value} {base : Heap} {f fi C : Addr} {fd : FuncData}
def without (ls : List (Str × Str)) (g : Str × Str) : List (Str × Str) := ls.filter fun p => !decide (p = g)
def RSub (C : Addr) : NetV × (Str × Str) → V → Hp → Prop := fun x v H => ∃ a, v = .ref a ∧ NetAt C a x.1.ns (without x.1.ls (lk x.2)) H ∧ Nt x.1.ns (without x.1.ls (lk x.2))
abbrev nSub : List Str := ["self", "other", "gone", "link"]
theorem scSub : FnScope nSub ["self", "other"] (defScope sSub) := ⟨rfl, rfl, rfl, by decide +kernel, rfl, by decide +kernel, by decide +kernel⟩
theorem b_sub (B : Blt K mg) (F : NetF K mg C) (M : MkN P w K mg base C fi) (FL : Fn P w K mg base "need_link" 4 (ACont C K) RNon) (FO : Fn P w K mg base "link_of" 2 ALkO RLkO) : Body P w K mg base nSub "Net.__sub__" sSub f 6 (ACont C K) (RSub C) := by
  intro cdv Ar outer s H0 E x vs H Hc D hr ex pa rt nx
  obtain ⟨x, p⟩ := x
  obtain ⟨t, rfl, hT, hX, hl, hm⟩ := pa.now
  have hT : SqT K H t [.str p.1, .str p.2] := hT
  have hX : x.At C H := hX
  have hl : Lk p := hl
  have hm : lk p ∈ x.ls := hm
  obtain ⟨⟨dx, l1, l2, l3, ts, as, h1, h2, h3, h4, h5⟩, nt⟩ := id hX
  have hq := Pz.sqt hT
  have l4 := h4.length
  have hu : (fx P w K mg base nSub "Net.__sub__" sSub f cdv Ar outer s H0 E).A.units + 64 < cLine := hr.units
  refine b_expr ex (e_callD (x, p) FL (hr.mono (by decide)) (a_consD (e_var 0) (a_consD (e_var 1) a_nil)) (fun H' e => ⟨t, rfl, hq H' e, ⟨hX.1.ex e, nt⟩, hl, hm⟩)) fun _ H1 Hc1 g1 _ => ?_
  have q1 := hq.mono g1.k
  refine b_set 2 g1.s (e_callD p FO (hr.mono (by decide)) (a_consD (e_itemT (j := 0) (e_var 1) e_int q1 rfl) (a_consD (e_itemT (j := 1) (e_var 1) e_int q1 rfl) a_nil)) (.const ⟨rfl, hl⟩)) (fun v H2 Hc2 g2 p2 => ?_) scSub.nd (hx := .inr rfl)
  obtain ⟨b, rfl, hb⟩ := p2.now
  have hb : H2 b = some (.tup [.str (lk p).1, .str (lk p).2]) := hb
  have e12 := g1.k.trans g2.k
  have sub : ∀ z ∈ without x.ls (lk p), z ∈ x.ls := fun z hz => (List.mem_filter.mp hz).1
  have nt2 : Nt x.ns (without x.ls (lk p)) := ⟨nt.len, nt.ne, nt.nd, nt.nm, nt.sn, Nat.le_trans (List.length_filter_le _ _) nt.ll, nt.nl.sublist List.filter_sublist, fun z hz => nt.lk z (sub z hz), nt.sp.sublist List.filter_sublist⟩
  have ids : (without x.ls (lk p)).map lk = without x.ls (lk p) := (List.map_congr_left fun q hq => lk_lk (nt2.lk q hq).2.2).trans (List.map_id _)
  have gn : Nm (lk p).1 ∧ Nm (lk p).2 := nt.nml _ hm
  refine b_ret g2.s (e_make (P := RSub C (x, p)) M.cl F.mgN M.init hr (a_cons (P := is (V.ref l1)) (e_fld (v := V.ref l1) F.cls F.n1 (e_var 0) (.at (e12 _ _ h1)) rfl) (a_cons (P := RPs (without x.ls (lk p))) (e_lc (own := [("link", 3)]) (g := gName 3) rfl scSub.nd (pi_list pe_w) (blkOk_by (N := nSub) (sc := defScope sSub) (by decide +kernel)) (fun _ _ _ _ _ => pg_name (i := 3) scSub.nd rfl (.inl rfl)) (fun s H C cl fp => pts_one (pt_b s H C cl fp))
    (c_lc (i_list (xs := ts.map V.ref) (Cm.imp (e_fld (v := V.ref l2) F.cls F.n2 (e_var 0) (.at (e12 _ _ h1)) rfl) fun v H' e z => ⟨l2, z, SqL.of (e _ _ (e12 _ _ h3))⟩)) (by have := nt.ll; simp; omega) (fun i acc H' => ∃ us, acc = us.map V.ref ∧ TsAt H' us (without (x.ls.take i) (lk p))) (fun _ => ⟨[], rfl, .nil⟩) (fun i z acc H9 hi e9 py pacc => ?_) fun acc q H9 e9 pacc hq => ?_)) a_nil)) fun vs H3 e3 z => ?_) fun v H4 Hc4 g4 q => rt v _ _ ((g1.trans g2).trans g4) q
  · obtain ⟨d, r, rfl, hd, hr2, hH⟩ := ts_get h4 py.now
    have mr := List.mem_of_getElem? hr2
    have eH : Ex H H9 := e12.trans e9
    refine ⟨_, !decide (r = lk p), bind_name, rfl, c_tb fun s H0 C cl fp => t_cmpD (op_neD hu) (by rfl) (e_var (v := V.ref d) 3) (e_var (v := V.ref b) 2) (Cm.ret (fun Hc ex Q q => ⟨dPr r, dPr (lk p), .tup (SqT.of (ex _ _ (eH _ _ hH))) (.cons (.str _) (.cons (.str _) .nil)), .tup (SqT.of (ex _ _ (e9 _ _ hb))) (.cons (.str _) (.cons (.str _) .nil)), sh_pr (nt.nml r mr).1 (nt.nml r mr).2, sh_pr gn.1 gn.2, by rw [eqv_pr]; exact q⟩) (.const rfl)), fun k => c_eb fun s H0 C cl fp => ?_, fun k => ?_⟩
    · refine Cm.imp (e_var (v := V.ref d) 3) fun v H' e z => ?_
      obtain ⟨us, rfl, hu⟩ := pacc H' e
      refine ⟨us ++ [d], by rw [show v = V.ref d from z, List.map_append] <;> rfl, ?_⟩
      unfold without
      rw [take_snoc hr2, List.filter_append, List.filter_cons_of_pos (by exact k), List.filter_nil]
      exact ts_snoc (e _ _ (eH _ _ hH)) hu
    · intro H' e
      obtain ⟨us, rfl, hu⟩ := pacc H' e
      refine ⟨us, rfl, ?_⟩
      unfold without
      rw [take_snoc hr2, List.filter_append, List.filter_cons_of_neg (by rw [k]; exact Bool.false_ne_true), List.filter_nil, List.append_nil]
      exact hu
  · obtain ⟨us, rfl, hu⟩ := pacc.now
    rw [List.length_map, l4, List.take_length] at hu
    exact fun H' e' => ⟨q, us, rfl, e' _ _ hq, paired_ex e' hu⟩
  · obtain ⟨u, us, rfl, rfl, u2, us2, rfl, ⟨c, ds, rfl, hc, hd⟩, rfl⟩ := z.now
    have e13 := e12.trans e3
    refine ⟨⟨true, x.ns, true, without x.ls (lk p)⟩, fun H' e' => ⟨l1, c, ds, rfl, SqL.of (e' _ _ (e13 _ _ h2)), SqL.of (e' _ _ hc), paired_ex e' hd, ⟨⟨nt.len, nt.ne, nt.nd, nt.nm⟩, ⟨nt2.ll, fun q hq => ⟨(nt2.nml q hq).1, (nt2.nml q hq).2, fun e => Lt.irr _ (e ▸ (nt2.lk q hq).2.2)⟩, by rw [ids]; exact nt2.nl, fun q hq => ⟨(nt2.lk q hq).1, (nt2.lk q hq).2.1⟩⟩⟩⟩, fun v H' _ y => ?_⟩
    obtain ⟨a, ns, ls, rfl, hA, hn, hl2, nt3⟩ := y
    have hn : ns.Perm x.ns := hn
    have hl2 : ls.Perm ((without x.ls (lk p)).map lk) := hl2
    rw [ids] at hl2
    obtain rfl : ns = x.ns := sortN_uniq nt3.sn nt.sn hn
    obtain rfl : ls = without x.ls (lk p) := sortP_uniq nt3.sp nt2.sp hl2
    exact ⟨a, rfl, hA, nt2⟩
end
end K19
set_option Elab.async false
set_option linter.all false
set_option maxRecDepth 100000
set_option maxHeartbeats 2000000
namespace K19
open PySem L2 LW
def frow (xs : List Str) (i : Nat) : List (Str × Str) := (List.range i).map fun j => (xs.getD i Str.empty, xs.getD j Str.empty)
def fullP (xs : List Str) : List (Str × Str) := (List.range xs.length).flatMap (frow xs)
theorem at_getD {xs : List Str} {i : Nat} (h : i < xs.length) : xs[i]? = some (xs.getD i Str.empty) := by
  rw [List.getD_eq_getElem?_getD, List.getElem?_eq_getElem h] <;> rfl
theorem frow_mem {xs : List Str} {i : Nat} {p : Str × Str} (hi : i < xs.length) (h : p ∈ frow xs i) : ∃ j, j < i ∧ xs[i]? = some p.1 ∧ xs[j]? = some p.2 := by
  obtain ⟨j, hj, rfl⟩ := List.mem_map.mp h
  have hj := List.mem_range.mp hj
  exact ⟨j, hj, at_getD hi, at_getD (by omega)⟩
theorem full_lks {xs : List Str} (N : Nds xs) : (∀ p ∈ fullP xs, Lk p ∧ p.1 ∈ xs ∧ p.2 ∈ xs) ∧ ((fullP xs).map lk).Nodup := by
  refine ⟨fun p hp => ?_, ?_⟩
  · obtain ⟨i, hi, h⟩ := List.mem_flatMap.mp hp
    obtain ⟨j, hj, a, b⟩ := frow_mem (List.mem_range.mp hi) h
    have ma := List.mem_of_getElem? a
    have mb := List.mem_of_getElem? b
    exact ⟨⟨N.nm _ ma, N.nm _ mb, fun z => by rw [z] at a; have := nd_at N.nd a b; omega⟩, ma, mb⟩
  · refine List.pairwise_map.mpr (List.pairwise_flatMap.mpr ⟨fun i hi => ?_, ?_⟩)
    · have hi := List.mem_range.mp hi
      unfold frow
      refine List.pairwise_map.mpr (List.Pairwise.imp_of_mem (fun {j k} hj hk hjk e => ?_) List.pairwise_lt_range)
      have hj := List.mem_range.mp hj
      have hk := List.mem_range.mp hk
      obtain ⟨_, _, a, b⟩ := frow_mem hi (List.mem_map.mpr ⟨j, List.mem_range.mpr hj, rfl⟩)
      obtain ⟨_, _, c, d⟩ := frow_mem hi (List.mem_map.mpr ⟨k, List.mem_range.mpr hk, rfl⟩)
      have b' : xs[j]? = some (xs.getD j Str.empty) := at_getD (by omega)
      have d' : xs[k]? = some (xs.getD k Str.empty) := at_getD (by omega)
      rcases lk_eq e with ⟨_, z⟩ | ⟨z, _⟩
      · have z : xs.getD j Str.empty = xs.getD k Str.empty := z
        rw [z] at b'; have := nd_at N.nd b' d'; omega
      · have z : xs.getD i Str.empty = xs.getD k Str.empty := z
        have a : xs[i]? = some (xs.getD i Str.empty) := a
        rw [z] at a; have := nd_at N.nd a d'; omega
    · refine List.Pairwise.imp_of_mem (fun {i k} hi hk hik p hp q hq e => ?_) List.pairwise_lt_range
      obtain ⟨j, hj, a, b⟩ := frow_mem (List.mem_range.mp hi) hp
      obtain ⟨l, hl, c, d⟩ := frow_mem (List.mem_range.mp hk) hq
      rcases lk_eq e with ⟨z, _⟩ | ⟨_, z⟩
      · rw [z] at a; have := nd_at N.nd a c; omega
      · rw [z] at b; have := nd_at N.nd b c; omega
theorem full_len {xs : List Str} (h : xs.length ≤ 8) : (fullP xs).length ≤ 60 := by
  unfold fullP
  rw [List.length_flatMap]
  have go : ∀ n, n ≤ 8 → ((List.range n).map fun i => (frow xs i).length).sum ≤ n * 7 := by
    intro n
    induction n with
    | zero => intro _; exact Nat.le_refl _
    | succ n ih =>
      intro hn
      rw [List.range_succ, List.map_append, List.sum_append]
      have := ih (by omega)
      have l : (frow xs n).length = n := by unfold frow; rw [List.length_map, List.length_range]
      simp only [List.map_cons, List.map_nil, List.sum_cons, List.sum_nil, l]
      omega
  have := go xs.length h
  omega
section
variable {P : Program} {w : World} {K : PySem.W.Frag} {mg : Str → Option Value} {base : Heap} {f fi C : Addr} {fd : FuncData}
end
end K19
set_option Elab.async false
set_option linter.all false
set_option maxRecDepth 100000
set_option maxHeartbeats 2000000
namespace K19
open PySem L2 LW
abbrev sDrawn : Stmt := inClass sNet 15
theorem same_lk' {ls : List (Str × Str)} (h : ∀ p ∈ ls, Lt p.1 p.2) : ls.map lk = ls := (List.map_congr_left fun q hq => lk_lk (h q hq)).trans (List.map_id ls)
/-- the name that stands for z -/
def fr (kept gone z : Str) : Str := if z = gone then kept else z
section
variable {P : Program} {w : World} {K : PySem.W.Frag} {mg : Str → Option Value} {base : Heap} {f fi C : Addr} {fd : FuncData}
def RDrawn (C : Addr) : NetV × (Str × Str) → V → Hp → Prop := fun x v H => ∃ a ns ls, v = .ref a ∧ NetAt C a ns ls H ∧ ns.Perm (x.1.ns.filter fun z => !decide (z = (lk x.2).2)) ∧
  (∀ q, q ∈ ls ↔ ∃ p ∈ x.1.ls, fr (lk x.2).1 (lk x.2).2 p.1 ≠ fr (lk x.2).1 (lk x.2).2 p.2 ∧ q = lnk (fr (lk x.2).1 (lk x.2).2 p.1) (fr (lk x.2).1 (lk x.2).2 p.2)) ∧ Nt ns ls
abbrev nDrawn : List Str := ["self", "link", "kept", "gone", "fresh", "links", "one", "other", "node"]
theorem scDrawn : FnScope nDrawn ["self", "link"] (defScope sDrawn) := ⟨rfl, rfl, rfl, by decide +kernel, rfl, by decide +kernel, by decide +kernel⟩
theorem b_drawn (B : Blt K mg) (F : NetF K mg C) (M : MkN P w K mg base C fi) (FL : Fn P w K mg base "need_link" 4 (ACont C K) RNon) (FO : Fn P w K mg base "link_of" 2 ALkO RLkO) : Body P w K mg base nDrawn "Net.drawn_together" sDrawn f 6 (ACont C K) (RDrawn C) := by
  intro cdv Ar outer s H0 E x vs H Hc D hr ex pa rt nx
  obtain ⟨x, p⟩ := x
  obtain ⟨t, rfl, hT, hX, hl, hm⟩ := pa.now
  have hT : SqT K H t [.str p.1, .str p.2] := hT
  have hX : x.At C H := hX
  have hl : Lk p := hl
  have hm : lk p ∈ x.ls := hm
  obtain ⟨⟨dx, l1, l2, l3, ts, as, h1, h2, h3, h4, h5⟩, nt⟩ := id hX
  have hq := Pz.sqt hT
  have l4 := h4.length
  have gn : Nm (lk p).1 ∧ Nm (lk p).2 := nt.nml _ hm
  obtain ⟨mk, mgn, ltk⟩ := nt.lk _ hm
  refine b_expr ex (e_callD (x, p) FL (hr.mono (by decide)) (a_consD (e_var 0) (a_consD (e_var 1) a_nil)) (fun H' e => ⟨t, rfl, hq H' e, ⟨hX.1.ex e, nt⟩, hl, hm⟩)) fun _ H1 Hc1 g1 _ => ?_
  have q1 := hq.mono g1.k
  refine b_asg (g := gTup K 2 (gCons (gName 2) (gCons (gName 3) gNil))) g1.s (e_callD p FO (hr.mono (by decide)) (a_consD (e_itemT (j := 0) (e_var 1) e_int q1 rfl) (a_consD (e_itemT (j := 1) (e_var 1) e_int q1 rfl) a_nil)) (.const ⟨rfl, hl⟩)) (pg_tup rfl (pgs_cons (pg_name (i := 2) scDrawn.nd rfl (.inr rfl)) (pgs_cons (pg_name (i := 3) scDrawn.nd rfl (.inr rfl)) pgs_nil))) fun v H2 Hc2 g2 p2 => ?_
  obtain ⟨b, rfl, hb⟩ := p2.now
  have hb : H2 b = some (.tup [.str (lk p).1, .str (lk p).2]) := hb
  refine bind_two (K := K) (.sqt (SqT.of hb)) Hc2 g2.s _ ?_
  generalize hk : (lk p).1 = kept at *
  generalize hg : (lk p).2 = gone at *
  have e12 := g1.k.trans g2.k
  refine b_setDc 4 (own := [("node", 8)]) (g := gName 8) (tt := tYes) (P := fun v H' => ∃ d kvs, v = .ref d ∧ H' d = some (.dK kvs) ∧ ∀ z ∈ x.ns, valV kvs (.inr z) = some (.str (fr kept gone z))) g2.s rfl scDrawn.nd rfl rfl rfl (pi_list pe_w) (blkOk_by (N := nDrawn) (sc := defScope sDrawn) (by decide +kernel)) (fun _ _ _ _ _ => pg_name (i := 8) scDrawn.nd rfl (.inl rfl)) (fun _ _ _ _ _ => pts_nil)
    (c_dc (i_list (xs := x.ns.map V.str) (Cm.imp (e_fld (v := V.ref l1) F.cls F.n1 (e_var 0) (.at (e12 _ _ h1)) rfl) fun v H' e z => ⟨l1, z, SqL.of (e _ _ (e12 _ _ h2))⟩)) (by have := nt.len; simp; omega) (fun i => .inr (x.ns.getD i Str.empty)) (fun i acc _ => acc.length ≤ i ∧ ∀ j, j < i → valV acc (.inr (x.ns.getD j Str.empty)) = some (.str (fr kept gone (x.ns.getD j Str.empty)))) (fun _ => ⟨Nat.le_refl _, fun j hj => by omega⟩) (fun i y acc H9 hi e9 py pacc => ?_) (fun i acc H9 e9 pacc => pacc.now.1) fun acc q H9 e9 pacc hq => ?_) (fun v H3 Hc3 g3 p3 => ?_)
  · have hi : i < x.ns.length := by simpa using hi
    obtain ⟨z, hz, rfl⟩ := txt_get py.now
    have ez : x.ns.getD i Str.empty = z := Option.some.inj ((at_getD hi).symm.trans hz)
    obtain ⟨a1, a2⟩ := pacc.now
    refine ⟨_, bind_name, rfl, c_yes, c_eb fun s H0 C cl fp => by rw [ez]; exact e_var 8, c_eb fun s H0 C cl fp => ?_⟩
    refine Cm.imp (e_if (P := is (V.str (fr kept gone z))) (k := decide (z = gone)) (t_is (t_cmpD op_eq (by rfl) (e_var (v := V.str z) 8) (e_var (v := V.str gone) 3) (r_eq (x := V.str z) (y := V.str gone) rfl)) (by by_cases h : z = gone <;> simp [h])) (fun k => ?_) fun k => ?_) fun v H' _ q => ?_
    · have e : fr kept gone z = kept := if_pos (of_decide_eq_true k)
      rw [e]; exact e_var (v := V.str kept) 2
    · have e : fr kept gone z = z := if_neg (of_decide_eq_false k)
      rw [e]; exact e_var (v := V.str z) 8
    · have q : v = V.str (fr kept gone z) := q
      refine ⟨Nat.le_trans (length_putK _ _ _) (by omega), fun j hj => ?_⟩
      rw [valV_put]
      by_cases e : j = i
      · subst e
        rw [if_pos rfl, ez, q]
      · by_cases e2 : x.ns.getD j Str.empty = x.ns.getD i Str.empty
        · rw [e2, if_pos rfl, ez, q]
        · rw [if_neg fun w => e2 (Sum.inr.inj w)]
          exact a2 j (by omega)
  · obtain ⟨a1, a2⟩ := pacc.now
    refine fun H' e => ⟨q, acc, rfl, e _ _ hq, fun z hz => ?_⟩
    obtain ⟨j, hj⟩ := List.getElem?_of_mem hz
    have lj := (List.getElem?_eq_some_iff.mp hj).1
    have ez : x.ns.getD j Str.empty = z := Option.some.inj ((at_getD lj).symm.trans hj)
    have := a2 j (by rw [List.length_map]; exact lj)
    rw [ez] at this
    exact this
  obtain ⟨d, kvs, rfl, hd, hkv⟩ := p3.now
  refine b_dnewT 5 g3.s (fun m hm' => ?_) scDrawn.nd
  have hmH : H3 m = none := Evl.fresh_back g3.s hm'
  have e13 := e12.trans g3.k
  refine b_for (H := H3) (g := gTup K 2 (gCons (gName 6) (gCons (gName 7) gNil))) (g3.s.trans (Evl.Ex.new hm')) PassesOwn.never rfl (pi_list pe_w) (i_list (xs := ts.map V.ref) (Cm.imp (e_fld (v := V.ref l2) F.cls F.n2 (e_var 0) (.at (e13 _ _ h1)) rfl) fun v H' e z => ⟨l2, z, SqL.of (e _ _ (e13 _ _ h3))⟩))
    (pg_tup rfl (pgs_cons (pg_name (i := 6) scDrawn.nd rfl (.inl rfl)) (pgs_cons (pg_name (i := 7) scDrawn.nd rfl (.inl rfl)) pgs_nil))) fun H4 Hc4 g4 => ?_
  have gg := (still (g3.s.trans (Evl.Ex.new hm')) (Evl.Ex.new hm')).trans g4
  have tk : ∀ z ∈ x.ns, fr kept gone z ∈ x.ns.filter fun z => !decide (z = gone) := fun z hz => by
    refine List.mem_filter.mpr ?_
    by_cases e : z = gone
    · rw [show fr kept gone z = kept from if_pos e]
      exact ⟨mk, by simpa using fun q : kept = gone => Lt.irr _ (q ▸ ltk)⟩
    · rw [show fr kept gone z = z from if_neg e]
      exact ⟨hz, by simpa using e⟩
  refine ⟨fun i σ1 H5 Hc5 => ∃ (u1 u2 : Option V) (kv : List (List Key × V)) (qs : List (Str × Str)), σ1 = [some (.ref x.a), some (.ref t), some (.str kept), some (.str gone), some (.ref d), some (.ref m), u1, u2, none] ∧ H5 m = none ∧ Hc5 m = some (.dT kv) ∧ kv.map (·.1) = qs.map kLk ∧ qs.Nodup ∧ qs.length ≤ i ∧
    (∀ q, q ∈ qs ↔ ∃ p ∈ x.ls.take i, fr kept gone p.1 ≠ fr kept gone p.2 ∧ q = lnk (fr kept gone p.1) (fr kept gone p.2)) ∧ Grow H3 Hc3 H5 Hc5, ⟨none, none, [], [], rfl, g4.un upd_same hmH, g4.c _ _ upd_same, rfl, List.nodup_nil, Nat.le_refl _, fun q => by simp, gg⟩, ?_, ?_⟩
  · rintro i σ1 H5 Hc5 hi e5 e5' ⟨u1, u2, kv, qs, rfl, hm5, hc5, hkeys, hnd, hlen, hmem, g5⟩ y H6 Hc6 g6 py
    rw [List.length_map, l4] at hi
    obtain ⟨t2, p2, rfl, ht2, hp2, hH⟩ := ts_get h4 py.now
    have eH : Ex H H6 := (e13.trans g5.k).trans g6.k
    have mp := List.mem_of_getElem? hp2
    obtain ⟨n1, n2, n3⟩ := nt.lk p2 mp
    refine bind_two (K := K) (.sqt (SqT.of (eH _ _ hH))) Hc6 g6.s _ ?_
    have hc6 := g6.c _ _ hc5
    have n6 := g6.un hc5 hm5
    have ll := nt.ll
    have e36 : Ex H3 H6 := g5.k.trans g6.k
    have get : ∀ {z : Str} {H'}, z ∈ x.ns → Ex H6 H' → Pz H' (fun H'' => DGet H'' d (kV (.inr z)) (some (.str (fr kept gone z)))) := fun {z H'} hz e => by
      have q := pz_dK (key := .inr z) (Pz.at (e _ _ (e36 _ _ hd)))
      rw [hkv z hz] at q
      exact q
    have done : ∀ (H7 Hc7 : Hp) (kv' : List (List Key × V)) (qs' : List (Str × Str)), Grow H3 Hc3 H7 Hc7 → Ex H4 H7 → H7 m = none → Hc7 m = some (.dT kv') → kv'.map (·.1) = qs'.map kLk → qs'.Nodup → qs'.length ≤ i + 1 → (∀ q, q ∈ qs' ↔ q ∈ qs ∨ (fr kept gone p2.1 ≠ fr kept gone p2.2 ∧ q = lnk (fr kept gone p2.1) (fr kept gone p2.2))) →
        ∃ H8, Ex H4 H8 ∧ Ex H8 Hc7 ∧ ∃ (u1 u2 : Option V) (kv : List (List Key × V)) (qs : List (Str × Str)), [some (.ref x.a), some (.ref t), some (.str kept), some (.str gone), some (.ref d), some (.ref m), some (.str p2.1), some (.str p2.2), none] = [some (.ref x.a), some (.ref t), some (.str kept), some (.str gone), some (.ref d), some (.ref m), u1, u2, none] ∧ H8 m = none ∧ Hc7 m = some (.dT kv) ∧ kv.map (·.1) = qs.map kLk ∧ qs.Nodup ∧ qs.length ≤ i + 1 ∧
          (∀ q, q ∈ qs ↔ ∃ p ∈ x.ls.take (i + 1), fr kept gone p.1 ≠ fr kept gone p.2 ∧ q = lnk (fr kept gone p.1) (fr kept gone p.2)) ∧ Grow H3 Hc3 H8 Hc7 := fun H7 Hc7 kv' qs' z1 z2 z3 z4 z5 z6 z7 z8 => ⟨H7, z2, z1.s, _, _, kv', qs', rfl, z3, z4, z5, z6, z7, fun q => by
      rw [z8, hmem, take_snoc hp2]
      constructor
      · rintro (⟨r, hr, e⟩ | e)
        · exact ⟨r, List.mem_append_left _ hr, e⟩
        · exact ⟨p2, List.mem_append_right _ (List.mem_singleton_self _), e⟩
      · rintro ⟨r, hr, e⟩
        rcases List.mem_append.mp hr with w | w
        · exact .inl ⟨r, w, e⟩
        · rw [List.mem_singleton.mp w] at e
          exact .inr e, z1⟩
    refine b_if g6.s (t_cmpD op_ne (by rfl) (e_dget (hu_of hr) (e_var 4) (e_var 6) (get n1 (Evl.Ex.refl _))) (e_dget (hu_of hr) (e_var 4) (e_var 7) (get n2 (Evl.Ex.refl _))) (r_ne (x := V.str (fr kept gone p2.1)) (y := V.str (fr kept gone p2.2)) rfl)) (fun k H7 Hc7 g7 => ?_) fun k H7 Hc7 g7 => b_nil (b_nil ?_)
    · have ne : fr kept gone p2.1 ≠ fr kept gone p2.2 := fun e => by rw [e] at k; simp at k
      have hc7 := g7.c _ _ hc6
      have n7 := g7.un hc6 n6
      have lkv : kv.length ≤ 60 := by
        have z := congrArg List.length hkeys
        rw [List.length_map, List.length_map] at z
        omega
      refine b_dputN (key := kLk (lnk (fr kept gone p2.1) (fr kept gone p2.2))) (l := m) (kvs := kv) (P := is (V.bl true)) g7.s (hu_of hr) e_bl (e_var 5) (Cm.imp (e_callD (fr kept gone p2.1, fr kept gone p2.2) FO (hr.mono (by decide)) (a_consD (e_dget (hu_of hr) (e_var 4) (e_var 6) (get n1 g7.k)) (a_consD (e_dget (hu_of hr) (e_var 4) (e_var 7) (get n2 g7.k)) a_nil))
        (.const ⟨rfl, nt.nm _ (List.mem_filter.mp (tk _ n1)).1, nt.nm _ (List.mem_filter.mp (tk _ n2)).1, ne⟩)) fun v H' _ z => z) hc7 (by omega) fun v H8 Hc8 g8 _ => b_nil (b_nil ?_)
      have n8 := g8.un hc7 n7
      have g38 := (((g5.trans g6).trans g7).trans g8)
      have e48 : Ex H4 H8 := ((e5.trans g6.k).trans g7.k).trans g8.k
      by_cases old : lnk (fr kept gone p2.1) (fr kept gone p2.2) ∈ qs
      · refine done H8 _ _ qs (g38.mut hm' n8) e48 n8 upd_same (by rw [keys_old v (by rw [hkeys]; exact List.mem_map.mpr ⟨_, old, rfl⟩)]; exact hkeys) hnd (by omega) fun q => ⟨.inl, fun z => z.elim id fun e => e.2 ▸ old⟩
      · refine done H8 _ _ (qs ++ [lnk (fr kept gone p2.1) (fr kept gone p2.2)]) (g38.mut hm' n8) e48 n8 upd_same ?_ ?_ ?_ fun q => ?_
        · rw [keys_new v (by
            rw [hkeys]
            intro w
            obtain ⟨r, hr, e⟩ := List.mem_map.mp w
            exact old (kLk_inj e ▸ hr)), hkeys, List.map_append] <;> rfl
        · exact List.nodup_append.mpr ⟨hnd, List.nodup_cons.mpr ⟨List.not_mem_nil, List.nodup_nil⟩, fun a ha b hb e => old (by rw [List.mem_singleton.mp hb] at e; exact e ▸ ha)⟩
        · rw [List.length_append, List.length_singleton]; omega
        · rw [List.mem_append, List.mem_singleton]
          exact ⟨fun z => z.imp id fun e => ⟨ne, e⟩, fun z => z.imp id fun e => e.2⟩
    · have eq : fr kept gone p2.1 = fr kept gone p2.2 := by simpa using k
      exact done H7 Hc7 kv qs ((g5.trans g6).trans g7) ((e5.trans g6.k).trans g7.k) (g7.un hc6 n6) (g7.c _ _ hc6) hkeys hnd (by omega) fun q => ⟨.inl, fun z => z.elim id fun e => (e.1 eq).elim⟩
  · rintro σ1 H5 Hc5 e5 e5' ⟨u1, u2, kv, qs, rfl, hm5, hc5, hkeys, hnd, hlen, hmem, g5⟩
    rw [List.length_map, l4] at hlen
    rw [List.length_map, l4, List.take_length] at hmem
    have ll := nt.ll
    have lq : qs.length ≤ 60 := by omega
    have fine : ∀ q ∈ qs, Lt q.1 q.2 ∧ (q.1 ∈ x.ns.filter fun z => !decide (z = gone)) ∧ q.2 ∈ x.ns.filter fun z => !decide (z = gone) := fun q hq => by
      obtain ⟨r, hr, ne, rfl⟩ := (hmem q).mp hq
      obtain ⟨n1, n2, _⟩ := nt.lk r hr
      have a := tk _ n1
      have b := tk _ n2
      refine ⟨lk_lt (p := (fr kept gone r.1, fr kept gone r.2)) ⟨nt.nm _ (List.mem_filter.mp a).1, nt.nm _ (List.mem_filter.mp b).1, ne⟩, ?_, ?_⟩ <;> rcases lnk_cases (fr kept gone r.1) (fr kept gone r.2) with e | e <;> rw [e] <;> assumption
    have ids : qs.map lk = qs := same_lk' fun q hq => (fine q hq).1
    have own := e5'.own hc5
    have e35 : Ex H3 (upd H5 m (.dT kv)) := g5.k.trans (Ex.put hm5)
    have eH : Ex H (upd H5 m (.dT kv)) := e13.trans e35
    have nds : Nds (x.ns.filter fun z => !decide (z = gone)) := ⟨Nat.le_trans (List.length_filter_le _ _) nt.len, fun e => by have z := tk kept mk; rw [e] at z; exact absurd z List.not_mem_nil, nt.nd.sublist List.filter_sublist, fun z hz => nt.nm z (List.mem_filter.mp hz).1⟩
    refine b_ret (H := upd H5 m (.dT kv)) (P := RDrawn C (x, p)) own (e_make M.cl F.mgN M.init hr (a_cons (P := fun v H' => ∃ p, v = .ref p ∧ SqL K H' p ((x.ns.filter fun z => !decide (z = gone)).map V.str)) (e_lc (own := [("node", 8)]) (g := gName 8) rfl scDrawn.nd (pi_list pe_w) (blkOk_by (N := nDrawn) (sc := defScope sDrawn) (by decide +kernel)) (fun _ _ _ _ _ => pg_name (i := 8) scDrawn.nd rfl (.inl rfl)) (fun s H C cl fp => pts_one (pt_b s H C cl fp))
      (c_lc (i_list (xs := x.ns.map V.str) (Cm.imp (e_fld (v := V.ref l1) F.cls F.n1 (e_var 0) (.at (eH _ _ h1)) rfl) fun v H' e z => ⟨l1, z, SqL.of (e _ _ (eH _ _ h2))⟩)) (by have := nt.len; simp; omega) (fun i acc _ => acc = ((x.ns.take i).filter fun z => !decide (z = gone)).map V.str) (fun _ => rfl) (fun i y acc H9 hi e9 py pacc => ?_) fun acc q H9 e9 pacc hq => ?_))
      (a_cons (P := fun v H' => ∃ p bs, v = .ref p ∧ SqL K H' p (bs.map V.ref) ∧ TsAt H' bs qs) (e_ty (call_list_dT rfl) B.list (a_consD (e_var 5) a_nil) fun vs H6 e6 z => ?_) a_nil)) fun vs H6 e6 z => ?_) fun v H6 H7 g6 p6 => rt v _ _ ((((g1.trans g2).trans g3).trans (g5.know hm' hm5 hc5)).trans g6) p6
    · obtain ⟨z, hz, rfl⟩ := txt_get py.now
      have ea : acc = ((x.ns.take i).filter fun z => !decide (z = gone)).map V.str := pacc.now
      refine ⟨_, !decide (z = gone), bind_name, rfl, c_tb fun s H0 C cl fp => t_is (t_cmpD op_ne (by rfl) (e_var (v := V.str z) 8) (e_var (v := V.str gone) 3) (r_ne (x := V.str z) (y := V.str gone) rfl)) (by by_cases h : z = gone <;> simp [h]), fun k => c_eb fun s H0 C cl fp => ?_, fun k => ?_⟩
      · refine Cm.imp (e_var (v := V.str z) 8) fun v H' _ q => ?_
        rw [ea, show v = V.str z from q, take_snoc hz, List.filter_append, List.map_append, List.filter_cons_of_pos (by exact k), List.filter_nil] <;> rfl
      · refine .const ?_
        rw [ea, take_snoc hz, List.filter_append, List.filter_cons_of_neg (by rw [k]; exact Bool.false_ne_true), List.filter_nil, List.append_nil]
    · have ea : acc = ((x.ns.take (x.ns.map V.str).length).filter fun z => !decide (z = gone)).map V.str := pacc.now
      rw [List.length_map, List.take_length] at ea
      subst ea
      exact fun H' e' => ⟨q, rfl, SqL.of (e' _ _ hq)⟩
    · obtain rfl : vs = [V.ref m] := z.now
      refine fun Hc ex Q q => ⟨m, kv, rfl, .inl (ex _ _ (e6 _ _ upd_same)), fun p bs hp hb => ?_⟩
      obtain ⟨H9, g9, e9, z9⟩ := (Grow.new (o := .lst (bs.map V.ref)) ex hp).knowTs (Paired.mapP hb fun _ _ q => Evl.Ex.new hp _ _ q)
      exact q _ _ _ g9 fun H' e' => ⟨p, bs, rfl, SqL.of (e' _ _ (e9 _ _ upd_same)), paired_ex e' (ts_keys z9 hkeys)⟩
    · obtain ⟨u, us2, rfl, ⟨c, rfl, hc⟩, u2, us3, rfl, ⟨d2, bs, rfl, hd2, hb2⟩, rfl⟩ := z.now
      refine ⟨⟨true, x.ns.filter fun z => !decide (z = gone), true, qs⟩, fun H' e' => ⟨c, d2, bs, rfl, Evl.ex_l e' hc, Evl.ex_l e' hd2, paired_ex e' hb2, ⟨nds, ⟨lq, fun q hq => ⟨nds.nm _ (fine q hq).2.1, nds.nm _ (fine q hq).2.2, fun e => Lt.irr _ (e ▸ (fine q hq).1)⟩, by rw [ids]; exact hnd, fun q hq => (fine q hq).2⟩⟩⟩, fun v H' _ y => ?_⟩
      obtain ⟨a, ns, ls, rfl, hA, hn, hl2, nt3⟩ := y
      have hl2 : ls.Perm (qs.map lk) := hl2
      rw [ids] at hl2
      show ∃ (a : Addr) (ns : List Str) (ls : List (Str × Str)), _ ∧ _ ∧ ns.Perm (x.ns.filter fun z => !decide (z = (lk p).2)) ∧ (∀ q, q ∈ ls ↔ ∃ r ∈ x.ls, fr (lk p).1 (lk p).2 r.1 ≠ fr (lk p).1 (lk p).2 r.2 ∧ q = lnk (fr (lk p).1 (lk p).2 r.1) (fr (lk p).1 (lk p).2 r.2)) ∧ _
      rw [hk, hg]
      exact ⟨a, ns, ls, rfl, hA, hn, fun q => hl2.mem_iff.trans (hmem q), nt3⟩
end
end K19
set_option Elab.async false
set_option linter.all false
set_option maxRecDepth 100000
set_option maxHeartbeats 2000000
namespace K19
open PySem L2 LW
abbrev sLNet : Stmt := top 48
theorem val_spots {v1 v2 : V} : valV [((.inr "spots" : Key), v1), (.inr "pairs", v2)] (.inr "spots") = some v1 := by
  unfold valV
  rw [List.find?_cons_of_pos (by simp)] <;> rfl
theorem val_pairs {v1 v2 : V} : valV [((.inr "spots" : Key), v1), (.inr "pairs", v2)] (.inr "pairs") = some v2 := by
  unfold valV
  rw [List.find?_cons_of_neg (by simp only [decide_eq_true_eq, Sum.inr.injEq]; decide), List.find?_cons_of_pos (by simp)] <;> rfl
/-- a model at hand -/
structure Mdl where
  d : Addr
  ns : List Str
  ls : List (Str × Str)
def Mdl.At (x : Mdl) (H : Hp) : Prop := MdlAt x.d x.ns x.ls H ∧ Nt x.ns x.ls
theorem Mdl.At.ex {x : Mdl} {H H' : Hp} (e : Ex H H') (h : x.At H) : x.At H' := ⟨h.1.ex e, h.2⟩
section
variable {X : Cx} {H : Hp} {x : Mdl}
theorem e_spots (hu : X.A.units + 1 < cLine) (h : MdlAt x.d x.ns x.ls H) : ∃ a, H a = some (.lst (x.ns.map V.str)) ∧ ∀ (σ : L2.St) (H' : Hp) (o : Expr) (pos p1 : Pos) (j1 : Nat), Ex H H' → Cm H' (is (V.ref x.d)) (wE X o σ) → Cm H' (is (V.ref a)) (wE X (.Subscript o (.Constant (.str "spots") j1 p1) pos) σ) := by
  obtain ⟨a, b, ts, h1, h2, h3, h4⟩ := h
  refine ⟨a, h2, fun σ H' o pos p1 j1 e ho => e_dget hu ho e_str ?_⟩
  have q := pz_dK (key := .inr "spots") (Pz.at (e _ _ h1))
  rw [val_spots] at q
  exact q
theorem e_pairs (hu : X.A.units + 1 < cLine) (h : MdlAt x.d x.ns x.ls H) : ∃ b ts, H b = some (.lst (ts.map V.ref)) ∧ TsAt H ts x.ls ∧ ∀ (σ : L2.St) (H' : Hp) (o : Expr) (pos p1 : Pos) (j1 : Nat), Ex H H' → Cm H' (is (V.ref x.d)) (wE X o σ) → Cm H' (is (V.ref b)) (wE X (.Subscript o (.Constant (.str "pairs") j1 p1) pos) σ) := by
  obtain ⟨a, b, ts, h1, h2, h3, h4⟩ := h
  refine ⟨b, ts, h3, h4, fun σ H' o pos p1 j1 e ho => e_dget hu ho e_str ?_⟩
  have q := pz_dK (key := .inr "pairs") (Pz.at (e _ _ h1))
  rw [val_pairs] at q
  exact q
end
section
variable {P : Program} {w : World} {K : PySem.W.Frag} {mg : Str → Option Value} {base : Heap} {f fi C : Addr} {fd : FuncData}
def ALNet : Addr × Mdl → List V → Hp → Prop := fun x vs H => vs = [.ref x.1, .ref x.2.d] ∧ H x.1 = some (PotO x.1) ∧ x.2.At H
def RLNet (C : Addr) : Addr × Mdl → V → Hp → Prop := fun x v H => ∃ a, v = .ref a ∧ NetAt C a x.2.ns x.2.ls H
abbrev nLNet : List Str := ["_law_pot_here", "_law_model"]
theorem scLNet : FnScope nLNet nLNet (defScope sLNet) := ⟨rfl, rfl, rfl, by decide +kernel, rfl, by decide +kernel, by decide +kernel⟩
theorem lk_way {ns : List Str} {ls rs qs : List (Str × Str)} (nt : Nt ns ls) (hq : qs.Perm ls) (hr : rs.map lk = qs.map lk) (hw : ∀ r ∈ rs, ∃ q ∈ ls, Way q r) : (rs.map lk).Perm ls ∧ (∀ r ∈ rs, Lk r) ∧ ∀ r ∈ rs, r.1 ∈ ns ∧ r.2 ∈ ns := by
  refine ⟨?_, fun r hr => ?_, fun r hr => ?_⟩
  · rw [hr]
    have e : ls.map lk = ls := same_lk' fun q hq => (nt.lk q hq).2.2
    exact (hq.map lk).trans (by rw [e])
  · obtain ⟨q, hq, w⟩ := hw r hr
    obtain ⟨n1, n2, n3⟩ := nt.lk q hq
    have ne : q.1 ≠ q.2 := fun e => Lt.irr _ (e ▸ n3)
    rcases w with rfl | rfl
    · exact ⟨nt.nm _ n1, nt.nm _ n2, ne⟩
    · exact ⟨nt.nm _ n2, nt.nm _ n1, ne.symm⟩
  · obtain ⟨q, hq, w⟩ := hw r hr
    obtain ⟨n1, n2, n3⟩ := nt.lk q hq
    rcases w with rfl | rfl
    · exact ⟨n1, n2⟩
    · exact ⟨n2, n1⟩
theorem b_lnet (F : NetF K mg C) (M : MkN P w K mg base C fi) (FM : Fn P w K mg base "_law_mixed" 2 (AMix K) RMix) (FT : Fn P w K mg base "_law_turned" 3 (ATurn K) RTurn) : Body P w K mg base nLNet "_law_net" sLNet f 6 ALNet (RLNet C) := by
  intro cdv Ar outer s H0 E x vs H Hc D hr ex pa rt nx
  obtain ⟨p, x⟩ := x
  obtain ⟨rfl, hp, hA, nt⟩ := pa.now
  have hp : H p = some (PotO p) := hp
  have hA : MdlAt x.d x.ns x.ls H := hA
  have nt : Nt x.ns x.ls := nt
  obtain ⟨a, ha, ca⟩ := e_spots (X := fx P w K mg base nLNet "_law_net" sLNet f cdv Ar outer s H0 E) (hu_of hr) hA
  obtain ⟨b, ts, hb, hts, cb⟩ := e_pairs (X := fx P w K mg base nLNet "_law_net" sLNet f cdv Ar outer s H0 E) (hu_of hr) hA
  have ln := nt.len
  have ll := nt.ll
  have l2 := hts.length
  refine b_ret (P := RLNet C (p, x)) ex (e_make M.cl F.mgN M.init hr (a_cons (P := fun v H' => ∃ (c : Addr) (ys : List Str), v = .ref c ∧ H' c = some (.lst (ys.map V.str)) ∧ ys.Perm x.ns) (Cm.imp (e_callD (p, x.ns.map V.str) FM (hr.mono (by decide)) (a_consD (e_var 0) (a_consD (ca _ _ _ _ _ _ (Evl.Ex.refl _) (e_var 1)) a_nil)) fun H' e => ⟨a, rfl, e _ _ hp, SqL.of (e _ _ ha), by show (x.ns.map V.str).length ≤ 1000; rw [List.length_map]; omega⟩) fun v H' e z => ?_)
    (a_cons (P := RTurn (p, x.ls)) (e_callD (p, x.ls) FT (hr.mono (by decide)) (a_consD (e_var 0) (a_consD (cb _ _ _ _ _ _ (Evl.Ex.refl _) (e_var 1)) a_nil)) fun H' e => ⟨b, ts, rfl, e _ _ hp, SqL.of (e _ _ hb), paired_ex e hts, by show x.ls.length ≤ 200; omega⟩) a_nil)) fun vs H1 e1 p1 => ?_) fun v Hn H2 g p => rt v _ _ g p
  · obtain ⟨c, ws, rfl, hc, pm⟩ := z
    obtain ⟨ys, rfl, py⟩ := perm_strs pm
    exact ⟨c, ys, rfl, hc, py⟩
  · obtain ⟨_, _, rfl, ⟨c, ys, rfl, hc, py⟩, _, _, rfl, ⟨d, us, qs, rs, rfl, hd, hu, hq, hrs, hw⟩, rfl⟩ := p1.now
    have hq : qs.Perm x.ls := hq
    have hw : ∀ r ∈ rs, ∃ q ∈ x.ls, Way q r := hw
    obtain ⟨z1, z2, z3⟩ := lk_way nt hq hrs hw
    have lr : rs.length = x.ls.length := by have := z1.length_eq; rw [List.length_map] at this; exact this
    refine ⟨⟨true, ys, true, rs⟩, fun H' e => ⟨c, d, us, rfl, SqL.of (e _ _ hc), SqL.of (e _ _ hd), paired_ex e hu, ⟨⟨by rw [py.length_eq]; exact ln, fun e => nt.ne (by have e : ys = [] := e; rw [e] at py; exact py.symm.eq_nil), py.nodup_iff.mpr nt.nd, fun y hy => nt.nm y (py.mem_iff.mp hy)⟩, ⟨by rw [lr]; exact ll, z2, z1.nodup_iff.mpr nt.nl, fun r hr => ⟨py.mem_iff.mpr (z3 r hr).1, py.mem_iff.mpr (z3 r hr).2⟩⟩⟩⟩, fun v H2 e2 z => ?_⟩
    obtain ⟨a2, ns2, ls2, rfl, hN, q1, q2, nt2⟩ := z
    have e1 : ns2 = x.ns := sortN_uniq nt2.sn nt.sn (q1.trans py)
    have e2 : ls2 = x.ls := sortP_uniq nt2.sp nt.sp (q2.trans z1)
    rw [e1, e2] at hN
    exact ⟨a2, rfl, hN⟩
end
end K19
set_option Elab.async false
set_option linter.all false
set_option maxRecDepth 100000
set_option maxHeartbeats 2000000
namespace LW
open PySem L2
/-- sorted(e) of a new list of texts -/
theorem e_sortedN {X : Cx} {σ : St} {H : Hp} {e : Expr} {xs : List Str} {px pos : Pos} (hm : X.mg "sorted" = none) (h : Cm H (fun v H' => ∃ b, v = .ref b ∧ SqL X.K H' b (xs.map V.str)) (wE X e σ)) (hz : xs.length < 64)
    (hg : Gl X "sorted" := by rfl) (hst : starEach [e] X.env = (false, eval e X.env) :: starEach [] X.env := by rfl) : Cm H (fun v H' => ∃ d ys, v = .ref d ∧ H' d = some (.lst (ys.map V.str)) ∧ ys.Perm xs ∧ SortN ys) (wE X (.Call (.Name "sorted" px) [e] [] pos) σ) :=
  e_blt cr_sortedS hm (a_cons h a_nil hst) (fun vs H1 e1 p1 => by
    obtain ⟨u, us, rfl, ⟨b, rfl, _⟩, rfl⟩ := p1.now
    refine fun Hc ex Q q => ?_
    obtain ⟨_, _, e, ⟨_, e3, z⟩, rfl⟩ := p1 Hc ex
    cases e
    cases e3
    exact ⟨b, xs, rfl, z, hz, fun ys p hp hs hn => q _ _ _ (Grow.new ex hn) fun H' e' => ⟨p, ys, rfl, e' _ _ upd_same, hp, sortN_of hs⟩⟩) hg (hv := by decide +kernel) (hs := hst)
/-- xs + ys, ys of a kind -/
theorem e_catX {X : Cx} {σ : St} {H : Hp} {e1 e2 : Expr} {pos : Pos} {xs : List V} {φ : List V → Prop} (h1 : Cm H (nl xs) (wE X e1 σ)) (h2 : Cm H (fun v H' => ∃ b zs, v = .ref b ∧ H' b = some (.lst zs) ∧ φ zs) (wE X e2 σ)) (hz : ∀ zs, φ zs → xs.length + zs.length ≤ 100000) :
    Cm H (fun v H' => ∃ b zs, v = .ref b ∧ H' b = some (.lst (xs ++ zs)) ∧ φ zs) (wE X (.BinOp e1 .Add e2 pos) σ) :=
  e_op op_cat h1 h2 fun u v H1 e z1 z2 => by
    obtain ⟨b, rfl, hb⟩ := z1.now
    obtain ⟨c, zs, rfl, hc, hφ⟩ := z2.now
    exact fun Hc ex Q q => ⟨b, c, xs, zs, rfl, rfl, ex _ _ hb, ex _ _ hc, Evl.sz_of (hz zs hφ), fun p hp => q _ _ _ (Grow.new ex hp) fun H' e => ⟨p, zs, rfl, e _ _ upd_same, hφ⟩⟩
end LW
set_option Elab.async false
set_option linter.all false
set_option maxRecDepth 100000
set_option maxHeartbeats 2000000
namespace K19
open PySem L2 LW
abbrev sLNear : Stmt := top 49
/-- whom the links join to x: behind it, ahead of it -/
def fwd (qs : List (Str × Str)) (x : Str) : List Str := (qs.filter fun p => decide (p.1 = x)).map (·.2)
def bwd (qs : List (Str × Str)) (x : Str) : List Str := (qs.filter fun p => decide (p.2 = x)).map (·.1)
theorem nb_perm {x : Str} : ∀ {qs : List (Str × Str)}, (∀ p ∈ qs, p.1 ≠ p.2) → (fwd qs x ++ bwd qs x).Perm (nb qs x)
  | [], _ => List.Perm.refl _
  | p :: r, h => by
    have ih := nb_perm (x := x) fun q hq => h q (List.mem_cons_of_mem _ hq)
    have ne := h p (List.mem_cons_self ..)
    unfold fwd bwd nb
    rw [List.filterMap_cons]
    by_cases h1 : p.1 = x
    · have h2 : ¬ p.2 = x := fun z => ne (h1.trans z.symm)
      rw [List.filter_cons_of_pos (by simpa using h1), List.filter_cons_of_neg (by simpa using h2), if_pos h1]
      exact ih.cons p.2
    · rw [List.filter_cons_of_neg (by simpa using h1), if_neg h1]
      by_cases h2 : p.2 = x
      · rw [List.filter_cons_of_pos (by simpa using h2), if_pos h2]
        exact List.perm_middle.trans (ih.cons p.1)
      · rw [List.filter_cons_of_neg (by simpa using h2), if_neg h2]
        exact ih
theorem nb_len {qs : List (Str × Str)} {x : Str} : (nb qs x).length ≤ qs.length := List.length_filterMap_le _ _
section
variable {P : Program} {w : World} {K : PySem.W.Frag} {mg : Str → Option Value} {base : Heap} {f : Addr} {fd : FuncData}
def ALNear (K : PySem.W.Frag) : List (Str × Str) × Str → List V → Hp → Prop := fun x vs H => ∃ a ts, vs = [.ref a, .str x.2] ∧ SqL K H a (ts.map V.ref) ∧ TsAt H ts x.1 ∧ x.1.length ≤ 60 ∧ ∀ p ∈ x.1, p.1 ≠ p.2
def RLNear : List (Str × Str) × Str → V → Hp → Prop := fun x v H => ∃ d ys, v = .ref d ∧ H d = some (.lst (ys.map V.str)) ∧ ys.Perm (nb x.1 x.2) ∧ SortN ys
abbrev nLNear : List Str := ["_law_pairs", "_law_spot", "_law_found", "_law_this", "_law_mate"]
theorem scLNear : FnScope nLNear ["_law_pairs", "_law_spot"] (defScope sLNear) := ⟨rfl, rfl, rfl, by decide +kernel, rfl, by decide +kernel, by decide +kernel⟩
theorem b_lnear (hS : mg "sorted" = none) : Body P w K mg base nLNear "_law_near" sLNear f 0 (ALNear K) RLNear := by
  intro cdv Ar outer s H0 E x vs H Hc D hr ex pa rt nx
  obtain ⟨qs, x⟩ := x
  obtain ⟨a, ts, rfl, h1, h2, hz, hne⟩ := pa.now
  have h1 : SqL K H a (ts.map V.ref) := h1
  have h2 : TsAt H ts qs := h2
  have hz : qs.length ≤ 60 := hz
  have hne : ∀ p ∈ qs, p.1 ≠ p.2 := hne
  have l2 := h2.length
  refine b_setLc 2 ex rfl scLNear.nd rfl rfl rfl (pi_list pe_w) (own := [("_law_this", 3), ("_law_mate", 4)]) (g := gTup K 2 (gCons (gName 3) (gCons (gName 4) gNil))) (P := nl ((fwd qs x).map V.str)) (blkOk_by (N := nLNear) (sc := defScope sLNear) (by decide +kernel)) (fun _ _ _ _ _ => pg_tup rfl (pgs_cons (pg_name (i := 3) scLNear.nd rfl (.inl rfl)) (pgs_cons (pg_name (i := 4) scLNear.nd rfl (.inl rfl)) pgs_nil))) (fun s H C cl fp => pts_one (pt_b s H C cl fp))
    (c_lc (i_list (xs := ts.map V.ref) (Cm.imp (e_var (v := V.ref a) 0) fun v H' e z => ⟨a, z, Evl.ex_l e h1⟩)) (by rw [List.length_map, l2]; omega) (fun i acc _ => acc = (fwd (qs.take i) x).map V.str) (fun _ => rfl) (fun i y acc H3 hi e3 py pacc => ?_) fun acc d H3 e3 pacc hd => ?_) (fun v H1 Hc1 g1 p1 => ?_)
  · obtain ⟨t, q, rfl, ht, hq, hH⟩ := ts_get h2 py.now
    have ea : acc = (fwd (qs.take i) x).map V.str := pacc.now
    refine ⟨_, decide (q.1 = x), bind_two (K := K) (.sqt (SqT.of (e3 _ _ hH))), rfl, c_tb fun s0 H00 C0 cl fp => t_is (t_cmpD op_eq (by rfl) (e_var (v := V.str q.1) 3) (e_var (v := V.str x) 1) (r_eq (x := V.str q.1) (y := V.str x) rfl)) (by by_cases h : q.1 = x <;> simp [h]), fun k => c_eb fun s0 H00 C0 cl fp => ?_, fun k => .const ?_⟩
    · refine Cm.imp (e_var (v := V.str q.2) 4) fun v H' _ z => ?_
      rw [ea, show v = V.str q.2 from z, take_snoc hq]
      unfold fwd
      rw [List.filter_append, List.filter_cons_of_pos (by exact k), List.filter_nil, List.map_append, List.map_append] <;> rfl
    · rw [ea, take_snoc hq]
      unfold fwd
      rw [List.filter_append, List.filter_cons_of_neg (by rw [k]; exact Bool.false_ne_true), List.filter_nil, List.append_nil]
  · have ea : acc = (fwd (qs.take (ts.map V.ref).length) x).map V.str := pacc.now
    rw [List.length_map, l2, List.take_length] at ea
    subst ea
    exact fun H' e' => ⟨d, rfl, e' _ _ hd⟩
  obtain ⟨b, rfl, hb⟩ := p1.now
  have h1' := Evl.ex_l g1.k h1
  have h2' := paired_ex g1.k h2
  refine b_ret (P := RLNear (qs, x)) g1.s (Cm.imp (e_sortedN (xs := fwd qs x ++ bwd qs x) hS (Cm.imp (e_cat (xs := (fwd qs x).map V.str) (ys := (bwd qs x).map V.str) (Cm.imp (e_var (v := V.ref b) 2) fun v H' e z => ⟨b, z, e _ _ hb⟩) (e_lc (own := [("_law_this", 3), ("_law_mate", 4)]) (g := gTup K 2 (gCons (gName 3) (gCons (gName 4) gNil))) rfl scLNear.nd (pi_list pe_w) (blkOk_by (N := nLNear) (sc := defScope sLNear) (by decide +kernel)) (fun _ _ _ _ _ => pg_tup rfl (pgs_cons (pg_name (i := 3) scLNear.nd rfl (.inl rfl)) (pgs_cons (pg_name (i := 4) scLNear.nd rfl (.inl rfl)) pgs_nil))) (fun s H C cl fp => pts_one (pt_b s H C cl fp))
      (c_lc (i_list (xs := ts.map V.ref) (Cm.imp (e_var (v := V.ref a) 0) fun v H' e z => ⟨a, z, Evl.ex_l e h1'⟩)) (by rw [List.length_map, l2]; omega) (fun i acc _ => acc = (bwd (qs.take i) x).map V.str) (fun _ => rfl) (fun i y acc H3 hi e3 py pacc => ?_) fun acc d H3 e3 pacc hd => ?_)) ?_) fun v H' e z => ?_) ?_) fun v H' e z => ?_) fun v Hn H2 g p => rt v _ _ (g1.trans g) p
  · obtain ⟨t, q, rfl, ht, hq, hH⟩ := ts_get h2' py.now
    have ea : acc = (bwd (qs.take i) x).map V.str := pacc.now
    refine ⟨_, decide (q.2 = x), bind_two (K := K) (.sqt (SqT.of (e3 _ _ hH))), rfl, c_tb fun s0 H00 C0 cl fp => t_is (t_cmpD op_eq (by rfl) (e_var (v := V.str q.2) 4) (e_var (v := V.str x) 1) (r_eq (x := V.str q.2) (y := V.str x) rfl)) (by by_cases h : q.2 = x <;> simp [h]), fun k => c_eb fun s0 H00 C0 cl fp => ?_, fun k => .const ?_⟩
    · refine Cm.imp (e_var (v := V.str q.1) 3) fun v H' _ z => ?_
      rw [ea, show v = V.str q.1 from z, take_snoc hq]
      unfold bwd
      rw [List.filter_append, List.filter_cons_of_pos (by exact k), List.filter_nil, List.map_append, List.map_append] <;> rfl
    · rw [ea, take_snoc hq]
      unfold bwd
      rw [List.filter_append, List.filter_cons_of_neg (by rw [k]; exact Bool.false_ne_true), List.filter_nil, List.append_nil]
  · have ea : acc = (bwd (qs.take (ts.map V.ref).length) x).map V.str := pacc.now
    rw [List.length_map, l2, List.take_length] at ea
    subst ea
    exact fun H' e' => ⟨d, rfl, e' _ _ hd⟩
  · have z1 : (fwd qs x).length ≤ qs.length := by unfold fwd; rw [List.length_map]; exact List.length_filter_le _ _
    have z2 : (bwd qs x).length ≤ qs.length := by unfold bwd; rw [List.length_map]; exact List.length_filter_le _ _
    rw [List.length_map, List.length_map]; omega
  · obtain ⟨c, rfl, hc⟩ := z
    rw [← List.map_append] at hc
    exact ⟨c, rfl, SqL.of hc⟩
  · have z1 := (nb_perm (x := x) hne).length_eq
    have z2 := nb_len (qs := qs) (x := x)
    omega
  · obtain ⟨d, ys, rfl, hd, py, sy⟩ := z
    exact ⟨d, ys, rfl, hd, py.trans (nb_perm hne), sy⟩
end
end K19
set_option Elab.async false
set_option linter.all false
set_option maxRecDepth 100000
set_option maxHeartbeats 2000000
namespace K19
open PySem L2 LW
theorem mem_nb {qs : List (Str × Str)} {x y : Str} (hne : ∀ p ∈ qs, p.1 ≠ p.2) : y ∈ nb qs x ↔ (x, y) ∈ qs ∨ (y, x) ∈ qs := by
  rw [← (nb_perm (x := x) hne).mem_iff, List.mem_append]
  unfold fwd bwd
  constructor
  · rintro (h | h)
    · obtain ⟨p, hp, rfl⟩ := List.mem_map.mp h
      obtain ⟨h1, h2⟩ := List.mem_filter.mp hp
      have e : p.1 = x := of_decide_eq_true h2
      exact .inl (e ▸ h1)
    · obtain ⟨p, hp, rfl⟩ := List.mem_map.mp h
      obtain ⟨h1, h2⟩ := List.mem_filter.mp hp
      have e : p.2 = x := of_decide_eq_true h2
      exact .inr (e ▸ h1)
  · rintro (h | h)
    · exact .inl (List.mem_map.mpr ⟨(x, y), List.mem_filter.mpr ⟨h, by simp⟩, rfl⟩)
    · exact .inr (List.mem_map.mpr ⟨(y, x), List.mem_filter.mpr ⟨h, by simp⟩, rfl⟩)
theorem nb_symm {qs : List (Str × Str)} {x y : Str} (hne : ∀ p ∈ qs, p.1 ≠ p.2) (h : y ∈ nb qs x) : x ∈ nb qs y := (mem_nb hne).mpr ((mem_nb hne).mp h).symm
theorem fwd_nd {x : Str} : ∀ {qs : List (Str × Str)}, qs.Nodup → (fwd qs x).Nodup
  | [], _ => List.nodup_nil
  | p :: r, h => by
    have h' := List.nodup_cons.mp h
    unfold fwd
    by_cases h1 : p.1 = x
    · rw [List.filter_cons_of_pos (by simpa using h1), List.map_cons]
      refine List.nodup_cons.mpr ⟨fun m => ?_, fwd_nd h'.2⟩
      obtain ⟨q, hq, e⟩ := List.mem_map.mp m
      obtain ⟨m1, m2⟩ := List.mem_filter.mp hq
      have e1 : q.1 = x := of_decide_eq_true m2
      have : q = p := Prod.ext (e1.trans h1.symm) e
      exact h'.1 (this ▸ m1)
    · rw [List.filter_cons_of_neg (by simpa using h1)]
      exact fwd_nd h'.2
theorem bwd_nd {x : Str} : ∀ {qs : List (Str × Str)}, qs.Nodup → (bwd qs x).Nodup
  | [], _ => List.nodup_nil
  | p :: r, h => by
    have h' := List.nodup_cons.mp h
    unfold bwd
    by_cases h1 : p.2 = x
    · rw [List.filter_cons_of_pos (by simpa using h1), List.map_cons]
      refine List.nodup_cons.mpr ⟨fun m => ?_, bwd_nd h'.2⟩
      obtain ⟨q, hq, e⟩ := List.mem_map.mp m
      obtain ⟨m1, m2⟩ := List.mem_filter.mp hq
      have e1 : q.2 = x := of_decide_eq_true m2
      have : q = p := Prod.ext e (e1.trans h1.symm)
      exact h'.1 (this ▸ m1)
    · rw [List.filter_cons_of_neg (by simpa using h1)]
      exact bwd_nd h'.2
theorem nb_nd {ns : List Str} {ls : List (Str × Str)} (nt : Nt ns ls) (x : Str) : (nb ls x).Nodup := by
  have hne : ∀ p ∈ ls, p.1 ≠ p.2 := fun p hp e => Lt.irr _ (e ▸ (nt.lk p hp).2.2)
  refine (nb_perm (x := x) hne).nodup_iff.mp (List.nodup_append.mpr ⟨fwd_nd nt.nl, bwd_nd nt.nl, fun a ha b hb e => ?_⟩)
  subst e
  unfold fwd at ha
  unfold bwd at hb
  obtain ⟨p, hp, rfl⟩ := List.mem_map.mp ha
  obtain ⟨m1, m2⟩ := List.mem_filter.mp hp
  have e1 : p.1 = x := of_decide_eq_true m2
  obtain ⟨q, hq, e⟩ := List.mem_map.mp hb
  obtain ⟨k1, k2⟩ := List.mem_filter.mp hq
  have e2 : q.2 = x := of_decide_eq_true k2
  have l1 := (nt.lk p m1).2.2
  have l2 := (nt.lk q k1).2.2
  rw [e1] at l1
  rw [e2] at l2
  rw [e] at l2
  exact Lt.as l1 l2
theorem Nt.hne {ns : List Str} {ls : List (Str × Str)} (nt : Nt ns ls) : ∀ p ∈ ls, p.1 ≠ p.2 := fun p hp e => Lt.irr _ (e ▸ (nt.lk p hp).2.2)
theorem nb_in {ns : List Str} {ls : List (Str × Str)} (nt : Nt ns ls) {x y : Str} (h : y ∈ nb ls x) : y ∈ ns ∧ x ∈ ns := by
  rcases (mem_nb nt.hne).mp h with h | h
  · exact ⟨(nt.lk _ h).2.1, (nt.lk _ h).1⟩
  · exact ⟨(nt.lk _ h).1, (nt.lk _ h).2.1⟩
/-- joined by links, directly or by way of others -/
inductive Rch (ls : List (Str × Str)) (x : Str) : Str → Prop
  | refl : Rch ls x x
  | step {y z : Str} : Rch ls x y → z ∈ nb ls y → Rch ls x z
theorem Rch.tr {ls : List (Str × Str)} {x y z : Str} (h : Rch ls x y) (h2 : Rch ls y z) : Rch ls x z := by
  induction h2 with
  | refl => exact h
  | step _ m ih => exact ih.step m
theorem Rch.symm {ls : List (Str × Str)} (hne : ∀ p ∈ ls, p.1 ≠ p.2) {x y : Str} (h : Rch ls x y) : Rch ls y x := by
  induction h with
  | refl => exact .refl
  | step _ m ih => exact (Rch.step .refl (nb_symm hne m)).tr ih
theorem Rch.mem {ns : List Str} {ls : List (Str × Str)} (nt : Nt ns ls) {x y : Str} (hx : x ∈ ns) (h : Rch ls x y) : y ∈ ns := by
  cases h with
  | refl => exact hx
  | step _ m => exact (nb_in nt m).1
/-- what a search has found: the first so many have been looked behind -/
structure Srch (ls : List (Str × Str)) (x : Str) (ys : List Str) (n : Nat) : Prop where
  le : n ≤ ys.length
  nd : ys.Nodup
  start : x ∈ ys
  all : ∀ y ∈ ys, Rch ls x y
  done : ∀ i y, i < n → ys[i]? = some y → ∀ z ∈ nb ls y, z ∈ ys
theorem Srch.iff {ls : List (Str × Str)} {x : Str} {ys : List Str} (h : Srch ls x ys ys.length) {y : Str} : y ∈ ys ↔ Rch ls x y := by
  refine ⟨h.all y, fun r => ?_⟩
  induction r with
  | refl => exact h.start
  | step _ m ih =>
    obtain ⟨i, hi⟩ := List.getElem?_of_mem ih
    exact h.done i _ (List.getElem?_eq_some_iff.mp hi).1 hi _ m
theorem Srch.next {ls : List (Str × Str)} {x u : Str} {ys zs : List Str} {n : Nat} (h : Srch ls x ys n) (hu : ys[n]? = some u) (pz : zs.Perm (nb ls u)) (nz : (nb ls u).Nodup) : Srch ls x (ys ++ zs.filter fun z => !decide (z ∈ ys)) (n + 1) := by
  have hn := (List.getElem?_eq_some_iff.mp hu).1
  refine ⟨by rw [List.length_append]; omega, List.nodup_append.mpr ⟨h.nd, (pz.nodup_iff.mpr nz).sublist List.filter_sublist, fun a ha b hb e => ?_⟩, List.mem_append_left _ h.start, fun y hy => ?_, fun i y hi hy z hz => ?_⟩
  · have := (List.mem_filter.mp hb).2
    rw [← e] at this
    simp [ha] at this
  · rcases List.mem_append.mp hy with m | m
    · exact h.all y m
    · exact (h.all u (List.mem_of_getElem? hu)).step (pz.mem_iff.mp (List.mem_filter.mp m).1)
  · rw [List.mem_append]
    have hiy : i < ys.length := by omega
    rw [List.getElem?_append_left hiy] at hy
    by_cases e : i < n
    · exact .inl (h.done i y e hy z hz)
    · have : i = n := by omega
      subst this
      rw [hu] at hy
      cases hy
      by_cases m : z ∈ ys
      · exact .inl m
      · exact .inr (List.mem_filter.mpr ⟨pz.mem_iff.mpr hz, by simpa using m⟩)
theorem Srch.len {ns : List Str} {ls : List (Str × Str)} (nt : Nt ns ls) {x : Str} (hx : x ∈ ns) {ys : List Str} {n : Nat} (h : Srch ls x ys n) : ys.length ≤ ns.length := nd_len ys ns h.nd fun y hy => (h.all y hy).mem nt hx
end K19
set_option Elab.async false
set_option linter.all false
set_option maxRecDepth 100000
set_option maxHeartbeats 2000000
namespace K19
open PySem L2 LW
abbrev sLPiece : Stmt := top 50
section
variable {P : Program} {w : World} {K : PySem.W.Frag} {mg : Str → Option Value} {base : Heap} {f : Addr} {fd : FuncData}
structure PcIn where
  ns : List Str
  ls : List (Str × Str)
  x : Str
def ALPc (K : PySem.W.Frag) : PcIn → List V → Hp → Prop := fun x vs H => ∃ a ts, vs = [.ref a, .str x.x] ∧ SqL K H a (ts.map V.ref) ∧ TsAt H ts x.ls ∧ Nt x.ns x.ls ∧ x.x ∈ x.ns
/-- the piece of x, sorted -/
structure Piece (ls : List (Str × Str)) (x : Str) (zs : List Str) : Prop where
  nd : zs.Nodup
  sn : SortN zs
  iff : ∀ y, y ∈ zs ↔ Rch ls x y
theorem Piece.uniq {ls : List (Str × Str)} {x : Str} {zs ys : List Str} (h : Piece ls x zs) (h2 : Piece ls x ys) : zs = ys :=
  sortN_uniq h.sn h2.sn ((List.perm_ext_iff_of_nodup h.nd h2.nd).mpr fun y => (h.iff y).trans (h2.iff y).symm)
def RLPc : PcIn → V → Hp → Prop := fun x v H => ∃ d zs, v = .ref d ∧ H d = some (.lst (zs.map V.str)) ∧ Piece x.ls x.x zs
abbrev nLPc : List Str := ["_law_pairs", "_law_spot", "_law_found", "_law_at_here", "_law_near_here"]
theorem scLPc : FnScope nLPc ["_law_pairs", "_law_spot"] (defScope sLPiece) := ⟨rfl, rfl, rfl, by decide +kernel, rfl, by decide +kernel, by decide +kernel⟩
theorem b_lpiece (hL : mg "len" = none) (hS : mg "sorted" = none) (FN : Fn P w K mg base "_law_near" 1 (ALNear K) RLNear) : Body P w K mg base nLPc "_law_piece" sLPiece f 1 (ALPc K) RLPc := by
  intro cdv Ar outer s H0 E x vs H Hc D hr ex pa rt nx
  obtain ⟨ns, ls, x⟩ := x
  obtain ⟨a, ts, rfl, h1, h2, nt, hx⟩ := pa.now
  have h1 : SqL K H a (ts.map V.ref) := h1
  have h2 : TsAt H ts ls := h2
  have nt : Nt ns ls := nt
  have hx : x ∈ ns := hx
  have ln := nt.len
  refine b_asg (P := fun v H' => ∃ t b, v = .ref t ∧ SqT K H' t [.ref b, .int 0] ∧ H' b = some (.lst [.str x])) (g := gTup K 2 (gCons (gName 2) (gCons (gName 3) gNil))) ex (e_tup (a_cons (P := fun v H' => ∃ b, v = .ref b ∧ H' b = some (.lst [.str x])) (e_lst (a_consD (e_var 1) a_nil) (fun xs _ z => by rw [show xs = _ from z]; exact (by decide : 1 ≤ 100000)) fun xs q H3 e3 z hq => ?_) (a_consD (e_int (i := 0)) a_nil)) (fun xs _ z => ?_) fun xs q H3 e3 z hq => ?_)
    (pg_tup rfl (pgs_cons (pg_name (i := 2) scLPc.nd rfl (.inr rfl)) (pgs_cons (pg_name (i := 3) scLPc.nd rfl (.inl rfl)) pgs_nil))) fun v H1 Hc1 g1 p1 => ?_
  · rw [show xs = _ from z.now] at hq
    exact fun H' e' => ⟨q, rfl, e' _ _ hq⟩
  · obtain ⟨_, _, rfl, _, rfl⟩ := z
    exact (by decide : 2 ≤ 100000)
  · obtain ⟨_, _, rfl, ⟨b, rfl, hb⟩, rfl⟩ := z.now
    exact fun H' e' => ⟨q, b, rfl, SqT.of (e' _ _ hq), e' _ _ hb⟩
  · obtain ⟨t, b, rfl, ht, hb⟩ := p1.now
    refine bind_two (K := K) (.sqt ht) Hc1 g1.s _ ?_
    refine b_while PassesOwn.never (J := fun m σ1 H4 Hc4 => ∃ (b : Addr) (ys : List Str) (n : Nat) (u : Option V), σ1 = [some (.ref a), some (.str x), some (.ref b), some (.int (n : Int)), u] ∧ H4 b = some (.lst (ys.map V.str)) ∧ Srch ls x ys n ∧ m + n = 61 ∧ Grow H Hc H4 Hc4) (m0 := 61) g1.s
      ⟨b, [x], 0, none, rfl, hb, ⟨Nat.zero_le _, List.nodup_cons.mpr ⟨List.not_mem_nil, List.nodup_nil⟩, List.mem_singleton_self _, fun y hy => by rw [List.mem_singleton.mp hy]; exact .refl, fun i y hi => absurd hi (Nat.not_lt_zero _)⟩, rfl, g1⟩ ?_
    rintro m σ1 H4 Hc4 e4 s4 ⟨b, ys, n, u, rfl, hb4, S, hm, g4⟩
    have ly := S.len nt hx
    refine ⟨decide (n < ys.length), H4, s4, t_is (t_cmpD op_lt (by rfl) (e_var 3) (e_len (xs := ys.map V.str) hL (e_var (v := V.ref b) 2) (fun H' e => .inl (SqL.of (e _ _ hb4)))) (r_I0 (g := fun i j => V.bl (decide (i < j))) (i := (n : Int)) (j := ((ys.map V.str).length : Int)))) (decide_eq_decide.mpr (by rw [List.length_map]; omega)), fun hk Hn H2 g5 => ?_, fun hk Hn H2 g5 => ?_⟩
    · have hn : n < ys.length := of_decide_eq_true hk
      obtain ⟨z, hz⟩ : ∃ z, ys[n]? = some z := ⟨_, List.getElem?_eq_getElem hn⟩
      have hbn : Hn b = some (.lst (ys.map V.str)) := g5.k _ _ hb4
      have gn := g4.trans g5
      refine b_set 2 g5.s (P := fun v H' => ∃ (b : Addr) (zs : List Str), v = .ref b ∧ H' b = some (.lst ((ys ++ zs.filter fun z => !decide (z ∈ ys)).map V.str)) ∧ zs.Perm (nb ls z)) (Cm.imp (e_catX (xs := ys.map V.str) (φ := fun ws => ∃ zs : List Str, ws = (zs.filter fun z => !decide (z ∈ ys)).map V.str ∧ zs.Perm (nb ls z)) (Cm.imp (e_var (v := V.ref b) 2) fun v H' e z => ⟨b, z, e _ _ hbn⟩)
        (e_lc (own := [("_law_near_here", 4)]) (g := gName 4) rfl scLPc.nd (pi_list pe_w) (blkOk_by (N := nLPc) (sc := defScope sLPiece) (by decide +kernel)) (fun _ _ _ _ _ => pg_name (i := 4) scLPc.nd rfl (.inl rfl)) (fun s H C cl fp => pts_one (pt_b s H C cl fp))
          (c_lcL (e_callD (ls, z) FN hr (a_consD (e_var 0) (a_consD (e_item (j := n) (xs := ys.map V.str) (e_var 2) (e_var 3) (fun H' e => SqL.of (e _ _ hbn)) (by rw [List.getElem?_map, hz] <;> rfl)) a_nil)) fun H' e => ⟨a, ts, rfl, Evl.ex_l (gn.k.trans e) h1, paired_ex (gn.k.trans e) h2, nt.ll, nt.hne⟩) fun v H6 e6 p6 => ?_)) fun zs hφ => ?_) fun v H' e q => ?_) (fun v H6 Hc6 g6 p6 => ?_) scLPc.nd (hx := .inr rfl)
      · obtain ⟨d, zs, rfl, hd, pz, sz⟩ := p6.now
        have lz : zs.length ≤ 60 := by have h1 := pz.length_eq; have h2 := nb_len (qs := ls) (x := z); have h3 := nt.ll; have h4 : zs.length = (nb ls z).length := h1; omega
        refine ⟨d, zs.map V.str, rfl, fun H' e => SqL.of (e _ _ hd), c_lc (ciL fun H' e => SqL.of (e _ _ hd)) (by rw [List.length_map]; omega) (fun i acc _ => acc = ((zs.take i).filter fun z => !decide (z ∈ ys)).map V.str) (fun _ => rfl) (fun i y acc H7 hi e7 py pacc => ?_) fun acc q H7 e7 pacc hq => ?_⟩
        · obtain ⟨c, hc, rfl⟩ := txt_get py.now
          have ea : acc = ((zs.take i).filter fun z => !decide (z ∈ ys)).map V.str := pacc.now
          refine ⟨_, !decide (c ∈ ys), bind_name, rfl, c_tb fun s H0 C cl fp => t_cmpD op_notIn_seq (by rfl) (e_var 4) (e_var 2) (r_ninS fun H' e => .inl (SqL.of ((e6.trans (e7.trans e)) _ _ hbn))), fun q => c_eb fun s H0 C cl fp => ?_, fun q => .const ?_⟩
          · refine Cm.imp (e_var (v := V.str c) 4) fun v H' _ z => ?_
            rw [ea, show v = V.str c from z, take_snoc hc, List.filter_append, List.map_append, List.filter_cons_of_pos (by exact q), List.filter_nil] <;> rfl
          · rw [ea, take_snoc hc, List.filter_append, List.filter_cons_of_neg (by rw [q]; exact Bool.false_ne_true), List.filter_nil, List.append_nil]
        · have ea : acc = ((zs.take (zs.map V.str).length).filter fun z => !decide (z ∈ ys)).map V.str := pacc.now
          rw [List.length_map, List.take_length] at ea
          exact fun H' e' => ⟨q, acc, rfl, e' _ _ hq, zs, ea, pz⟩
      · obtain ⟨zs, rfl, pz⟩ := hφ
        have h1 := pz.length_eq
        have h2 := nb_len (qs := ls) (x := z)
        have h3 := nt.ll
        have h4 : (zs.filter fun z => !decide (z ∈ ys)).length ≤ zs.length := List.length_filter_le _ _
        rw [List.length_map, List.length_map]; omega
      · obtain ⟨c, ws, rfl, hc, zs, rfl, pz⟩ := q
        rw [← List.map_append] at hc
        exact ⟨c, zs, rfl, hc, pz⟩
      · obtain ⟨c, zs, rfl, hc, pz⟩ := p6.now
        refine b_set 3 g6.s (P := is (V.int ((n : Int) + 1))) (e_opD op_add (e_var 3) e_int (r_I0 (g := fun i j => V.int (i + j)) (i := (n : Int)) (j := 1))) (fun v H7 Hc7 g7 p7 => b_nil ?_) scLPc.nd
        obtain rfl := p7.now
        have S2 := S.next hz pz (nb_nd nt z)
        have := S2.le
        exact ⟨60 - n, H7, by omega, e4.trans ((g5.k.trans g6.k).trans g7.k), g7.s, c, _, n + 1, u, rfl, g7.k _ _ hc, S2, by omega, (gn.trans g6).trans g7⟩
    · have hn : ¬ n < ys.length := of_decide_eq_false hk
      have en : n = ys.length := by have := S.le; omega
      rw [en] at S
      refine b_ret (P := RLPc ⟨ns, ls, x⟩) g5.s (Cm.imp (e_sortedN (xs := ys) hS (Cm.imp (e_var (v := V.ref b) 2) fun v H' e z => ⟨b, z, SqL.of (e _ _ (g5.k _ _ hb4))⟩) (by omega)) fun v H' e z => ?_) fun v H6 Hc6 g6 p => rt v _ _ ((g4.trans g5).trans g6) p
      obtain ⟨d, zs, rfl, hd, pz, sz⟩ := z
      exact ⟨d, zs, rfl, hd, pz.nodup_iff.mpr S.nd, sz, fun y => pz.mem_iff.trans S.iff⟩
end
end K19
set_option Elab.async false
set_option linter.all false
set_option maxRecDepth 100000
set_option maxHeartbeats 2000000
namespace K19
open PySem L2 LW
abbrev sLPieces : Stmt := top 51
/-- the piece of x, of the sorted nodes ns -/
noncomputable def pcOf (ns : List Str) (ls : List (Str × Str)) (x : Str) : List Str := ns.filter fun y => @decide (Rch ls x y) (Classical.propDecidable _)
theorem mem_pcOf {ns : List Str} {ls : List (Str × Str)} {x y : Str} : y ∈ pcOf ns ls x ↔ y ∈ ns ∧ Rch ls x y := by
  unfold pcOf
  rw [List.mem_filter, @decide_eq_true_eq _ (Classical.propDecidable _)]
theorem pcOf_piece {ns : List Str} {ls : List (Str × Str)} (nt : Nt ns ls) {x : Str} (hx : x ∈ ns) : Piece ls x (pcOf ns ls x) :=
  ⟨nt.nd.sublist List.filter_sublist, nt.sn.sublist List.filter_sublist, fun y => mem_pcOf.trans ⟨fun h => h.2, fun h => ⟨h.mem nt hx, h⟩⟩⟩
theorem pcOf_ne {ns : List Str} {ls : List (Str × Str)} (nt : Nt ns ls) {x : Str} (hx : x ∈ ns) : ∃ a r, pcOf ns ls x = a :: r := by
  have m : x ∈ pcOf ns ls x := mem_pcOf.mpr ⟨hx, .refl⟩
  cases e : pcOf ns ls x with
  | nil => rw [e] at m; exact absurd m List.not_mem_nil
  | cons a r => exact ⟨a, r, rfl⟩
/-- the least of its piece -/
noncomputable def isHead (ns : List Str) (ls : List (Str × Str)) (x : Str) : Bool := decide ((pcOf ns ls x).head? = some x)
/-- all pieces, sorted -/
noncomputable def pcs (ns : List Str) (ls : List (Str × Str)) : List (List Str) := (ns.filter (isHead ns ls)).map (pcOf ns ls)
/-- lists of texts at these addresses -/
abbrev LsAt (H : Hp) (ds : List Addr) (zs : List (List Str)) : Prop := Paired (fun d z => H d = some (.lst (z.map V.str))) ds zs
theorem lsAt_ex {H H' : Hp} (e : Ex H H') {ds : List Addr} {zs : List (List Str)} (h : LsAt H ds zs) : LsAt H' ds zs := Paired.mapP h fun _ _ z => e _ _ z
theorem ls_get {H : Hp} : ∀ {ds : List Addr} {zs : List (List Str)} (h : LsAt H ds zs) {i : Nat} {v : V}, (ds.map V.ref)[i]? = some v → ∃ d z, v = V.ref d ∧ ds[i]? = some d ∧ zs[i]? = some z ∧ H d = some (.lst (z.map V.str))
  | _, _, .nil, _, _, h => by simp at h
  | _, _, .cons (a := d) (b := z) h1 h2, 0, v, h => by
    rw [List.map_cons, List.getElem?_cons_zero] at h
    exact ⟨d, z, (Option.some.inj h).symm, rfl, rfl, h1⟩
  | _, _, .cons (a := d) (b := z) h1 h2, i + 1, v, h => by
    rw [List.map_cons, List.getElem?_cons_succ] at h
    obtain ⟨d', z', a, b, c, e⟩ := ls_get h2 h
    exact ⟨d', z', a, by rw [List.getElem?_cons_succ]; exact b, by rw [List.getElem?_cons_succ]; exact c, e⟩
theorem ls_snoc {H : Hp} {d : Addr} {z : List Str} (h : H d = some (.lst (z.map V.str))) : ∀ {ds : List Addr} {zs : List (List Str)}, LsAt H ds zs → LsAt H (ds ++ [d]) (zs ++ [z])
  | _, _, .nil => .cons h .nil
  | _, _, .cons h1 h2 => .cons h1 (ls_snoc h h2)
section
variable {P : Program} {w : World} {K : PySem.W.Frag} {mg : Str → Option Value} {base : Heap} {f : Addr} {fd : FuncData}
def ALPcs (K : PySem.W.Frag) : List Str × List (Str × Str) → List V → Hp → Prop := fun x vs H => ∃ a b ts, vs = [.ref a, .ref b] ∧ SqL K H a (x.1.map V.str) ∧ SqL K H b (ts.map V.ref) ∧ TsAt H ts x.2 ∧ Nt x.1 x.2
def RLPcs : List Str × List (Str × Str) → V → Hp → Prop := fun x v H => ∃ d ds, v = .ref d ∧ H d = some (.lst (ds.map V.ref)) ∧ LsAt H ds (pcs x.1 x.2)
abbrev nLPcs : List Str := ["_law_spots", "_law_pairs", "_law_found", "_law_spot", "_law_piece_here"]
theorem scLPcs : FnScope nLPcs ["_law_spots", "_law_pairs"] (defScope sLPieces) := ⟨rfl, rfl, rfl, by decide +kernel, rfl, by decide +kernel, by decide +kernel⟩
theorem b_lpieces (hS : mg "sorted" = none) (hZ : mg "zip" = none) (FP : Fn P w K mg base "_law_piece" 2 (ALPc K) RLPc) : Body P w K mg base nLPcs "_law_pieces" sLPieces f 2 (ALPcs K) RLPcs := by
  intro cdv Ar outer s H0 E x vs H Hc D hr ex pa rt nx
  obtain ⟨ns, ls⟩ := x
  obtain ⟨a, b, ts, rfl, h1, h2, h3, nt⟩ := pa.now
  have h1 : SqL K H a (ns.map V.str) := h1
  have h2 : SqL K H b (ts.map V.ref) := h2
  have h3 : TsAt H ts ls := h3
  have nt : Nt ns ls := nt
  have ln := nt.len
  refine b_setLc 2 ex rfl scLPcs.nd rfl rfl rfl (pi_list pe_w) (own := [("_law_spot", 3)]) (g := gName 3) (P := fun v H' => ∃ d ds, v = .ref d ∧ H' d = some (.lst (ds.map V.ref)) ∧ LsAt H' ds (ns.map (pcOf ns ls))) (blkOk_by (N := nLPcs) (sc := defScope sLPieces) (by decide +kernel)) (fun _ _ _ _ _ => pg_name (i := 3) scLPcs.nd rfl (.inl rfl)) (fun _ _ _ _ _ => pts_nil)
    (c_lcL (e_sortedS (xs := ns) hS (e_var 0) (fun H' e => Evl.ex_l e h1) (by omega) (List.Perm.refl _) nt.sn) fun v H1 e1 p1 => ?_) (fun v H1 Hc1 g1 p1 => ?_)
  · obtain ⟨d, rfl, hd⟩ := p1.now
    refine ⟨d, ns.map V.str, rfl, fun H' e => SqL.of (e _ _ hd), c_lc (ciL fun H' e => SqL.of (e _ _ hd)) (by rw [List.length_map]; omega) (fun i acc H' => ∃ ds, acc = ds.map V.ref ∧ LsAt H' ds ((ns.take i).map (pcOf ns ls))) (fun _ => ⟨[], rfl, .nil⟩) (fun i y acc H3 hi e3 py pacc => ?_) fun acc c H3 e3 pacc hc => ?_⟩
    · obtain ⟨x, hx, rfl⟩ := txt_get py.now
      have mx := List.mem_of_getElem? hx
      refine ⟨_, true, bind_name, rfl, c_yes, fun _ => c_eb fun s0 H00 C0 cl fp => ?_, fun q => nomatch q⟩
      refine Cm.imp (e_callD (⟨ns, ls, x⟩ : PcIn) FP hr (a_consD (e_var 1) (a_consD (e_var 3) a_nil)) fun H' e => ⟨b, ts, rfl, Evl.ex_l ((e1.trans e3).trans e) h2, paired_ex ((e1.trans e3).trans e) h3, nt, mx⟩) fun v H' e z => ?_
      obtain ⟨d2, zs, rfl, hd2, pz⟩ := z
      have pz : Piece ls x zs := pz
      obtain rfl := pz.uniq (pcOf_piece nt mx)
      obtain ⟨ds, rfl, hds⟩ := pacc H' e
      refine ⟨ds ++ [d2], by rw [List.map_append] <;> rfl, ?_⟩
      rw [take_snoc hx, List.map_append]
      exact ls_snoc hd2 hds
    · obtain ⟨ds, rfl, hds⟩ := pacc.now
      rw [List.length_map, List.take_length] at hds
      exact fun H' e' => ⟨c, ds, rfl, e' _ _ hc, lsAt_ex e' hds⟩
  · obtain ⟨d, ds, rfl, hd, hds⟩ := p1.now
    have ld : ds.length = ns.length := by have := hds.length; rw [List.length_map] at this; exact this
    have e1 := g1.k
    refine b_ret (P := RLPcs (ns, ls)) g1.s (e_lc (own := [("_law_piece_here", 4), ("_law_spot", 3)]) (g := gTup K 2 (gCons (gName 4) (gCons (gName 3) gNil))) rfl scLPcs.nd (pi_zip rfl hZ pa_w) (blkOk_by (N := nLPcs) (sc := defScope sLPieces) (by decide +kernel)) (fun _ _ _ _ _ => pg_tup rfl (pgs_cons (pg_name (i := 4) scLPcs.nd rfl (.inl rfl)) (pgs_cons (pg_name (i := 3) scLPcs.nd rfl (.inl rfl)) pgs_nil))) (fun s H C cl fp => pts_one (pt_b s H C cl fp))
      (c_lc (i_zip (xs := ds.map V.ref) (ys := ns.map V.str) (Cm.imp (a_cons (P := is (V.ref d)) (e_var 2) (a_cons (e_sortedS (xs := ns) hS (e_var 0) (fun H' e => Evl.ex_l (e1.trans e) h1) (by omega) (List.Perm.refl _) nt.sn) a_nil)) fun ws H' e z => ?_)) (by rw [List.length_map, List.length_map]; omega) (fun i acc H' => ∃ us, acc = us.map V.ref ∧ LsAt H' us (((ns.take i).filter (isHead ns ls)).map (pcOf ns ls))) (fun _ => ⟨[], rfl, .nil⟩) (fun i y acc H3 hi e3 py pacc => ?_) fun acc c H3 e3 pacc hc => ?_)) fun v Hn H2 g p => rt v _ _ (g1.trans g) p
    · obtain ⟨_, _, rfl, rfl, _, _, rfl, ⟨c, rfl, hc⟩, rfl⟩ := z
      exact ⟨d, c, rfl, SqL.of (e _ _ hd), SqL.of hc⟩
    · obtain ⟨T, x1, x2, rfl, hT, hx1, hx2⟩ := py.now
      obtain ⟨dd, zs, rfl, hdd, hzs, hH⟩ := ls_get hds hx1
      obtain ⟨x, hx, rfl⟩ := txt_get hx2
      have mx := List.mem_of_getElem? hx
      have ez : zs = pcOf ns ls x := by
        rw [List.getElem?_map, hx] at hzs
        exact (Option.some.inj hzs).symm
      subst ez
      obtain ⟨h0, hr0, e0⟩ := pcOf_ne nt mx
      have eh : isHead ns ls x = decide (h0 = x) := by unfold isHead; rw [e0]; exact decide_eq_decide.mpr (by simp)
      refine ⟨_, isHead ns ls x, bind_two (K := K) (.sqt (SqT.of hT)), rfl, c_tb fun s0 H00 C0 cl fp => t_is (t_cmpD op_eq (by rfl) (e_item (j := 0) (v := V.str h0) (e_var (v := V.ref dd) 4) e_int (fun H' e => SqL.of (e _ _ (e3 _ _ hH))) (by rw [e0] <;> rfl)) (e_var (v := V.str x) 3) (r_eq (x := V.str h0) (y := V.str x) rfl)) (by rw [eh]; by_cases h : h0 = x <;> simp [h]), fun k => c_eb fun s0 H00 C0 cl fp => ?_, fun k => ?_⟩
      · refine Cm.imp (e_var (v := V.ref dd) 4) fun v H' e z => ?_
        obtain ⟨us, rfl, hus⟩ := pacc H' e
        refine ⟨us ++ [dd], by rw [show v = V.ref dd from z, List.map_append] <;> rfl, ?_⟩
        rw [take_snoc hx, List.filter_append, List.filter_cons_of_pos (by exact k), List.filter_nil, List.map_append]
        exact ls_snoc ((e3.trans e) _ _ hH) hus
      · refine pacc.imp fun H' e ⟨us, z1, z2⟩ => ⟨us, z1, ?_⟩
        rw [take_snoc hx, List.filter_append, List.filter_cons_of_neg (by rw [k]; exact Bool.false_ne_true), List.filter_nil, List.append_nil]
        exact z2
    · obtain ⟨us, rfl, hus⟩ := pacc.now
      have e : (ns.take (min (ds.map V.ref).length (ns.map V.str).length)) = ns := List.take_of_length_le (by rw [List.length_map, List.length_map]; omega)
      rw [e] at hus
      exact fun H' e' => ⟨c, us, rfl, e' _ _ hc, lsAt_ex e' hus⟩
end
end K19
set_option Elab.async false
set_option linter.all false
set_option maxRecDepth 100000
set_option maxHeartbeats 2000000
/-! x = {k: e}; x = [e]: objects of one's own -/
namespace LW
open PySem L2
section
variable {X : Cx} {σ : St} {H Hc : Hp} {e ke : Expr} {sts : List Stmt} {pos px p2 : Pos} {D : Ends} {v : V}
theorem b_disp1 (i : Nat) {nm : Str} {key : Key} (ex : Ex H Hc) (hk : Cm H (is (kV key)) (wE X ke σ)) (hv : Cm H (is v) (wE X e σ)) (h : ∀ p Hn H2, Grow H Hc Hn H2 → Hn p = none → Hc p = none → H2 p = some (.dK [(key, v)]) → wB X sts D (σ.set i (some (.ref p))) H2)
    (hN : X.N.Nodup) (hi : X.N[i]? = some nm := by rfl) (hx : Loc X.env.scope nm := by exact Or.inl rfl) (hs : swapsWith (.Dict [some ke] [e] p2) (some (.Name nm px)) pos.line X.env = pure false := by rfl)
    (hf : X.fn nm = true ∨ X.env.scope.names.lookup nm = some .local := by first | exact .inl rfl | exact .inr rfl | assumption) : wB X (.Assign [.Name nm px] (.Dict [some ke] [e] p2) pos :: sts) D σ Hc := by
  refine b_cons (w_s (ps_set hN hi hx (pe_disp (pps_cons pe_w pe_w pps_nil) rfl rfl (fun z => by cases z) (by exact (by decide : 1 ≤ 15))) hs hf) fun p hp => ?_)
  have n0 : H p = none := Evl.fresh_back ex hp
  have x0 := Evl.Ex.new (o := HO.dK []) hp
  refine hk _ (ex.trans x0) _ fun u Hn H2 g1 q1 => ?_
  have e1 : u = kV key := q1.now
  subst e1
  refine hv.mono g1.k H2 g1.s _ fun u2 Hm H3 g2 q2 => ?_
  have e2 : u2 = v := q2.now
  subst e2
  have gg := g1.trans g2
  have hm : Hm p = none := gg.un upd_same n0
  have G := ((still (ex.trans x0) x0).trans gg).mut (o := .dK [(key, u2)]) hp hm
  refine ⟨gg.c _ _ upd_same, [(key, u2)], rfl, by exact (by decide : 1 ≤ 15), ?_⟩
  exact h p Hm _ G hm hp upd_same
theorem b_lst1 (i : Nat) {nm : Str} (ex : Ex H Hc) (hv : Cm H (is v) (wE X e σ)) (h : ∀ p Hn H2, Grow H Hc Hn H2 → Hn p = none → Hc p = none → H2 p = some (.lst [v]) → wB X sts D (σ.set i (some (.ref p))) H2)
    (hN : X.N.Nodup) (hi : X.N[i]? = some nm := by rfl) (hx : Loc X.env.scope nm := by exact Or.inl rfl) (hs : swapsWith (.List [e] p2) (some (.Name nm px)) pos.line X.env = pure false := by rfl)
    (hf : X.fn nm = true ∨ X.env.scope.names.lookup nm = some .local := by first | exact .inl rfl | exact .inr rfl | assumption) (hst : starEach [e] X.env = (false, eval e X.env) :: starEach [] X.env := by rfl) : wB X (.Assign [.Name nm px] (.List [e] p2) pos :: sts) D σ Hc := by
  refine b_cons (w_s (ps_set hN hi hx (pe_lst (pa_cons pe_w pa_nil hst)) hs hf) ?_)
  refine hv Hc ex _ fun u Hn H2 g q => ?_
  have e2 : u = v := q.now
  subst e2
  refine ⟨by exact (by decide : 1 ≤ sizeLine), fun p hp => ?_⟩
  have x0 := Evl.Ex.new (o := HO.lst [u]) hp
  exact h p Hn _ (g.trans (still (g.s.trans x0) x0)) (Evl.fresh_back g.s hp) (Evl.fresh_back g.c hp) upd_same
end
end LW
set_option Elab.async false
set_option linter.all false
set_option maxRecDepth 100000
set_option maxHeartbeats 2000000
namespace K19
open PySem L2 LW
abbrev sJoined : Stmt := top 33
theorem Seen.some_ {kvs : List (Key × V)} {ks : List Str} (s : Seen kvs ks) {x : Str} : (valV kvs (.inr x)).isSome = decide (x ∈ ks) := by
  by_cases h : x ∈ ks
  · rw [decide_eq_true h]
    cases e : valV kvs (.inr x) with
    | some v => rfl
    | none =>
      have m : (Sum.inr x : Key) ∈ kvs.map (·.1) := by rw [s.keys]; exact List.mem_map.mpr ⟨x, h, rfl⟩
      obtain ⟨q, hq, eq⟩ := List.mem_map.mp m
      unfold valV at e
      cases f : kvs.find? (fun kv => decide (kv.1 = Sum.inr x)) with
      | none => exact absurd eq (by simpa using List.find?_eq_none.mp f q hq)
      | some v => rw [f] at e; cases e
  · rw [decide_eq_false h, valV_none fun m => h (by
      rw [s.keys] at m
      obtain ⟨y, hy, e⟩ := List.mem_map.mp m
      exact Sum.inr.inj e ▸ hy)]
    rfl
/-- a search with a stack: ks found, ws waiting -/
structure Dfs (ls : List (Str × Str)) (x : Str) (ks ws : List Str) : Prop where
  start : x ∈ ks
  all : ∀ y ∈ ks, Rch ls x y
  sub : ∀ y ∈ ws, y ∈ ks
  done : ∀ y ∈ ks, y ∉ ws → ∀ t ∈ nb ls y, t ∈ ks
/-- .. while the neighbours of z are looked at -/
structure DfsI (ls : List (Str × Str)) (x z : Str) (ks ws : List Str) (i : Nat) : Prop where
  start : x ∈ ks
  all : ∀ y ∈ ks, Rch ls x y
  sub : ∀ y ∈ ws, y ∈ ks
  zin : z ∈ ks
  done : ∀ y ∈ ks, y ∉ ws → y ≠ z → ∀ t ∈ nb ls y, t ∈ ks
  part : ∀ t ∈ (nb ls z).take i, t ∈ ks
theorem Dfs.pop {ls : List (Str × Str)} {x z : Str} {ks ws : List Str} (h : Dfs ls x ks (ws ++ [z])) : DfsI ls x z ks ws 0 :=
  ⟨h.start, h.all, fun y hy => h.sub y (List.mem_append_left _ hy), h.sub z (List.mem_append_right _ (List.mem_singleton_self _)), fun y hy hn ne => h.done y hy fun m => by
    rcases List.mem_append.mp m with m | m
    · exact hn m
    · exact ne (List.mem_singleton.mp m), fun t ht => absurd ht (by simp)⟩
theorem DfsI.old {ls : List (Str × Str)} {x z t : Str} {ks ws : List Str} {i : Nat} (h : DfsI ls x z ks ws i) (ht : (nb ls z)[i]? = some t) (m : t ∈ ks) : DfsI ls x z ks ws (i + 1) :=
  ⟨h.start, h.all, h.sub, h.zin, h.done, fun u hu => by
    rw [take_snoc ht] at hu
    rcases List.mem_append.mp hu with m2 | m2
    · exact h.part u m2
    · rw [List.mem_singleton.mp m2]; exact m⟩
theorem DfsI.new {ls : List (Str × Str)} {x z t : Str} {ks ws : List Str} {i : Nat} (h : DfsI ls x z ks ws i) (ht : (nb ls z)[i]? = some t) : DfsI ls x z (ks ++ [t]) (ws ++ [t]) (i + 1) := by
  refine ⟨List.mem_append_left _ h.start, fun y hy => ?_, fun y hy => ?_, List.mem_append_left _ h.zin, fun y hy hn ne u hu => ?_, fun u hu => ?_⟩
  · rcases List.mem_append.mp hy with m | m
    · exact h.all y m
    · rw [List.mem_singleton.mp m]; exact (h.all z h.zin).step (List.mem_of_getElem? ht)
  · rcases List.mem_append.mp hy with m | m
    · exact List.mem_append_left _ (h.sub y m)
    · exact List.mem_append_right _ m
  · have hk : y ∈ ks := by
      rcases List.mem_append.mp hy with m | m
      · exact m
      · exact absurd (List.mem_append_right _ m) hn
    exact List.mem_append_left _ (h.done y hk (fun m => hn (List.mem_append_left _ m)) ne u hu)
  · rw [take_snoc ht] at hu
    rcases List.mem_append.mp hu with m | m
    · exact List.mem_append_left _ (h.part u m)
    · exact List.mem_append_right _ m
theorem DfsI.stop {ls : List (Str × Str)} {x z : Str} {ks ws : List Str} (h : DfsI ls x z ks ws (nb ls z).length) : Dfs ls x ks ws :=
  ⟨h.start, h.all, h.sub, fun y hy hn t ht => by
    by_cases e : y = z
    · subst e; exact h.part t (by rw [List.take_length]; exact ht)
    · exact h.done y hy hn e t ht⟩
theorem Dfs.iff {ls : List (Str × Str)} {x : Str} {ks : List Str} (h : Dfs ls x ks []) {y : Str} : y ∈ ks ↔ Rch ls x y := by
  refine ⟨h.all y, fun r => ?_⟩
  induction r with
  | refl => exact h.start
  | step _ m ih => exact h.done _ ih List.not_mem_nil _ m
section
variable {P : Program} {w : World} {K : PySem.W.Frag} {mg : Str → Option Value} {base : Heap} {f : Addr} {fd : FuncData}
def AJo : PcIn → List V → Hp → Prop := fun x vs H => ∃ d as, vs = [.ref d, .str x.x] ∧ Tb H d x.ns as (nb x.ls) ∧ Nt x.ns x.ls ∧ x.x ∈ x.ns
abbrev nJo : List Str := ["table", "node", "found", "waiting", "here", "other"]
theorem scJo : FnScope nJo ["table", "node"] (defScope sJoined) := ⟨rfl, rfl, rfl, by decide +kernel, rfl, by decide +kernel, by decide +kernel⟩
theorem b_joined (B : Blt K mg) (FS : Fn P w K mg base "sorted_names" 1 (ANs K) (RSortN K)) : Body P w K mg base nJo "joined_to" sJoined f 1 AJo RLPc := by
  intro cdv Ar outer s H0 E x vs H Hc D hr ex pa rt nx
  obtain ⟨ns, ls, x⟩ := x
  obtain ⟨d, as, rfl, t0, nt, hx⟩ := pa.now
  have t0 : Tb H d ns as (nb ls) := t0
  have nt : Nt ns ls := nt
  have hx : x ∈ ns := hx
  have ln := nt.len
  refine b_disp1 2 (key := .inr x) (v := V.bl true) ex (e_var 1) e_bl (fun f0 H1 Hc1 g1 nf1 hf1 lf1 => ?_) scJo.nd
  refine b_lst1 3 (v := V.str x) g1.s (e_var 1) (fun w0 H2 Hc2 g2 nw2 hw2 lw2 => ?_) scJo.nd
  have hfw : f0 ≠ w0 := fun z => by rw [z] at lf1; rw [lf1] at hw2; cases hw2
  have lf2 := g2.c _ _ lf1
  have nf2 : H2 f0 = none := g2.un lf1 nf1
  have hw0 : Hc w0 = none := Evl.fresh_back g1.c hw2
  have gA := g1.trans g2
  refine b_while PassesOwn.never (J := fun m σ1 H4 Hc4 => ∃ (ks ws : List Str) (kvs : List (Key × V)) (u1 u2 : Option V), σ1 = [some (.ref d), some (.str x), some (.ref f0), some (.ref w0), u1, u2] ∧ H4 f0 = none ∧ H4 w0 = none ∧ Hc4 f0 = some (.dK kvs) ∧ Hc4 w0 = some (.lst (ws.map V.str)) ∧ Seen kvs ks ∧ Dfs ls x ks ws ∧ m = 2 * (60 - ks.length) + ws.length ∧ m ≤ 119 ∧ Grow H Hc H4 Hc4) (m0 := 2 * (60 - 1) + 1) gA.s
    ⟨[x], [x], [(.inr x, .bl true)], none, none, rfl, nf2, nw2, lf2, lw2, ⟨rfl, List.nodup_cons.mpr ⟨List.not_mem_nil, List.nodup_nil⟩⟩, ⟨List.mem_singleton_self _, fun y hy => by rw [List.mem_singleton.mp hy]; exact .refl, fun y hy => hy, fun y hy hn => absurd hy hn⟩, rfl, by decide, gA⟩ ?_
  rintro m σ1 H4 Hc4 e4 s4 ⟨ks, ws, kvs, u1, u2, rfl, nf4, nw4, lf4, lw4, sn, dfs, hm, hm9, g4⟩
  have lk4 : ks.length ≤ ns.length := nd_len ks ns sn.nd fun y hy => (dfs.all y hy).mem nt hx
  refine ⟨decide (0 < ws.length), upd H4 w0 (.lst (ws.map V.str)), s4.own lw4, t_is (t_cmpD op_gt (by rfl) (e_len (xs := ws.map V.str) B.len (e_var (v := V.ref w0) 3) (fun H' e => .inl (SqL.of (e _ _ upd_same)))) e_int (r_I0 (g := fun i j => V.bl (decide (j < i))) (i := ((ws.map V.str).length : Int)) (j := 0))) (decide_eq_decide.mpr (by rw [List.length_map]; omega)), fun hk Hn Hc5 g5 => ?_, fun hk Hn Hc5 g5 => ?_⟩
  · have hpos : 0 < ws.length := of_decide_eq_true hk
    obtain ⟨ws', z, rfl⟩ : ∃ ws' z, ws = ws' ++ [z] := ⟨ws.dropLast, ws.getLast (List.length_pos_iff.mp hpos), (List.dropLast_concat_getLast _).symm⟩
    have g5' := g4.looked nw4 g5
    have lw5 := g5.c _ _ lw4
    have lf5 := g5.c _ _ lf4
    refine b_setPop 4 (l := w0) (xs := (ws' ++ [z]).map V.str) (y := V.str z) g5'.s (e_var 3) lw5 (by rw [List.map_append, List.length_append]; simp) (fun H6 Hc6 g6 => ?_) scJo.nd
    have lw6 := g6.c _ _ lw5
    have nw6 : H6 w0 = none := g6.un lw5 nw4
    have nf6 : H6 f0 = none := g6.un lf5 nf4
    have lf6 := g6.c _ _ lf5
    have ed : ((ws' ++ [z]).map V.str).dropLast = ws'.map V.str := by rw [List.map_append, List.map_singleton, List.dropLast_concat]
    rw [ed]
    have hzk : z ∈ ks := dfs.sub z (List.mem_append_right _ (List.mem_singleton_self _))
    have hzn : z ∈ ns := (dfs.all z hzk).mem nt hx
    have g6' := (g5'.trans g6).mut (o := .lst (ws'.map V.str)) hw0 nw6
    have t6 := t0.ex g6'.k
    obtain ⟨j, hj⟩ := List.getElem?_of_mem hzn
    obtain ⟨a1, k1⟩ : ∃ a1, as[j]? = some a1 := ⟨_, List.getElem?_eq_getElem (by rw [← t0.len]; exact (List.getElem?_eq_some_iff.mp hj).1)⟩
    have hv := tbl_val t0.len nt.nd hj k1
    have ha1 : H6 a1 = some (.lst ((nb ls z).map V.str)) := t6.at_ _ _ _ hj k1
    have lnb : (nb ls z).length ≤ 60 := Nat.le_trans nb_len nt.ll
    refine b_for (H := H6) (g := gName 5) g6'.s PassesOwn.never rfl (pi_list pe_w) (i_list (xs := (nb ls z).map V.str) (Cm.imp (e_dget (v := V.ref a1) (hu_of hr) (e_var 0) (e_var (v := V.str z) 4) (by have q := pz_dK (key := .inr z) (Pz.at t6.dict); rw [hv] at q; exact q)) fun v H' e q => ⟨a1, q, SqL.of (e _ _ ha1)⟩)) (pg_name (i := 5) scJo.nd rfl (.inl rfl)) fun H7 Hc7 g7 => ?_
    have e27 : Ex H2 H7 := (e4.trans g6.k).trans g7.k
    refine ⟨fun i σ1 H8 Hc8 => ∃ (ks' ws2 : List Str) (kvs' : List (Key × V)) (u2 : Option V), σ1 = [some (.ref d), some (.str x), some (.ref f0), some (.ref w0), some (.str z), u2] ∧ H8 f0 = none ∧ H8 w0 = none ∧ Hc8 f0 = some (.dK kvs') ∧ Hc8 w0 = some (.lst (ws2.map V.str)) ∧ Seen kvs' ks' ∧ DfsI ls x z ks' ws2 i ∧ 2 * (60 - ks'.length) + ws2.length < m ∧ Grow H Hc H8 Hc8,
      ⟨ks, ws', kvs, u2, rfl, g7.un (by rw [upd_ne hfw]; exact lf6) nf6, g7.un upd_same nw6, g7.c _ _ (by rw [upd_ne hfw]; exact lf6), g7.c _ _ upd_same, sn, dfs.pop, by rw [hm, List.length_append, List.length_singleton]; omega, g6'.trans g7⟩, ?_, ?_⟩
    · rintro i σ1 H8 Hc8 hi e8 s8 ⟨ks', ws2, kvs', u2, rfl, nf8, nw8, lf8, lw8, sn8, dI, hm8, g8⟩ y H9 Hc9 g9 py
      have lk8 : ks'.length ≤ ns.length := nd_len ks' ns sn8.nd fun y hy => (dI.all y hy).mem nt hx
      obtain ⟨t, ht, rfl⟩ := txt_get py.now
      have lf9 := g9.c _ _ lf8
      have lw9 := g9.c _ _ lw8
      have nf9 : H9 f0 = none := g9.un lf8 nf8
      have nw9 : H9 w0 = none := g9.un lw8 nw8
      have g9' := g8.trans g9
      have lkv : kvs'.length ≤ 60 := by have := congrArg List.length sn8.keys; rw [List.length_map, List.length_map] at this; omega
      refine b_if (H := upd H9 f0 (.dK kvs')) (g9.s.own lf9) (k := !decide (t ∈ ks')) (t_is (t_dnin (hu_of hr) (e_var (v := V.str t) 5) (e_var 2) (pz_dK (key := .inr t) (.at upd_same))) (by rw [sn8.some_])) (fun hk H10 Hc10 g10 => ?_) fun hk H10 Hc10 g10 => b_nil (b_nil ?_)
      · have hnew : t ∉ ks' := fun h => by rw [decide_eq_true h] at hk; cases hk
        have g10' := g9'.looked nf9 g10
        have lf10 := g10.c _ _ lf9
        have lw10 := g10.c _ _ lw9
        refine b_dput (key := .inr t) (l := f0) (kvs := kvs') (P := is (V.bl true)) g10'.s (hu_of hr) e_bl (e_var 2) (e_var (v := V.str t) 5) lf10 (by omega) fun v H11 Hc11 g11 p11 => ?_
        have nf11 : H11 f0 = none := g11.un lf10 nf9
        have nw11 : H11 w0 = none := g11.un lw10 nw9
        have lw11 := g11.c _ _ lw10
        have G11 := (g10'.trans g11).mut (o := .dK (putK kvs' (.inr t) v)) hf1 nf11
        have lwm : ws2.length ≤ 200 := by omega
        refine b_app (l := w0) (xs := ws2.map V.str) (P := is (V.str t)) G11.s (e_var 3) (e_var (v := V.str t) 5) (by rw [upd_ne hfw.symm]; exact lw11) (by rw [List.length_map]; omega) fun v2 H12 Hc12 g12 p12 => b_nil (b_nil ?_)
        obtain rfl := p12.now
        have nw12 : H12 w0 = none := g12.un (by rw [upd_ne hfw.symm]; exact lw11) nw11
        have nf12 : H12 f0 = none := g12.un upd_same nf11
        have sp := sn8.put t v
        rw [if_neg hnew] at sp
        have lk9 : (ks' ++ [t]).length ≤ ns.length := nd_len (ks' ++ [t]) ns sp.nd fun y hy => ((dI.new ht).all y hy).mem nt hx
        rw [List.length_append, List.length_singleton] at lk9
        exact ⟨H12, e8.trans ((g9.k.trans g11.k).trans g12.k), g12.s.mut nw12, ks' ++ [t], ws2 ++ [t], putK kvs' (.inr t) v, _, rfl, nf12, nw12, by rw [upd_ne hfw]; exact g12.c _ _ upd_same, by rw [upd_same, List.map_append] <;> rfl, sp, dI.new ht, by simp only [List.length_append, List.length_singleton]; omega, (G11.trans g12).mut hw0 nw12⟩
      · have hold : t ∈ ks' := by
          by_cases h : t ∈ ks'
          · exact h
          · rw [decide_eq_false h] at hk; cases hk
        have g10' := g9'.looked nf9 g10
        exact ⟨H9, e8.trans g9.k, g10'.s, ks', ws2, kvs', _, rfl, nf9, nw9, g10.c _ _ lf9, g10.c _ _ lw9, sn8, dI.old ht hold, hm8, g10'⟩
    · rintro σ1 H8 Hc8 e8 s8 ⟨ks', ws2, kvs', u2, rfl, nf8, nw8, lf8, lw8, sn8, dI, hm8, g8⟩
      rw [List.length_map] at dI
      exact b_nil ⟨_, H8, hm8, e27.trans e8, s8, ks', ws2, kvs', _, _, rfl, nf8, nw8, lf8, lw8, sn8, dI.stop, rfl, by omega, g8⟩
  · have hz : ws = [] := by
      have h : ¬ 0 < ws.length := of_decide_eq_false hk
      exact List.eq_nil_of_length_eq_zero (by omega)
    subst hz
    have g5' := g4.looked nw4 g5
    have lf5 := g5.c _ _ lf4
    refine b_ret (H := upd H4 f0 (.dK kvs)) (P := RLPc ⟨ns, ls, x⟩) (g5'.s.own lf5) (Cm.imp (e_call (P := RSortN K (true, ks)) FS hr (a_cons (P := fun v H' => ∃ p, v = .ref p ∧ SqL K H' p (ks.map V.str)) (e_tyD (call_listD rfl) B.list (a_consD (e_var 2) a_nil) (fun Hc ex Q q => ⟨f0, kvs, rfl, .inl (ex _ _ upd_same), fun p hp => ?_⟩)) a_nil) fun vs H6 e6 p6 => ?_) fun v H' e q => ?_) fun v H7 H8 g7 p7 => rt v _ _ ((g5'.know hf1 nf4 lf5).trans g7) p7
    · have ek : (kvs.map fun kv => kV kv.1) = ks.map V.str := by
        have z := congrArg (List.map kV) sn.keys
        rw [List.map_map, List.map_map] at z
        exact z
      rw [ek]
      exact q _ _ _ (Grow.new ex hp) fun H' e' => ⟨p, rfl, SqL.of (e' _ _ upd_same)⟩
    · obtain ⟨_, _, rfl, ⟨p, rfl, hp⟩, rfl⟩ := p6.now
      exact ⟨(true, ks), fun H' e => ⟨p, rfl, by unfold Sq; rw [if_pos rfl]; exact Evl.ex_l e hp, by show ks.length ≤ 60; omega⟩, fun _ _ _ z => z⟩
    · obtain ⟨a, ys, rfl, ha, py, sy⟩ := q
      have py : ys.Perm ks := py
      exact ⟨a, ys, rfl, ha, py.nodup_iff.mpr sn.nd, sy, fun y => py.mem_iff.trans dfs.iff⟩
end
end K19
set_option Elab.async false
set_option linter.all false
set_option maxRecDepth 100000
set_option maxHeartbeats 2000000
namespace K19
open PySem L2 LW
abbrev sPieces : Stmt := inClass sNet 12
theorem head_iff {ns : List Str} {ls : List (Str × Str)} (nt : Nt ns ls) {i : Nat} {x : Str} (hx : ns[i]? = some x) : isHead ns ls x = true ↔ ∀ y ∈ ns.take i, ¬ Rch ls y x := by
  have hi := (List.getElem?_eq_some_iff.mp hx).1
  have ex := (List.getElem?_eq_some_iff.mp hx).2
  have e : ns = ns.take i ++ (x :: ns.drop (i + 1)) := by
    conv => lhs; rw [← List.take_append_drop i ns, List.drop_eq_getElem_cons hi, ex]
  have nx : x ∉ ns.take i := not_taken nt.nd hx
  unfold isHead
  rw [decide_eq_true_eq]
  have ep : pcOf ns ls x = (ns.take i).filter (fun y => @decide (Rch ls x y) (Classical.propDecidable _)) ++ (x :: ns.drop (i + 1)).filter (fun y => @decide (Rch ls x y) (Classical.propDecidable _)) := by
    unfold pcOf
    conv => lhs; rw [e]
    rw [List.filter_append]
  have ex2 : (x :: ns.drop (i + 1)).filter (fun y => @decide (Rch ls x y) (Classical.propDecidable _)) = x :: (ns.drop (i + 1)).filter (fun y => @decide (Rch ls x y) (Classical.propDecidable _)) := List.filter_cons_of_pos (by rw [@decide_eq_true_eq _ (Classical.propDecidable _)]; exact .refl)
  rw [ep, ex2]
  constructor
  · intro h y hy r
    cases f : (ns.take i).filter (fun y => @decide (Rch ls x y) (Classical.propDecidable _)) with
    | nil =>
      have := List.filter_eq_nil_iff.mp f y hy
      rw [@decide_eq_true_eq _ (Classical.propDecidable _)] at this
      exact this (r.symm nt.hne)
    | cons a r2 =>
      rw [f] at h
      have ea : a = x := Option.some.inj h
      have m : a ∈ (ns.take i).filter (fun y => @decide (Rch ls x y) (Classical.propDecidable _)) := by rw [f]; exact List.mem_cons_self ..
      rw [ea] at m
      exact nx (List.mem_filter.mp m).1
  · intro h
    have f : (ns.take i).filter (fun y => @decide (Rch ls x y) (Classical.propDecidable _)) = [] := List.filter_eq_nil_iff.mpr fun y hy => by
      rw [@decide_eq_true_eq _ (Classical.propDecidable _)]
      exact fun r => h y hy (r.symm nt.hne)
    rw [f]
    rfl
section
variable {P : Program} {w : World} {K : PySem.W.Frag} {mg : Str → Option Value} {base : Heap} {f C : Addr} {fd : FuncData}
def RPcs : NetV → V → Hp → Prop := fun x v H => ∃ d ds, v = .ref d ∧ H d = some (.lst (ds.map V.ref)) ∧ LsAt H ds (pcs x.ns x.ls)
abbrev nPcs : List Str := ["self", "found", "seen", "node", "piece", "other"]
theorem scPcs : FnScope nPcs ["self"] (defScope sPieces) := ⟨rfl, rfl, rfl, by decide +kernel, rfl, by decide +kernel, by decide +kernel⟩
theorem b_pieces (F : NetF K mg C) (FJ : Fn P w K mg base "joined_to" 2 AJo RLPc) : Body P w K mg base nPcs "Net.pieces" sPieces f 2 (ASelf C) RPcs := by
  intro cdv Ar outer s H0 E x vs H Hc D hr ex pa rt nx
  obtain ⟨rfl, ⟨dx, l1, l2, l3, ts, as, h1, h2, h3, h4, h5⟩, nt⟩ := pa.now
  have nt : Nt x.ns x.ls := nt
  have h5 : Tb H l3 x.ns as (nb x.ls) := h5
  have ln := nt.len
  refine b_lnew 1 ex (fun f0 hf0 => ?_) scPcs.nd
  have x0 := Evl.Ex.new (o := HO.lst []) hf0
  refine b_dnewK 2 (ex.trans x0) (fun s0 hs0 => ?_) scPcs.nd
  have x1 := Evl.Ex.new (o := HO.dK []) hs0
  have hfs : f0 ≠ s0 := fun z => by rw [← z, upd_same] at hs0; cases hs0
  have hs0c : Hc s0 = none := by rw [upd_ne hfs.symm] at hs0; exact hs0
  have nf : H f0 = none := Evl.fresh_back ex hf0
  have ns0 : H s0 = none := Evl.fresh_back ex hs0c
  have g0 : Grow H Hc H (upd (upd Hc f0 (.lst [])) s0 (.dK [])) := still (ex.trans (x0.trans x1)) (x0.trans x1)
  refine b_for (H := H) (g := gName 3) g0.s PassesOwn.never rfl (pi_list pe_w) (i_list (xs := x.ns.map V.str) (Cm.imp (e_fld (v := V.ref l1) F.cls F.n1 (e_var 0) (.at h1) rfl) fun v H' e z => ⟨l1, z, SqL.of (e _ _ h2)⟩)) (pg_name (i := 3) scPcs.nd rfl (.inl rfl)) fun H1 Hc1 g1 => ?_
  refine ⟨fun i σ1 H4 Hc4 => ∃ (ds : List Addr) (ks : List Str) (kvs : List (Key × V)) (u1 u2 u3 : Option V), σ1 = [some (.ref x.a), some (.ref f0), some (.ref s0), u1, u2, u3] ∧ H4 f0 = none ∧ H4 s0 = none ∧ Hc4 f0 = some (.lst (ds.map V.ref)) ∧ Hc4 s0 = some (.dK kvs) ∧ ds.length ≤ i ∧ Seen kvs ks ∧ (∀ y, y ∈ ks ↔ ∃ z ∈ x.ns.take i, Rch x.ls z y) ∧ LsAt H4 ds (((x.ns.take i).filter (isHead x.ns x.ls)).map (pcOf x.ns x.ls)) ∧ Grow H Hc H4 Hc4,
    ⟨[], [], [], none, none, none, rfl, g1.un (by rw [upd_ne hfs]; exact upd_same) nf, g1.un upd_same ns0, g1.c _ _ (by rw [upd_ne hfs]; exact upd_same), g1.c _ _ upd_same, Nat.le_refl _, ⟨rfl, List.nodup_nil⟩, fun y => by simp, .nil, g0.trans g1⟩, ?_, ?_⟩
  · rintro i σ1 H4 Hc4 hi e4 s4 ⟨ds, ks, kvs, u1, u2, u3, rfl, nf4, ns4, lf4, ls4, hds, sn, hks, hl, g4⟩ y H5 Hc5 g5 py
    obtain ⟨z, hz, rfl⟩ := txt_get py.now
    have mz := List.mem_of_getElem? hz
    have hi60 : i < 60 := by have := (List.getElem?_eq_some_iff.mp hz).1; omega
    have lf5 := g5.c _ _ lf4
    have ls5 := g5.c _ _ ls4
    have nf5 : H5 f0 = none := g5.un lf4 nf4
    have ns5 : H5 s0 = none := g5.un ls4 ns4
    have g5' := g4.trans g5
    have hnx : ∀ (b : Bool), (b = true ↔ z ∉ ks) → b = isHead x.ns x.ls z := fun b hb => by
      have q := head_iff nt hz
      cases b with
      | true =>
        refine (q.mpr fun y hy r => hb.mp rfl ((hks z).mpr ⟨y, hy, r⟩)).symm
      | false =>
        cases e : isHead x.ns x.ls z with
        | false => rfl
        | true =>
          have h : z ∉ ks := fun m => by
            obtain ⟨y, hy, r⟩ := (hks z).mp m
            exact q.mp e y hy r
          exact absurd (hb.mpr h) Bool.false_ne_true
    have eh : (!decide (z ∈ ks)) = isHead x.ns x.ls z := hnx _ (by simp)
    refine b_if (H := upd H5 s0 (.dK kvs)) (g5.s.own ls5) (k := !decide (z ∈ ks)) (t_is (t_dnin (hu_of hr) (e_var (v := V.str z) 3) (e_var 2) (pz_dK (key := .inr z) (.at upd_same))) (by rw [sn.some_])) (fun hk H6 Hc6 g6 => ?_) fun hk H6 Hc6 g6 => b_nil (b_nil ?_)
    · have hnew : z ∉ ks := fun h => by rw [decide_eq_true h] at hk; cases hk
      have g6' := g5'.looked ns5 g6
      have lf6 := g6.c _ _ lf5
      have ls6 := g6.c _ _ ls5
      have t6 := h5.ex g6'.k
      refine b_set 4 g6'.s (e_callD (⟨x.ns, x.ls, z⟩ : PcIn) FJ hr (a_consD (e_fld (v := V.ref l3) F.cls F.n3 (e_var 0) (.at (g5'.k _ _ h1)) rfl) (a_consD (e_var (v := V.str z) 3) a_nil)) fun H' e => ⟨l3, as, rfl, t6.ex e, nt, mz⟩) (fun v H7 Hc7 g7 p7 => ?_) scPcs.nd
      obtain ⟨d, zs, rfl, hd, pz⟩ := p7.now
      have pz : Piece x.ls z zs := pz
      obtain rfl := pz.uniq (pcOf_piece nt mz)
      have g7' := g6'.trans g7
      have lf7 := g7.c _ _ lf6
      have ls7 := g7.c _ _ ls6
      have nf7 : H7 f0 = none := g7.un lf6 nf5
      have ns7 : H7 s0 = none := g7.un ls6 ns5
      refine b_app (l := f0) (xs := ds.map V.ref) (P := is (V.ref d)) g7'.s (e_var 1) (e_var 4) lf7 (by rw [List.length_map]; omega) fun v H8 Hc8 g8 p8 => ?_
      obtain rfl := p8.now
      have ls8 := g8.c _ _ ls7
      have nf8 : H8 f0 = none := g8.un lf7 nf7
      have ns8 : H8 s0 = none := g8.un ls7 ns7
      have g8' := (g7'.trans g8).mut (o := .lst (ds.map V.ref ++ [V.ref d])) hf0 nf8
      have hd8 := g8.k _ _ hd
      have lpc : (pcOf x.ns x.ls z).length ≤ 60 := Nat.le_trans (List.length_filter_le _ _) ln
      refine b_for (H := H8) (g := gName 5) g8'.s PassesOwn.never rfl (pi_list pe_w) (i_list (xs := (pcOf x.ns x.ls z).map V.str) (Cm.imp (e_var (v := V.ref d) 4) fun v H' e q => ⟨d, q, SqL.of (e _ _ hd8)⟩)) (pg_name (i := 5) scPcs.nd rfl (.inl rfl)) fun H9 Hc9 g9 => ?_
      have e19 : Ex H1 H9 := ((e4.trans g5.k).trans (g7.k.trans g8.k)).trans g9.k
      refine ⟨fun j σ1 HA HcA => ∃ (ks' : List Str) (kvs' : List (Key × V)) (u3 : Option V), σ1 = [some (.ref x.a), some (.ref f0), some (.ref s0), some (.str z), some (.ref d), u3] ∧ HA f0 = none ∧ HA s0 = none ∧ HcA f0 = some (.lst ((ds ++ [d]).map V.ref)) ∧ HcA s0 = some (.dK kvs') ∧ ks'.length ≤ 60 + j ∧ Seen kvs' ks' ∧ (∀ y, y ∈ ks' ↔ y ∈ ks ∨ y ∈ (pcOf x.ns x.ls z).take j) ∧ Grow H Hc HA HcA,
        ⟨ks, kvs, u3, rfl, g9.un upd_same nf8, g9.un (by rw [upd_ne hfs.symm]; exact ls8) ns8, by rw [g9.c _ _ upd_same, List.map_append] <;> rfl, g9.c _ _ (by rw [upd_ne hfs.symm]; exact ls8), ?_, sn, fun y => by simp, g8'.trans g9⟩, ?_, ?_⟩
      · have := nd_len ks x.ns sn.nd fun y hy => by
          obtain ⟨w, hw, r⟩ := (hks y).mp hy
          exact r.mem nt (List.mem_of_mem_take hw)
        omega
      · rintro j σ1 HA HcA hj eA sA ⟨ks', kvs', u3, rfl, nfA, nsA, lfA, lsA, hlk, snA, hkA, gA⟩ y HB HcB gB py
        obtain ⟨t, ht, rfl⟩ := txt_get py.now
        have hj60 : j < 60 := by have := (List.getElem?_eq_some_iff.mp ht).1; omega
        have lsB := gB.c _ _ lsA
        have lfB := gB.c _ _ lfA
        have nsB : HB s0 = none := gB.un lsA nsA
        have nfB : HB f0 = none := gB.un lfA nfA
        have lkv : kvs'.length ≤ 120 := by have := congrArg List.length snA.keys; rw [List.length_map, List.length_map] at this; omega
        refine b_dput (key := .inr t) (l := s0) (kvs := kvs') (P := is (V.bl true)) gB.s (hu_of hr) e_bl (e_var 2) (e_var (v := V.str t) 5) lsB (by omega) fun v HD HcD gD pD => b_nil ?_
        have nsD : HD s0 = none := gD.un lsB nsB
        have nfD : HD f0 = none := gD.un lfB nfB
        refine ⟨HD, (eA.trans gB.k).trans gD.k, gD.s.mut nsD, _, _, _, rfl, nfD, nsD, by rw [upd_ne hfs]; exact gD.c _ _ lfB, upd_same, ?_, snA.put t v, fun y => ?_, ((gA.trans gB).trans gD).mut hs0c nsD⟩
        · split
          · omega
          · rw [List.length_append, List.length_singleton]; omega
        · rw [mem_put, hkA, take_snoc ht, List.mem_append, List.mem_singleton, or_assoc]
      · rintro σ1 HA HcA eA sA ⟨ks', kvs', u3, rfl, nfA, nsA, lfA, lsA, hlk, snA, hkA, gA⟩
        rw [List.length_map, List.take_length] at hkA
        refine b_nil (b_nil ⟨HA, e19.trans eA, sA, ds ++ [d], ks', kvs', _, _, _, rfl, nfA, nsA, lfA, lsA, by rw [List.length_append, List.length_singleton]; omega, snA, fun y => ?_, ?_, gA⟩)
        · rw [hkA, hks, mem_pcOf, take_snoc hz]
          constructor
          · rintro (⟨w, hw, r⟩ | ⟨_, r⟩)
            · exact ⟨w, List.mem_append_left _ hw, r⟩
            · exact ⟨z, List.mem_append_right _ (List.mem_singleton_self _), r⟩
          · rintro ⟨w, hw, r⟩
            rcases List.mem_append.mp hw with m | m
            · exact .inl ⟨w, m, r⟩
            · rw [List.mem_singleton.mp m] at r
              exact .inr ⟨r.mem nt mz, r⟩
        · rw [take_snoc hz, List.filter_append, List.filter_cons_of_pos (by rw [← eh, decide_eq_false hnew] <;> rfl), List.filter_nil, List.map_append]
          exact ls_snoc ((g9.k.trans eA) _ _ hd8) (lsAt_ex (((g5.k.trans g7.k).trans (g8.k.trans g9.k)).trans eA) hl)
    · have hold : z ∈ ks := by
        by_cases h : z ∈ ks
        · exact h
        · rw [decide_eq_false h] at hk; cases hk
      have g6' := g5'.looked ns5 g6
      refine ⟨H5, e4.trans g5.k, g6'.s, ds, ks, kvs, _, _, _, rfl, nf5, ns5, g6.c _ _ lf5, g6.c _ _ ls5, by omega, sn, fun y => ?_, ?_, g6'⟩
      · rw [hks, take_snoc hz]
        constructor
        · rintro ⟨w, hw, r⟩
          exact ⟨w, List.mem_append_left _ hw, r⟩
        · rintro ⟨w, hw, r⟩
          rcases List.mem_append.mp hw with m | m
          · exact ⟨w, m, r⟩
          · rw [List.mem_singleton.mp m] at r
            obtain ⟨w2, hw2, r2⟩ := (hks z).mp hold
            exact ⟨w2, hw2, r2.tr r⟩
      · rw [take_snoc hz, List.filter_append, List.filter_cons_of_neg (by rw [← eh, decide_eq_true hold]; exact Bool.false_ne_true), List.filter_nil, List.append_nil]
        exact lsAt_ex g5.k hl
  · rintro σ1 H4 Hc4 e4 s4 ⟨ds, ks, kvs, u1, u2, u3, rfl, nf4, ns4, lf4, ls4, hds, sn, hks, hl, g4⟩
    rw [List.length_map, List.take_length] at hl
    refine b_ret (P := is (V.ref f0)) g4.s (e_var 1) fun v H5 Hc5 g5 p5 => rt v (upd H5 f0 (.lst (ds.map V.ref))) _ ((g4.trans g5).know hf0 (g5.un lf4 nf4) (g5.c _ _ lf4)) ?_
    obtain rfl := p5.now
    have n5 := g5.un lf4 nf4
    exact fun H' e => ⟨f0, ds, rfl, e _ _ upd_same, lsAt_ex (g5.k.trans ((Evl.Ex.new n5).trans e)) hl⟩
end
end K19
set_option Elab.async false
set_option linter.all false
set_option maxRecDepth 100000
set_option maxHeartbeats 2000000
namespace K19
open PySem L2 LW
abbrev sIsNode : Stmt := top 36
abbrev sNeedNode : Stmt := top 37
abbrev sNbrs : Stmt := inClass sNet 11
abbrev sAdd : Stmt := inClass sNet 17
theorem lk_in {ns : List Str} {ls : List (Str × Str)} (nt : Nt ns ls) {p : Str × Str} (hl : Lk p) : p.2 ∈ nb ls p.1 ↔ lk p ∈ ls := by
  rw [mem_nb nt.hne]
  constructor
  · rintro (h | h)
    · have e : lk p = p := lk_lk (nt.lk _ h).2.2
      rw [e]; exact h
    · have l := (nt.lk _ h).2.2
      have e : lk p = (p.2, p.1) := by
        unfold lk lnk
        rw [if_neg (fun z => Lt.as z l)]
      rw [e]; exact h
  · exact fun h => lk_mem h
section
variable {X : Cx} {α : Type} {A : α → List V → Hp → Prop} {R : α → V → Hp → Prop} {σ : L2.St} {H : Hp} {k : Nat} {C a dx : Addr} {fs : List (Str × V)} {i o : Expr} {pos : Pos} {x : V} {y : α} {c : Bool}
/-- x in o, o an instance: a value -/
theorem e_inO (F : Opx X.prog X.w X.K X.mg X.base C "__contains__" k A R) (hr : Room k X.A) (hx : Cm H (is x) (wE X i σ)) (ho : Cm H (is (V.ref a)) (wE X o σ)) (hi : Pz H (fun H' => H' a = some (.ins C dx fs))) (hp : Pz H (A y [.ref a, x])) (hR : ∀ v H', R y v H' → v = .bl c) (hm : behindInMarks .In o = false := by rfl) :
    Cm H (is (V.bl c)) (wE X (.Compare i [.In] [o] pos) σ) := by
  obtain ⟨f, h, G⟩ := F.ex
  exact e_cmpD (op_ownIn h G hr pass0) hm hx ho (r_ownIn false hi hp hR)
end
section
variable {P : Program} {w : World} {K : PySem.W.Frag} {mg : Str → Option Value} {base : Heap} {f fi C : Addr} {fd : FuncData}
/-- a name is no link -/
def AStr : Str → List V → Hp → Prop := fun x vs _ => vs = [.str x]
def RFalse {α : Type} : α → V → Hp → Prop := fun _ v _ => v = .bl false
theorem b_isLinkS (B : Blt K mg) : Body P w K mg base ["value"] "is_link" sIsLink f 0 AStr RFalse := by
  intro cdv Ar outer s H0 E x vs H Hc D hr ex pa rt nx
  obtain rfl := pa.now
  exact b_ifT ex (t_w (w_or (k := true) (k' := false) (t_not (k := false) (t_val (e_isi (ty := .type "str") (u := .type "tuple") B.isi (e_var 0) (e_bltn (v := .ty "tuple") rfl B.«tuple» (by decide +kernel) rfl) (fun _ _ => TyX.base (TyOf.str x)) (.ty _) (kit_ty (by decide +kernel))))) fun q => nomatch q)) fun Hn H2 g => b_ret (P := is (V.bl false)) g.s e_bl fun v Hn2 H3 g3 p => rt v _ _ (g.trans g3) p
/-! what is in a net -/
def AConN (C : Addr) : NetV × Str → List V → Hp → Prop := fun x vs H => vs = [.ref x.1.a, .str x.2] ∧ x.1.At C H ∧ Nm x.2
def RConN : NetV × Str → V → Hp → Prop := fun x v _ => v = .bl (decide (x.2 ∈ x.1.ns))
theorem tbl_some {ns : List Str} {as : List Addr} (len : ns.length = as.length) (nd : ns.Nodup) {x : Str} : (valV (tbl ns as) (.inr x)).isSome = decide (x ∈ ns) := by
  by_cases h : x ∈ ns
  · obtain ⟨j, hj⟩ := List.getElem?_of_mem h
    have := tbl_val len nd hj (List.getElem?_eq_getElem (by rw [← len]; exact (List.getElem?_eq_some_iff.mp hj).1))
    rw [this, decide_eq_true h] <;> rfl
  · rw [tbl_none h, decide_eq_false h] <;> rfl
theorem b_conN (B : Blt K mg) (F : NetF K mg C) (FI : Fn P w K mg base "is_link" 1 AStr RFalse) (FN : Fn P w K mg base "is_name" 1 AName RTrue) : Body P w K mg base ["self", "x"] "Net.__contains__" sCont f 1 (AConN C) RConN := by
  intro cdv Ar outer s H0 E x vs H Hc D hr ex pa rt nx
  obtain ⟨x, y⟩ := x
  obtain ⟨rfl, ⟨⟨dx, l1, l2, l3, ts, as, h1, h2, h3, h4, h5⟩, nt⟩, hn⟩ := pa.now
  have h1 : H x.a = some (.ins C dx [("_nodes", .ref l1), ("_links", .ref l2), ("_near", .ref l3)]) := h1
  have h5 : Tb H l3 x.ns as (nb x.ls) := h5
  have nt : Nt x.ns x.ls := nt
  have hn : Nm y := hn
  refine b_ifF ex (t_val (e_callD y FI hr (a_consD (e_var 1) a_nil) (.const rfl))) fun Hn H2 g => b_nil (b_ret (P := RConN (x, y)) g.s (Cm.imp (e_and (k := true) (k' := decide (y ∈ x.ns)) (e_callD y FN hr (a_consD (e_var 1) a_nil) (.const ⟨rfl, hn⟩)) fun _ =>
    e_one (t_is (e_din (hu_of hr) (e_var (v := V.str y) 1) (e_fld (v := V.ref l3) F.cls F.n3 (e_var 0) (.at (g.k _ _ h1)) rfl) (pz_dK (key := .inr y) (.at (g.k _ _ h5.dict)))) (by rw [tbl_some h5.len nt.nd]))) fun v H' _ z => by rw [Bool.true_and] at z; exact z) fun v Hn2 H3 g3 p => rt v _ _ (g.trans g3) p)
def AConL (C : Addr) (K : PySem.W.Frag) : NetV × (Str × Str) → List V → Hp → Prop := fun x vs H => ∃ t, vs = [.ref x.1.a, .ref t] ∧ SqT K H t [.str x.2.1, .str x.2.2] ∧ x.1.At C H ∧ Lk x.2 ∧ x.2.1 ∈ x.1.ns
def RConL : NetV × (Str × Str) → V → Hp → Prop := fun x v _ => v = .bl (decide (lk x.2 ∈ x.1.ls))
theorem b_conL (B : Blt K mg) (F : NetF K mg C) (FI : Fn P w K mg base "is_link" 2 (AIsL K) RTrue) : Body P w K mg base ["self", "x"] "Net.__contains__" sCont f 2 (AConL C K) RConL := by
  intro cdv Ar outer s H0 E x vs H Hc D hr ex pa rt nx
  obtain ⟨x, p⟩ := x
  obtain ⟨t, rfl, hT, ⟨⟨dx, l1, l2, l3, ts, as, h1, h2, h3, h4, h5⟩, nt⟩, hl, m1⟩ := pa.now
  have hT : SqT K H t [.str p.1, .str p.2] := hT
  have h1 : H x.a = some (.ins C dx [("_nodes", .ref l1), ("_links", .ref l2), ("_near", .ref l3)]) := h1
  have h5 : Tb H l3 x.ns as (nb x.ls) := h5
  have nt : Nt x.ns x.ls := nt
  have hl : Lk p := hl
  have m1 : p.1 ∈ x.ns := m1
  have hq := Pz.sqt hT
  obtain ⟨j, hj⟩ := List.getElem?_of_mem m1
  obtain ⟨a1, k1⟩ : ∃ a1, as[j]? = some a1 := ⟨_, List.getElem?_eq_getElem (by rw [← h5.len]; exact (List.getElem?_eq_some_iff.mp hj).1)⟩
  have hv := tbl_val h5.len nt.nd hj k1
  refine b_ifT ex (t_val (e_callD p FI hr (a_consD (e_var 1) a_nil) (fun H' e => ⟨t, rfl, hq H' e, hl⟩))) fun Hn H2 g => ?_
  have hn : Pz Hn (fun H' => DGet H' l3 (V.str p.1) (some (.ref a1))) := by
    have q := pz_dK (key := .inr p.1) (Pz.at (g.k _ _ h5.dict))
    rw [hv] at q
    exact q
  have fl : Pz Hn (fun H'' => H'' x.a = some (.ins C dx [("_nodes", .ref l1), ("_links", .ref l2), ("_near", .ref l3)])) := .at (g.k _ _ h1)
  refine b_ret (P := RConL (x, p)) g.s (Cm.imp (e_and (k := true) (k' := decide (lk p ∈ x.ls)) (t_is (e_din (hu_of hr) (e_itemT (j := 0) (e_var 1) e_int (hq.mono g.k) rfl) (e_fld (v := V.ref l3) F.cls F.n3 (e_var 0) fl rfl) hn) rfl) fun _ =>
    e_one (t_is (e_inS (z := p.2) (xs := nb x.ls p.1) (e_itemT (j := 1) (e_var 1) e_int (hq.mono g.k) rfl) (e_dget (hu_of hr) (e_fld (v := V.ref l3) F.cls F.n3 (e_var 0) fl rfl) (e_itemT (j := 0) (e_var 1) e_int (hq.mono g.k) rfl) hn) (fun H' e => .inl (SqL.of (e _ _ (g.k _ _ (h5.at_ _ _ _ hj k1)))))) (congrArg V.bl (decide_eq_decide.mpr (lk_in nt hl))))) fun v H' _ z => by rw [Bool.true_and] at z; exact z) fun v Hn2 H3 g3 q => rt v _ _ (g.trans g3) q
/-! nodes -/
def ANode (C : Addr) : NetV × Str → List V → Hp → Prop := fun x vs H => vs = [.ref x.1.a, .str x.2] ∧ x.1.At C H ∧ x.2 ∈ x.1.ns
theorem scIsNode : FnScope ["net", "value"] ["net", "value"] (defScope sIsNode) := ⟨rfl, rfl, rfl, by decide +kernel, rfl, by decide +kernel, by decide +kernel⟩
theorem b_isNode (FN : Fn P w K mg base "is_name" 1 AName RTrue) (FC : Opx P w K mg base C "__contains__" 2 (AConN C) RConN) : Body P w K mg base ["net", "value"] "is_node" sIsNode f 2 (ANode C) RTrue := by
  intro cdv Ar outer s H0 E x vs H Hc D hr ex pa rt nx
  obtain ⟨x, y⟩ := x
  obtain ⟨rfl, hA, hy⟩ := pa.now
  have hA : x.At C H := hA
  obtain ⟨⟨dx, l1, l2, l3, ts, as, h1, hrest⟩, nt⟩ := id hA
  have hy : y ∈ x.ns := hy
  exact b_ret (P := is (V.bl true)) ex (e_and (k := true) (k' := true) (e_callD y FN (hr.mono (by decide)) (a_consD (e_var 1) a_nil) (.const ⟨rfl, nt.nm y hy⟩)) fun _ => e_one (e_inO (c := true) (y := (x, y)) FC hr (e_var 1) (e_var 0) (.at h1) (fun H' e => ⟨rfl, ⟨hA.1.ex e, nt⟩, nt.nm y hy⟩) (fun v H' z => (show v = V.bl (decide (y ∈ x.ns)) from z).trans (by rw [decide_eq_true hy])))) fun v Hn H2 g p => rt v _ _ g p
theorem scNeedNode : FnScope ["net", "node"] ["net", "node"] (defScope sNeedNode) := ⟨rfl, rfl, rfl, by decide +kernel, rfl, by decide +kernel, by decide +kernel⟩
theorem b_needNode (FI : Fn P w K mg base "is_node" 3 (ANode C) RTrue) : Body P w K mg base ["net", "node"] "need_node" sNeedNode f 3 (ANode C) RNon := by
  intro cdv Ar outer s H0 E x vs H Hc D hr ex pa rt nx
  obtain ⟨x, y⟩ := x
  obtain ⟨rfl, hA, hy⟩ := pa.now
  have hA : x.At C H := hA
  have hy : y ∈ x.ns := hy
  exact b_ifF ex (t_not (k := true) (t_val (e_callD (x, y) FI hr (a_consD (e_var 0) (a_consD (e_var 1) a_nil)) fun H' e => ⟨rfl, ⟨hA.1.ex e, hA.2⟩, hy⟩))) fun Hn H2 g => b_nil (b_nil (nx _ _ _ g (.const rfl)))
def RNbrs : NetV × Str → V → Hp → Prop := fun x v H => ∃ b, v = .ref b ∧ H b = some (.lst ((nb x.1.ls x.2).map V.str))
theorem scNbrs : FnScope ["self", "node"] ["self", "node"] (defScope sNbrs) := ⟨rfl, rfl, rfl, by decide +kernel, rfl, by decide +kernel, by decide +kernel⟩
theorem b_nbrs (B : Blt K mg) (F : NetF K mg C) (FN : Fn P w K mg base "need_node" 4 (ANode C) RNon) : Body P w K mg base ["self", "node"] "Net.neighbours" sNbrs f 4 (ANode C) RNbrs := by
  intro cdv Ar outer s H0 E x vs H Hc D hr ex pa rt nx
  obtain ⟨x, y⟩ := x
  obtain ⟨rfl, hA, hy⟩ := pa.now
  have hA : x.At C H := hA
  obtain ⟨⟨dx, l1, l2, l3, ts, as, h1, h2, h3, h4, h5⟩, nt⟩ := id hA
  have hy : y ∈ x.ns := hy
  obtain ⟨j, hj⟩ := List.getElem?_of_mem hy
  obtain ⟨a1, k1⟩ : ∃ a1, as[j]? = some a1 := ⟨_, List.getElem?_eq_getElem (by rw [← h5.len]; exact (List.getElem?_eq_some_iff.mp hj).1)⟩
  have hv := tbl_val h5.len nt.nd hj k1
  refine b_expr ex (e_callD (x, y) FN hr (a_consD (e_var 0) (a_consD (e_var 1) a_nil)) fun H' e => ⟨rfl, ⟨hA.1.ex e, nt⟩, hy⟩) fun _ H1 Hc1 g1 _ => ?_
  exact b_ret (P := RNbrs (x, y)) g1.s (e_listOf (a := a1) (xs := (nb x.ls y).map V.str) B.list (e_dget (v := V.ref a1) (hu_of hr) (e_fld (v := V.ref l3) F.cls F.n3 (e_var 0) (.at (g1.k _ _ h1)) rfl) (e_var (v := V.str y) 1) (by have q := pz_dK (key := .inr y) (Pz.at (g1.k _ _ h5.dict)); rw [hv] at q; exact q)) fun H' e => .inl (SqL.of (e _ _ (g1.k _ _ (h5.at_ _ _ _ hj k1))))) fun v Hn H2 g p => rt v _ _ (g1.trans g) p
end
end K19
set_option Elab.async false
set_option linter.all false
set_option maxRecDepth 100000
set_option maxHeartbeats 2000000
namespace K19
open PySem L2 LW
theorem hu_nt {ns : List Str} {ls : List (Str × Str)} (nt : Nt ns ls) : ls.map lk = ls := same_lk' fun q hq => (nt.lk q hq).2.2
section
variable {P : Program} {w : World} {K : PySem.W.Frag} {mg : Str → Option Value} {base : Heap} {f fi C : Addr} {fd : FuncData}
def AAdd (C : Addr) : NetV × (Str × Str) → List V → Hp → Prop := fun x vs H => ∃ t, vs = [.ref x.1.a, .ref t] ∧ H t = some (.tup [.str x.2.1, .str x.2.2]) ∧ x.1.At C H ∧ Lk x.2 ∧ x.2.1 ∈ x.1.ns ∧ x.2.2 ∈ x.1.ns ∧ lk x.2 ∉ x.1.ls ∧ x.1.ls.length < 60
def RAdd (C : Addr) : NetV × (Str × Str) → V → Hp → Prop := fun x v H => ∃ a ls, v = .ref a ∧ NetAt C a x.1.ns ls H ∧ ls.Perm (x.1.ls ++ [lk x.2]) ∧ Nt x.1.ns ls
theorem scAdd : FnScope ["self", "other"] ["self", "other"] (defScope sAdd) := ⟨rfl, rfl, rfl, by decide +kernel, rfl, by decide +kernel, by decide +kernel⟩
theorem b_add (B : Blt K mg) (F : NetF K mg C) (M : MkN P w K mg base C fi) (FI : Fn P w K mg base "is_link" 2 (AIsL K) RTrue) (FC : Opx P w K mg base C "__contains__" 3 (AConL C K) RConL) : Body P w K mg base ["self", "other"] "Net.__add__" sAdd f 6 (AAdd C) (RAdd C) := by
  intro cdv Ar outer s H0 E x vs H Hc D hr ex pa rt nx
  obtain ⟨x, p⟩ := x
  obtain ⟨t, rfl, ht, hA, hl, m1, m2, hnew, hz⟩ := pa.now
  have ht : H t = some (.tup [.str p.1, .str p.2]) := ht
  have hA : x.At C H := hA
  have hl : Lk p := hl
  have m1 : p.1 ∈ x.ns := m1
  have m2 : p.2 ∈ x.ns := m2
  have hnew : lk p ∉ x.ls := hnew
  have hz : x.ls.length < 60 := hz
  obtain ⟨⟨dx, l1, l2, l3, ts, as, h1, h2, h3, h4, h5⟩, nt⟩ := id hA
  have h5 : Tb H l3 x.ns as (nb x.ls) := h5
  have h4 : TsAt H ts x.ls := h4
  have l4 := h4.length
  have hq : Pz H (fun H' => SqT K H' t [V.str p.1, V.str p.2]) := .sqt (SqT.of ht)
  have nin : ∀ {z : Str}, z ∈ x.ns → Pz H (fun H' => DGet H' l3 (V.str z) (valV (tbl x.ns as) (.inr z))) := fun {z} _ => pz_dK (key := .inr z) (.at h5.dict)
  refine b_ifF ex (t_w (w_or (k := false) (k' := false) (t_not (k := true) (t_val (e_callD p FI (hr.mono (by decide)) (a_consD (e_var 1) a_nil) (fun H' e => ⟨t, rfl, hq H' e, hl⟩)))) fun _ =>
    w_or (k := false) (k' := false) (t_is (t_dnin (hu_of hr) (e_itemT (j := 0) (e_var 1) e_int hq rfl) (e_fld (v := V.ref l3) F.cls F.n3 (e_var 0) (.at h1) rfl) (nin m1)) (by rw [tbl_some h5.len nt.nd, decide_eq_true m1] <;> rfl)) fun _ =>
      w_or1 (t_is (t_dnin (hu_of hr) (e_itemT (j := 1) (e_var 1) e_int hq rfl) (e_fld (v := V.ref l3) F.cls F.n3 (e_var 0) (.at h1) rfl) (nin m2)) (by rw [tbl_some h5.len nt.nd, decide_eq_true m2] <;> rfl)))) fun H1 Hc1 g1 => b_nil ?_
  refine b_ifF g1.s (t_in (c := false) (y := (x, p)) FC (hr.mono (by decide)) (e_var 1) (e_var 0) (.at (g1.k _ _ h1)) (fun H' e => ⟨t, rfl, hq H' (g1.k.trans e), ⟨hA.1.ex (g1.k.trans e), nt⟩, hl, m1⟩) (fun v H' z => (show v = V.bl (decide (lk p ∈ x.ls)) from z).trans (by rw [decide_eq_false hnew]))) fun H2 Hc2 g2 => b_nil ?_
  have e2 := g1.k.trans g2.k
  refine b_ret (P := RAdd C (x, p)) g2.s (e_make M.cl F.mgN M.init hr (a_cons (P := is (V.ref l1)) (e_fld (v := V.ref l1) F.cls F.n1 (e_var 0) (.at (e2 _ _ h1)) rfl) (a_cons (P := fun v H' => ∃ b, v = .ref b ∧ H' b = some (.lst ((ts ++ [t]).map V.ref)))
    (e_lst (a_star (G := fun ys H' => ys = ts.map V.ref) (Cm.imp (e_fld (v := V.ref l2) F.cls F.n2 (e_var 0) (.at (e2 _ _ h1)) rfl) fun v H' e z => ⟨l2, _, z, fun _ e' => .inr (SqL.of (e' _ _ (e _ _ (e2 _ _ h3)))), fun _ _ => rfl⟩) (a_cons (P := is (V.ref t)) (e_var 1) a_nil)) (fun ys H' z => ?_) fun ys b H3 e3 z hb => ?_) a_nil)) fun vs H3 e3 p3 => ?_) fun v Hn H4 g p => rt v _ _ ((g1.trans g2).trans g) p
  · obtain ⟨_, us, rfl, rfl, _, _, rfl, _, rfl⟩ := z
    rw [List.length_append, List.length_map, List.length_singleton]; omega
  · obtain ⟨_, us, rfl, rfl, _, _, rfl, rfl, rfl⟩ := z.now
    rw [← List.map_singleton (f := V.ref), ← List.map_append] at hb
    exact fun H' e' => ⟨b, rfl, e' _ _ hb⟩
  · obtain ⟨_, _, rfl, rfl, _, _, rfl, ⟨b, rfl, hb⟩, rfl⟩ := p3.now
    have eH := e2.trans e3
    have hm : (x.ls ++ [p]).map lk = x.ls ++ [lk p] := by rw [List.map_append, hu_nt nt] <;> rfl
    refine ⟨⟨true, x.ns, true, x.ls ++ [p]⟩, fun H' e => ⟨l1, b, ts ++ [t], rfl, SqL.of (e _ _ (eH _ _ h2)), SqL.of (e _ _ hb), ts_snoc (e _ _ (eH _ _ ht)) (paired_ex (eH.trans e) h4), ⟨⟨nt.len, nt.ne, nt.nd, nt.nm⟩, ⟨by rw [List.length_append, List.length_singleton]; omega, fun q hq => ?_, ?_, fun q hq => ?_⟩⟩⟩, fun v H' e z => ?_⟩
    · rcases List.mem_append.mp hq with m | m
      · have l := nt.lk q m
        exact ⟨nt.nm _ l.1, nt.nm _ l.2.1, fun e => Lt.irr _ (e ▸ l.2.2)⟩
      · rw [List.mem_singleton.mp m]; exact hl
    · show ((x.ls ++ [p]).map lk).Nodup
      rw [hm]
      exact List.nodup_append.mpr ⟨nt.nl, List.nodup_cons.mpr ⟨List.not_mem_nil, List.nodup_nil⟩, fun a ha b hb e => hnew (by rw [List.mem_singleton.mp hb] at e; exact e ▸ ha)⟩
    · rcases List.mem_append.mp hq with m | m
      · exact ⟨(nt.lk q m).1, (nt.lk q m).2.1⟩
      · rw [List.mem_singleton.mp m]; exact ⟨m1, m2⟩
    · obtain ⟨a, ns2, ls2, rfl, hN, q1, q2, nt2⟩ := z
      have e1 : ns2 = x.ns := sortN_uniq nt2.sn nt.sn q1
      have q2 : ls2.Perm ((x.ls ++ [p]).map lk) := q2
      rw [hm] at q2
      subst e1
      exact ⟨a, ls2, rfl, hN, q2, nt2⟩
end
end K19
set_option Elab.async false
set_option linter.all false
set_option maxRecDepth 100000
set_option maxHeartbeats 2000000
namespace K19
open PySem L2 LW
abbrev sOr : Stmt := inClass sNet 19
abbrev sAnd : Stmt := inClass sNet 20
section
variable {P : Program} {w : World} {K : PySem.W.Frag} {mg : Str → Option Value} {base : Heap} {f fi C : Addr} {fd : FuncData}
theorem ts_append {H : Hp} : ∀ {ts us : List Addr} {ps qs : List (Str × Str)}, TsAt H ts ps → TsAt H us qs → TsAt H (ts ++ us) (ps ++ qs)
  | _, _, _, _, .nil, h => h
  | _, _, _, _, .cons a b, h => .cons a (ts_append b h)
structure TwoIn where
  x : NetV
  y : NetV
def AOr (C : Addr) : TwoIn → List V → Hp → Prop := fun z vs H => vs = [.ref z.x.a, .ref z.y.a] ∧ z.x.At C H ∧ z.y.At C H ∧ z.x.ns.length + z.y.ns.length ≤ 60 ∧ z.x.ls.length + z.y.ls.length ≤ 60
def ROr (C : Addr) : TwoIn → V → Hp → Prop := fun z v H => ∃ a ns ls, v = .ref a ∧ NetAt C a ns ls H ∧ Nt ns ls ∧ (∀ t, t ∈ ns ↔ t ∈ z.x.ns ∨ t ∈ z.y.ns) ∧ ∀ q, q ∈ ls ↔ q ∈ z.x.ls ∨ q ∈ z.y.ls
abbrev nOr : List Str := ["self", "other", "nodes", "links", "node", "link"]
theorem scOr : FnScope nOr ["self", "other"] (defScope sOr) := ⟨rfl, rfl, rfl, by decide +kernel, rfl, by decide +kernel, by decide +kernel⟩
theorem b_or (B : Blt K mg) (F : NetF K mg C) (M : MkN P w K mg base C fi) (FN : Fn P w K mg base "need_net" 1 (ASelf C) RNon) : Body P w K mg base nOr "Net.__or__" sOr f 6 (AOr C) (ROr C) := by
  intro cdv Ar outer s H0 E z vs H Hc D hr ex pa rt nx
  obtain ⟨x, y⟩ := z
  obtain ⟨rfl, hX, hY, z1, z2⟩ := pa.now
  have hX : x.At C H := hX
  have hY : y.At C H := hY
  have z1 : x.ns.length + y.ns.length ≤ 60 := z1
  have z2 : x.ls.length + y.ls.length ≤ 60 := z2
  obtain ⟨⟨dx, l1, l2, l3, ts, as, h1, h2, h3, h4, h5⟩, nt⟩ := id hX
  obtain ⟨⟨dy, m1, m2, m3, us, bs, k1, k2, k3, k4, k5⟩, nt'⟩ := id hY
  have h5 : Tb H l3 x.ns as (nb x.ls) := h5
  have h4 : TsAt H ts x.ls := h4
  have k4 : TsAt H us y.ls := k4
  have hu : (fx P w K mg base nOr "Net.__or__" sOr f cdv Ar outer s H0 E).A.units + 65 < cLine := by have := hr.un; omega
  have l4 := h4.length
  have lk4 := k4.length
  refine b_expr ex (e_callD y FN (hr.mono (by decide)) (a_consD (e_var 1) a_nil) (fun H' e => ⟨rfl, hY.1.ex e, nt'⟩)) fun _ H1 Hc1 g1 _ => ?_
  have e1 := g1.k
  refine b_setLc 2 g1.s rfl scOr.nd rfl rfl rfl (pi_list pe_w) (own := [("node", 4)]) (g := gName 4) (P := nl ((y.ns.filter fun t => !decide (t ∈ x.ns)).map V.str)) (blkOk_by (N := nOr) (sc := defScope sOr) (by decide +kernel)) (fun _ _ _ _ _ => pg_name (i := 4) scOr.nd rfl (.inl rfl)) (fun s H C cl fp => pts_one (pt_b s H C cl fp))
    (c_lc (i_list (xs := y.ns.map V.str) (Cm.imp (e_fld (v := V.ref m1) F.cls F.n1 (e_var 1) (.at (e1 _ _ k1)) rfl) fun v H' e z => ⟨m1, z, SqL.of (e _ _ (e1 _ _ k2))⟩)) (by rw [List.length_map]; omega) (fun i acc _ => acc = ((y.ns.take i).filter fun t => !decide (t ∈ x.ns)).map V.str) (fun _ => rfl) (fun i v acc H9 hi e9 py pacc => ?_) fun acc q H9 e9 pacc hq => ?_) (fun v H2 Hc2 g2 p2 => ?_)
  · obtain ⟨t, ht, rfl⟩ := txt_get py.now
    have ea : acc = ((y.ns.take i).filter fun t => !decide (t ∈ x.ns)).map V.str := pacc.now
    refine ⟨_, !decide (t ∈ x.ns), bind_name, rfl, c_tb fun s0 H00 C0 cl fp => t_is (t_dnin (hu_of hr) (e_var (v := V.str t) 4) (e_fld (v := V.ref l3) F.cls F.n3 (e_var 0) (.at (e9 _ _ (e1 _ _ h1))) rfl) (pz_dK (key := .inr t) (.at (e9 _ _ (e1 _ _ h5.dict))))) (by rw [tbl_some h5.len nt.nd]), fun k => c_eb fun s0 H00 C0 cl fp => ?_, fun k => .const ?_⟩
    · refine Cm.imp (e_var (v := V.str t) 4) fun v H' _ z => ?_
      rw [ea, show v = V.str t from z, take_snoc ht, List.filter_append, List.map_append, List.filter_cons_of_pos (by exact k), List.filter_nil] <;> rfl
    · rw [ea, take_snoc ht, List.filter_append, List.filter_cons_of_neg (by rw [k]; exact Bool.false_ne_true), List.filter_nil, List.append_nil]
  · have ea : acc = ((y.ns.take (y.ns.map V.str).length).filter fun t => !decide (t ∈ x.ns)).map V.str := pacc.now
    rw [List.length_map, List.take_length] at ea
    subst ea
    exact fun H' e' => ⟨q, rfl, e' _ _ hq⟩
  obtain ⟨b, rfl, hb⟩ := p2.now
  have e2 := e1.trans g2.k
  refine b_setLc 3 g2.s rfl scOr.nd rfl rfl rfl (pi_list pe_w) (own := [("link", 5)]) (g := gName 5) (P := RPs (y.ls.filter fun q => !decide (q ∈ x.ls))) (blkOk_by (N := nOr) (sc := defScope sOr) (by decide +kernel)) (fun _ _ _ _ _ => pg_name (i := 5) scOr.nd rfl (.inl rfl)) (fun s H C cl fp => pts_one (pt_b s H C cl fp))
    (c_lc (i_list (xs := us.map V.ref) (Cm.imp (e_fld (v := V.ref m2) F.cls F.n2 (e_var 1) (.at (e2 _ _ k1)) rfl) fun v H' e z => ⟨m2, z, SqL.of (e _ _ (e2 _ _ k3))⟩)) (by rw [List.length_map]; omega) (fun i acc H' => ∃ os, acc = os.map V.ref ∧ TsAt H' os ((y.ls.take i).filter fun q => !decide (q ∈ x.ls))) (fun _ => ⟨[], rfl, .nil⟩) (fun i v acc H9 hi e9 py pacc => ?_) fun acc q H9 e9 pacc hq => ?_) (fun v H3 Hc3 g3 p3 => ?_)
  · obtain ⟨d, r, rfl, hd, hr2, hH⟩ := ts_get k4 py.now
    have mr := List.mem_of_getElem? hr2
    have eH : Ex H H9 := e2.trans e9
    refine ⟨_, !decide (r ∈ x.ls), bind_name, rfl, c_tb fun s0 H00 C0 cl fp => t_ninPr hu (p := r) (Cm.imp (e_var (v := V.ref d) 5) fun v H' e z => ⟨d, z, e _ _ (eH _ _ hH)⟩) (e_fld (v := V.ref l2) F.cls F.n2 (e_var 0) (.at (eH _ _ h1)) rfl) (fun H' e => ⟨SqL.of (e _ _ (eH _ _ h3)), paired_ex (eH.trans e) h4⟩) (nt'.nml _ mr) nt.nml, fun k => c_eb fun s0 H00 C0 cl fp => ?_, fun k => ?_⟩
    · refine Cm.imp (e_var (v := V.ref d) 5) fun v H' e z => ?_
      obtain ⟨os, rfl, ho⟩ := pacc H' e
      refine ⟨os ++ [d], by rw [show v = V.ref d from z, List.map_append] <;> rfl, ?_⟩
      rw [take_snoc hr2, List.filter_append, List.filter_cons_of_pos (by exact k), List.filter_nil]
      exact ts_snoc (e _ _ (eH _ _ hH)) ho
    · refine pacc.imp fun H' e ⟨os, w1, w2⟩ => ⟨os, w1, ?_⟩
      rw [take_snoc hr2, List.filter_append, List.filter_cons_of_neg (by rw [k]; exact Bool.false_ne_true), List.filter_nil, List.append_nil]
      exact w2
  · obtain ⟨os, rfl, ho⟩ := pacc.now
    rw [List.length_map, lk4, List.take_length] at ho
    exact fun H' e' => ⟨q, os, rfl, e' _ _ hq, paired_ex e' ho⟩
  obtain ⟨c, os, rfl, hc, ho⟩ := p3.now
  have e3 := e2.trans g3.k
  have hb3 := g3.k _ _ hb
  have lo := ho.length
  have f1 : (y.ns.filter fun t => !decide (t ∈ x.ns)).length ≤ y.ns.length := List.length_filter_le _ _
  have f2 : (y.ls.filter fun q => !decide (q ∈ x.ls)).length ≤ y.ls.length := List.length_filter_le _ _
  refine b_ret (P := ROr C ⟨x, y⟩) g3.s (e_make M.cl F.mgN M.init hr (a_cons (P := fun v H' => ∃ b, v = .ref b ∧ H' b = some (.lst ((x.ns ++ y.ns.filter fun t => !decide (t ∈ x.ns)).map V.str)))
      (e_lst (a_star (G := fun ys H' => ys = x.ns.map V.str) (Cm.imp (e_fld (v := V.ref l1) F.cls F.n1 (e_var 0) (.at (e3 _ _ h1)) rfl) fun v H' e z => ⟨l1, _, z, fun _ e' => .inr (SqL.of (e' _ _ (e _ _ (e3 _ _ h2)))), fun _ _ => rfl⟩) (a_star (G := fun ys H' => ys = (y.ns.filter fun t => !decide (t ∈ x.ns)).map V.str) (Cm.imp (e_var (v := V.ref b) 2) fun v H' e z => ⟨b, _, z, fun _ e' => .inr (SqL.of (e' _ _ (e _ _ hb3))), fun _ _ => rfl⟩) a_nil)) (fun ys H' z => ?_) fun ys d H4 e4 z hd => ?_)
    (a_cons (P := fun v H' => ∃ b, v = .ref b ∧ H' b = some (.lst ((ts ++ os).map V.ref)))
      (e_lst (a_star (G := fun ys H' => ys = ts.map V.ref) (Cm.imp (e_fld (v := V.ref l2) F.cls F.n2 (e_var 0) (.at (e3 _ _ h1)) rfl) fun v H' e z => ⟨l2, _, z, fun _ e' => .inr (SqL.of (e' _ _ (e _ _ (e3 _ _ h3)))), fun _ _ => rfl⟩) (a_star (G := fun ys H' => ys = os.map V.ref) (Cm.imp (e_var (v := V.ref c) 3) fun v H' e z => ⟨c, _, z, fun _ e' => .inr (SqL.of (e' _ _ (e _ _ hc))), fun _ _ => rfl⟩) a_nil)) (fun ys H' z => ?_) fun ys d H4 e4 z hd => ?_) a_nil)) fun vs H4 e4 p4 => ?_) fun v Hn H5 g p => rt v _ _ (((g1.trans g2).trans g3).trans g) p
  · obtain ⟨_, us, rfl, rfl, _, us2, rfl, rfl, rfl⟩ := z
    simp only [List.length_append, List.length_map, List.length_nil]; omega
  · obtain ⟨_, us, rfl, rfl, _, us2, rfl, rfl, rfl⟩ := z.now
    rw [List.append_nil, ← List.map_append] at hd
    exact fun H' e' => ⟨d, rfl, e' _ _ hd⟩
  · obtain ⟨_, us, rfl, rfl, _, us2, rfl, rfl, rfl⟩ := z
    simp only [List.length_append, List.length_map, List.length_nil]; omega
  · obtain ⟨_, us, rfl, rfl, _, us2, rfl, rfl, rfl⟩ := z.now
    rw [List.append_nil, ← List.map_append] at hd
    exact fun H' e' => ⟨d, rfl, e' _ _ hd⟩
  · obtain ⟨_, _, rfl, ⟨d1, rfl, hd1⟩, _, _, rfl, ⟨d2, rfl, hd2⟩, rfl⟩ := p4.now
    have mn : ∀ t, t ∈ (x.ns ++ y.ns.filter fun t => !decide (t ∈ x.ns)) ↔ t ∈ x.ns ∨ t ∈ y.ns := fun t => by
      rw [List.mem_append, List.mem_filter]
      by_cases h : t ∈ x.ns <;> simp [h]
    have ml : ∀ q, q ∈ (x.ls ++ y.ls.filter fun q => !decide (q ∈ x.ls)) ↔ q ∈ x.ls ∨ q ∈ y.ls := fun q => by
      rw [List.mem_append, List.mem_filter]
      by_cases h : q ∈ x.ls <;> simp [h]
    have lt : ∀ q, q ∈ (x.ls ++ y.ls.filter fun q => !decide (q ∈ x.ls)) → q.1 ∈ (x.ns ++ y.ns.filter fun t => !decide (t ∈ x.ns)) ∧ q.2 ∈ (x.ns ++ y.ns.filter fun t => !decide (t ∈ x.ns)) ∧ Lt q.1 q.2 := fun q hq => by
      rw [mn, mn]
      rcases (ml q).mp hq with h | h
      · obtain ⟨a, b, c⟩ := nt.lk q h
        exact ⟨.inl a, .inl b, c⟩
      · obtain ⟨a, b, c⟩ := nt'.lk q h
        exact ⟨.inr a, .inr b, c⟩
    have nm : ∀ t, t ∈ (x.ns ++ y.ns.filter fun t => !decide (t ∈ x.ns)) → Nm t := fun t ht => ((mn t).mp ht).elim (nt.nm t) (nt'.nm t)
    have idl : (x.ls ++ y.ls.filter fun q => !decide (q ∈ x.ls)).map lk = (x.ls ++ y.ls.filter fun q => !decide (q ∈ x.ls)) := same_lk' fun q hq => (lt q hq).2.2
    have nd1 : (x.ns ++ y.ns.filter fun t => !decide (t ∈ x.ns)).Nodup := List.nodup_append.mpr ⟨nt.nd, nt'.nd.sublist List.filter_sublist, fun a ha b hb e => by
      have := (List.mem_filter.mp hb).2
      rw [← e] at this
      simp [ha] at this⟩
    have nd2 : (x.ls ++ y.ls.filter fun q => !decide (q ∈ x.ls)).Nodup := List.nodup_append.mpr ⟨nt.nl, nt'.nl.sublist List.filter_sublist, fun a ha b hb e => by
      have := (List.mem_filter.mp hb).2
      rw [← e] at this
      simp [ha] at this⟩
    refine ⟨⟨true, x.ns ++ y.ns.filter fun t => !decide (t ∈ x.ns), true, x.ls ++ y.ls.filter fun q => !decide (q ∈ x.ls)⟩, fun H' e => ⟨d1, d2, ts ++ os, rfl, SqL.of (e _ _ hd1), SqL.of (e _ _ hd2), ?_, ⟨⟨by rw [List.length_append]; omega, fun e => nt.ne (List.append_eq_nil_iff.mp e).1, nd1, nm⟩, ⟨by rw [List.length_append]; omega, fun q hq => ⟨nm _ (lt q hq).1, nm _ (lt q hq).2.1, fun e => Lt.irr _ (e ▸ (lt q hq).2.2)⟩, by rw [idl]; exact nd2, fun q hq => ⟨(lt q hq).1, (lt q hq).2.1⟩⟩⟩⟩, fun v H' e z => ?_⟩
    · exact ts_append (paired_ex ((e3.trans e4).trans e) h4) (paired_ex (e4.trans e) ho)
    · obtain ⟨a, ns2, ls2, rfl, hN, q1, q2, nt2⟩ := z
      have q2 : ls2.Perm ((x.ls ++ y.ls.filter fun q => !decide (q ∈ x.ls)).map lk) := q2
      rw [idl] at q2
      exact ⟨a, ns2, ls2, rfl, hN, nt2, fun t => q1.mem_iff.trans (mn t), fun q => q2.mem_iff.trans (ml q)⟩
end
end K19
set_option Elab.async false
set_option linter.all false
set_option maxRecDepth 100000
set_option maxHeartbeats 2000000
namespace K19
open PySem L2 LW
section
variable {P : Program} {w : World} {K : PySem.W.Frag} {mg : Str → Option Value} {base : Heap} {f fi C : Addr} {fd : FuncData}
def AAnd (C : Addr) : TwoIn → List V → Hp → Prop := fun z vs H => vs = [.ref z.x.a, .ref z.y.a] ∧ z.x.At C H ∧ z.y.At C H ∧ ∃ t, t ∈ z.x.ns ∧ t ∈ z.y.ns
def RAnd (C : Addr) : TwoIn → V → Hp → Prop := fun z v H => ∃ a, v = .ref a ∧ NetAt C a (z.x.ns.filter fun t => decide (t ∈ z.y.ns)) (z.x.ls.filter fun q => decide (q ∈ z.y.ls)) H ∧ Nt (z.x.ns.filter fun t => decide (t ∈ z.y.ns)) (z.x.ls.filter fun q => decide (q ∈ z.y.ls))
abbrev nAnd : List Str := ["self", "other", "nodes", "node", "link"]
theorem scAnd : FnScope nAnd ["self", "other"] (defScope sAnd) := ⟨rfl, rfl, rfl, by decide +kernel, rfl, by decide +kernel, by decide +kernel⟩
theorem b_and (B : Blt K mg) (F : NetF K mg C) (M : MkN P w K mg base C fi) (FN : Fn P w K mg base "need_net" 1 (ASelf C) RNon) : Body P w K mg base nAnd "Net.__and__" sAnd f 6 (AAnd C) (RAnd C) := by
  intro cdv Ar outer s H0 E z vs H Hc D hr ex pa rt nx
  obtain ⟨x, y⟩ := z
  obtain ⟨rfl, hX, hY, t0, t1, t2⟩ := pa.now
  have hX : x.At C H := hX
  have hY : y.At C H := hY
  have t1 : t0 ∈ x.ns := t1
  have t2 : t0 ∈ y.ns := t2
  obtain ⟨⟨dx, l1, l2, l3, ts, as, h1, h2, h3, h4, h5⟩, nt⟩ := id hX
  obtain ⟨⟨dy, m1, m2, m3, us, bs, k1, k2, k3, k4, k5⟩, nt'⟩ := id hY
  have k5 : Tb H m3 y.ns bs (nb y.ls) := k5
  have h4 : TsAt H ts x.ls := h4
  have k4 : TsAt H us y.ls := k4
  have nt : Nt x.ns x.ls := nt
  have nt' : Nt y.ns y.ls := nt'
  have hu : (fx P w K mg base nAnd "Net.__and__" sAnd f cdv Ar outer s H0 E).A.units + 65 < cLine := by have := hr.un; omega
  have l4 := h4.length
  have ln := nt.len
  have ll := nt.ll
  refine b_expr ex (e_callD y FN (hr.mono (by decide)) (a_consD (e_var 1) a_nil) (fun H' e => ⟨rfl, hY.1.ex e, nt'⟩)) fun _ H1 Hc1 g1 _ => ?_
  have e1 := g1.k
  refine b_setLc 2 g1.s rfl scAnd.nd rfl rfl rfl (pi_list pe_w) (own := [("node", 3)]) (g := gName 3) (P := nl ((x.ns.filter fun t => decide (t ∈ y.ns)).map V.str)) (blkOk_by (N := nAnd) (sc := defScope sAnd) (by decide +kernel)) (fun _ _ _ _ _ => pg_name (i := 3) scAnd.nd rfl (.inl rfl)) (fun s H C cl fp => pts_one (pt_b s H C cl fp))
    (c_lc (i_list (xs := x.ns.map V.str) (Cm.imp (e_fld (v := V.ref l1) F.cls F.n1 (e_var 0) (.at (e1 _ _ h1)) rfl) fun v H' e z => ⟨l1, z, SqL.of (e _ _ (e1 _ _ h2))⟩)) (by rw [List.length_map]; omega) (fun i acc _ => acc = ((x.ns.take i).filter fun t => decide (t ∈ y.ns)).map V.str) (fun _ => rfl) (fun i v acc H9 hi e9 py pacc => ?_) fun acc q H9 e9 pacc hq => ?_) (fun v H2 Hc2 g2 p2 => ?_)
  · obtain ⟨t, ht, rfl⟩ := txt_get py.now
    have ea : acc = ((x.ns.take i).filter fun t => decide (t ∈ y.ns)).map V.str := pacc.now
    refine ⟨_, decide (t ∈ y.ns), bind_name, rfl, c_tb fun s0 H00 C0 cl fp => t_is (t_din (hu_of hr) (e_var (v := V.str t) 3) (e_fld (v := V.ref m3) F.cls F.n3 (e_var 1) (.at (e9 _ _ (e1 _ _ k1))) rfl) (pz_dK (key := .inr t) (.at (e9 _ _ (e1 _ _ k5.dict))))) (by rw [tbl_some k5.len nt'.nd]), fun k => c_eb fun s0 H00 C0 cl fp => ?_, fun k => .const ?_⟩
    · refine Cm.imp (e_var (v := V.str t) 3) fun v H' _ z => ?_
      rw [ea, show v = V.str t from z, take_snoc ht, List.filter_append, List.map_append, List.filter_cons_of_pos (by exact k), List.filter_nil] <;> rfl
    · rw [ea, take_snoc ht, List.filter_append, List.filter_cons_of_neg (by rw [k]; exact Bool.false_ne_true), List.filter_nil, List.append_nil]
  · have ea : acc = ((x.ns.take (x.ns.map V.str).length).filter fun t => decide (t ∈ y.ns)).map V.str := pacc.now
    rw [List.length_map, List.take_length] at ea
    subst ea
    exact fun H' e' => ⟨q, rfl, e' _ _ hq⟩
  obtain ⟨b, rfl, hb⟩ := p2.now
  have e2 := e1.trans g2.k
  have hne : (x.ns.filter fun t => decide (t ∈ y.ns)) ≠ [] := fun e => by
    have m : t0 ∈ x.ns.filter fun t => decide (t ∈ y.ns) := List.mem_filter.mpr ⟨t1, by simpa using t2⟩
    rw [e] at m
    exact absurd m List.not_mem_nil
  refine b_ifF g2.s (t_is (t_cmpD op_eq (by rfl) (e_len (xs := (x.ns.filter fun t => decide (t ∈ y.ns)).map V.str) B.len (e_var (v := V.ref b) 2) (fun H' e => .inl (SqL.of (e _ _ hb)))) e_int (r_eq (x := V.int (((x.ns.filter fun t => decide (t ∈ y.ns)).map V.str).length : Int)) (y := V.int 0) rfl)) (decide_eq_false fun z => ?_)) fun H3 Hc3 g3 => b_nil ?_
  · have z' := V.int.inj z
    rw [List.length_map] at z'
    exact hne (List.eq_nil_of_length_eq_zero (by omega))
  have e3 := e2.trans g3.k
  have hb3 := g3.k _ _ hb
  have f1 : (x.ns.filter fun t => decide (t ∈ y.ns)).length ≤ x.ns.length := List.length_filter_le _ _
  have f2 : (x.ls.filter fun q => decide (q ∈ y.ls)).length ≤ x.ls.length := List.length_filter_le _ _
  have sl : ∀ q, q ∈ (x.ls.filter fun q => decide (q ∈ y.ls)) → q ∈ x.ls ∧ q ∈ y.ls := fun q hq => ⟨(List.mem_filter.mp hq).1, of_decide_eq_true (List.mem_filter.mp hq).2⟩
  have nt2 : Nt (x.ns.filter fun t => decide (t ∈ y.ns)) (x.ls.filter fun q => decide (q ∈ y.ls)) := ⟨by omega, hne, nt.nd.sublist List.filter_sublist, fun t ht => nt.nm t (List.mem_filter.mp ht).1, nt.sn.sublist List.filter_sublist, by omega, nt.nl.sublist List.filter_sublist, fun q hq => by
    obtain ⟨s1, s2⟩ := sl q hq
    obtain ⟨a1, a2, a3⟩ := nt.lk q s1
    obtain ⟨b1, b2, _⟩ := nt'.lk q s2
    exact ⟨List.mem_filter.mpr ⟨a1, by simpa using b1⟩, List.mem_filter.mpr ⟨a2, by simpa using b2⟩, a3⟩, nt.sp.sublist List.filter_sublist⟩
  refine b_ret (P := RAnd C ⟨x, y⟩) g3.s (e_make M.cl F.mgN M.init hr (a_cons (P := is (V.ref b)) (e_var 2) (a_cons (P := RPs (x.ls.filter fun q => decide (q ∈ y.ls))) (e_lc (own := [("link", 4)]) (g := gName 4) rfl scAnd.nd (pi_list pe_w) (blkOk_by (N := nAnd) (sc := defScope sAnd) (by decide +kernel)) (fun _ _ _ _ _ => pg_name (i := 4) scAnd.nd rfl (.inl rfl)) (fun s H C cl fp => pts_one (pt_b s H C cl fp))
    (c_lc (i_list (xs := ts.map V.ref) (Cm.imp (e_fld (v := V.ref l2) F.cls F.n2 (e_var 0) (.at (e3 _ _ h1)) rfl) fun v H' e z => ⟨l2, z, SqL.of (e _ _ (e3 _ _ h3))⟩)) (by rw [List.length_map]; omega) (fun i acc H' => ∃ os, acc = os.map V.ref ∧ TsAt H' os ((x.ls.take i).filter fun q => decide (q ∈ y.ls))) (fun _ => ⟨[], rfl, .nil⟩) (fun i v acc H9 hi e9 py pacc => ?_) fun acc q H9 e9 pacc hq => ?_)) a_nil)) fun vs H4 e4 p4 => ?_) fun v Hn H5 g p => rt v _ _ (((g1.trans g2).trans g3).trans g) p
  · obtain ⟨d, r, rfl, hd, hr2, hH⟩ := ts_get h4 py.now
    have mr := List.mem_of_getElem? hr2
    have eH : Ex H H9 := e3.trans e9
    refine ⟨_, decide (r ∈ y.ls), bind_name, rfl, c_tb fun s0 H00 C0 cl fp => t_inPr hu (p := r) (Cm.imp (e_var (v := V.ref d) 4) fun v H' e z => ⟨d, z, e _ _ (eH _ _ hH)⟩) (e_fld (v := V.ref m2) F.cls F.n2 (e_var 1) (.at (eH _ _ k1)) rfl) (fun H' e => ⟨SqL.of (e _ _ (eH _ _ k3)), paired_ex (eH.trans e) k4⟩) (nt.nml _ mr) nt'.nml, fun k => c_eb fun s0 H00 C0 cl fp => ?_, fun k => ?_⟩
    · refine Cm.imp (e_var (v := V.ref d) 4) fun v H' e z => ?_
      obtain ⟨os, rfl, ho⟩ := pacc H' e
      refine ⟨os ++ [d], by rw [show v = V.ref d from z, List.map_append] <;> rfl, ?_⟩
      rw [take_snoc hr2, List.filter_append, List.filter_cons_of_pos (by exact k), List.filter_nil]
      exact ts_snoc (e _ _ (eH _ _ hH)) ho
    · refine pacc.imp fun H' e ⟨os, w1, w2⟩ => ⟨os, w1, ?_⟩
      rw [take_snoc hr2, List.filter_append, List.filter_cons_of_neg (by rw [k]; exact Bool.false_ne_true), List.filter_nil, List.append_nil]
      exact w2
  · obtain ⟨os, rfl, ho⟩ := pacc.now
    rw [List.length_map, l4, List.take_length] at ho
    exact fun H' e' => ⟨q, os, rfl, e' _ _ hq, paired_ex e' ho⟩
  · obtain ⟨_, _, rfl, rfl, _, _, rfl, ⟨d2, os, rfl, hd2, ho⟩, rfl⟩ := p4.now
    have idl := hu_nt nt2
    refine ⟨⟨true, x.ns.filter fun t => decide (t ∈ y.ns), true, x.ls.filter fun q => decide (q ∈ y.ls)⟩, fun H' e => ⟨b, d2, os, rfl, SqL.of (e _ _ (e4 _ _ hb3)), SqL.of (e _ _ hd2), paired_ex e ho, ⟨⟨nt2.len, nt2.ne, nt2.nd, nt2.nm⟩, ⟨nt2.ll, fun q hq => ⟨nt2.nm _ (nt2.lk q hq).1, nt2.nm _ (nt2.lk q hq).2.1, nt2.hne q hq⟩, by rw [idl]; exact nt2.nl, fun q hq => ⟨(nt2.lk q hq).1, (nt2.lk q hq).2.1⟩⟩⟩⟩, fun v H' e z => ?_⟩
    obtain ⟨a, ns2, ls2, rfl, hN, q1, q2, nt3⟩ := z
    have q2 : ls2.Perm ((x.ls.filter fun q => decide (q ∈ y.ls)).map lk) := q2
    rw [idl] at q2
    have c1 : ns2 = _ := sortN_uniq nt3.sn nt2.sn q1
    have c2 : ls2 = _ := sortP_uniq nt3.sp nt2.sp q2
    subst c1 c2
    exact ⟨a, rfl, hN, nt2⟩
end
end K19
set_option Elab.async false
set_option linter.all false
set_option maxRecDepth 100000
set_option maxHeartbeats 2000000
namespace K19
open PySem L2 LW
abbrev sWithout : Stmt := inClass sNet 14
def lessN (ns gs : List Str) : List Str := ns.filter fun t => !decide (t ∈ gs)
def lessL (ls : List (Str × Str)) (left : List Str) : List (Str × Str) := ls.filter fun q => decide (q.1 ∈ left) && decide (q.2 ∈ left)
theorem less_nt {ns gs : List Str} {ls : List (Str × Str)} (nt : Nt ns ls) (ne : lessN ns gs ≠ []) : Nt (lessN ns gs) (lessL ls (lessN ns gs)) :=
  ⟨Nat.le_trans (List.length_filter_le _ _) nt.len, ne, nt.nd.sublist List.filter_sublist, fun t ht => nt.nm t (List.mem_filter.mp ht).1, nt.sn.sublist List.filter_sublist, Nat.le_trans (List.length_filter_le _ _) nt.ll, nt.nl.sublist List.filter_sublist, fun q hq => by
    obtain ⟨a, b⟩ := List.mem_filter.mp hq
    simp only [Bool.and_eq_true, decide_eq_true_eq] at b
    exact ⟨b.1, b.2, (nt.lk q a).2.2⟩, nt.sp.sublist List.filter_sublist⟩
section
variable {P : Program} {w : World} {K : PySem.W.Frag} {mg : Str → Option Value} {base : Heap} {f fi C : Addr} {fd : FuncData}
def AWo (C : Addr) (K : PySem.W.Frag) : NetV × List Str → List V → Hp → Prop := fun x vs H => ∃ t, vs = [.ref x.1.a, .ref t] ∧ SqT K H t (x.2.map V.str) ∧ x.1.At C H ∧ (∀ g ∈ x.2, g ∈ x.1.ns) ∧ x.2.length ≤ 60 ∧ lessN x.1.ns x.2 ≠ []
def RWo (C : Addr) : NetV × List Str → V → Hp → Prop := fun x v H => ∃ a, v = .ref a ∧ NetAt C a (lessN x.1.ns x.2) (lessL x.1.ls (lessN x.1.ns x.2)) H ∧ Nt (lessN x.1.ns x.2) (lessL x.1.ls (lessN x.1.ns x.2))
abbrev nWo : List Str := ["self", "nodes", "node", "left", "one", "other"]
theorem scWo : FnScope nWo ["self", "nodes"] (defScope sWithout) := ⟨rfl, rfl, rfl, by decide +kernel, rfl, by decide +kernel, by decide +kernel⟩
theorem b_without (B : Blt K mg) (F : NetF K mg C) (M : MkN P w K mg base C fi) (FN : Fn P w K mg base "need_node" 4 (ANode C) RNon) : Body P w K mg base nWo "Net.without" sWithout f 6 (AWo C K) (RWo C) := by
  intro cdv Ar outer s H0 E z vs H Hc D hr ex pa rt nx
  obtain ⟨x, gs⟩ := z
  obtain ⟨t, rfl, hT, hX, hg, hz, hne⟩ := pa.now
  have hT : SqT K H t (gs.map V.str) := hT
  have hX : x.At C H := hX
  have hg : ∀ g ∈ gs, g ∈ x.ns := hg
  have hne : lessN x.ns gs ≠ [] := hne
  obtain ⟨⟨dx, l1, l2, l3, ts, as, h1, h2, h3, h4, h5⟩, nt⟩ := id hX
  have h4 : TsAt H ts x.ls := h4
  have nt : Nt x.ns x.ls := nt
  have l4 := h4.length
  have ln := nt.len
  have ll := nt.ll
  have hq := Pz.sqt hT
  refine b_for (H := H) (g := gName 2) ex PassesOwn.never rfl (pi_tup pe_w) (i_tup (xs := gs.map V.str) (Cm.imp (e_var (v := V.ref t) 1) fun v H' e z => ⟨t, z, hq H' e⟩)) (pg_name (i := 2) scWo.nd rfl (.inl rfl)) fun H1 Hc1 g1 => ?_
  refine ⟨fun i σ1 H4 Hc4 => ∃ u, σ1 = [some (.ref x.a), some (.ref t), u, none, none, none] ∧ Grow H Hc H4 Hc4, ⟨none, rfl, g1⟩, ?_, ?_⟩
  · rintro i σ1 H4 Hc4 hi e4 s4 ⟨u, rfl, g4⟩ y H5 Hc5 g5 py
    obtain ⟨g, hgi, rfl⟩ := txt_get py.now
    refine b_expr g5.s (e_callD (x, g) FN (hr.mono (by decide)) (a_consD (e_var 0) (a_consD (e_var (v := V.str g) 2) a_nil)) fun H' e => ⟨rfl, ⟨hX.1.ex ((g4.k.trans g5.k).trans e), nt⟩, hg g (List.mem_of_getElem? hgi)⟩) fun _ H6 Hc6 g6 _ => b_nil ?_
    exact ⟨H6, (e4.trans g5.k).trans g6.k, g6.s, _, rfl, (g4.trans g5).trans g6⟩
  rintro σ1 H4 Hc4 e4 s4 ⟨u, rfl, g4⟩
  have eA := g4.k
  refine b_set 3 g4.s (P := nl ((lessN x.ns gs).map V.str)) (e_lc (own := [("node", 2)]) (g := gName 2) rfl scWo.nd (pi_list pe_w) (blkOk_by (N := nWo) (sc := defScope sWithout) (by decide +kernel)) (fun _ _ _ _ _ => pg_name (i := 2) scWo.nd rfl (.inl rfl)) (fun s H C cl fp => pts_one (pt_b s H C cl fp))
    (c_lc (i_list (xs := x.ns.map V.str) (Cm.imp (e_fld (v := V.ref l1) F.cls F.n1 (e_var 0) (.at (eA _ _ h1)) rfl) fun v H' e z => ⟨l1, z, SqL.of (e _ _ (eA _ _ h2))⟩)) (by rw [List.length_map]; omega) (fun i acc _ => acc = (lessN (x.ns.take i) gs).map V.str) (fun _ => rfl) (fun i v acc H9 hi e9 py pacc => ?_) fun acc q H9 e9 pacc hq => ?_)) (fun v H2 Hc2 g2 p2 => ?_) scWo.nd (hx := .inr rfl)
  · obtain ⟨c, hc, rfl⟩ := txt_get py.now
    have ea : acc = (lessN (x.ns.take i) gs).map V.str := pacc.now
    refine ⟨_, !decide (c ∈ gs), bind_name, rfl, c_tb fun s0 H00 C0 cl fp => t_cmpD op_notIn_seq (by rfl) (e_var (v := V.str c) 2) (e_var 1) (r_ninS fun H' e => .inr (hq H' ((eA.trans e9).trans e))), fun k => c_eb fun s0 H00 C0 cl fp => ?_, fun k => .const ?_⟩
    · refine Cm.imp (e_var (v := V.str c) 2) fun v H' _ z => ?_
      unfold lessN at ea ⊢
      rw [ea, show v = V.str c from z, take_snoc hc, List.filter_append, List.map_append, List.filter_cons_of_pos (by exact k), List.filter_nil] <;> rfl
    · unfold lessN at ea ⊢
      rw [ea, take_snoc hc, List.filter_append, List.filter_cons_of_neg (by rw [k]; exact Bool.false_ne_true), List.filter_nil, List.append_nil]
  · have ea : acc = (lessN (x.ns.take (x.ns.map V.str).length) gs).map V.str := pacc.now
    rw [List.length_map, List.take_length] at ea
    subst ea
    exact fun H' e' => ⟨q, rfl, e' _ _ hq⟩
  obtain ⟨b, rfl, hb⟩ := p2.now
  have e2 := eA.trans g2.k
  refine b_ifF g2.s (t_is (t_cmpD op_eq (by rfl) (e_len (xs := (lessN x.ns gs).map V.str) B.len (e_var (v := V.ref b) 3) (fun H' e => .inl (SqL.of (e _ _ hb)))) e_int (r_eq (x := V.int (((lessN x.ns gs).map V.str).length : Int)) (y := V.int 0) rfl)) (decide_eq_false fun z => ?_)) fun H3 Hc3 g3 => b_nil ?_
  · have z' := V.int.inj z
    rw [List.length_map] at z'
    exact hne (List.eq_nil_of_length_eq_zero (by omega))
  have e3 := e2.trans g3.k
  have hb3 := g3.k _ _ hb
  have nt2 := less_nt (gs := gs) nt hne
  refine b_ret (P := RWo C (x, gs)) g3.s (e_make M.cl F.mgN M.init hr (a_cons (P := is (V.ref b)) (e_var 3) (a_cons (P := RPs (lessL x.ls (lessN x.ns gs))) (e_lc (own := [("one", 4), ("other", 5)]) (g := gTup K 2 (gCons (gName 4) (gCons (gName 5) gNil))) rfl scWo.nd (pi_list pe_w) (blkOk_by (N := nWo) (sc := defScope sWithout) (by decide +kernel)) (fun _ _ _ _ _ => pg_tup rfl (pgs_cons (pg_name (i := 4) scWo.nd rfl (.inl rfl)) (pgs_cons (pg_name (i := 5) scWo.nd rfl (.inl rfl)) pgs_nil))) (fun s H C cl fp => pts_one (pt_b s H C cl fp))
    (c_lc (i_list (xs := ts.map V.ref) (Cm.imp (e_fld (v := V.ref l2) F.cls F.n2 (e_var 0) (.at (e3 _ _ h1)) rfl) fun v H' e z => ⟨l2, z, SqL.of (e _ _ (e3 _ _ h3))⟩)) (by rw [List.length_map]; omega) (fun i acc H' => ∃ os, acc = os.map V.ref ∧ TsAt H' os (lessL (x.ls.take i) (lessN x.ns gs))) (fun _ => ⟨[], rfl, .nil⟩) (fun i v acc H9 hi e9 py pacc => ?_) fun acc q H9 e9 pacc hq => ?_)) a_nil)) fun vs H4 e4 p4 => ?_) fun v Hn H5 g p => rt v _ _ (((g4.trans g2).trans g3).trans g) p
  · obtain ⟨d, r, rfl, hd, hr2, hH⟩ := ts_get h4 py.now
    have eH : Ex H H9 := e3.trans e9
    have lf : ∀ {H'}, Ex H9 H' → SqL K H' b ((lessN x.ns gs).map V.str) := fun e => SqL.of (e _ _ (e9 _ _ hb3))
    refine ⟨_, decide (r.1 ∈ lessN x.ns gs) && decide (r.2 ∈ lessN x.ns gs), bind_two (K := K) (.sqt (SqT.of (eH _ _ hH))), rfl, c_tb fun s0 H00 C0 cl fp => t_w (w_and (t_inS (e_var (v := V.str r.1) 4) (e_var 3) (fun H' e => .inl (lf e))) fun _ => w_and1 (t_inS (e_var (v := V.str r.2) 5) (e_var 3) (fun H' e => .inl (lf e)))), fun k => c_eb fun s0 H00 C0 cl fp => ?_, fun k => ?_⟩
    · refine Cm.imp (e_tup (P := pr r) (a_consD (v := V.str r.1) (e_var 4) (a_consD (v := V.str r.2) (e_var 5) a_nil)) (fun xs _ z => by rw [show xs = _ from z]; exact (by decide : 2 ≤ 100000)) fun xs p H1 e1 z hp => ?_) fun v H' e z => ?_
      · rw [show xs = _ from z.now] at hp
        exact fun H' e' => ⟨p, rfl, e' _ _ hp⟩
      · obtain ⟨d2, rfl, hd2⟩ := z
        obtain ⟨os, rfl, ho⟩ := pacc H' e
        refine ⟨os ++ [d2], by rw [List.map_append] <;> rfl, ?_⟩
        unfold lessL at ho ⊢
        rw [take_snoc hr2, List.filter_append, List.filter_cons_of_pos (by exact k), List.filter_nil]
        exact ts_snoc hd2 ho
    · refine pacc.imp fun H' e ⟨os, w1, w2⟩ => ⟨os, w1, ?_⟩
      unfold lessL at w2 ⊢
      rw [take_snoc hr2, List.filter_append, List.filter_cons_of_neg (by rw [k]; exact Bool.false_ne_true), List.filter_nil, List.append_nil]
      exact w2
  · obtain ⟨os, rfl, ho⟩ := pacc.now
    rw [List.length_map, l4, List.take_length] at ho
    exact fun H' e' => ⟨q, os, rfl, e' _ _ hq, paired_ex e' ho⟩
  · obtain ⟨_, _, rfl, rfl, _, _, rfl, ⟨d2, os, rfl, hd2, ho⟩, rfl⟩ := p4.now
    have idl := hu_nt nt2
    refine ⟨⟨true, lessN x.ns gs, true, lessL x.ls (lessN x.ns gs)⟩, fun H' e => ⟨b, d2, os, rfl, SqL.of (e _ _ (e4 _ _ hb3)), SqL.of (e _ _ hd2), paired_ex e ho, ⟨⟨nt2.len, nt2.ne, nt2.nd, nt2.nm⟩, ⟨nt2.ll, fun q hq => ⟨nt2.nm _ (nt2.lk q hq).1, nt2.nm _ (nt2.lk q hq).2.1, nt2.hne q hq⟩, by rw [idl]; exact nt2.nl, fun q hq => ⟨(nt2.lk q hq).1, (nt2.lk q hq).2.1⟩⟩⟩⟩, fun v H' e z => ?_⟩
    obtain ⟨a, ns2, ls2, rfl, hN, q1, q2, nt3⟩ := z
    have q2 : ls2.Perm ((lessL x.ls (lessN x.ns gs)).map lk) := q2
    rw [idl] at q2
    have c1 : ns2 = _ := sortN_uniq nt3.sn nt2.sn q1
    have c2 : ls2 = _ := sortP_uniq nt3.sp nt2.sp q2
    subst c1 c2
    exact ⟨a, rfl, hN, nt2⟩
end
end K19
set_option Elab.async false
set_option linter.all false
set_option maxRecDepth 100000
set_option maxHeartbeats 2000000
/-! f'..{e!r}..'; repr(o) by the class's __repr__ -/
namespace LW
open PySem PySem.Spec PyProof.Rows L2
section
variable {X : Cx}
def tFmtR (X : Cx) (te : TE) : TE := fun σ H Q => te σ H fun x H1 => ∃ a d, x = .ref a ∧ Dv X.K H1 (.ref a) d ∧ Shw d ∧ Q (.str d.shown) H1
theorem pe_fmtR {e : Expr} {te : TE} {pos : Pos} (hg : X.A.guards = some []) (hu : X.A.units + 64 < cLine) (h : PE X e te) : PE X (.FormattedValue e 114 none pos) (tFmtR X te) := by
  refine ⟨fun pins s σ H Q I q => wpAny_FormattedValue_repr (wpAny_mono (h.run pins s σ H _ I q) (fun v s1 z => ?_) fun _ _ z => z)⟩
  obtain ⟨x, H1, I1, rx, a, d, rfl, hd, w, q1⟩ := z
  cases (show v = Value.ref a from rx)
  obtain ⟨as, rd⟩ := hd.reads I1 (show RelV (V.ref a) (Value.ref a) from rfl)
  exact pyReprObj_of_reads rd w.ok (PyData.noDict_hsm w.flat) hg (by have := w.deep; omega) (fun _ _ e => e) (fun h' u tk hk => formatField_str (fun t' tk' => ⟨.str d.shown, H1, I1.kept (t' := tk') hk, ⟨t', rfl⟩, q1⟩) w.len) w.len
end
section
variable {X : Cx} {σ : L2.St} {H : Hp} {a b : Expr} {p1 p2 p3 p4 p5 pos : Pos} {k1 k2 k3 : Nat} {d1 d2 : PyData} {s1 s2 s3 : Str}
/-- f'..{a!r}..{b!r}..' -/
theorem e_fRR (hg : X.A.guards = some []) (hu : X.A.units + 64 < cLine) (ha : Cm H (fun v H' => ∃ r, v = .ref r ∧ Dv X.K H' (.ref r) d1) (wE X a σ)) (hb : Cm H (fun v H' => ∃ r, v = .ref r ∧ Dv X.K H' (.ref r) d2) (wE X b σ)) (w1 : ShN 40 1000000 d1) (w2 : ShN 40 1000000 d2) (hz : s1.length ≤ 100 ∧ s2.length ≤ 100 ∧ s3.length ≤ 100) :
    Cm H (is (V.str (s1 ++ d1.shown ++ s2 ++ d2.shown ++ s3))) (wE X (.JoinedStr [.Constant (.str s1) k1 p1, .FormattedValue a 114 none p2, .Constant (.str s2) k2 p3, .FormattedValue b 114 none p4, .Constant (.str s3) k3 p5] pos) σ) := by
  have l1 := w1.len
  have l2 := w2.len
  have e0 : sizeLine = 16777216 := rfl
  refine ce (pe_joined (.cons (pe_w (e := .Constant (.str s1) k1 p1)) (.cons (pe_fmtR hg hu pe_w) (.cons (pe_w (e := .Constant (.str s2) k2 p3)) (.cons (pe_fmtR hg hu pe_w) (.cons (pe_w (e := .Constant (.str s3) k3 p5)) .nil)))))) ?_
  intro Hc ex Q q
  refine (e_str (s := s1)) Hc ex _ fun v Hn H2 g p => ⟨s1, p.now, ?_, ?_⟩
  · rw [str_e]; omega
  rw [str_e]
  refine ha.mono g.k H2 g.s _ fun v Hn2 H3 g2 p => ?_
  obtain ⟨r, rfl, hr⟩ := p H3 g2.s
  refine ⟨r, d1, rfl, hr, w1.shw (Nat.le_refl _) (by decide), d1.shown, rfl, ?_, ?_⟩
  · rw [len_app]; omega
  refine (e_str (s := s2)) H3 ((ex.trans g.c).trans g2.c) _ fun v Hn3 H4 g3 p => ⟨s2, p.now, ?_, ?_⟩
  · rw [len_app, len_app]; omega
  refine hb H4 (((ex.trans g.c).trans g2.c).trans g3.c) _ fun v Hn4 H5 g4 p => ?_
  obtain ⟨r2, rfl, hr2⟩ := p H5 g4.s
  refine ⟨r2, d2, rfl, hr2, w2.shw (Nat.le_refl _) (by decide), d2.shown, rfl, ?_, ?_⟩
  · rw [len_app, len_app, len_app]; omega
  refine (e_str (H := H) (s := s3)) H5 ((((ex.trans g.c).trans g2.c).trans g3.c).trans g4.c) _ fun v Hn5 H6 g5 p => ⟨s3, p.now, ?_, ?_⟩
  · rw [len_app, len_app, len_app, len_app]; omega
  exact q _ H H6 (still (((((ex.trans g.c).trans g2.c).trans g3.c).trans g4.c).trans g5.c) ((((g.c.trans g2.c).trans g3.c).trans g4.c).trans g5.c)) (.const rfl)
end
section
variable {X : Cx} {C f : Addr} {k : Nat} {sp : Sp}
def rOwnRepr (C : Addr) (sp : Sp) : List V → Hp → VK → Prop := fun vs H Q => ∃ a dx fs, vs = [.ref a] ∧ H a = some (.ins C dx fs) ∧ sp [.ref a] H (fun v H' => ∃ z : Str, v = .str z ∧ Q (.str z) H') E0
theorem call_ownRepr (c : HasOp X.K C "__repr__" f) (F : FnG X.prog X.w X.K X.mg X.base k f sp) (hr : RoomG (k + 1) X.A) : CallR X (.builtin "repr") (rOwnRepr C sp) := by
  intro pins s σ H vs us Q I rv h
  obtain ⟨a, dx, fs, rfl, ha, q⟩ := h
  obtain ⟨u, rfl, ru⟩ := vals1 rv
  cases (show u = Value.ref a from ru)
  obtain ⟨ox, od, J⟩ := inst_at I ha
  obtain ⟨mm, Fr⟩ := I.fr
  have hu := hr.r.in1.units
  refine PySem.W.repr_K (by omega) Fr I.ok.mod.kin J c.at_ c.fn (wpAny_call (codeAny_mono (F hr.in1 I.env0.in1 (us := [Value.ref a]) (.cons (show RelV (.ref a) (.ref a) from rfl) .nil) q) fun z s' w => ?_))
  match z, w with
  | .error e, w => exact w.elim
  | .ok (.ret u), w =>
    obtain ⟨v, H', I', rz, z, ez, qz⟩ := I.after w
    subst ez
    obtain ⟨t, rfl⟩ := rz
    exact ⟨.str z, H', I', ⟨t, rfl⟩, qz⟩
  | .ok .next, w => exact w.elim
  | .ok .brk, w => exact w.elim
  | .ok .cont, w => exact w.elim
end
end LW
set_option Elab.async false
set_option linter.all false
set_option maxRecDepth 100000
set_option maxHeartbeats 2000000
namespace K19
open PySem L2 LW
abbrev sRepr : Stmt := inClass sNet 24
theorem dvs_txts {K : PySem.W.Frag} {H : Hp} : ∀ xs : List Str, Dvs K H (xs.map V.str) (xs.map PyData.str)
  | [] => .nil
  | x :: xs => .cons (.str x) (dvs_txts xs)
theorem dvs_prs {K : PySem.W.Frag} {H : Hp} : ∀ {ts : List Addr} {ps : List (Str × Str)}, TsAt H ts ps → Dvs K H (ts.map V.ref) (ps.map dPr)
  | _, _, .nil => .nil
  | _, _, .cons h r => .cons (.tuple (SqT.of h) (.cons (.str _) (.cons (.str _) .nil))) (dvs_prs r)
theorem nm_cps {x : Str} (h : Nm x) : ∀ c ∈ x.cps.toList, c < 16 ^ 8 := fun c hc => Nat.lt_of_le_of_lt (h.2.2 c hc).2 (by decide)
def dNs (ns : List Str) : PyData := .list (ns.map PyData.str)
def dLs (ls : List (Str × Str)) : PyData := .list (ls.map dPr)
theorem shn_ns {ns : List Str} (h : ∀ x ∈ ns, Nm x) (hl : ns.length ≤ 60) : ShN 1 (60 * 84 + 3) (dNs ns) :=
  shn_list (n := 0) (m := 82) (fun d hd => by obtain ⟨x, hx, rfl⟩ := List.mem_map.mp hd; exact shn_str (m := 8) (nm_cps (h x hx)) (h x hx).2.1) (by rw [List.length_map]; exact hl)
theorem shn_ls {ls : List (Str × Str)} (h : ∀ p ∈ ls, Nm p.1 ∧ Nm p.2) (hl : ls.length ≤ 60) : ShN 2 (60 * (2 * 84 + 3 + 2) + 3) (dLs ls) :=
  shn_list (n := 1) (m := 2 * 84 + 3) (fun d hd => by
    obtain ⟨p, hp, rfl⟩ := List.mem_map.mp hd
    have s : ∀ x, Nm x → ShN 0 82 (.str x) := fun x h => shn_str (m := 8) (nm_cps h) h.2.1
    refine shn_tuple (n := 0) (m := 82) (fun d hd => ?_) (Nat.le_refl _)
    rcases List.mem_cons.mp hd with rfl | hd
    · exact s _ (h p hp).1
    · rw [List.mem_singleton.mp hd]; exact s _ (h p hp).2) (by rw [List.length_map]; exact hl)
/-- the repr of a net -/
def shown (ns : List Str) (ls : List (Str × Str)) : Str := ("Net(" : Str) ++ (dNs ns).shown ++ (", " : Str) ++ (dLs ls).shown ++ (")" : Str)
section
variable {P : Program} {w : World} {K : PySem.W.Frag} {mg : Str → Option Value} {base : Heap} {f fi C : Addr} {fd : FuncData}
def RRepr : NetV → V → Hp → Prop := fun x v _ => v = .str (shown x.ns x.ls)
theorem scRepr : FnScope ["self"] ["self"] (defScope sRepr) := ⟨rfl, rfl, rfl, by decide +kernel, rfl, by decide +kernel, by decide +kernel⟩
theorem b_repr (F : NetF K mg C) : BodyG P w K mg base ["self"] "Net.__repr__" sRepr f 0 (ASelf C) RRepr := by
  intro cdv Ar outer s H0 E x vs H Hc D hr ex pa rt nx
  obtain ⟨rfl, ⟨dx, l1, l2, l3, ts, as, h1, h2, h3, h4, h5⟩, nt⟩ := pa.now
  have nt : Nt x.ns x.ls := nt
  have h4 : TsAt H ts x.ls := h4
  have hu : (fx P w K mg base ["self"] "Net.__repr__" sRepr f cdv Ar outer s H0 E).A.units + 64 < cLine := hr.r.units
  exact b_ret (P := is (V.str (shown x.ns x.ls))) ex (e_fRR (d1 := dNs x.ns) (d2 := dLs x.ls) hr.g hu (Cm.imp (e_fld (v := V.ref l1) F.cls F.n1 (e_var 0) (.at h1) rfl) fun v H' e z => ⟨l1, z, .list (SqL.of (e _ _ h2)) (dvs_txts _)⟩) (Cm.imp (e_fld (v := V.ref l2) F.cls F.n2 (e_var 0) (.at h1) rfl) fun v H' e z => ⟨l2, z, .list (SqL.of (e _ _ h3)) (dvs_prs (paired_ex e h4))⟩)
    ((shn_ns nt.nm nt.len).mono (by decide) (by decide)) ((shn_ls nt.nml nt.ll).mono (by decide) (by decide)) ⟨by decide +kernel, by decide +kernel, by decide +kernel⟩) fun v Hn H2 g p => rt v _ _ g p
/-- repr(net) -/
structure OpG {α : Type} (P : Program) (w : World) (K : PySem.W.Frag) (mg : Str → Option Value) (base : Heap) (C : Addr) (m : Str) (k : Nat) (A : α → List V → Hp → Prop) (R : α → V → Hp → Prop) : Prop where
  ex : ∃ f : Addr, HasOp K C m f ∧ FnG P w K mg base k f (SpF A R)
theorem e_reprO {X : Cx} {σ : L2.St} {H : Hp} {o : Expr} {px pos : Pos} {k : Nat} {C : Addr} {x : NetV} (F : OpG X.prog X.w X.K X.mg X.base C "__repr__" k (ASelf C) RRepr) (hr : RoomG (k + 1) X.A) (hm : X.mg "repr" = none) (ho : Cm H (is (V.ref x.a)) (wE X o σ)) (hA : x.At C H) (hg : Gl X "repr" := by rfl)
    (hs : starEach [o] X.env = (false, eval o X.env) :: starEach [] X.env := by rfl) : Cm H (is (V.str (shown x.ns x.ls))) (wE X (.Call (.Name "repr" px) [o] [] pos) σ) := by
  obtain ⟨f, h, G⟩ := F.ex
  obtain ⟨⟨dx, l1, l2, l3, ts, as, h1, hrest⟩, nt⟩ := id hA
  exact e_bltD (call_ownRepr h G hr) hm (a_consD ho a_nil hs) (fun Hc ex Q q => ⟨x.a, dx, _, rfl, ex _ _ h1, x, H, ex, fun H' e => ⟨rfl, hA.1.ex e, nt⟩, fun v Hn H2 g r => ⟨_, r.now, q _ Hn H2 g (.const rfl)⟩⟩) hg (by decide +kernel) (by decide) (by decide) hs rfl
end
end K19
set_option Elab.async false
set_option linter.all false
set_option maxRecDepth 100000
set_option maxHeartbeats 2000000
namespace K19
open PySem L2 LW
abbrev sLIs : Stmt := top 52
theorem nb_sn {ns : List Str} {ls : List (Str × Str)} (nt : Nt ns ls) (x : Str) : SortN (nb ls x) := by
  unfold nb SortN
  rw [List.pairwise_filterMap]
  have h : ls.Pairwise fun p q => ¬ LtP q p ∧ Lt p.1 p.2 ∧ Lt q.1 q.2 := List.Pairwise.imp_of_mem (fun {p q} hp hq h => ⟨h, (nt.lk p hp).2.2, (nt.lk q hq).2.2⟩) nt.sp
  refine h.imp fun {p q} ⟨h0, lp, lq⟩ b hb b' hb' z => h0 ?_
  by_cases p1 : p.1 = x
  · rw [if_pos p1] at hb
    cases hb
    by_cases q1 : q.1 = x
    · rw [if_pos q1] at hb'
      cases hb'
      exact .inr ⟨q1.trans p1.symm, z⟩
    · rw [if_neg q1] at hb'
      by_cases q2 : q.2 = x
      · rw [if_pos q2] at hb'
        cases hb'
        rw [q2, ← p1] at lq
        exact .inl lq
      · rw [if_neg q2] at hb'; cases hb'
  · rw [if_neg p1] at hb
    by_cases p2 : p.2 = x
    · rw [if_pos p2] at hb
      cases hb
      by_cases q1 : q.1 = x
      · rw [if_pos q1] at hb'
        cases hb'
        rw [p2, ← q1] at lp
        exact absurd z (Lt.as (lp.tr lq))
      · rw [if_neg q1] at hb'
        by_cases q2 : q.2 = x
        · rw [if_pos q2] at hb'
          cases hb'
          exact .inl z
        · rw [if_neg q2] at hb'; cases hb'
    · rw [if_neg p2] at hb; cases hb
/-- what is told of a net -/
noncomputable def dAll (ns : List Str) (ls : List (Str × Str)) : PyData := .list [dNs ns, dLs ls, .int (ls.length : Int), .int (ns.length : Int), .list ((pcs ns ls).map dNs), .str (shown ns ls)]
theorem dvs_ls {K : PySem.W.Frag} {H : Hp} : ∀ {ds : List Addr} {zs : List (List Str)}, LsAt H ds zs → Dvs K H (ds.map V.ref) (zs.map dNs)
  | _, _, .nil => .nil
  | _, _, .cons h r => .cons (.list (SqL.of h) (dvs_txts _)) (dvs_ls r)
theorem shown_cps {d : PyData} {m n : Nat} (h : ShN m n d) : d.shown.length ≤ n := h.len
theorem pc_ok {ns : List Str} {ls : List (Str × Str)} (nt : Nt ns ls) : ∀ z ∈ pcs ns ls, (∀ x ∈ z, Nm x) ∧ z.length ≤ 60 := fun z hz => by
  obtain ⟨x, _, rfl⟩ := List.mem_map.mp hz
  exact ⟨fun y hy => nt.nm y (mem_pcOf.mp hy).1, Nat.le_trans (List.length_filter_le _ _) nt.len⟩
theorem pcs_len {ns : List Str} {ls : List (Str × Str)} (nt : Nt ns ls) : (pcs ns ls).length ≤ 60 := by
  unfold pcs
  rw [List.length_map]
  exact Nat.le_trans (List.length_filter_le _ _) nt.len
/-! lists of lists of names, by == -/
theorem eqv_ls : ∀ zs ys : List (List Str), PyData.eqvAll (zs.map dNs) (ys.map dNs) = decide (zs = ys)
  | [], [] => by simp [PyData.eqvAll]
  | [], _ :: _ => by simp [PyData.eqvAll]
  | _ :: _, [] => by simp [PyData.eqvAll]
  | z :: zs, y :: ys => by
    rw [List.map_cons, List.map_cons, PyData.eqvAll, eqv_ls zs ys]
    unfold dNs
    rw [PyData.eqv, eqv_txts]
    by_cases h : z = y <;> by_cases h2 : zs = ys <;> simp [h, h2]
end K19
set_option Elab.async false
set_option linter.all false
set_option maxRecDepth 100000
set_option maxHeartbeats 2000000
namespace K19
open PySem L2 LW
def small (c : Nat) : Prop := c < 16 ^ 8
def Sm (x : Str) : Prop := ∀ c ∈ x.cps.toList, small c
theorem chr_sm (c : Char) : small c.toNat := by
  have : c.toNat < 1114112 := by
    have h := c.valid
    show c.val.toNat < 1114112
    rcases h with h | ⟨_, h⟩
    · exact Nat.lt_trans h (by decide)
    · exact h
  show c.toNat < 16 ^ 8
  exact Nat.lt_trans this (by decide)
theorem reprChar_sm {q c : Nat} (h : small c) : ∀ d ∈ Builtin.Str.reprChar q c, small d := by
  have s : ∀ n : Nat, n < 200 → small n := fun n hn => Nat.lt_trans hn (by decide)
  have hx : ∀ w, ∀ d ∈ (List.replicate (w - (List.map Char.toNat (Nat.toDigits 16 c)).length) 48 ++ List.map Char.toNat (Nat.toDigits 16 c)), small d := fun w d hd => by
    rcases List.mem_append.mp hd with m | m
    · rw [(List.mem_replicate.mp m).2]; exact s 48 (by decide)
    · obtain ⟨ch, _, rfl⟩ := List.mem_map.mp m
      exact chr_sm ch
  intro d hd
  unfold Builtin.Str.reprChar at hd
  have two : ∀ a b w, a < 200 → b < 200 → d ∈ [a, b] ++ (List.replicate (w - (List.map Char.toNat (Nat.toDigits 16 c)).length) 48 ++ List.map Char.toNat (Nat.toDigits 16 c)) → small d := fun a b w ha hb hd => by
    rcases List.mem_append.mp hd with m | m
    · rcases List.mem_cons.mp m with rfl | m
      · exact s _ ha
      · rw [List.mem_singleton.mp m]; exact s _ hb
    · exact hx w d m
  have pair : ∀ a b, small a → small b → d ∈ [a, b] → small d := fun a b ha hb hd => by
    rcases List.mem_cons.mp hd with rfl | m
    · exact ha
    · rw [List.mem_singleton.mp m]; exact hb
  dsimp only at hd
  split at hd
  · exact pair _ _ (s 92 (by decide)) h hd
  split at hd
  · exact pair _ _ (s 92 (by decide)) (s 110 (by decide)) hd
  split at hd
  · exact pair _ _ (s 92 (by decide)) (s 114 (by decide)) hd
  split at hd
  · exact pair _ _ (s 92 (by decide)) (s 116 (by decide)) hd
  split at hd
  · rw [List.mem_singleton.mp hd]; exact h
  split at hd
  · exact two 92 120 2 (by decide) (by decide) hd
  split at hd
  · exact two 92 117 4 (by decide) (by decide) hd
  · exact two 92 85 8 (by decide) (by decide) hd
theorem sm_app {x y : Str} (h : Sm x) (h2 : Sm y) : Sm (x ++ y) := fun c hc => by
  rw [cps_app] at hc
  exact (List.mem_append.mp hc).elim (h c) (h2 c)
theorem sm_lit {s : String} (h : (Str.ofString s).cps.toList.all (fun c => decide (c < 16 ^ 8)) = true) : Sm (Str.ofString s) := fun c hc => show c < 16 ^ 8 from of_decide_eq_true (List.all_eq_true.mp h c hc)
theorem sm_repr {x : Str} (h : Sm x) : Sm (reprText x) := by
  have q : small (reprQuote x) := by
    unfold reprQuote
    split
    · exact (by decide : 34 < 16 ^ 8)
    · exact (by decide : 39 < 16 ^ 8)
  have go : ∀ (l : List Nat) (acc : Array Nat), (∀ c ∈ l, small c) → (∀ c ∈ acc.toList, small c) → ∀ c ∈ (l.foldl (fun out c => out ++ (Builtin.Str.reprChar (reprQuote x) c).toArray) acc).toList, small c := by
    intro l
    induction l with
    | nil => intro acc _ ha; exact ha
    | cons c r ih =>
      intro acc hl ha
      rw [List.foldl_cons]
      refine ih _ (fun d hd => hl d (List.mem_cons_of_mem _ hd)) fun d hd => ?_
      rw [Array.toList_append] at hd
      rcases List.mem_append.mp hd with m | m
      · exact ha d m
      · exact reprChar_sm (hl c (List.mem_cons_self ..)) d m
  intro c hc
  unfold reprText at hc
  rw [Array.toList_push, ← Array.foldl_toList] at hc
  rcases List.mem_append.mp hc with m | m
  · exact go _ _ h (fun d hd => by rw [List.mem_singleton.mp hd]; exact q) c m
  · rw [List.mem_singleton.mp m]; exact q
theorem sm_from : ∀ (ts : List Str) (i : Nat) (acc : Str), Sm acc → (∀ t ∈ ts, Sm t) → Sm (textFrom i acc ts)
  | [], i, acc, h, _ => by rw [textFrom.eq_1]; exact h
  | t :: ts, i, acc, h, ht => by
    rw [textFrom.eq_2]
    refine sm_from ts _ _ (sm_app (sm_app h ?_) (ht t (List.mem_cons_self ..))) fun u hu => ht u (List.mem_cons_of_mem _ hu)
    split
    · exact sm_lit (by decide +kernel)
    · exact sm_lit (by decide +kernel)
theorem sm_list {ts : List Str} (h : ∀ t ∈ ts, Sm t) : Sm (listText ts) := sm_app (sm_from ts _ _ (sm_lit (by decide +kernel)) h) (sm_lit (by decide +kernel))
theorem sm_two {a b : Str} (h1 : Sm a) (h2 : Sm b) : Sm (tupleText [a, b]) := by
  have e : (Str.ofString ", ").join [a, b] = a ++ Str.ofString ", " ++ b := by first | rfl | simp [Str.join]
  unfold tupleText
  rw [e]
  refine sm_app (sm_app (sm_lit (by decide +kernel)) (sm_app (sm_app h1 (sm_lit (by decide +kernel))) h2)) ?_
  split
  · exact sm_lit (by decide +kernel)
  · exact sm_lit (by decide +kernel)
theorem shownAll_map {ds : List PyData} : ∀ t ∈ PyData.shownAll ds, ∃ d ∈ ds, t = d.shown := by
  induction ds with
  | nil => intro t ht; rw [PyData.shownAll.eq_1] at ht; exact absurd ht List.not_mem_nil
  | cons d r ih =>
    intro t ht
    rw [PyData.shownAll.eq_2] at ht
    rcases List.mem_cons.mp ht with rfl | m
    · exact ⟨d, List.mem_cons_self .., rfl⟩
    · obtain ⟨e, he, z⟩ := ih t m
      exact ⟨e, List.mem_cons_of_mem _ he, z⟩
theorem sm_nm {x : Str} (h : Nm x) : Sm x := fun c hc => nm_cps h c hc
theorem sm_dNs {ns : List Str} (h : ∀ x ∈ ns, Nm x) : Sm (dNs ns).shown := by
  unfold dNs
  rw [PyData.shown.eq_5]
  refine sm_list fun t ht => ?_
  obtain ⟨d, hd, rfl⟩ := shownAll_map t ht
  obtain ⟨x, hx, rfl⟩ := List.mem_map.mp hd
  rw [PyData.shown.eq_4]
  exact sm_repr (sm_nm (h x hx))
theorem sm_dLs {ls : List (Str × Str)} (h : ∀ p ∈ ls, Nm p.1 ∧ Nm p.2) : Sm (dLs ls).shown := by
  unfold dLs
  rw [PyData.shown.eq_5]
  refine sm_list fun t ht => ?_
  obtain ⟨d, hd, rfl⟩ := shownAll_map t ht
  obtain ⟨p, hp, rfl⟩ := List.mem_map.mp hd
  unfold dPr
  rw [PyData.shown.eq_6, PyData.shownAll.eq_2, PyData.shownAll.eq_2, PyData.shownAll.eq_1, PyData.shown.eq_4, PyData.shown.eq_4]
  exact sm_two (sm_repr (sm_nm (h p hp).1)) (sm_repr (sm_nm (h p hp).2))
theorem sm_shown {ns : List Str} {ls : List (Str × Str)} (nt : Nt ns ls) : Sm (shown ns ls) :=
  sm_app (sm_app (sm_app (sm_app (sm_lit (by decide +kernel)) (sm_dNs nt.nm)) (sm_lit (by decide +kernel))) (sm_dLs nt.nml)) (sm_lit (by decide +kernel))
theorem shown_len {ns : List Str} {ls : List (Str × Str)} (nt : Nt ns ls) : (shown ns ls).length ≤ 16000 := by
  have a := (shn_ns nt.nm nt.len).len
  have b := (shn_ls nt.nml nt.ll).len
  have l1 : ("Net(" : Str).length = 4 := by decide +kernel
  have l2 : (", " : Str).length = 2 := by decide +kernel
  have l3 : (")" : Str).length = 1 := by decide +kernel
  unfold shown
  rw [len_app, len_app, len_app, len_app, l1, l2, l3]
  omega
theorem all_shw {ns : List Str} {ls : List (Str × Str)} (nt : Nt ns ls) : Shw (dAll ns ls) := by
  have i : ∀ n : Nat, n ≤ 60 → ShN 0 4 (.int (n : Int)) := fun n hn => shn_int (k := 3) (by decide) (by decide) (by rw [Int.natAbs_natCast]; omega)
  have all : ∀ d ∈ [dNs ns, dLs ls, .int (ls.length : Int), .int (ns.length : Int), .list ((pcs ns ls).map dNs), .str (shown ns ls)], ShN 2 400000 d := fun d hd => by
    simp only [List.mem_cons, List.not_mem_nil, or_false] at hd
    rcases hd with rfl | rfl | rfl | rfl | rfl | rfl
    · exact (shn_ns nt.nm nt.len).mono (by decide) (by decide)
    · exact (shn_ls nt.nml nt.ll).mono (by decide) (by decide)
    · exact (i _ nt.ll).mono (by decide) (by decide)
    · exact (i _ nt.len).mono (by decide) (by decide)
    · refine (shn_list (n := 1) (m := 60 * 84 + 3) (k := 60) (fun d hd => ?_) (by rw [List.length_map]; exact pcs_len nt)).mono (by decide) (by decide)
      obtain ⟨z, hz, rfl⟩ := List.mem_map.mp hd
      exact shn_ns (pc_ok nt z hz).1 (pc_ok nt z hz).2
    · exact (shn_str (m := 16000) (sm_shown nt) (shown_len nt)).mono (by decide) (by decide)
  exact (shn_list (k := 6) all (Nat.le_refl _)).shw (by decide) (by decide)
end K19
set_option Elab.async false
set_option linter.all false
set_option maxRecDepth 100000
set_option maxHeartbeats 2000000
namespace K19
open PySem L2 LW
theorem dp_ls {K : PySem.W.Frag} {H : Hp} : ∀ {ds : List Addr} {zs : List (List Str)}, LsAt H ds zs → DpAll K H (ds.map V.ref) (zs.map dNs)
  | _, _, .nil => .nil
  | _, _, .cons h r => .cons (.lst (SqL.of h) (dp_txts _)) (dp_ls r)
theorem sh_ls {zs : List (List Str)} (h : ∀ z ∈ zs, (∀ x ∈ z, Nm x) ∧ z.length ≤ 60) : SeqAt.shaped (.list (zs.map dNs)) = true := sh_list fun d hd => by
  obtain ⟨z, hz, rfl⟩ := List.mem_map.mp hd
  have a := sh_txts (h z hz).1
  unfold SeqAt.shaped at a
  exact ⟨(Bool.and_eq_true_iff.mp a).1, (shn_ns (h z hz).1 (h z hz).2).deep⟩
section
variable {P : Program} {w : World} {K : PySem.W.Frag} {mg : Str → Option Value} {base : Heap} {f fi C : Addr} {fd : FuncData}
/-- what the law asks of a net -/
structure NetP (P : Program) (w : World) (K : PySem.W.Frag) (mg : Str → Option Value) (base : Heap) (C : Addr) : Prop where
  nodes : Md P w K mg base C "nodes" 1 (ASelf C) RNodes
  links : Md P w K mg base C "links" 1 (ASelf C) RLinks
  size : Pr P w K mg base C "size" 1 (ASelf C) RSize
  len : Opx P w K mg base C "__len__" 1 (ASelf C) RLen
  pieces : Md P w K mg base C "pieces" 3 (ASelf C) RPcs
  nbrs : Md P w K mg base C "neighbours" 5 (ANode C) RNbrs
  repr : OpG P w K mg base C "__repr__" 1 (ASelf C) RRepr
def ALIs (C : Addr) : NetV × Addr → List V → Hp → Prop := fun y vs H => vs = [.ref y.1.a, .ref y.2] ∧ y.1.At C H ∧ MdlAt y.2 y.1.ns y.1.ls H
abbrev nLIs : List Str := ["_law_made", "_law_model", "_law_spots", "_law_pairs", "_law_shown", "_law_told", "_law_spot"]
theorem scLIs : FnScope nLIs ["_law_made", "_law_model"] (defScope sLIs) := ⟨rfl, rfl, rfl, by decide +kernel, rfl, by decide +kernel, by decide +kernel⟩
theorem b_lis (B : Blt K mg) (mr : mg "repr" = none) (F : NetF K mg C) (T : NetTy K C) (N : NetP P w K mg base C) (FP : Fn P w K mg base "_law_pieces" 3 (ALPcs K) RLPcs) (FN : Fn P w K mg base "_law_near" 1 (ALNear K) RLNear) : BodyG P w K mg base nLIs "_law_is" sLIs f 6 (ALIs C) RTrue := by
  intro cdv Ar outer s H0 E y vs H Hc D hr ex pa rt nx
  obtain ⟨x, d⟩ := y
  obtain ⟨rfl, hA, hM⟩ := pa.now
  have hA : x.At C H := hA
  have nt : Nt x.ns x.ls := hA.2
  have hM : MdlAt d x.ns x.ls H := hM
  have ln := nt.len
  have ll := nt.ll
  have pt : ∀ {H'}, Ex H H' → x.At C H' := fun e => ⟨hA.1.ex e, nt⟩
  have hins : ∃ dx fs, H x.a = some (.ins C dx fs) ∧ fs.lookup ("nodes" : Str) = none ∧ fs.lookup ("links" : Str) = none ∧ fs.lookup ("pieces" : Str) = none ∧ fs.lookup ("neighbours" : Str) = none := by
    obtain ⟨dx, l1, l2, l3, _, _, h, _⟩ := hA.1
    exact ⟨dx, _, h, rfl, rfl, rfl, rfl⟩
  obtain ⟨dx, fs, hi, hf1, hf2, hf3, hf4⟩ := hins
  have rr := hr.r
  have hu : (fx P w K mg base nLIs "_law_is" sLIs f cdv Ar outer s H0 E).A.units + 64 < cLine := rr.units
  obtain ⟨a, ha, ca⟩ := e_spots (X := fx P w K mg base nLIs "_law_is" sLIs f cdv Ar outer s H0 E) (x := ⟨d, x.ns, x.ls⟩) (hu_of rr) hM
  obtain ⟨b, ts, hb, hts, cb⟩ := e_pairs (X := fx P w K mg base nLIs "_law_is" sLIs f cdv Ar outer s H0 E) (x := ⟨d, x.ns, x.ls⟩) (hu_of rr) hM
  have ha : H a = some (.lst (x.ns.map V.str)) := ha
  have hts : TsAt H ts x.ls := hts
  have l2 := hts.length
  refine b_asg (P := fun v H' => ∃ t, v = .ref t ∧ SqT K H' t [.ref a, .ref b]) (g := gTup K 2 (gCons (gName 2) (gCons (gName 3) gNil))) ex (e_tup (a_consD (v := V.ref a) (ca _ _ _ _ _ _ (Evl.Ex.refl _) (e_var 1)) (a_consD (v := V.ref b) (cb _ _ _ _ _ _ (Evl.Ex.refl _) (e_var 1)) a_nil)) (fun xs _ z => by rw [show xs = _ from z]; exact (by decide : 2 ≤ 100000)) fun xs q H3 e3 z hq => ?_)
    (pg_tup rfl (pgs_cons (pg_name (i := 2) scLIs.nd rfl (.inl rfl)) (pgs_cons (pg_name (i := 3) scLIs.nd rfl (.inr rfl)) pgs_nil))) fun v H1 Hc1 g1 p1 => ?_
  · rw [show xs = _ from z.now] at hq
    exact fun H' e' => ⟨q, rfl, SqT.of (e' _ _ hq)⟩
  obtain ⟨t, rfl, ht⟩ := p1.now
  refine bind_two (K := K) (.sqt ht) Hc1 g1.s _ ?_
  have e1 := g1.k
  have sA : ∀ {H'}, Ex H1 H' → SqL K H' a (x.ns.map V.str) := fun e => SqL.of (e _ _ (e1 _ _ ha))
  have sB : ∀ {H'}, Ex H1 H' → SqL K H' b (ts.map V.ref) := fun e => SqL.of (e _ _ (e1 _ _ hb))
  have tB : ∀ {H'}, Ex H1 H' → TsAt H' ts x.ls := fun e => paired_ex (e1.trans e) hts
  have wN : ShN 1 (60 * 84 + 3) (dNs x.ns) := shn_ns nt.nm nt.len
  have wL : ShN 2 (60 * (2 * 84 + 3 + 2) + 3) (dLs x.ls) := shn_ls nt.nml nt.ll
  have k1 : ("Net(" : Str).length = 4 := by decide +kernel
  have k2 : (", " : Str).length = 2 := by decide +kernel
  have k3 : (")" : Str).length = 1 := by decide +kernel
  have n1 := wN.len
  have n2 := wL.len
  refine b_set 4 g1.s (P := is (V.str (shown x.ns x.ls))) (e_opD (x := V.str (("Net(" : Str) ++ (dNs x.ns).shown ++ (", " : Str) ++ (dLs x.ls).shown)) (y := V.str ")") op_add_str
    (e_opD (x := V.str (("Net(" : Str) ++ (dNs x.ns).shown ++ (", " : Str))) (y := V.str (dLs x.ls).shown) op_add_str
      (e_opD (x := V.str (("Net(" : Str) ++ (dNs x.ns).shown)) (y := V.str ", ") op_add_str
        (e_opD (x := V.str "Net(") (y := V.str (dNs x.ns).shown) op_add_str e_str (e_repr (d := dNs x.ns) hr.g hu mr (Cm.imp (e_var (v := V.ref a) 2) fun v H' e z => ⟨a, z, .list (sA e) (dvs_txts _)⟩) (wN.shw (by decide) (by decide)))
          (Cm.ret (fun Hc ex Q q => ⟨_, _, rfl, rfl, by rw [k1]; exact Evl.sz_of (by omega), q⟩) (.const rfl)))
        e_str (Cm.ret (fun Hc ex Q q => ⟨_, _, rfl, rfl, by rw [len_app, k1, k2]; exact Evl.sz_of (by omega), q⟩) (.const rfl)))
      (e_repr (d := dLs x.ls) hr.g hu mr (Cm.imp (e_var (v := V.ref b) 3) fun v H' e z => ⟨b, z, .list (sB e) (dvs_prs (tB e))⟩) (wL.shw (by decide) (by decide)))
      (Cm.ret (fun Hc ex Q q => ⟨_, _, rfl, rfl, by rw [len_app, len_app, k1, k2]; exact Evl.sz_of (by omega), q⟩) (.const rfl)))
    e_str (Cm.ret (fun Hc ex Q q => ⟨_, _, rfl, rfl, by rw [len_app, len_app, len_app, k1, k2, k3]; exact Evl.sz_of (by omega), q⟩) (.const rfl))) (fun v H2 Hc2 g2 p2 => ?_) scLIs.nd
  obtain rfl := p2.now
  have e2 := e1.trans g2.k
  have six : ∀ (n : Nat), n = 6 → n ≤ 100000 := fun n h => by omega
  refine b_set 5 g2.s (P := fun v H' => ∃ c, v = .ref c ∧ Dv K H' (.ref c) (dAll x.ns x.ls)) (e_lst (a_cons (e_meth0 x N.nodes F.cls (rr.mono (by decide)) (e_var 0) (.at (e2 _ _ hi)) hf1 (fun H' e => ⟨rfl, pt (e2.trans e)⟩)) (a_cons (e_meth0 x N.links F.cls (rr.mono (by decide)) (e_var 0) (.at (e2 _ _ hi)) hf2 (fun H' e => ⟨rfl, pt (e2.trans e)⟩)) (a_cons (e_prop x N.size F.cls (rr.mono (by decide)) (e_var 0) (.at (e2 _ _ hi)) (fun H' e => ⟨rfl, pt (e2.trans e)⟩))
    (a_cons (e_lenO (y := x) (n := (x.ns.length : Int)) N.len (rr.mono (by decide)) B.len (e_var 0) (.at (e2 _ _ hi)) (fun H' e => ⟨rfl, pt (e2.trans e)⟩) (fun _ _ z => z) ⟨by omega, by omega⟩)
      (a_cons (e_meth0 x N.pieces F.cls (rr.mono (by decide)) (e_var 0) (.at (e2 _ _ hi)) hf3 (fun H' e => ⟨rfl, pt (e2.trans e)⟩)) (a_cons (e_reprO (x := x) N.repr (hr.mono (by decide)) mr (e_var 0) (pt e2)) a_nil)))))) (fun ys _ z => ?_) fun ys p H3 e3 z hp => ?_) (fun v H3 Hc3 g3 p3 => ?_) scLIs.nd
  · obtain ⟨_, _, rfl, _, _, _, rfl, _, _, _, rfl, _, _, _, rfl, _, _, _, rfl, _, _, _, rfl, _, rfl⟩ := z
    exact (by decide : 6 ≤ 100000)
  · obtain ⟨_, _, rfl, ⟨n1, rfl, z1⟩, _, _, rfl, ⟨n2, us, rfl, z2, z3⟩, _, _, rfl, rfl, _, _, rfl, rfl, _, _, rfl, ⟨n5, ds, rfl, z5, z6⟩, _, _, rfl, rfl, rfl⟩ := z.now
    exact fun H' e' => ⟨p, rfl, .list (SqL.of (e' _ _ hp)) (.cons (.list (SqL.of (e' _ _ z1)) (dvs_txts _)) (.cons (.list (SqL.of (e' _ _ z2)) (dvs_prs (paired_ex e' z3))) (.cons (.int _) (.cons (.int _) (.cons (.list (SqL.of (e' _ _ z5)) (dvs_ls (lsAt_ex e' z6))) (.cons (.str _) .nil))))))⟩
  obtain ⟨c, rfl, hd⟩ := p3.now
  have w1 := all_shw nt
  have g23 := g2.k.trans g3.k
  have lenP : (ts.map V.ref).length = x.ls.length := by rw [List.length_map, l2]
  have lenN : (x.ns.map V.str).length = x.ns.length := List.length_map _
  refine b_ifF g3.s (t_is (t_cmpD op_ne (by rfl) (e_repr (d := dAll x.ns x.ls) hr.g hu mr (Cm.imp (e_var (v := V.ref c) 5) fun v H' e z => ⟨c, z, hd.ex e⟩) w1) (e_repr (d := dAll x.ns x.ls) hr.g hu mr (e_lst (a_cons (P := is (V.ref a)) (e_var 2) (a_cons (P := is (V.ref b)) (e_var 3)
    (a_cons (P := is (V.int (x.ls.length : Int))) (t_is (e_len (xs := ts.map V.ref) B.len (e_var (v := V.ref b) 3) (fun H' e => .inl (sB (g23.trans e)))) (by rw [lenP])) (a_cons (P := is (V.int (x.ns.length : Int))) (t_is (e_len (xs := x.ns.map V.str) B.len (e_var (v := V.ref a) 2) (fun H' e => .inl (sA (g23.trans e)))) (by rw [lenN]))
      (a_cons (P := RLPcs (x.ns, x.ls)) (e_callD (x.ns, x.ls) FP (rr.mono (by decide)) (a_consD (v := V.ref a) (e_var 2) (a_consD (v := V.ref b) (e_var 3) a_nil)) fun H' e => ⟨a, b, ts, rfl, sA (g23.trans e), sB (g23.trans e), tB (g23.trans e), nt⟩) (a_cons (P := is (V.str (shown x.ns x.ls))) (e_var 4) a_nil)))))) (fun ys _ z => ?_) fun ys p H4 e4 z hp => ?_) w1) (r_ne (x := V.str (dAll x.ns x.ls).shown) (y := V.str (dAll x.ns x.ls).shown) rfl)) ?_) fun H4 Hc4 g4 => b_nil ?_
  · obtain ⟨_, _, rfl, _, _, _, rfl, _, _, _, rfl, _, _, _, rfl, _, _, _, rfl, _, _, _, rfl, _, rfl⟩ := z
    exact (by decide : 6 ≤ 100000)
  · obtain ⟨_, _, rfl, rfl, _, _, rfl, rfl, _, _, rfl, rfl, _, _, rfl, rfl, _, _, rfl, ⟨n5, ds, rfl, z5, z6⟩, _, _, rfl, rfl, rfl⟩ := z.now
    exact fun H' e' => ⟨p, rfl, .list (SqL.of (e' _ _ hp)) (.cons (.list (sA (g23.trans (e4.trans e'))) (dvs_txts _)) (.cons (.list (sB (g23.trans (e4.trans e'))) (dvs_prs (tB (g23.trans (e4.trans e'))))) (.cons (.int _) (.cons (.int _) (.cons (.list (SqL.of (e' _ _ z5)) (dvs_ls (lsAt_ex e' z6))) (.cons (.str _) .nil))))))⟩
  · simp
  have g14 := g23.trans g4.k
  have e14 := e1.trans g14
  have lsP : ∀ z ∈ x.ns.map (nb x.ls), (∀ t ∈ z, Nm t) ∧ z.length ≤ 60 := fun z hz => by
    obtain ⟨t, _, rfl⟩ := List.mem_map.mp hz
    exact ⟨fun u hu => nt.nm u (nb_in nt hu).1, Nat.le_trans nb_len nt.ll⟩
  refine b_setLc 5 g4.s rfl scLIs.nd rfl rfl rfl (pi_list pe_w) (own := [("_law_spot", 6)]) (g := gName 6) (P := fun v H' => ∃ c ds, v = .ref c ∧ H' c = some (.lst (ds.map V.ref)) ∧ LsAt H' ds (x.ns.map (nb x.ls))) (blkOk_by (N := nLIs) (sc := defScope sLIs) (by decide +kernel)) (fun _ _ _ _ _ => pg_name (i := 6) scLIs.nd rfl (.inl rfl)) (fun _ _ _ _ _ => pts_nil)
    (c_lc (i_list (xs := x.ns.map V.str) (Cm.imp (e_var (v := V.ref a) 2) fun v H' e z => ⟨a, z, sA (g14.trans e)⟩)) (by rw [List.length_map]; omega) (fun i acc H' => ∃ ds, acc = ds.map V.ref ∧ LsAt H' ds ((x.ns.take i).map (nb x.ls))) (fun _ => ⟨[], rfl, .nil⟩) (fun i y acc H5 hj e5 py pacc => ?_) fun acc q H5 e5 pacc hq => ?_) (fun v H5 Hc5 g5 p5 => ?_)
  · obtain ⟨u, hu2, rfl⟩ := txt_get py.now
    have mu := List.mem_of_getElem? hu2
    refine ⟨_, true, bind_name, rfl, c_yes, fun _ => c_eb fun s0 H00 C0 cl fp => ?_, fun q => nomatch q⟩
    refine Cm.imp (e_meth (P := RNbrs (x, u)) N.nbrs F.cls (rr.mono (by decide)) (e_var (v := V.ref x.a) 0) (.at (e5 _ _ (e14 _ _ hi))) hf4 (a_consD (v := V.str u) (e_var 6) a_nil) fun vs H6 e6 p6 => ?_) fun v H' e z => ?_
    · obtain rfl := p6.now
      exact ⟨(x, u), fun H' e => ⟨rfl, pt (((e14.trans e5).trans e6).trans e), mu⟩, fun _ _ _ z => z⟩
    · obtain ⟨d2, rfl, hd2⟩ := z
      obtain ⟨ds, rfl, hds⟩ := pacc H' e
      refine ⟨ds ++ [d2], by rw [List.map_append] <;> rfl, ?_⟩
      rw [take_snoc hu2, List.map_append]
      exact ls_snoc hd2 hds
  · obtain ⟨ds, rfl, hds⟩ := pacc.now
    rw [List.length_map, List.take_length] at hds
    exact fun H' e' => ⟨q, ds, rfl, e' _ _ hq, lsAt_ex e' hds⟩
  obtain ⟨c2, ds2, rfl, hc2, hds2⟩ := p5.now
  have g15 := g14.trans g5.k
  have e15 := e1.trans g15
  refine b_ret (P := is (V.bl true)) g5.s (e_and (k := true) (k' := true) (e_isi (ty := .ref C) (u := .ref C) (c := V.ref C) B.isi (e_var (v := V.ref x.a) 0) (e_glob (v := V.ref C) rfl F.mgN rfl) (fun H' e => .base (.ins (e _ _ (e15 _ _ hi)) F.cls T.ha T.hn T.htk T.hm)) (.own C) T.kit) fun _ => e_one
    (e_cmp (Pa := is (V.ref c2)) (Pb := fun v H' => ∃ c ds, v = .ref c ∧ H' c = some (.lst (ds.map V.ref)) ∧ LsAt H' ds (x.ns.map (nb x.ls))) (op_eqD hu) (by rfl) (e_var 5) (e_lc (own := [("_law_spot", 6)]) (g := gName 6) rfl scLIs.nd (pi_list pe_w) (blkOk_by (N := nLIs) (sc := defScope sLIs) (by decide +kernel)) (fun _ _ _ _ _ => pg_name (i := 6) scLIs.nd rfl (.inl rfl)) (fun _ _ _ _ _ => pts_nil)
      (c_lc (i_list (xs := x.ns.map V.str) (Cm.imp (e_var (v := V.ref a) 2) fun v H' e z => ⟨a, z, sA (g15.trans e)⟩)) (by rw [List.length_map]; omega) (fun i acc H' => ∃ ds, acc = ds.map V.ref ∧ LsAt H' ds ((x.ns.take i).map (nb x.ls))) (fun _ => ⟨[], rfl, .nil⟩) (fun i y acc H6 hj e6 py pacc => ?_) fun acc q H6 e6 pacc hq => ?_)) fun u1 u2 H6 e6 z1 z2 => ?_)) fun v H6 Hc6 g6 q => rt v _ _ (((((g1.trans g2).trans g3).trans g4).trans g5).trans g6) q
  · obtain ⟨u, hu2, rfl⟩ := txt_get py.now
    refine ⟨_, true, bind_name, rfl, c_yes, fun _ => c_eb fun s0 H00 C0 cl fp => ?_, fun q => nomatch q⟩
    refine Cm.imp (e_callD (x.ls, u) FN (rr.mono (by decide)) (a_consD (v := V.ref b) (e_var 3) (a_consD (v := V.str u) (e_var 6) a_nil)) fun H' e => ⟨b, ts, rfl, sB ((g15.trans e6).trans e), tB ((g15.trans e6).trans e), nt.ll, nt.hne⟩) fun v H' e z => ?_
    obtain ⟨d2, ys, rfl, hd2, py2, sy2⟩ := z
    obtain rfl : ys = nb x.ls u := sortN_uniq sy2 (nb_sn nt u) py2
    obtain ⟨ds, rfl, hds⟩ := pacc H' e
    refine ⟨ds ++ [d2], by rw [List.map_append] <;> rfl, ?_⟩
    rw [take_snoc hu2, List.map_append]
    exact ls_snoc hd2 hds
  · obtain ⟨ds, rfl, hds⟩ := pacc.now
    rw [List.length_map, List.take_length] at hds
    exact fun H' e' => ⟨q, ds, rfl, e' _ _ hq, lsAt_ex e' hds⟩
  · obtain rfl := z1.now
    obtain ⟨c3, ds3, rfl, hc3, hds3⟩ := z2.now
    refine Cm.ret (fun Hc ex Q q => ⟨_, _, .lst (SqL.of (ex _ _ (e6 _ _ hc2))) (dp_ls (lsAt_ex (e6.trans ex) hds2)), .lst (SqL.of (ex _ _ hc3)) (dp_ls (lsAt_ex ex hds3)), sh_ls lsP, sh_ls lsP, by rw [PyData.eqv, eqv_ls]; simpa using q⟩) (.const rfl)
end
end K19
set_option Elab.async false
set_option linter.all false
set_option maxRecDepth 100000
set_option maxHeartbeats 2000000
namespace K19
open PySem L2 LW
abbrev sLess : Stmt := top 54
abbrev sLAt : Stmt := top 57
theorem less_same {ns gs : List Str} {ls : List (Str × Str)} (nt : Nt ns ls) : (ls.filter fun q => !decide (q.1 ∈ gs) && !decide (q.2 ∈ gs)) = lessL ls (lessN ns gs) := by
  unfold lessL
  refine List.filter_congr fun q hq => ?_
  have l := nt.lk q hq
  have h : ∀ t, t ∈ ns → decide (t ∈ lessN ns gs) = !decide (t ∈ gs) := fun t ht => by
    unfold lessN
    by_cases g : t ∈ gs <;> simp [g, ht]
  rw [h _ l.1, h _ l.2.1]
section
variable {P : Program} {w : World} {K : PySem.W.Frag} {mg : Str → Option Value} {base : Heap} {f fi C : Addr} {fd : FuncData}
def ALess (K : PySem.W.Frag) : Mdl × List Str → List V → Hp → Prop := fun x vs H => ∃ g, vs = [.ref x.1.d, .ref g] ∧ x.1.At H ∧ SqL K H g (x.2.map V.str)
def RLess : Mdl × List Str → V → Hp → Prop := fun x v H => ∃ d, v = .ref d ∧ MdlAt d (lessN x.1.ns x.2) (lessL x.1.ls (lessN x.1.ns x.2)) H
abbrev nLess : List Str := ["_law_model", "_law_gone", "_law_left", "_law_pair", "_law_spot"]
theorem scLess : FnScope nLess ["_law_model", "_law_gone"] (defScope sLess) := ⟨rfl, rfl, rfl, by decide +kernel, rfl, by decide +kernel, by decide +kernel⟩
theorem b_less : Body P w K mg base nLess "_law_less" sLess f 0 (ALess K) RLess := by
  intro cdv Ar outer s H0 E y vs H Hc D hr ex pa rt nx
  obtain ⟨x, gs⟩ := y
  obtain ⟨g, rfl, hX, hg⟩ := pa.now
  have hM : MdlAt x.d x.ns x.ls H := hX.1
  have nt : Nt x.ns x.ls := hX.2
  have hg : SqL K H g (gs.map V.str) := hg
  have ln := nt.len
  have ll := nt.ll
  obtain ⟨a, ha, ca⟩ := e_spots (X := fx P w K mg base nLess "_law_less" sLess f cdv Ar outer s H0 E) (x := x) (hu_of hr) hM
  obtain ⟨b, ts, hb, hts, cb⟩ := e_pairs (X := fx P w K mg base nLess "_law_less" sLess f cdv Ar outer s H0 E) (x := x) (hu_of hr) hM
  have l2 := hts.length
  refine b_setLc 2 ex rfl scLess.nd rfl rfl rfl (pi_list pe_w) (own := [("_law_pair", 3)]) (g := gName 3) (P := RPs (lessL x.ls (lessN x.ns gs))) (blkOk_by (N := nLess) (sc := defScope sLess) (by decide +kernel)) (fun _ _ _ _ _ => pg_name (i := 3) scLess.nd rfl (.inl rfl)) (fun s H C cl fp => pts_one (pt_b s H C cl fp))
    (c_lc (i_list (xs := ts.map V.ref) (Cm.imp (cb _ _ _ _ _ _ (Evl.Ex.refl _) (e_var 0)) fun v H' e z => ⟨b, z, SqL.of (e _ _ hb)⟩)) (by rw [List.length_map]; omega) (fun i acc H' => ∃ os, acc = os.map V.ref ∧ TsAt H' os ((x.ls.take i).filter fun q => !decide (q.1 ∈ gs) && !decide (q.2 ∈ gs))) (fun _ => ⟨[], rfl, .nil⟩) (fun i v acc H9 hi e9 py pacc => ?_) fun acc q H9 e9 pacc hq => ?_) (fun v H1 Hc1 g1 p1 => ?_)
  · obtain ⟨t, r, rfl, ht, hr2, hH⟩ := ts_get hts py.now
    have tq : Pz H9 (fun H' => SqT K H' t [V.str r.1, V.str r.2]) := .sqt (SqT.of (e9 _ _ hH))
    refine ⟨_, !decide (r.1 ∈ gs) && !decide (r.2 ∈ gs), bind_name, rfl, c_tb fun s0 H00 C0 cl fp => t_w (w_and (t_cmpD op_notIn_seq (by rfl) (e_itemT (j := 0) (v := V.str r.1) (e_var (v := V.ref t) 3) e_int tq rfl) (e_var (v := V.ref g) 1) (r_ninS fun H' e => .inl (Evl.ex_l (e9.trans e) hg))) fun _ => w_and1 (t_cmpD op_notIn_seq (by rfl) (e_itemT (j := 1) (v := V.str r.2) (e_var (v := V.ref t) 3) e_int tq rfl) (e_var (v := V.ref g) 1) (r_ninS fun H' e => .inl (Evl.ex_l (e9.trans e) hg)))), fun k => c_eb fun s0 H00 C0 cl fp => ?_, fun k => ?_⟩
    · refine Cm.imp (e_var (v := V.ref t) 3) fun v H' e z => ?_
      obtain ⟨os, rfl, ho⟩ := pacc H' e
      refine ⟨os ++ [t], by rw [show v = V.ref t from z, List.map_append] <;> rfl, ?_⟩
      rw [take_snoc hr2, List.filter_append, List.filter_cons_of_pos (by exact k), List.filter_nil]
      exact ts_snoc ((e9.trans e) _ _ hH) ho
    · refine pacc.imp fun H' e ⟨os, w1, w2⟩ => ⟨os, w1, ?_⟩
      rw [take_snoc hr2, List.filter_append, List.filter_cons_of_neg (by rw [k]; exact Bool.false_ne_true), List.filter_nil, List.append_nil]
      exact w2
  · obtain ⟨os, rfl, ho⟩ := pacc.now
    rw [List.length_map, l2, List.take_length, less_same nt] at ho
    exact fun H' e' => ⟨q, os, rfl, e' _ _ hq, paired_ex e' ho⟩
  obtain ⟨c, os, rfl, hc, ho⟩ := p1.now
  refine b_ret (P := RLess (x, gs)) g1.s (Cm.imp (e_disp2 (P1 := nl ((lessN x.ns gs).map V.str)) (P2 := is (V.ref c)) (e_lc (own := [("_law_spot", 4)]) (g := gName 4) rfl scLess.nd (pi_list pe_w) (blkOk_by (N := nLess) (sc := defScope sLess) (by decide +kernel)) (fun _ _ _ _ _ => pg_name (i := 4) scLess.nd rfl (.inl rfl)) (fun s H C cl fp => pts_one (pt_b s H C cl fp))
    (c_lc (i_list (xs := x.ns.map V.str) (Cm.imp (ca _ _ _ _ _ _ g1.k (e_var 0)) fun v H' e z => ⟨a, z, SqL.of (e _ _ (g1.k _ _ ha))⟩)) (by rw [List.length_map]; omega) (fun i acc _ => acc = (lessN (x.ns.take i) gs).map V.str) (fun _ => rfl) (fun i v acc H9 hi e9 py pacc => ?_) fun acc q H9 e9 pacc hq => ?_)) (e_var 2)) fun v H' e z => ?_) fun v Hn H2 g p => rt v _ _ (g1.trans g) p
  · obtain ⟨t, ht, rfl⟩ := txt_get py.now
    have ea : acc = (lessN (x.ns.take i) gs).map V.str := pacc.now
    refine ⟨_, !decide (t ∈ gs), bind_name, rfl, c_tb fun s0 H00 C0 cl fp => t_cmpD op_notIn_seq (by rfl) (e_var (v := V.str t) 4) (e_var (v := V.ref g) 1) (r_ninS fun H' e => .inl (Evl.ex_l ((g1.k.trans e9).trans e) hg)), fun k => c_eb fun s0 H00 C0 cl fp => ?_, fun k => .const ?_⟩
    · refine Cm.imp (e_var (v := V.str t) 4) fun v H' _ z => ?_
      unfold lessN at ea ⊢
      rw [ea, show v = V.str t from z, take_snoc ht, List.filter_append, List.map_append, List.filter_cons_of_pos (by exact k), List.filter_nil] <;> rfl
    · unfold lessN at ea ⊢
      rw [ea, take_snoc ht, List.filter_append, List.filter_cons_of_neg (by rw [k]; exact Bool.false_ne_true), List.filter_nil, List.append_nil]
  · have ea : acc = (lessN (x.ns.take (x.ns.map V.str).length) gs).map V.str := pacc.now
    rw [List.length_map, List.take_length] at ea
    subst ea
    exact fun H' e' => ⟨q, rfl, e' _ _ hq⟩
  · obtain ⟨p, v1, v2, rfl, hp, ⟨a1, rfl, ha1⟩, rfl⟩ := z
    exact ⟨p, rfl, a1, c, os, hp, ha1, e _ _ hc, paired_ex e ho⟩
/-! where a node is behind drawing together -/
def ALAt (K : PySem.W.Frag) : Str × (Str × Str) → List V → Hp → Prop := fun x vs H => ∃ t, vs = [.str x.1, .ref t] ∧ SqT K H t [.str x.2.1, .str x.2.2]
def RLAt : Str × (Str × Str) → V → Hp → Prop := fun x v _ => v = .str (fr x.2.1 x.2.2 x.1)
theorem scLAt : FnScope ["_law_spot", "_law_pair"] ["_law_spot", "_law_pair"] (defScope sLAt) := ⟨rfl, rfl, rfl, by decide +kernel, rfl, by decide +kernel, by decide +kernel⟩
theorem b_lat : Body P w K mg base ["_law_spot", "_law_pair"] "_law_at" sLAt f 0 (ALAt K) RLAt := by
  intro cdv Ar outer s H0 E y vs H Hc D hr ex pa rt nx
  obtain ⟨x, p⟩ := y
  obtain ⟨t, rfl, hT⟩ := pa.now
  have hq := Pz.sqt (show SqT K H t [V.str p.1, V.str p.2] from hT)
  refine b_ret (P := RLAt (x, p)) ex (e_if (k := decide (x = p.2)) (t_is (t_cmpD op_eq (by rfl) (e_var (v := V.str x) 0) (e_itemT (j := 1) (v := V.str p.2) (e_var 1) e_int hq rfl) (r_eq (x := V.str x) (y := V.str p.2) rfl)) (by by_cases h : x = p.2 <;> simp [h])) (fun k => ?_) fun k => ?_) fun v Hn H2 g p => rt v _ _ g p
  · refine Cm.imp (e_itemT (j := 0) (v := V.str p.1) (e_var 1) e_int hq rfl) fun v H' _ z => ?_
    have e : fr p.1 p.2 x = p.1 := if_pos (of_decide_eq_true k)
    show v = V.str (fr p.1 p.2 x)
    rw [e]; exact z
  · refine Cm.imp (e_var (v := V.str x) 0) fun v H' _ z => ?_
    have e : fr p.1 p.2 x = x := if_neg (of_decide_eq_false k)
    show v = V.str (fr p.1 p.2 x)
    rw [e]; exact z
end
end K19
set_option Elab.async false
set_option linter.all false
set_option maxRecDepth 100000
set_option maxHeartbeats 2000000
/-! d.get(k, x); xs.count(t) of texts -/
namespace LW
open PySem PySem.Spec PyProof.Rows L2
theorem strs_vals : ∀ {ys : List Str} {us : List Value}, Vals (ys.map V.str) us → StrsAre us ys
  | [], _, .nil => .nil
  | y :: ys, _, .cons h t => by
    obtain ⟨u, rfl⟩ := (show ∃ t, _ = Value.str y t from h)
    exact .cons y u (strs_vals t)
def cntS (k : Str) (ys : List Str) : Int := countIn (.str k) (ys.map PyData.str)
section
variable {X : Cx}
theorem mt_lcountS : MtR X "list.count" (fun x xs H Q => ∃ (p : Addr) (ys : List Str) (k : Str), x = .ref p ∧ xs = [.str k] ∧ SqL X.K H p (ys.map V.str) ∧ Q (.int (cntS k ys)) H) := by
  intro pins s σ H x xs v us Q I rx rv h
  obtain ⟨p, ys, k, rfl, rfl, hs, q⟩ := h
  cases (show v = Value.ref p from rx)
  obtain ⟨u, rfl, ru⟩ := vals1 rv
  obtain ⟨t, rfl⟩ := (show ∃ t, u = Value.str k t from ru)
  obtain ⟨its, rvv, hl, hz⟩ := I.list hs
  exact count_list_strs hl.isList (strs_vals rvv) ⟨.int (cntS k ys), H, I.tok _, ⟨_, rfl⟩, q⟩
end
section
variable {X : Cx} {σ : L2.St} {H : Hp} {o e f : Expr} {apos cpos : Pos} {a : Addr} {ys : List Str} {k : Str} {kvs : List (Key × V)} {key : Key} {v : V}
theorem e_countS (ho : Cm H (is (V.ref a)) (wE X o σ)) (he : Cm H (is (V.str k)) (wE X e σ)) (h : Pz H (fun H' => SqL X.K H' a (ys.map V.str)))
    (hb : attributeBase o "count" X.env (eval o X.env) = eval o X.env := by rfl)
    (h1 : (((((backTo cpos (starEach [e] X.env)).all fun x => !x.fst) && (backToKw cpos (keywordEach [] X.env)).all fun x => x.fst.isSome) && decide (([e] : List Expr).length + ([] : List Nat).length + (if ([] : List Nat).isEmpty = true then 0 else 1) < 30)) = true) := by rfl)
    (h2 : (apos.endLine == cpos.line) = true := by rfl) (h3 : starEach [e] X.env = (false, eval e X.env) :: starEach [] X.env := by rfl) :
    Cm H (is (V.int (cntS k ys))) (wE X (.Call (.Attribute o "count" apos) [e] [] cpos) σ) := by
  refine ce (pe_bm PySem.F.plainAttrs_list PySem.F.slot_list_count PySem.F.type_list_count mt_lcountS pe_w (pa_cons pe_w pa_nil h3) hb h1 h2 h3) ?_
  intro Hc e0 Q q
  refine ho Hc e0 _ fun u Hn H2 g p => ?_
  have q1 : u = .ref a := p.now
  subst q1
  refine ⟨.inl ⟨rfl, _, h H2 (g.k.trans g.s)⟩, he.mono g.k H2 g.s _ fun w Hm H3 g3 p3 => ?_⟩
  have q2 : w = .str k := p3.now
  subst q2
  exact ⟨a, ys, k, rfl, rfl, h H3 (g.k.trans (g3.k.trans g3.s)), q _ Hm H3 (g.trans g3) (.const rfl)⟩
theorem e_get2 (hu : X.A.units + 1 < cLine) (ho : Cm H (is (V.ref a)) (wE X o σ)) (hk : Cm H (is (kV key)) (wE X e σ)) (hf : Cm H (is v) (wE X f σ)) (h : Pz H (fun H' => H' a = some (.dK kvs))) (m : M2 X o "get" apos e f cpos := by exact ⟨rfl, rfl, rfl, rfl⟩) :
    Cm H (is ((valV kvs key).getD v)) (wE X (.Call (.Attribute o "get" apos) [e, f] [] cpos) σ) := by
  refine ce (pe_dget2 hu pe_w pe_w pe_w m) ?_
  intro Hc e0 Q q
  refine ho Hc e0 _ fun u Hn H2 g p => ?_
  have q1 : u = .ref a := p.now
  subst q1
  refine ⟨a, rfl, ?_, hk.mono g.k H2 g.s _ fun w Hm H3 g3 p3 => ?_⟩
  · exact .inl ⟨kvs, .inl (h H2 (g.k.trans g.s))⟩
  have q2 : w = kV key := p3.now
  subst q2
  refine hf.mono (g.k.trans g3.k) H3 g3.s _ fun z Hk H4 g4 p4 => ?_
  have q3 : z = v := p4.now
  subst q3
  exact ⟨_, (pz_dK (key := key) h) H4 (((g.k.trans g3.k).trans g4.k).trans g4.s), q _ Hk H4 ((g.trans g3).trans g4) (.const rfl)⟩
end
end LW
set_option Elab.async false
set_option linter.all false
set_option maxRecDepth 100000
set_option maxHeartbeats 2000000
namespace LW
open PySem L2
theorem e_dc {X : Cx} {kx vx tg iter : Expr} {ifs : List Expr} {scope : Scope} {own : List (Str × Nat)} {pos : Pos} {wi : TI} {g : TG} {tt : TT} {σ : St} {H : Hp} {P : V → Hp → Prop} (hc : X.calm = true) (hN : X.N.Nodup) (hi : PI X tg iter wi) (ok : BlkOk X.N X.env.scope scope own)
    (hg : ∀ (s : Shared) (H : Hp) (C : Addr) (cl : List (Str × Addr)) (fp : List Addr), PG (X.blk s H scope (compEnvC scope cl C X.env) fp) tg g)
    (ht : ∀ (s : Shared) (H : Hp) (C : Addr) (cl : List (Str × Addr)) (fp : List Addr), PTs (X.blk s H scope (compEnvC scope cl C X.env) fp) ifs tt) (h : Cm H P (tDc wi g tt (wEb X scope kx) (wEb X scope vx) (own.map (·.2)) σ))
    (hf : ∀ x, foldedSetIterable iter X.env x = pure x := by intro x; rfl) : Cm H P (wE X (.DictComp kx vx [⟨tg, iter, ifs, 0⟩] scope pos) σ) := ce (pe_dc hc hN hi ok hg ht pe_b pe_b hf) h
end LW
namespace K19
open PySem L2 LW
abbrev sRenamed : Stmt := inClass sNet 16
structure RenIn where
  x : NetV
  kvs : List (Key × V)
  ks : List Str
  ρ : Str → Str
structure RenIn.Ok (r : RenIn) : Prop where
  keys : r.kvs.map (·.1) = r.ks.map Sum.inr
  nd : r.ks.Nodup
  len : r.ks.length ≤ 10
  val : ∀ k ∈ r.ks, k ∈ r.x.ns ∧ valV r.kvs (.inr k) = some (.str (r.ρ k)) ∧ Nm (r.ρ k)
  same : ∀ z ∈ r.x.ns, z ∉ r.ks → r.ρ z = z
  inj : (r.x.ns.map r.ρ).Nodup
def rnL (ρ : Str → Str) (ls : List (Str × Str)) : List (Str × Str) := ls.map fun p => (ρ p.1, ρ p.2)
theorem RenIn.get {r : RenIn} (o : r.Ok) {z : Str} (hz : z ∈ r.x.ns) : (valV r.kvs (.inr z)).getD (.str z) = .str (r.ρ z) := by
  by_cases h : z ∈ r.ks
  · rw [(o.val z h).2.1] <;> rfl
  · rw [valV_none fun m => h (by
      rw [o.keys] at m
      obtain ⟨y, hy, e⟩ := List.mem_map.mp m
      exact Sum.inr.inj e ▸ hy), o.same z hz h] <;> rfl
theorem RenIn.nm {r : RenIn} (o : r.Ok) (nt : Nt r.x.ns r.x.ls) {z : Str} (hz : z ∈ r.x.ns) : Nm (r.ρ z) := by
  by_cases h : z ∈ r.ks
  · exact (o.val z h).2.2
  · rw [o.same z hz h]; exact nt.nm z hz
theorem RenIn.inj' {r : RenIn} (o : r.Ok) {z t : Str} (hz : z ∈ r.x.ns) (ht : t ∈ r.x.ns) (h : r.ρ z = r.ρ t) : z = t := by
  obtain ⟨i, hi⟩ := List.getElem?_of_mem hz
  obtain ⟨j, hj⟩ := List.getElem?_of_mem ht
  have a : (r.x.ns.map r.ρ)[i]? = some (r.ρ z) := by rw [List.getElem?_map, hi] <;> rfl
  have b : (r.x.ns.map r.ρ)[j]? = some (r.ρ z) := by rw [List.getElem?_map, hj, h] <;> rfl
  have e := nd_at o.inj a b
  subst e
  rw [hi] at hj
  exact Option.some.inj hj
theorem same_str (x y : Str) : PySem.Spec.same (.str x) (.str y) = (x == y) := by first | rfl | (unfold PySem.Spec.same; rfl) | (unfold PySem.Spec.same; simp [PyData.eqv])
theorem cnt_cons {k y : Str} {ys : List Str} : cntS k (y :: ys) = (if y = k then 1 else 0) + cntS k ys := by
  unfold cntS
  rw [List.map_cons, PySem.Spec.countIn, same_str]
  by_cases h : y = k
  · subst h; simp
  · have h2 : (y == k) = false := by simpa using h
    simp [h, h2]
theorem cnt_zero {k : Str} : ∀ {ys : List Str}, k ∉ ys → cntS k ys = 0
  | [], _ => by unfold cntS; rw [List.map_nil, PySem.Spec.countIn]
  | y :: ys, h => by
    rw [cnt_cons, if_neg (fun e => h (by rw [e]; exact List.mem_cons_self ..)), cnt_zero fun m => h (List.mem_cons_of_mem _ m)] <;> rfl
theorem cnt_le {k : Str} : ∀ {ys : List Str}, ys.Nodup → cntS k ys ≤ 1
  | [], _ => by rw [cnt_zero List.not_mem_nil]; decide
  | y :: ys, h => by
    have h' := List.nodup_cons.mp h
    rw [cnt_cons]
    by_cases e : y = k
    · rw [if_pos e, cnt_zero (by rw [← e]; exact h'.1)]; decide
    · rw [if_neg e]
      have := cnt_le (k := k) h'.2
      omega
section
variable {P : Program} {w : World} {K : PySem.W.Frag} {mg : Str → Option Value} {base : Heap} {f fi C : Addr} {fd : FuncData}
def ARen (C : Addr) : RenIn → List V → Hp → Prop := fun r vs H => ∃ m, vs = [.ref r.x.a, .ref m] ∧ H m = some (.dK r.kvs) ∧ r.x.At C H ∧ r.Ok
def RRen (C : Addr) : RenIn → V → Hp → Prop := fun r v H => ∃ a ns ls, v = .ref a ∧ NetAt C a ns ls H ∧ Nt ns ls ∧ ns.Perm (r.x.ns.map r.ρ) ∧ ls.Perm ((rnL r.ρ r.x.ls).map lk)
abbrev nRen : List Str := ["self", "names", "node", "fresh", "listed", "name", "one", "other"]
theorem scRen : FnScope nRen ["self", "names"] (defScope sRenamed) := ⟨rfl, rfl, rfl, by decide +kernel, rfl, by decide +kernel, by decide +kernel⟩
theorem b_renamed (B : Blt K mg) (F : NetF K mg C) (M : MkN P w K mg base C fi) (FS : Fn P w K mg base "sorted_names" 1 (ANs K) (RSortN K)) (FN : Fn P w K mg base "need_node" 4 (ANode C) RNon) (FM : Fn P w K mg base "is_name" 1 AName RTrue) : Body P w K mg base nRen "Net.renamed" sRenamed f 6 (ARen C) (RRen C) := by
  intro cdv Ar outer s H0 E r vs H Hc D hr ex pa rt nx
  obtain ⟨m, rfl, hm, hX, o⟩ := pa.now
  have o : r.Ok := o
  obtain ⟨x, kvs, ks, ρ⟩ := r
  have hm : H m = some (.dK kvs) := hm
  have hX : x.At C H := hX
  obtain ⟨⟨dx, l1, l2, l3, ts, as, h1, h2, h3, h4, h5⟩, nt⟩ := id hX
  have h1 : H x.a = some (.ins C dx [("_nodes", .ref l1), ("_links", .ref l2), ("_near", .ref l3)]) := h1
  have h4 : TsAt H ts x.ls := h4
  have nt : Nt x.ns x.ls := nt
  have l4 := h4.length
  have ln := nt.len
  have ll := nt.ll
  have lks : ks.length ≤ 10 := o.len
  have ek : (kvs.map fun kv => kV kv.1) = ks.map V.str := by
    have z := congrArg (List.map kV) o.keys
    rw [List.map_map, List.map_map] at z
    exact z
  obtain ⟨zs, pz, sz⟩ := sortN_ex ks
  obtain ⟨qs, pq, sq⟩ := sortN_ex (x.ns.map ρ)
  have lzs : zs.length ≤ 10 := by rw [pz.length_eq]; exact lks
  have lqs : qs.length = x.ns.length := by rw [pq.length_eq, List.length_map]
  have srt : ∀ (σ : L2.St) (H1 : Hp) (p1 p2 p3 p4 p5 : Pos), Ex H H1 → σ[1]? = some (some (.ref m)) → Cm H1 (fun v H' => ∃ d, v = .ref d ∧ SqL K H' d (zs.map V.str)) (wE (fx P w K mg base nRen "Net.renamed" sRenamed f cdv Ar outer s H0 E) (.Call (.Name "sorted_names" p1) [.Call (.Name "list" p2) [.Name "names" p3] [] p4] [] p5) σ) := fun σ H1 p1 p2 p3 p4 p5 e1 hs => by
    refine Cm.imp (e_call (P := RSortN K (true, ks)) FS (hr.mono (by decide)) (a_cons (P := fun v H' => ∃ p, v = .ref p ∧ SqL K H' p (ks.map V.str)) (e_tyD (call_listD rfl) B.list (a_consD (v := V.ref m) (e_var 1 hs) a_nil) (fun Hc ex Q q => ⟨m, kvs, rfl, .inl (ex _ _ (e1 _ _ hm)), fun p hp => ?_⟩)) a_nil) fun vs H6 e6 p6 => ?_) fun v H' e q => ?_
    · rw [ek]
      exact q _ _ _ (Grow.new ex hp) fun H' e' => ⟨p, rfl, SqL.of (e' _ _ upd_same)⟩
    · obtain ⟨_, _, rfl, ⟨p, rfl, hp⟩, rfl⟩ := p6.now
      exact ⟨(true, ks), fun H' e => ⟨p, rfl, by unfold Sq; rw [if_pos rfl]; exact Evl.ex_l e hp, by show ks.length ≤ 60; omega⟩, fun _ _ _ z => z⟩
    · obtain ⟨a, ys, rfl, ha, py, sy⟩ := q
      obtain rfl : ys = zs := sortN_uniq sy sz (py.trans pz.symm)
      exact ⟨a, rfl, SqL.of ha⟩
  have zk : ∀ z ∈ zs, z ∈ ks := fun z hz => pz.mem_iff.mp hz
  refine b_for (H := H) (g := gName 2) ex PassesOwn.never rfl (pi_list pe_w) (i_list (xs := zs.map V.str) (srt _ _ _ _ _ _ _ (Evl.Ex.refl _) rfl)) (pg_name (i := 2) scRen.nd rfl (.inl rfl)) fun H1 Hc1 g1 => ?_
  refine ⟨fun i σ1 H4 Hc4 => ∃ u, σ1 = [some (.ref x.a), some (.ref m), u, none, none, none, none, none] ∧ Grow H Hc H4 Hc4, ⟨none, rfl, g1⟩, ?_, ?_⟩
  · rintro i σ1 H4 Hc4 hi e4 s4 ⟨u, rfl, g4⟩ y H5 Hc5 g5 py
    obtain ⟨z, hz, rfl⟩ := txt_get py.now
    refine b_expr g5.s (e_callD (x, z) FN (hr.mono (by decide)) (a_consD (e_var 0) (a_consD (e_var (v := V.str z) 2) a_nil)) fun H' e => ⟨rfl, ⟨hX.1.ex ((g4.k.trans g5.k).trans e), nt⟩, (o.val z (zk z (List.mem_of_getElem? hz))).1⟩) fun _ H6 Hc6 g6 _ => b_nil ?_
    exact ⟨H6, (e4.trans g5.k).trans g6.k, g6.s, _, rfl, (g4.trans g5).trans g6⟩
  rintro σ1 H4 Hc4 e4 s4 ⟨u, rfl, g4⟩
  refine b_for (H := H4) (g := gName 2) g4.s PassesOwn.never rfl (pi_list pe_w) (i_list (xs := zs.map V.str) (srt _ _ _ _ _ _ _ g4.k rfl)) (pg_name (i := 2) scRen.nd rfl (.inl rfl)) fun H5 Hc5 g5 => ?_
  refine ⟨fun i σ1 H6 Hc6 => ∃ u, σ1 = [some (.ref x.a), some (.ref m), u, none, none, none, none, none] ∧ Grow H Hc H6 Hc6, ⟨u, rfl, g4.trans g5⟩, ?_, ?_⟩
  · rintro i σ1 H6 Hc6 hi e6 s6 ⟨u, rfl, g6⟩ y H7 Hc7 g7 py
    obtain ⟨z, hz, rfl⟩ := txt_get py.now
    obtain ⟨v1, v2, v3⟩ := o.val z (zk z (List.mem_of_getElem? hz))
    have v2 : valV kvs (.inr z) = some (.str (ρ z)) := v2
    have e7 := g6.k.trans g7.k
    refine b_ifF g7.s (t_not (k := true) (t_val (e_callD (ρ z) FM (hr.mono (by decide)) (a_consD (e_dget (v := V.str (ρ z)) (hu_of hr) (e_var (v := V.ref m) 1) (e_var (v := V.str z) 2) (by have q := pz_dK (key := .inr z) (Pz.at (e7 _ _ hm)); rw [v2] at q; exact q)) a_nil) (.const ⟨rfl, v3⟩)))) fun H8 Hc8 g8 => b_nil (b_nil ?_)
    exact ⟨H8, (e6.trans g7.k).trans g8.k, g8.s, _, rfl, (g6.trans g7).trans g8⟩
  rintro σ1 H6 Hc6 e6 s6 ⟨u, rfl, g6⟩
  have eA := g6.k
  refine b_set 3 g6.s (P := fun v H' => ∃ d fv, v = .ref d ∧ H' d = some (.dK fv) ∧ ∀ z ∈ x.ns, valV fv (.inr z) = some (.str (ρ z))) (e_dc (own := [("node", 2)]) (g := gName 2) (tt := tYes) rfl scRen.nd (pi_list pe_w) (blkOk_by (N := nRen) (sc := defScope sRenamed) (by decide +kernel)) (fun _ _ _ _ _ => pg_name (i := 2) scRen.nd rfl (.inl rfl)) (fun _ _ _ _ _ => pts_nil)
    (c_dc (i_list (xs := x.ns.map V.str) (Cm.imp (e_fld (v := V.ref l1) F.cls F.n1 (e_var 0) (.at (eA _ _ h1)) rfl) fun v H' e z => ⟨l1, z, SqL.of (e _ _ (eA _ _ h2))⟩)) (by rw [List.length_map]; omega) (fun i => .inr (x.ns.getD i Str.empty)) (fun i acc _ => acc.length ≤ i ∧ ∀ j, j < i → valV acc (.inr (x.ns.getD j Str.empty)) = some (.str (ρ (x.ns.getD j Str.empty)))) (fun _ => ⟨Nat.le_refl _, fun j hj => by omega⟩) (fun i y acc H9 hi e9 py pacc => ?_) (fun i acc H9 e9 pacc => pacc.now.1) fun acc q H9 e9 pacc hq => ?_)) (fun v H7 Hc7 g7 p7 => ?_) scRen.nd (hx := .inr rfl)
  · have hi : i < x.ns.length := by simpa using hi
    obtain ⟨z, hz, rfl⟩ := txt_get py.now
    have mz := List.mem_of_getElem? hz
    have ez : x.ns.getD i Str.empty = z := Option.some.inj ((at_getD hi).symm.trans hz)
    obtain ⟨a1, a2⟩ := pacc.now
    refine ⟨_, bind_name, rfl, c_yes, c_eb fun s H0 C cl fp => by rw [ez]; exact e_var 2, c_eb fun s H0 C cl fp => ?_⟩
    refine Cm.imp (e_get2 (key := .inr z) (v := V.str z) (kvs := kvs) (hu_of hr) (e_var (v := V.ref m) 1) (e_var (v := V.str z) 2) (e_var (v := V.str z) 2) (.at (e9 _ _ (eA _ _ hm)))) fun v H' _ q => ?_
    have q : v = V.str (ρ z) := (show v = (valV kvs (.inr z)).getD (.str z) from q).trans (RenIn.get o mz)
    refine ⟨Nat.le_trans (length_putK _ _ _) (by omega), fun j hj => ?_⟩
    rw [valV_put]
    by_cases e : j = i
    · subst e
      rw [if_pos rfl, ez, q]
    · by_cases e2 : x.ns.getD j Str.empty = x.ns.getD i Str.empty
      · rw [e2, if_pos rfl, ez, q]
      · rw [if_neg fun w => e2 (Sum.inr.inj w)]
        exact a2 j (by omega)
  · obtain ⟨a1, a2⟩ := pacc.now
    refine fun H' e => ⟨q, acc, rfl, e _ _ hq, fun z hz => ?_⟩
    obtain ⟨j, hj⟩ := List.getElem?_of_mem hz
    have lj := (List.getElem?_eq_some_iff.mp hj).1
    have ez : x.ns.getD j Str.empty = z := Option.some.inj ((at_getD lj).symm.trans hj)
    have := a2 j (by rw [List.length_map]; exact lj)
    rw [ez] at this
    exact this
  obtain ⟨d, fv, rfl, hd, hfv⟩ := p7.now
  have e7 := eA.trans g7.k
  have get : ∀ {z : Str} {H'}, z ∈ x.ns → Ex H7 H' → Pz H' (fun H'' => DGet H'' d (kV (.inr z)) (some (.str (ρ z)))) := fun {z H'} hz e => by
    have q := pz_dK (key := .inr z) (Pz.at (e _ _ hd))
    rw [hfv z hz] at q
    exact q
  refine b_setLc 4 g7.s rfl scRen.nd rfl rfl rfl (pi_list pe_w) (own := [("node", 2)]) (g := gName 2) (P := nl ((x.ns.map ρ).map V.str)) (blkOk_by (N := nRen) (sc := defScope sRenamed) (by decide +kernel)) (fun _ _ _ _ _ => pg_name (i := 2) scRen.nd rfl (.inl rfl)) (fun _ _ _ _ _ => pts_nil)
    (c_lc (i_list (xs := x.ns.map V.str) (Cm.imp (e_fld (v := V.ref l1) F.cls F.n1 (e_var 0) (.at (e7 _ _ h1)) rfl) fun v H' e z => ⟨l1, z, SqL.of (e _ _ (e7 _ _ h2))⟩)) (by rw [List.length_map]; omega) (fun i acc _ => acc = ((x.ns.take i).map ρ).map V.str) (fun _ => rfl) (fun i v acc H9 hi e9 py pacc => ?_) fun acc q H9 e9 pacc hq => ?_) (fun v H8 Hc8 g8 p8 => ?_)
  · obtain ⟨z, hz, rfl⟩ := txt_get py.now
    have mz := List.mem_of_getElem? hz
    have ea : acc = ((x.ns.take i).map ρ).map V.str := pacc.now
    refine ⟨_, true, bind_name, rfl, c_yes, fun _ => c_eb fun s0 H00 C0 cl fp => ?_, fun q => nomatch q⟩
    refine Cm.imp (e_dget (v := V.str (ρ z)) (hu_of hr) (e_var (v := V.ref d) 3) (e_var (v := V.str z) 2) (get mz e9)) fun v H' _ q => ?_
    rw [ea, show v = V.str (ρ z) from q, take_snoc hz, List.map_append, List.map_append] <;> rfl
  · have ea : acc = ((x.ns.take (x.ns.map V.str).length).map ρ).map V.str := pacc.now
    rw [List.length_map, List.take_length] at ea
    subst ea
    exact fun H' e' => ⟨q, rfl, e' _ _ hq⟩
  obtain ⟨b, rfl, hb⟩ := p8.now
  have e8 := e7.trans g8.k
  have G8 := (g6.trans g7).trans g8
  refine b_for (H := H8) (g := gName 5) g8.s PassesOwn.never rfl (pi_list pe_w) (i_list (xs := qs.map V.str) (Cm.imp (e_callD (true, x.ns.map ρ) FS (hr.mono (by decide)) (a_consD (v := V.ref b) (e_var 4) a_nil) fun H' e => ⟨b, rfl, by unfold Sq; rw [if_pos rfl]; exact SqL.of (e _ _ hb), by show (x.ns.map ρ).length ≤ 60; rw [List.length_map]; exact ln⟩) fun v H' e z => ?_)) (pg_name (i := 5) scRen.nd rfl (.inl rfl)) fun H9 Hc9 g9 => ?_
  · obtain ⟨a, ys, rfl, ha, py, sy⟩ := z
    obtain rfl : ys = qs := sortN_uniq sy sq (py.trans pq.symm)
    exact ⟨a, rfl, SqL.of ha⟩
  refine ⟨fun i σ1 HA HcA => ∃ u2, σ1 = [some (.ref x.a), some (.ref m), u, some (.ref d), some (.ref b), u2, none, none] ∧ Grow H Hc HA HcA, ⟨none, rfl, G8.trans g9⟩, ?_, ?_⟩
  · rintro i σ1 HA HcA hi eA2 sA ⟨u2, rfl, gA⟩ y HB HcB gB py
    obtain ⟨z, hz, rfl⟩ := txt_get py.now
    have hbB := (g9.k.trans (eA2.trans gB.k)) _ _ hb
    refine b_ifF gB.s (t_is (t_cmpD op_gt (by rfl) (e_countS (k := z) (ys := x.ns.map ρ) (e_var (v := V.ref b) 4) (e_var (v := V.str z) 5) fun H' e => SqL.of (e _ _ hbB)) e_int (r_I0 (g := fun i j => V.bl (decide (j < i))) (i := cntS z (x.ns.map ρ)) (j := 1))) (decide_eq_false (by have := cnt_le (k := z) o.inj; have h : cntS z (x.ns.map ρ) ≤ 1 := this; omega))) fun HD HcD gD => b_nil (b_nil ?_)
    exact ⟨HD, (eA2.trans gB.k).trans gD.k, gD.s, _, rfl, (gA.trans gB).trans gD⟩
  rintro σ1 HA HcA eA2 sA ⟨u2, rfl, gA⟩
  have e10 := g9.k.trans eA2
  have eH := gA.k
  have e7A : Ex H7 HA := (g8.k.trans e10)
  have hbA := e10 _ _ hb
  have nds : Nds (x.ns.map ρ) := ⟨by rw [List.length_map]; exact ln, fun e => nt.ne (List.map_eq_nil_iff.mp e), o.inj, fun t ht => by
    obtain ⟨z, hz, rfl⟩ := List.mem_map.mp ht
    exact RenIn.nm o nt hz⟩
  have lkp : ∀ p ∈ x.ls, Lk (ρ p.1, ρ p.2) := fun p hp => by
    have l := nt.lk p hp
    exact ⟨RenIn.nm o nt l.1, RenIn.nm o nt l.2.1, fun e => nt.hne p hp (RenIn.inj' o l.1 l.2.1 e)⟩
  refine b_ret (P := RRen C ⟨x, kvs, ks, ρ⟩) sA (e_make M.cl F.mgN M.init hr (a_cons (P := is (V.ref b)) (e_var 4) (a_cons (P := RPs (rnL ρ x.ls)) (e_lc (own := [("one", 6), ("other", 7)]) (g := gTup K 2 (gCons (gName 6) (gCons (gName 7) gNil))) rfl scRen.nd (pi_list pe_w) (blkOk_by (N := nRen) (sc := defScope sRenamed) (by decide +kernel)) (fun _ _ _ _ _ => pg_tup rfl (pgs_cons (pg_name (i := 6) scRen.nd rfl (.inl rfl)) (pgs_cons (pg_name (i := 7) scRen.nd rfl (.inl rfl)) pgs_nil))) (fun _ _ _ _ _ => pts_nil)
    (c_lc (i_list (xs := ts.map V.ref) (Cm.imp (e_fld (v := V.ref l2) F.cls F.n2 (e_var 0) (.at (eH _ _ h1)) rfl) fun v H' e z => ⟨l2, z, SqL.of (e _ _ (eH _ _ h3))⟩)) (by rw [List.length_map]; omega) (fun i acc H' => ∃ os, acc = os.map V.ref ∧ TsAt H' os (rnL ρ (x.ls.take i))) (fun _ => ⟨[], rfl, .nil⟩) (fun i v acc HB hi eB py pacc => ?_) fun acc q HB eB pacc hq => ?_)) a_nil)) fun vs HB eB pB => ?_) fun v Hn H5 g p => rt v _ _ (gA.trans g) p
  · obtain ⟨t, p, rfl, ht, hp, hH⟩ := ts_get h4 py.now
    have lp := nt.lk p (List.mem_of_getElem? hp)
    refine ⟨_, true, bind_two (K := K) (.sqt (SqT.of ((eH.trans eB) _ _ hH))), rfl, c_yes, fun _ => c_eb fun s0 H00 C0 cl fp => ?_, fun q => nomatch q⟩
    refine Cm.imp (e_tup (P := pr (ρ p.1, ρ p.2)) (a_consD (v := V.str (ρ p.1)) (e_dget (hu_of hr) (e_var (v := V.ref d) 3) (e_var (v := V.str p.1) 6) (get lp.1 (e7A.trans eB))) (a_consD (v := V.str (ρ p.2)) (e_dget (hu_of hr) (e_var (v := V.ref d) 3) (e_var (v := V.str p.2) 7) (get lp.2.1 (e7A.trans eB))) a_nil)) (fun xs _ z => by rw [show xs = _ from z]; exact (by decide : 2 ≤ 100000)) fun xs p H1 e1 z hp => ?_) fun v H' e z => ?_
    · rw [show xs = _ from z.now] at hp
      exact fun H' e' => ⟨p, rfl, e' _ _ hp⟩
    · obtain ⟨d2, rfl, hd2⟩ := z
      obtain ⟨os, rfl, ho⟩ := pacc H' e
      refine ⟨os ++ [d2], by rw [List.map_append] <;> rfl, ?_⟩
      unfold rnL at ho ⊢
      rw [take_snoc hp, List.map_append]
      exact ts_snoc hd2 ho
  · obtain ⟨os, rfl, ho⟩ := pacc.now
    rw [List.length_map, l4, List.take_length] at ho
    exact fun H' e' => ⟨q, os, rfl, e' _ _ hq, paired_ex e' ho⟩
  · obtain ⟨_, _, rfl, rfl, _, _, rfl, ⟨d2, os, rfl, hd2, ho⟩, rfl⟩ := pB.now
    refine ⟨⟨true, x.ns.map ρ, true, rnL ρ x.ls⟩, fun H' e => ⟨b, d2, os, rfl, SqL.of (e _ _ (eB _ _ hbA)), SqL.of (e _ _ hd2), paired_ex e ho, ⟨nds, ⟨by show (rnL ρ x.ls).length ≤ 60; unfold rnL; rw [List.length_map]; exact ll, fun q hq => ?_, ?_, fun q hq => ?_⟩⟩⟩, fun v H' e z => ?_⟩
    · obtain ⟨p, hp, rfl⟩ := List.mem_map.mp hq
      exact lkp p hp
    · show ((rnL ρ x.ls).map lk).Nodup
      unfold rnL
      rw [List.map_map]
      refine List.pairwise_map.mpr (List.Pairwise.imp_of_mem (fun {p q} hp hq ne e => ne ?_) nt.nl)
      have lp := nt.lk p hp
      have lq := nt.lk q hq
      rcases lk_eq (p := (ρ p.1, ρ p.2)) (q := (ρ q.1, ρ q.2)) e with ⟨a1, a2⟩ | ⟨a1, a2⟩
      · exact Prod.ext (RenIn.inj' o lp.1 lq.1 a1) (RenIn.inj' o lp.2.1 lq.2.1 a2)
      · have b1 : p.1 = q.2 := RenIn.inj' o lp.1 lq.2.1 a1
        have b2 : p.2 = q.1 := RenIn.inj' o lp.2.1 lq.1 a2
        have l1 := lp.2.2
        rw [b1, b2] at l1
        exact absurd l1 (Lt.as lq.2.2)
    · obtain ⟨p, hp, rfl⟩ := List.mem_map.mp hq
      have lp := nt.lk p hp
      exact ⟨List.mem_map.mpr ⟨_, lp.1, rfl⟩, List.mem_map.mpr ⟨_, lp.2.1, rfl⟩⟩
    · obtain ⟨a, ns2, ls2, rfl, hN, q1, q2, nt2⟩ := z
      exact ⟨a, ns2, ls2, rfl, hN, nt2, q1, q2⟩
end
end K19
set_option Elab.async false
set_option linter.all false
set_option maxRecDepth 100000
set_option maxHeartbeats 2000000
/-! o.m(..), m a method with a star -/
namespace LW
open PySem L2
/-- the method m of the class at C, n ahead of its star, keeps it -/
structure MdS {α : Type} (P : Program) (w : World) (K : PySem.W.Frag) (mg : Str → Option Value) (base : Heap) (C : Addr) (m : Str) (n k : Nat) (A : α → List V → Hp → Prop) (R : α → V → Hp → Prop) : Prop where
  ex : ∃ f : Addr, Meth K C m f ∧ FnR P w K mg base CX0 k f (StarSp n (SpF A R))
section
variable {α : Type} {A : α → List V → Hp → Prop} {R : α → V → Hp → Prop} {X : Cx} {σ : St} {H : Hp} {P : V → Hp → Prop} {k n : Nat} {m : Str} {C : Addr} {e o : Expr} {es : List Expr} {pos apos : Pos} {x : α} {Pa : List V → Hp → Prop} {a dx : Addr} {fs : List (Str × V)}
theorem e_methS (F : MdS X.prog X.w X.K X.mg X.base C m 1 k A R) (c : Cls X.K C) (hr : Room k X.A) (ho : Cm H (is (V.ref a)) (wE X o σ)) (hi : Pz H (fun H' => H' a = some (.ins C dx fs))) (hl : fs.lookup m = none) (ha : Cm H Pa (wA X (e :: es) σ))
    (hp : ∀ vs H1, Ex H H1 → Pz H1 (Pa vs) → ∃ x, vs.length ≤ 100000 ∧ (∀ p H2, Ex H1 H2 → H2 p = some (.tup vs) → Pz H2 (A x [.ref a, .ref p])) ∧ ∀ v H2, Ex H1 H2 → R x v H2 → P v H2) {pl : Sem Bool}
    (hs : starEach (e :: es) X.env = (false, eval e X.env) :: starEach es X.env := by rfl) (hpl : (backTo pos (starEach es X.env)).any (·.1) = false := by rfl)
    (ht : eval (.Call (.Attribute o m apos) (e :: es) [] pos) X.env = (eval o X.env >>= fun ov => standAt apos.atName >>= fun _ => holding [ov] (getMethod ov m pl) >>= fun fx =>
      callWith pos fx.1 fx.2 (backTo pos (starEach (e :: es) X.env)) (backToKw pos (keywordEach [] X.env))) := by rfl) : Cm H P (wE X (.Call (.Attribute o m apos) (e :: es) [] pos) σ) := by
  obtain ⟨f, hm, G⟩ := F.ex
  refine ce (pe_methR (pl := pl) pe_w c hm G hr pass0 pa_w hs hpl ht) (cm1D (u := fun (x : V) (Hc : Hp) (Q : VK) => ∃ a dx fs, x = V.ref a ∧ Hc a = some (.ins C dx fs) ∧ fs.lookup m = none ∧ wA X (e :: es) σ Hc fun vs H2 => StarSp 1 (SpF A R) (x :: vs) H2 Q E0) ho ?_)
  refine fun Hc ex Q q => ⟨a, dx, fs, rfl, hi Hc ex, hl, ha Hc ex _ fun vs Hn H2 g p => ?_⟩
  obtain ⟨x, hz, h1, h2⟩ := hp vs Hn g.k p
  exact c_star (A := A) (R := R) (x := x) (ws := [V.ref a]) (rest := vs) rfl hz h1 H2 g.s Q fun v Hn2 H3 g2 r => q v Hn2 H3 (g.trans g2) (r.imp fun H' e' z => h2 v H' (g2.k.trans e') z)
end
end LW
set_option Elab.async false
set_option linter.all false
set_option maxRecDepth 100000
set_option maxHeartbeats 2000000
namespace K19
open PySem L2 LW
abbrev sLWo : Stmt := top 55
section
variable {P : Program} {w : World} {K : PySem.W.Frag} {mg : Str → Option Value} {base : Heap} {f fi C : Addr} {fd : FuncData}
/-- a net and its model -/
def Both (C : Addr) (v : V) (n l : Nat) (H : Hp) : Prop := ∃ t a d ns ls, v = .ref t ∧ H t = some (.tup [.ref a, .ref d]) ∧ NetAt C a ns ls H ∧ MdlAt d ns ls H ∧ Nt ns ls ∧ ns.length ≤ n ∧ ls.length ≤ l
def NetR (C : Addr) (ns : List Str) (ls : List (Str × Str)) : V → Hp → Prop := fun v H => ∃ a, v = .ref a ∧ NetAt C a ns ls H
structure StIn where
  p : Addr
  x : NetV
  d : Addr
def ASt (C : Addr) : StIn → List V → Hp → Prop := fun r vs H => vs = [.ref r.p, .ref r.x.a, .ref r.d] ∧ H r.p = some (PotO r.p) ∧ r.x.At C H ∧ MdlAt r.d r.x.ns r.x.ls H ∧ 4 ≤ r.x.ns.length
def RSt (C : Addr) : StIn → V → Hp → Prop := fun r v H => Both C v r.x.ns.length r.x.ls.length H
theorem less_ne {ns gs : List Str} (nd : ns.Nodup) (h : gs.length < ns.length) : lessN ns gs ≠ [] := fun e => by
  have z := nd_len ns gs nd fun y hy => by
    by_cases g : y ∈ gs
    · exact g
    · have m : y ∈ lessN ns gs := List.mem_filter.mpr ⟨hy, by simpa using g⟩
      rw [e] at m
      exact absurd m List.not_mem_nil
  omega
abbrev nLWo : List Str := ["_law_pot_here", "_law_made", "_law_model", "_law_some", "_law_size", "_law_due", "_law_turn"]
theorem scLWo : FnScope nLWo ["_law_pot_here", "_law_made", "_law_model"] (defScope sLWo) := ⟨rfl, rfl, rfl, by decide +kernel, rfl, by decide +kernel, by decide +kernel⟩
theorem b_lwithout (BL : BltL mg) (F : NetF K mg C) (N : MdS P w K mg base C "without" 1 8 (AWo C K) (RWo C)) (FD : Fn P w K mg base "_law_draw" 1 AD RD) (FP : Fn P w K mg base "_law_pick" 2 (APk K) RPk) (FL : Fn P w K mg base "_law_less" 1 (ALess K) RLess) : Body P w K mg base nLWo "_law_without" sLWo f 8 (ASt C) (RSt C) := by
  intro cdv Ar outer s H0 E r vs H Hc D hr ex pa rt nx
  obtain ⟨p, x, d⟩ := r
  obtain ⟨rfl, hp, hX, hM, h4⟩ := pa.now
  have hp : H p = some (PotO p) := hp
  have hX : x.At C H := hX
  have nt : Nt x.ns x.ls := hX.2
  have hM : MdlAt d x.ns x.ls H := hM
  have h4 : 4 ≤ x.ns.length := h4
  have ln := nt.len
  have hu : (fx P w K mg base nLWo "_law_without" sLWo f cdv Ar outer s H0 E).A.units + 64 < cLine := hr.units
  have hins : ∃ dx fs, H x.a = some (.ins C dx fs) ∧ fs.lookup ("without" : Str) = none := by
    obtain ⟨dx, l1, l2, l3, _, _, h, _⟩ := hX.1
    exact ⟨dx, _, h, rfl⟩
  obtain ⟨dx, fs, hi, hf⟩ := hins
  obtain ⟨a, bb, ts, hd0, ha, hbb, hts⟩ := id hM
  have sp : ∀ {H'}, Ex H H' → Pz H' (fun H'' => DGet H'' d (V.str "spots") (some (.ref a))) := fun e => by
    have q := pz_dK (key := .inr "spots") (Pz.at (e _ _ hd0))
    rw [val_spots] at q
    exact q
  have hne : x.ns.map V.str ≠ [] := by simpa using nt.ne
  refine b_setLc 3 ex rfl scLWo.nd rfl rfl rfl (pi_range1 rfl BL.range pa_w) (own := [("_law_turn", 6)]) (g := gName 6) (P := fun v H' => ∃ (b : Addr) (gs : List Str), v = .ref b ∧ H' b = some (.lst (gs.map V.str)) ∧ gs.length = 3 ∧ ∀ g ∈ gs, g ∈ x.ns) (blkOk_by (N := nLWo) (sc := defScope sLWo) (by decide +kernel)) (fun _ _ _ _ _ => pg_name (i := 6) scLWo.nd rfl (.inl rfl)) (fun _ _ _ _ _ => pts_nil)
    (c_lc (i_rng1 (n := 3) (a_consD e_int a_nil) (by decide) (by decide)) (by decide) (fun i acc _ => ∃ gs : List Str, acc = gs.map V.str ∧ gs.length = i ∧ ∀ g ∈ gs, g ∈ x.ns) (fun _ => ⟨[], rfl, rfl, fun g hg => absurd hg List.not_mem_nil⟩) (fun i y acc H9 hi9 e9 py pacc => ?_) fun acc q H9 e9 pacc hq => ?_) (fun v H1 Hc1 g1 p1 => ?_)
  · refine ⟨_, true, bind_name, rfl, c_yes, fun _ => c_eb fun s0 H00 C0 cl fp => ?_, fun q => nomatch q⟩
    refine Cm.imp (e_callD (p, x.ns.map V.str) FP (hr.mono (by decide)) (a_consD (v := V.ref p) (e_var 0) (a_consD (v := V.ref a) (e_dget (hu_of hr) (e_var (v := V.ref d) 2) e_str (sp e9)) a_nil)) fun H' e => ⟨a, rfl, (e9.trans e) _ _ hp, SqL.of ((e9.trans e) _ _ ha), hne, by show (x.ns.map V.str).length ≤ 1000; rw [List.length_map]; omega⟩) fun v H' e z => ?_
    obtain ⟨gs, rfl, hl, hg⟩ := pacc H' e
    obtain ⟨g, hgm, rfl⟩ := List.mem_map.mp (show v ∈ x.ns.map V.str from z)
    refine ⟨gs ++ [g], by rw [List.map_append] <;> rfl, by rw [List.length_append, hl] <;> rfl, fun t ht => ?_⟩
    rcases List.mem_append.mp ht with m | m
    · exact hg t m
    · rw [List.mem_singleton.mp m]; exact hgm
  · obtain ⟨gs, rfl, hl, hg⟩ := pacc.now
    exact fun H' e' => ⟨q, gs, rfl, e' _ _ hq, hl, hg⟩
  obtain ⟨b, gs, rfl, hb, lgs, hgs⟩ := p1.now
  have e1 := g1.k
  refine b_set 4 g1.s (P := fun v _ => ∃ n : Nat, v = V.int (n : Int) ∧ 1 ≤ n ∧ n ≤ 3) (e_op op_add (e_int (i := 1)) (e_callD (p, 3) FD (hr.mono (by decide)) (a_consD (v := V.ref p) (e_var 0) (a_consD e_int a_nil)) fun H' e => ad ((e1.trans e) _ _ hp) (by decide) (by decide)) fun x2 y2 H6 e6 px2 py2 => ?_) (fun v H2 Hc2 g2 p2 => ?_) scLWo.nd
  · obtain rfl : x2 = V.int 1 := px2.now
    obtain ⟨r, rfl, r0, r1⟩ := py2.now
    have r1 : r < 3 := r1
    refine (r_I0 (g := fun i j => V.int (i + j)) (i := 1) (j := r)).imp fun v _ _ z => ⟨(1 + r).toNat, ?_, by omega, by omega⟩
    rw [show v = V.int (1 + r) from z]
    congr 1
    omega
  obtain ⟨n, rfl, n1, n3⟩ := p2.now
  have hb2 := g2.k _ _ hb
  have e2 := e1.trans g2.k
  refine b_set 5 g2.s (P := RLess (⟨d, x.ns, x.ls⟩, gs.take n)) (e_call FL (hr.mono (by decide)) (a_cons (P := is (V.ref d)) (e_var 2) (a_cons (P := nl ((gs.map V.str).take n)) (e_slHi (n := n) (e_var (v := V.ref b) 3) (e_var (v := V.int (n : Int)) 4) (.sql (SqL.of hb2)) (by rw [List.length_map]; omega)) a_nil)) fun vs H3 e3 p3 => ?_) (fun v H3 Hc3 g3 p3 => ?_) scLWo.nd
  · obtain ⟨_, _, rfl, rfl, _, _, rfl, ⟨c, rfl, hc⟩, rfl⟩ := p3.now
    refine ⟨(⟨d, x.ns, x.ls⟩, gs.take n), fun H' e => ⟨c, rfl, ⟨hM.ex ((e2.trans e3).trans e), nt⟩, ?_⟩, fun _ _ _ z => z⟩
    show SqL K H' c ((gs.take n).map V.str)
    rw [List.map_take]
    exact SqL.of (e _ _ hc)
  obtain ⟨d2, rfl, hd2⟩ := p3.now
  have hd2 : MdlAt d2 (lessN x.ns (gs.take n)) (lessL x.ls (lessN x.ns (gs.take n))) H3 := hd2
  have hnn : lessN x.ns (gs.take n) ≠ [] := less_ne nt.nd (by rw [List.length_take]; omega)
  have nt2 := less_nt (gs := gs.take n) nt hnn
  have e3 := e2.trans g3.k
  have hb3 := g3.k _ _ hb2
  obtain ⟨a2, ha2, ca2⟩ := e_spots (X := fx P w K mg base nLWo "_law_without" sLWo f cdv Ar outer s H0 E) (x := ⟨d2, lessN x.ns (gs.take n), lessL x.ls (lessN x.ns (gs.take n))⟩) (hu_of hr) hd2
  have ha2 : H3 a2 = some (.lst ((lessN x.ns (gs.take n)).map V.str)) := ha2
  refine b_ifF g3.s (t_cmp (Pa := is (V.ref a2)) (Pb := nl []) (op_eqD hu) (by rfl) (ca2 _ _ _ _ _ _ (Evl.Ex.refl _) (e_var 5)) (e_lst a_nil (fun xs _ z => by rw [show xs = _ from z]; exact (by decide : 0 ≤ 100000)) fun xs q H9 e9 z hq => ?_) fun u1 u2 H6 e6 z1 z2 => ?_) fun H4 Hc4 g4 => b_nil ?_
  · rw [show xs = _ from z.now] at hq
    exact fun H' e' => ⟨q, rfl, e' _ _ hq⟩
  · obtain rfl := z1.now
    obtain ⟨c, rfl, hc⟩ := z2.now
    refine Cm.ret (fun Hc ex Q q => ⟨_, _, .lst (SqL.of (ex _ _ (e6 _ _ ha2))) (dp_txts _), .lst (SqL.of (ex _ _ hc)) .nil, sh_txts fun t ht => nt2.nm t ht, sh_txts (xs := []) fun t ht => absurd ht List.not_mem_nil, ?_⟩) (.const rfl)
    have z : PyData.eqv (.list ((lessN x.ns (gs.take n)).map PyData.str)) (.list []) = false := by
      rw [PyData.eqv, show ([] : List PyData) = ([] : List Str).map PyData.str from rfl, eqv_txts]
      exact decide_eq_false hnn
    rw [z]; exact q
  have e4 := e3.trans g4.k
  have hb4 := g4.k _ _ hb3
  have G4 := ((g1.trans g2).trans g3).trans g4
  have hd4 := hd2.ex g4.k
  have it : ∀ (σ : L2.St) (H' : Hp) (i : Nat) (p1 p2 p3 : Pos) (j : Nat) (g : Str), Ex H4 H' → σ[3]? = some (some (.ref b)) → gs[i]? = some g → Cm H' (is (V.str g)) (wE (fx P w K mg base nLWo "_law_without" sLWo f cdv Ar outer s H0 E) (.Subscript (.Name "_law_some" p1) (.Constant (.int (i : Int)) j p2) p3) σ) := fun σ H' i p1 p2 p3 j g e hs hg => e_item (j := i) (e_var (v := V.ref b) 3 hs) e_int (fun H2 e2 => SqL.of ((e.trans e2) _ _ hb4)) (by rw [List.getElem?_map, hg] <;> rfl)
  have hgn : ∀ g ∈ gs.take n, g ∈ x.ns := fun g hg => hgs g (List.mem_of_mem_take hg)
  have gen : ∀ (ws : List Str), gs.take n = ws → ∀ H1, Ex H4 H1 → ∃ y : NetV × List Str, (ws.map V.str).length ≤ 100000 ∧ (∀ p H2, Ex H1 H2 → H2 p = some (.tup (ws.map V.str)) → Pz H2 (AWo C K y [.ref x.a, .ref p])) ∧ ∀ v H2, Ex H1 H2 → RWo C y v H2 → ∃ a3, v = .ref a3 ∧ NetAt C a3 (lessN x.ns (gs.take n)) (lessL x.ls (lessN x.ns (gs.take n))) H2 := fun ws hw H1 e1 => by
    subst hw
    refine ⟨(x, gs.take n), by rw [List.length_map, List.length_take]; omega, fun p H2 e2 h H' e => ⟨p, rfl, SqT.of (e _ _ h), ⟨hX.1.ex (((e4.trans e1).trans e2).trans e), nt⟩, hgn, by show (gs.take n).length ≤ 60; rw [List.length_take]; omega, hnn⟩, fun v H2 e2 z => ?_⟩
    obtain ⟨a3, rfl, hN, _⟩ := z
    exact ⟨a3, rfl, hN⟩
  have done_ : ∀ (q : Addr) (a3 : Addr) (H6 : Hp), Ex H4 H6 → H6 q = some (.tup [.ref a3, .ref d2]) → NetAt C a3 (lessN x.ns (gs.take n)) (lessL x.ls (lessN x.ns (gs.take n))) H6 → Pz H6 (RSt C ⟨p, x, d⟩ (.ref q)) := fun q a3 H6 e6 hq hN H' e => ⟨q, a3, d2, _, _, rfl, e _ _ hq, hN.ex e, hd4.ex (e6.trans e), nt2, List.length_filter_le _ _, List.length_filter_le _ _⟩
  obtain ⟨g0, g1', g2', rfl⟩ : ∃ g0 g1 g2, gs = [g0, g1, g2] := by
    match gs, lgs with
    | [a, b, c], _ => exact ⟨a, b, c, rfl⟩
  have two : ∀ (xs : List V) (H' : Hp), xs.length = 2 → xs.length ≤ 100000 := fun xs _ h => by omega
  rcases (by omega : n = 1 ∨ n = 2 ∨ n = 3) with rfl | rfl | rfl
  · refine b_ifT g4.s (t_is (t_cmpD op_eq (by rfl) (e_var (v := V.int ((1 : Nat) : Int)) 4) e_int (r_eq (x := V.int ((1 : Nat) : Int)) (y := V.int 1) rfl)) (by decide)) fun H5 Hc5 g5 => b_ret (P := RSt C ⟨p, x, d⟩) g5.s (e_tup (a_cons (P := NetR C (lessN x.ns ([g0, g1', g2'].take 1)) (lessL x.ls (lessN x.ns ([g0, g1', g2'].take 1)))) (e_methS N F.cls hr (e_var (v := V.ref x.a) 1) (.at ((e4.trans g5.k) _ _ hi)) hf (a_consD (it _ _ 0 _ _ _ _ g0 g5.k rfl rfl) a_nil) fun vs H6 e6 p6 => ?_) (a_consD (v := V.ref d2) (e_var 5) a_nil)) (fun xs _ z => ?_) fun xs q H6 e6 z hq => ?_) fun v Hn H7 g p => rt v _ _ ((G4.trans g5).trans g) p
    · obtain rfl := p6.now
      exact gen [g0] rfl H6 (g5.k.trans e6)
    · obtain ⟨_, _, rfl, _, rfl⟩ := z
      exact (by decide : 2 ≤ 100000)
    · obtain ⟨_, _, rfl, ⟨a3, rfl, hN⟩, rfl⟩ := z.now
      exact done_ q a3 H6 (g5.k.trans e6) hq hN
  · refine b_ifF g4.s (t_is (t_cmpD op_eq (by rfl) (e_var (v := V.int ((2 : Nat) : Int)) 4) e_int (r_eq (x := V.int ((2 : Nat) : Int)) (y := V.int 1) rfl)) (by decide)) fun H5 Hc5 g5 => b_nil (b_ret (P := RSt C ⟨p, x, d⟩) g5.s (e_tup (a_cons (P := NetR C (lessN x.ns ([g0, g1', g2'].take 2)) (lessL x.ls (lessN x.ns ([g0, g1', g2'].take 2)))) (e_if (k := true) (t_is (t_cmpD op_eq (by rfl) (e_var (v := V.int ((2 : Nat) : Int)) 4) e_int (r_eq (x := V.int ((2 : Nat) : Int)) (y := V.int 2) rfl)) (by decide)) (fun _ => e_methS N F.cls hr (e_var (v := V.ref x.a) 1) (.at ((e4.trans g5.k) _ _ hi)) hf (a_consD (it _ _ 0 _ _ _ _ g0 g5.k rfl rfl) (a_consD (it _ _ 1 _ _ _ _ g1' g5.k rfl rfl) a_nil)) fun vs H6 e6 p6 => ?_) fun q => nomatch q) (a_consD (v := V.ref d2) (e_var 5) a_nil)) (fun xs _ z => ?_) fun xs q H6 e6 z hq => ?_) fun v Hn H7 g p => rt v _ _ ((G4.trans g5).trans g) p)
    · obtain rfl := p6.now
      exact gen [g0, g1'] rfl H6 (g5.k.trans e6)
    · obtain ⟨_, _, rfl, _, rfl⟩ := z
      exact (by decide : 2 ≤ 100000)
    · obtain ⟨_, _, rfl, ⟨a3, rfl, hN⟩, rfl⟩ := z.now
      exact done_ q a3 H6 (g5.k.trans e6) hq hN
  · refine b_ifF g4.s (t_is (t_cmpD op_eq (by rfl) (e_var (v := V.int ((3 : Nat) : Int)) 4) e_int (r_eq (x := V.int ((3 : Nat) : Int)) (y := V.int 1) rfl)) (by decide)) fun H5 Hc5 g5 => b_nil (b_ret (P := RSt C ⟨p, x, d⟩) g5.s (e_tup (a_cons (P := NetR C (lessN x.ns ([g0, g1', g2'].take 3)) (lessL x.ls (lessN x.ns ([g0, g1', g2'].take 3)))) (e_if (k := false) (t_is (t_cmpD op_eq (by rfl) (e_var (v := V.int ((3 : Nat) : Int)) 4) e_int (r_eq (x := V.int ((3 : Nat) : Int)) (y := V.int 2) rfl)) (by decide)) (fun q => nomatch q) fun _ => e_methS N F.cls hr (e_var (v := V.ref x.a) 1) (.at ((e4.trans g5.k) _ _ hi)) hf (a_consD (it _ _ 0 _ _ _ _ g0 g5.k rfl rfl) (a_consD (it _ _ 1 _ _ _ _ g1' g5.k rfl rfl) (a_consD (it _ _ 2 _ _ _ _ g2' g5.k rfl rfl) a_nil))) fun vs H6 e6 p6 => ?_) (a_consD (v := V.ref d2) (e_var 5) a_nil)) (fun xs _ z => ?_) fun xs q H6 e6 z hq => ?_) fun v Hn H7 g p => rt v _ _ ((G4.trans g5).trans g) p)
    · obtain rfl := p6.now
      exact gen [g0, g1', g2'] rfl H6 (g5.k.trans e6)
    · obtain ⟨_, _, rfl, _, rfl⟩ := z
      exact (by decide : 2 ≤ 100000)
    · obtain ⟨_, _, rfl, ⟨a3, rfl, hN⟩, rfl⟩ := z.now
      exact done_ q a3 H6 (g5.k.trans e6) hq hN
end
end K19
set_option Elab.async false
set_option linter.all false
set_option maxRecDepth 100000
set_option maxHeartbeats 4000000
/-! sets of tuples, their items of any kind that is told by value -/
namespace LWT
open PySem PySem.Spec PyProof.Rows L2
section
variable {P : Program} {w : World} {A : Around} {E : Value → Shared → Prop} {s : Shared} {κ : Type} [DecidableEq κ]
/-- items that no class statement has made -/
structure Vl (kd : KeyKind P w κ) : Prop where
  cls : ∀ {k : κ} {v : Value}, kd.is k v = true → ∀ n, ofAClassStatement n v = pure false
  val : ∀ {k : κ} {v : Value}, kd.is k v = true → ∀ n, ∃ b, hashByValue n v = pure b
variable {kd : KeyKind P w κ}
theorem each_is {k : List κ} {vs : List Value} (h : ItemsAre kd k vs) : ∀ v ∈ vs, ∃ i, kd.is i v = true := by
  induction h with
  | nil => exact fun v m => absurd m List.not_mem_nil
  | cons h1 _ ih => exact fun v m => (List.mem_cons.mp m).elim (fun e => ⟨_, e ▸ h1⟩) (ih v)
/-- all items of a tuple answer a question alike -/
theorem ask_each {q : Value → Prop} {k : List κ} {c : Addr} (T : IsTupleKey kd s.heap k c) (hq : ∀ {i : κ} {v : Value}, kd.is i v = true → q v) :
    ∃ (items : Array Value) (n : Nat) (o : Obj), s.heap.get? c = some o ∧ o.data = .seq items n ∧ ∀ v ∈ items.toList, q v := by
  obtain ⟨o, items, n, ho, _, hd, hi⟩ := T
  exact ⟨items, n, o, ho, hd, fun v m => let ⟨_, z⟩ := each_is hi v m; hq z⟩
theorem cls_tup (V : Vl kd) {k : List κ} {c : Addr} {Q : Bool → Shared → Prop} (T : IsTupleKey kd s.heap k c) (h : Q false s) : wpAny (model P w) A (ofAClassStatement 8 (.ref c)) Q E s := by
  have ty := T.typeIs
  obtain ⟨items, n, o, ho, hd, all⟩ := ask_each (q := fun v => ofAClassStatement 7 v = pure false) T fun z => V.cls z 7
  unfold ofAClassStatement
  refine wpAny_bind (wpAny_typeOf ty ?_)
  have te : (("tuple" : String) == "tuple") = true := by decide
  simp only [te, if_true, Bool.not_true, Bool.false_eq_true, if_false]
  try refine wpAny_bind (wpAny_pure ?_)
  try simp only [Bool.not_true, Bool.false_eq_true, if_false]
  refine wpAny_bind (m := seqItems? (.ref c)) (wpAny_seqItems ho hd ?_)
  dsimp only
  refine wpAny_bind ?_
  show wpAny _ _ (forIn items _ _) _ _ s
  rw [← Array.forIn_toList]
  refine wpAny_forIn_list _ (fun left r s2 => r.1 = none ∧ s2 = s ∧ ∀ v ∈ left, ofAClassStatement 7 v = pure false) _ ?_ ?_ _ _ ⟨rfl, rfl, all⟩
  · rintro v left r s2 ⟨_, rfl, rest⟩
    rw [rest v (List.mem_cons_self ..)]
    refine wpAny_bind (wpAny_pure ?_)
    simp only [Bool.false_eq_true, if_false]
    exact wpAny_pure ⟨rfl, rfl, fun u m => rest u (List.mem_cons_of_mem _ m)⟩
  · rintro ⟨x, y⟩ s2 ⟨e, rfl, _⟩
    obtain rfl : x = none := e
    exact wpAny_pure h
theorem val_tup (V : Vl kd) {k : List κ} {c : Addr} {Q : Bool → Shared → Prop} (T : IsTupleKey kd s.heap k c) (h : ∀ b, Q b s) : wpAny (model P w) A (hashByValue 8 (.ref c)) Q E s := by
  have ty := T.typeIs
  obtain ⟨items, n, o, ho, hd, all⟩ := ask_each (q := fun v => ∃ b, hashByValue 7 v = pure b) T fun z => V.val z 7
  unfold hashByValue
  refine wpAny_bind (wpAny_specialOf ty F.slot_tuple_hash.lookup ?_)
  refine wpAny_bind (m := seqItems? (.ref c)) (wpAny_seqItems ho hd ?_)
  refine wpAny_bind ?_
  show wpAny _ _ (forIn items _ _) _ _ s
  rw [← Array.forIn_toList]
  refine wpAny_forIn_list _ (fun left r s2 => r.1 = none ∧ s2 = s ∧ ∀ v ∈ left, ∃ b, hashByValue 7 v = pure b) _ ?_ ?_ _ _ ⟨rfl, rfl, all⟩
  · rintro v left r s2 ⟨e, rfl, rest⟩
    obtain ⟨b, hb⟩ := rest v (List.mem_cons_self ..)
    rw [hb]
    refine wpAny_bind (wpAny_pure ?_)
    cases b with
    | true =>
      simp only [Bool.not_true, Bool.false_eq_true, if_false]
      exact wpAny_pure ⟨rfl, rfl, fun u m => rest u (List.mem_cons_of_mem _ m)⟩
    | false =>
      simp only [Bool.not_false, if_true]
      exact wpAny_pure (wpAny_pure (h false))
  · rintro ⟨x, y⟩ s2 ⟨e, rfl, _⟩
    obtain rfl : x = none := e
    exact wpAny_pure (h true)
theorem unseen (V : Vl kd) {k : List κ} {c : Addr} {Q : Bool → Shared → Prop} (T : IsTupleKey kd s.heap k c) {ys : List Value} (hy : ∀ y ∈ ys, ∃ k2 d, y = Value.ref d ∧ IsTupleKey kd s.heap k2 d) (h : Q false s) :
    wpAny (model P w) A (searchCouldBeSeen (.ref c) ys) Q E s := by
  unfold searchCouldBeSeen
  refine wpAny_bind (wpAny_forIn_list _ (fun left r s2 => r.1 = none ∧ s2 = s ∧ ∀ y ∈ left, ∃ k2 d, y = Value.ref d ∧ IsTupleKey kd s.heap k2 d) _ ?_ ?_ _ _ ⟨rfl, rfl, hy⟩)
  · rintro v left r s2 ⟨_, rfl, rest⟩
    obtain ⟨k2, d, rfl, T2⟩ := rest v (List.mem_cons_self ..)
    have on := fun u m => rest u (List.mem_cons_of_mem _ m)
    dsimp only
    by_cases q : (c == d || (carriedByValue (.ref c) && carriedByValue (.ref d))) = true
    · exact wp_if_pos q (wpAny_pure ⟨rfl, rfl, on⟩)
    · refine wp_if_neg q (wpAny_bind (wpAny_eqIsQuiet_tuple T ?_))
      simp only [Bool.not_true, Bool.false_eq_true, if_false]
      refine wpAny_bind (wpAny_eqIsQuiet_tuple T2 ?_)
      simp only [Bool.not_true, Bool.false_eq_true, if_false]
      refine wpAny_bind (cls_tup V T ?_)
      simp only [Bool.false_eq_true, if_false]
      refine wpAny_bind (cls_tup V T2 ?_)
      simp only [Bool.false_eq_true, if_false]
      exact wpAny_pure ⟨rfl, rfl, on⟩
  · rintro ⟨x, y⟩ s2 ⟨e, rfl, _⟩
    obtain rfl : x = none := e
    exact wpAny_pure h

/-! ### the table -/
abbrev hK (kd : KeyKind P w κ) (k : List κ) : Int := tupleKeyHash kd k
def ents (kd : KeyKind P w κ) (L : List (Addr × List κ)) : List (Int × Value) := L.map fun e => (hK kd e.2, .ref e.1)
theorem ents_len {L : List (Addr × List κ)} : (ents kd L).length = L.length := List.length_map _
/-- L: what stands in the table of the set at a, and where -/
structure Tb0 (kd : KeyKind P w κ) (h : Heap) (a : Addr) (L : List (Addr × List κ)) (es : Array (Int × Value)) (ep : Nat) (t : SetTable) : Prop where
  obj : ∃ o, h.get? a = some o ∧ o.ExactSet ∧ o.data = .set es ep t
  ent : es.toList = ents kd L
  ok : TabOk t (L.map fun e => hK kd e.2)
  dif : (L.map (·.2)).Nodup
  fl : w.params.followText "set-order" = true ∨ t.led = true
  sz : L.length * 5 < t.mask * 3 ∧ L.length < 64
variable {a : Addr} {L : List (Addr × List κ)} {es : Array (Int × Value)} {ep : Nat} {t : SetTable} {h h' : Heap}
theorem Tb0.size (R : Tb0 kd h a L es ep t) : es.size = L.length := by rw [← Array.length_toList, R.ent, ents_len]
theorem Tb0.fits (R : Tb0 kd h a L es ep t) : t.fits es.size = true := by
  have z := R.ok.sz
  rw [List.length_map] at z
  have := R.size; have := R.sz
  unfold SetTable.fits SetTable.fill
  rw [R.ok.dm, Bool.and_eq_true, beq_iff_eq, decide_eq_true_eq]
  refine ⟨by omega, ?_⟩
  show t.place.size + 0 ≤ t.mask
  omega
theorem Tb0.at (R : Tb0 kd h a L es ep t) {i : Nat} {e : Addr × List κ} (q : L[i]? = some e) : es[i]? = some (hK kd e.2, .ref e.1) := by
  rw [← Array.getElem?_toList, R.ent]
  unfold ents
  rw [List.getElem?_map, q] <;> rfl
theorem Tb0.keep (R : Tb0 kd h a L es ep t) (k : ∀ o, h.get? a = some o → h'.get? a = some o) : Tb0 kd h' a L es ep t :=
  let ⟨o, ho, r⟩ := R.obj
  ⟨⟨o, k o ho, r⟩, R.ent, R.ok, R.dif, R.fl, R.sz⟩
/-- the state of a search for the hash v behind c steps -/
abbrev stp (t : SetTable) (v : Int) (c : Nat) : SetTable.Probe := nth t.mask (runAt t.mask (SetTable.bits v % (t.mask + 1)) (SetTable.bits v)) c
theorem stp_go (t : SetTable) (v : Int) (c q : Nat) : nth t.mask (stp t v c) q = stp t v (c + q) := (nth_add ..).symm
theorem stp_dummy (t : SetTable) (v : Int) (c : Nat) : (stp t v c).dummy = none := by
  induction c with
  | zero => rfl
  | succ c ih =>
    show (stp t v (c + 1)).dummy = none
    rw [← stp_go t v c 1]
    show (adv t.mask (stp t v c)).dummy = none
    unfold adv
    split <;> exact ih
def hAt (es : Array (Int × Value)) (i : Nat) : Int := (es[i]?.map (·.1)).getD 0
theorem Tb0.hAt (R : Tb0 kd h a L es ep t) {i : Nat} {e : Addr × List κ} (q : L[i]? = some e) : LWT.hAt es i = hK kd e.2 := by
  unfold LWT.hAt
  rw [R.at q] <;> rfl
/-- one look from the c-th step on; K: the first free place of the way -/
theorem Tb0.look (R : Tb0 kd h a L es ep t) {v : Int} {K c : Nat} (hc : c ≤ K) (hf : K < 10 * SetTable.turns t.mask) (free : way t.mask v K ∉ t.place.toList) (full : ∀ q, q < K → way t.mask v q ∈ t.place.toList) :
    (∃ q i, c ≤ q ∧ q < K ∧ t.place.toList[i]? = some (way t.mask v q) ∧ (∀ q2 i2, c ≤ q2 → q2 < q → t.place.toList[i2]? = some (way t.mask v q2) → LWT.hAt es i2 ≠ v) ∧ t.probe (LWT.hAt es) v (stp t v c) = some (.candidate (way t.mask v q) i (stp t v (q + 1)))) ∨
    ((∀ q2 i2, c ≤ q2 → q2 < K → t.place.toList[i2]? = some (way t.mask v q2) → LWT.hAt es i2 ≠ v) ∧ t.probe (LWT.hAt es) v (stp t v c) = some (.empty (way t.mask v K) none)) := by
  have j : ∀ q, (nth t.mask (stp t v c) q).j = way t.mask v (c + q) := fun q => congrArg SetTable.Probe.j (stp_go t v c q)
  have cK : c + (K - c) = K := by omega
  rcases go_spec t R.ok.ris R.ok.dm (LWT.hAt es) v (10 * SetTable.turns t.mask) (K - c) (stp t v c) (stp_dummy ..) (by omega) (fun q hq => by rw [j]; exact full _ (by omega)) (by rw [j, cK]; exact free) with ⟨q, i, h1, h2, _, h4, h5⟩ | ⟨h1, h2⟩
  · refine .inl ⟨c + q, i, by omega, by omega, by rw [← j]; exact h2, fun q2 i2 a1 a2 a3 => h4 (q2 - c) i2 (by omega) (by rw [j, show c + (q2 - c) = q2 by omega]; exact a3), ?_⟩
    rw [← j, show c + q + 1 = c + (q + 1) by omega, ← stp_go]
    exact h5
  · refine .inr ⟨fun q2 i2 a1 a2 a3 => h1 (q2 - c) i2 (by omega) (by rw [j, show c + (q2 - c) = q2 by omega]; exact a3), ?_⟩
    have z := j (K - c)
    rw [cK] at z
    rw [← z]
    exact h2
end
end LWT
set_option Elab.async false
set_option linter.all false
set_option maxRecDepth 100000
set_option maxHeartbeats 4000000
namespace LWT
open PySem PySem.Spec PyProof.Rows L2
section
variable {P : Program} {w : World} {A : Around} {E : Value → Shared → Prop} {s : Shared} {κ : Type} [DecidableEq κ] {kd : KeyKind P w κ}
variable {a : Addr} {L : List (Addr × List κ)} {es : Array (Int × Value)} {ep : Nat} {t : SetTable} {h h' : Heap}
abbrev Stand (kd : KeyKind P w κ) (h : Heap) (L : List (Addr × List κ)) : Prop := ∀ e ∈ L, IsTupleKey kd h e.2 e.1
theorem Tb0.even (R : Tb0 kd h a L es ep t) : ¬ t.gaveWay = true := by
  unfold SetTable.gaveWay
  rw [mask_odd R.ok.mok]
  decide
theorem find_in (V : Vl kd) (R : Tb0 kd s.heap a L es ep t) (st : Stand kd s.heap L) {x : Addr} {k : List κ} (T : IsTupleKey kd s.heap k x) (hu : A.units < cLine) {K : Nat} (hf : K < 10 * SetTable.turns t.mask) (free : way t.mask (hK kd k) K ∉ t.place.toList) (full : ∀ q, q < K → way t.mask (hK kd k) q ∈ t.place.toList)
    {Q : SetFound → Shared → Prop} (yes : k ∈ L.map (·.2) → Q (.there none) s) (no : k ∉ L.map (·.2) → Q (.free (way t.mask (hK kd k) K) false) s) :
    ∀ (f c : Nat) (start : Option SetTable.Probe), start.getD (t.probeStart (hK kd k)) = stp t (hK kd k) c → c ≤ K → K - c < f → (∀ (i : Nat) (e : Addr × List κ), L[i]? = some e → e.2 = k → ∃ c2, c ≤ c2 ∧ c2 < K ∧ t.place.toList[i]? = some (way t.mask (hK kd k) c2)) →
      wpAny (model P w) A (setSearchFrom a (.ref x) (hK kd k) true f start) Q E s := by
  obtain ⟨o, ho, hex, hd⟩ := R.obj
  intro f
  induction f with
  | zero => exact fun c _ _ _ z _ => absurd z (Nat.not_lt_zero _)
  | succ f ih =>
    intro c start hst hc hcf ahead
    rw [setSearchFrom_succ]
    refine wpAny_bind (wpAny_setState_of ho hd R.fits ?_)
    dsimp only
    refine wp_if_neg R.even ?_
    try refine wpAny_bind (wpAny_pure ?_)
    rcases R.look (v := hK kd k) hc hf free full with ⟨q, i, cq, qK, hi, none_before, hp⟩ | ⟨none_at_all, hp⟩
    · replace hp : t.probe (fun i => (Option.map (fun x => x.fst) es[i]?).getD 0) (hK kd k) (start.getD (t.probeStart (hK kd k))) = some (.candidate (way t.mask (hK kd k) q) i (stp t (hK kd k) (q + 1))) := by rw [hst]; exact hp
      rw [hp]
      dsimp only
      have il : i < L.length := by
        have z1 := (List.getElem?_eq_some_iff.mp hi).1
        have z2 := R.ok.sz
        rw [List.length_map] at z2
        rw [Array.length_toList] at z1
        omega
      obtain ⟨e, he⟩ : ∃ e, L[i]? = some e := ⟨_, List.getElem?_eq_getElem il⟩
      have me := List.mem_of_getElem? he
      have go : wpAny (model P w) A (searchRest a (.ref x) (hK kd k) true f es t (way t.mask (hK kd k) q) i (stp t (hK kd k) (q + 1))) Q E s := by
        unfold searchRest
        rw [R.at he]
        dsimp only
        refine wpAny_bind (wpAny_holding (wpAny_eqBool_tuple hu (st e me) T (wpAny_bind (wpAny_setState_of ho hd R.fits ?_))))
        dsimp only
        by_cases hk : e.2 = k
        · exact wp_if_pos (by simp [hk]) (wpAny_pure (yes (List.mem_map.mpr ⟨e, me, hk⟩)))
        refine wp_if_neg (by simp [hk]) ?_
        try refine wpAny_bind (wpAny_pure ?_)
        rw [sameMem]
        dsimp only
        have lv : t.slot (way t.mask (hK kd k) q) = .live i := slot_live R.ok.ris hi
        simp only [if_true, lv, R.at he]
        refine wpAny_bind (wpAny_isSame_ref_self (wpAny_bind (wpAny_pure ?_)))
        simp only [if_true]
        refine wp_if_neg (by simp [hk]) (ih (q + 1) _ rfl (by omega) (by omega) fun i2 e2 h2 k2 => ?_)
        obtain ⟨c2, b1, b2, b3⟩ := ahead i2 e2 h2 k2
        refine ⟨c2, ?_, b2, b3⟩
        rcases Nat.lt_trichotomy c2 q with z | z | z
        · exact absurd ((R.hAt h2).trans (by rw [k2])) (none_before c2 i2 b1 z b3)
        · subst z
          have l2 := slot_live R.ok.ris b3
          rw [lv] at l2
          injection l2 with l2
          subst l2
          rw [he] at h2
          exact absurd ((congrArg Prod.snd (Option.some.inj h2)).trans k2) hk
        · omega
      by_cases hl : t.led = true
      · refine wp_if_neg (by simp [hl]) ?_
        try refine wpAny_bind (wpAny_pure ?_)
        exact go
      · refine wp_if_pos (by simp [hl]) (wpAny_bind (unseen V T (fun y hy => ?_) (wp_if_neg (by decide) ?_)))
        · obtain ⟨z, hz, rfl⟩ := List.mem_map.mp hy
          have hz1 : z ∈ es ∧ z.1 = hK kd k := by simpa using hz
          have hz2 : z ∈ es.toList := by simpa using hz1.1
          rw [R.ent] at hz2
          obtain ⟨e2, m2, rfl⟩ := List.mem_map.mp hz2
          exact ⟨e2.2, e2.1, rfl, st e2 m2⟩
        · try refine wpAny_bind (wpAny_pure ?_)
          exact go
    · replace hp : t.probe (fun i => (Option.map (fun x => x.fst) es[i]?).getD 0) (hK kd k) (start.getD (t.probeStart (hK kd k))) = some (.empty (way t.mask (hK kd k) K) none) := by rw [hst]; exact hp
      rw [hp]
      dsimp only
      refine wpAny_pure (no fun m => ?_)
      obtain ⟨e, me, ek⟩ := List.mem_map.mp m
      obtain ⟨i, hi⟩ := List.getElem?_of_mem me
      obtain ⟨c2, b1, b2, b3⟩ := ahead i e hi ek
      exact none_at_all c2 i b1 b2 b3 ((R.hAt hi).trans (by rw [ek]))
theorem find (V : Vl kd) (R : Tb0 kd s.heap a L es ep t) (st : Stand kd s.heap L) {x : Addr} {k : List κ} (T : IsTupleKey kd s.heap k x) (hu : A.units < cLine) {Q : SetFound → Shared → Prop} (yes : k ∈ L.map (·.2) → Q (.there none) s)
    (no : ∀ K, k ∉ L.map (·.2) → way t.mask (hK kd k) K ∉ t.place.toList → (∀ q, q < K → way t.mask (hK kd k) q ∈ t.place.toList) → Q (.free (way t.mask (hK kd k) K) false) s) : wpAny (model P w) A (setSearch a (.ref x) (hK kd k) true) Q E s := by
  have sz := R.sz
  obtain ⟨K, hf, free, full⟩ := R.ok.first (by rw [List.length_map]; omega) (hK kd k)
  have small : K < 100000 := by
    have : 10 * SetTable.turns t.mask ≤ 1420 := by
      unfold SetTable.turns
      rcases R.ok.mok with e | e | e <;> omega
    omega
  unfold setSearch
  refine find_in V R st T hu hf free full yes (fun n => no K n free full) 100000 0 none rfl (Nat.zero_le _) (by omega) fun i e he hk => ?_
  have il : i < t.place.toList.length := by
    have z := R.ok.sz
    rw [List.length_map] at z
    have := (List.getElem?_eq_some_iff.mp he).1
    rw [Array.length_toList]
    omega
  obtain ⟨j, hj⟩ : ∃ j, t.place.toList[i]? = some j := ⟨_, List.getElem?_eq_getElem il⟩
  obtain ⟨c, hc, ec⟩ := R.ok.before free (by rw [List.getElem?_map, he, ← hk] <;> rfl) hj
  exact ⟨c, Nat.zero_le _, hc, by rw [hj, ec]⟩
/-! ### put in, laid anew -/
theorem stand_but {o : Obj} (T : IsTupleKey kd h k b) (ho : h.get? a = some o) (hd : o.data = .set es ep t) (sb : Heap.SameBut a h h') : IsTupleKey kd h' k b := by
  obtain ⟨o2, items, n, h2, c2, d2, i2⟩ := T
  refine ⟨o2, items, n, (sb.2 b fun e => ?_).trans h2, c2, d2, i2⟩
  subst e
  rw [ho] at h2
  cases h2
  rw [hd] at d2
  exact nomatch d2
theorem ents_put (p : Nat) (x : Addr) (k : List κ) : ents kd (L.take p ++ (x, k) :: L.drop p) = (ents kd L).take p ++ (hK kd k, Value.ref x) :: (ents kd L).drop p := by
  unfold ents
  rw [List.map_append, List.map_cons, ← List.map_take, ← List.map_drop]
theorem filter_range {α : Type} (l : List α) : (List.range l.length).filterMap (fun i => l[i]?) = l := by
  induction l with
  | nil => rfl
  | cons x r ih =>
    rw [List.length_cons, List.range_succ_eq_map, List.filterMap_cons_some (show (x :: r)[0]? = some x from rfl), List.filterMap_map]
    exact congrArg (x :: ·) ih
theorem ents_order (ord : Array Nat) (he : es.toList = ents kd L) (hp : ord.toList.Perm (List.range L.length)) :
    ∃ M, (ord.filterMap (es[·]?)).toList = ents kd M ∧ M.Perm L ∧ (M.map fun e => hK kd e.2) = ord.toList.map fun i => (es.map (·.1)).getD i 0 := by
  have at_ : ∀ (i : Nat) (e : Addr × List κ), L[i]? = some e → es[i]? = some (hK kd e.2, Value.ref e.1) := fun i e q => by
    rw [← Array.getElem?_toList, he]
    unfold ents
    rw [List.getElem?_map, q] <;> rfl
  have all : ∀ l : List Nat, (∀ i ∈ l, i < L.length) → (l.filterMap fun i => es[i]?) = ents kd (l.filterMap fun i => L[i]?) ∧ ((l.filterMap fun i => L[i]?).map fun e => hK kd e.2) = l.map fun i => (es.map (·.1)).getD i 0 := by
    intro l
    induction l with
    | nil => exact fun _ => ⟨rfl, rfl⟩
    | cons i l ih =>
      intro hl
      obtain ⟨e, q⟩ : ∃ e, L[i]? = some e := ⟨_, List.getElem?_eq_getElem (hl i (List.mem_cons_self ..))⟩
      obtain ⟨z1, z2⟩ := ih fun j m => hl j (List.mem_cons_of_mem _ m)
      have g : (es.map (·.1)).getD i 0 = hK kd e.2 := by
        have g1 : (es.map (·.1))[i]? = some (hK kd e.2) := by rw [Array.getElem?_map, at_ i e q] <;> rfl
        rw [Array.getD_eq_getD_getElem?, g1] <;> rfl
      refine ⟨?_, ?_⟩
      · rw [List.filterMap_cons_some (at_ i e q), List.filterMap_cons_some q, z1] <;> rfl
      · rw [List.filterMap_cons_some q, List.map_cons, z2, List.map_cons, g]
  obtain ⟨z1, z2⟩ := all ord.toList fun i m => List.mem_range.mp (hp.mem_iff.mp m)
  refine ⟨_, by first | (rw [Array.toList_filterMap]; exact z1) | simpa using z1, ?_, z2⟩
  have z3 := hp.filterMap fun i => L[i]?
  rw [filter_range] at z3
  exact z3
end
end LWT
set_option Elab.async false
set_option linter.all false
set_option maxRecDepth 100000
set_option maxHeartbeats 4000000
namespace LWT
open PySem PySem.Spec PyProof.Rows L2
section
variable {P : Program} {w : World} {A : Around} {E : Value → Shared → Prop} {s : Shared} {κ : Type} [DecidableEq κ] {kd : KeyKind P w κ}
variable {a : Addr} {L : List (Addr × List κ)} {es : Array (Int × Value)} {ep : Nat} {t : SetTable} {h h' : Heap}
theorem relay {o : Obj} (ho : s.heap.get? a = some o) (hex : o.ExactSet) (hd : o.data = .set es ep t) (he : es.toList = ents kd L) (hsz : t.place.size = es.size ∧ t.dummies = #[] ∧ es.size ≤ t.mask) (nd : (L.map (·.2)).Nodup)
    (fl : w.params.followText "set-order" = true ∨ t.led = true) (few : L.length < 64) {n M : Nat} (hn : SetTable.sizeAbove n = M + 1) (hM : MaskOk M) (room : L.length * 5 < M * 3) {Q : Unit → Shared → Prop}
    (q : ∀ h2 L2 es2 ep2 t2, Heap.SameBut a s.heap h2 → Tb0 kd h2 a L2 es2 ep2 t2 → L2.Perm L → Q () { s with heap := h2 }) : wpAny (model P w) A (setRelay a n) Q E s := by
  have le : es.size = L.length := by rw [← Array.length_toList, he, ents_len]
  have fits : t.fits es.size = true := by
    unfold SetTable.fits SetTable.fill
    rw [hsz.2.1, Bool.and_eq_true, beq_iff_eq, decide_eq_true_eq]
    exact ⟨hsz.1, by show t.place.size + 0 ≤ t.mask; omega⟩
  obtain ⟨t2, ord, e1, pm, ok, em, el, epl, edm⟩ := relaid_ok t (hs := es.map (·.1)) (wanted := n) (by rw [hn] <;> rfl) hM (by rw [Array.size_map, le]; omega)
  rw [Array.size_map, le] at pm
  obtain ⟨N, n1, n2, n3⟩ := ents_order (kd := kd) ord he pm
  rw [← n3] at ok
  have same : (ord.filterMap (es[·]?)).size = es.size := by rw [← Array.length_toList, n1, ents_len, n2.length_eq, le]
  have big : SetTable.sizeAbove n ≤ 128 := by rcases hM with e | e | e <;> omega
  rw [setRelay_eq]
  refine wpAny_bind (wpAny_setState_of ho hd fits ?_)
  dsimp only
  refine wp_if_neg (by rw [sizeLine_eq]; omega) ?_
  try refine wpAny_bind (wpAny_pure ?_)
  rw [e1]
  dsimp only
  refine wpAny_bind (wp_if_neg (by rw [same]; simp) ?_)
  try refine wpAny_bind (wpAny_pure ?_)
  refine wpAny_pure ?_
  dsimp only
  have sb : Heap.SameBut a s.heap (s.heap.update a (Obj.putSet (ord.filterMap (es[·]?)) t2)) := Heap.SameBut.update ..
  refine wpAny_storeSet_of ho hd (q _ N _ (ep + 1) t2 sb ⟨⟨_, L2.store_at ho hd, ⟨hex.1, hex.2.1, hex.2.2⟩, rfl⟩, n1, ok, (n2.map (·.2)).nodup_iff.mpr nd, by rw [el]; exact fl, ?_⟩ n2) (by rw [same, le, sizeLine_eq]; omega)
  rw [n2.length_eq, em]
  exact ⟨room, few⟩
/-- one more, or the same -/
def Nx (L : List (Addr × List κ)) (x : Addr) (k : List κ) (M : List (Addr × List κ)) : Prop := (k ∈ L.map (·.2) → M = L) ∧ (k ∉ L.map (·.2) → M.Perm ((x, k) :: L))
theorem put (V : Vl kd) (R : Tb0 kd s.heap a L es ep t) (st : Stand kd s.heap L) {x : Addr} {k : List κ} (T : IsTupleKey kd s.heap k x) (hu : A.units < cLine) (few : L.length + 1 < 64) {Q : Bool → Shared → Prop}
    (q : ∀ b h2 M es2 ep2 t2, Heap.SameBut a s.heap h2 → Tb0 kd h2 a M es2 ep2 t2 → Nx L x k M → Q b { s with heap := h2 }) : wpAny (model P w) A (setAddHashed a (.ref x) (hK kd k)) Q E s := by
  obtain ⟨o, ho, hex, hd⟩ := R.obj
  have le := R.size
  have room := R.sz
  unfold setAddHashed
  refine wpAny_holding ?_
  rw [show (100000 : Nat) = 99999 + 1 from rfl, setAddHashedIn_succ]
  refine wpAny_bind (wpAny_setState_of ho hd R.fits ?_)
  dsimp only
  refine wp_if_neg (by simp [byScan, Value.scannable]) ?_
  try refine wpAny_bind (wpAny_pure ?_)
  refine wpAny_bind (find V R st T hu (fun m => ?_) fun K m free full => ?_)
  · dsimp only
    exact wpAny_pure (q false s.heap L es ep t (Heap.SameBut.refl a s.heap) R ⟨fun _ => rfl, fun z => absurd m z⟩)
  dsimp only
  refine wpAny_bind (wpAny_setState_of ho hd R.fits ?_)
  dsimp only
  obtain ⟨f1, f2, f3, f4, f5, f6, f7, f8, f9⟩ := R.ok.put free full
  have ldd : w.params.followText "set-order" = true ∨ (t.put (way t.mask (hK kd k) K)).1.led = true := by rw [f5]; exact R.fl
  rw [f1]
  generalize SetTable.below t.place (way t.mask (hK kd k) K) = p at f2 f3 ⊢
  have pm : (L.take p ++ (x, k) :: L.drop p).Perm ((x, k) :: L) := by
    have z := List.perm_middle (a := (x, k)) (l₁ := L.take p) (l₂ := L.drop p)
    rw [List.take_append_drop] at z
    exact z
  have ents1 : (SetTable.insertAt es p (hK kd k, Value.ref x)).toList = ents kd (L.take p ++ (x, k) :: L.drop p) := by rw [SetTable.toList_insertAt, ents_put, R.ent]
  have hs1 : (L.map fun e => hK kd e.2).take p ++ hK kd k :: (L.map fun e => hK kd e.2).drop p = (L.take p ++ (x, k) :: L.drop p).map fun e => hK kd e.2 := by
    rw [List.map_append, List.map_cons, ← List.map_take, ← List.map_drop]
  rw [hs1] at f3
  generalize SetTable.insertAt es p (hK kd k, Value.ref x) = es1 at ents1 ⊢
  generalize L.take p ++ (x, k) :: L.drop p = L1 at pm ents1 f3
  generalize (t.put (way t.mask (hK kd k) K)).1 = t1 at f3 f4 f5 f6 f7 f8 f9 ldd ⊢
  have len1 : L1.length = L.length + 1 := pm.length_eq
  have sz1 : es1.size = L.length + 1 := by rw [← Array.length_toList, ents1, ents_len, len1]
  have nd1 : (L1.map (·.2)).Nodup := (pm.map (·.2)).nodup_iff.mpr (List.nodup_cons.mpr ⟨m, R.dif⟩)
  have nx : Nx L x k L1 := ⟨fun z => absurd z m, fun _ => pm⟩
  have rest : ∀ t1 : SetTable, TabOk t1 (L1.map fun e => hK kd e.2) → t1.mask = t.mask → t1.fill = L.length + 1 → (w.params.followText "set-order" = true ∨ t1.led = true) →
      wpAny (model P w) A (storeSet a es1 t1 >>= fun _ => if (!false && t1.tooFull) = true then setRelay a (SetTable.grown (es.size + 1)) >>= fun _ => pure true else pure true) Q E s := ?_
  · by_cases pl : t1.plain = true
    · refine wp_if_pos pl (wpAny_bind (val_tup V T fun b => ?_))
      cases b with
      | true =>
        simp only [if_true]
        exact rest t1 f3 f4 (by rw [f9, List.length_map]) ldd
      | false =>
        simp only [Bool.false_eq_true, if_false]
        exact rest { t1 with plain := false } ⟨f3.ris, f3.dm, f3.sz, f3.mok, f3.bd, f3.reach⟩ f4 (by show t1.fill = _; rw [f9, List.length_map]) ldd
    · refine wp_if_neg pl (wpAny_bind (wpAny_pure ?_))
      simp only [if_true]
      exact rest t1 f3 f4 (by rw [f9, List.length_map]) ldd
  clear f3 f4 f5 f6 f7 f8 f9 ldd
  clear t1
  intro t1 f3 f4 f9 ldd
  have sb : Heap.SameBut a s.heap (s.heap.update a (Obj.putSet es1 t1)) := Heap.SameBut.update ..
  refine wpAny_bind (wpAny_storeSet_of ho hd ?_ (by rw [sz1, sizeLine_eq]; omega))
  have ho1 := L2.store_at (es' := es1) (t' := t1) ho hd
  by_cases full1 : t1.tooFull = true
  · have z : (L.length + 1) * 5 ≥ t1.mask * 3 := by
      have z := full1
      unfold SetTable.tooFull at z
      rw [decide_eq_true_eq, f9] at z
      exact z
    refine wp_if_pos (by simp [full1]) (wpAny_bind ?_)
    rw [le]
    have place1 : t1.place.size = es1.size := by
      have y := f3.sz
      rw [List.length_map] at y
      omega
    have go : ∀ M, SetTable.sizeAbove (SetTable.grown (L.length + 1)) = M + 1 → MaskOk M → (L.length + 1) * 5 < M * 3 → (L.length + 1 ≤ t1.mask) → wpAny (model P w) A (setRelay a (SetTable.grown (L.length + 1))) (fun _ s2 => wpAny (model P w) A (pure true) Q E s2) E { s with heap := s.heap.update a (Obj.putSet es1 t1) } := fun M b1 b2 b3 b4 =>
      relay (kd := kd) (s := { s with heap := s.heap.update a (Obj.putSet es1 t1) }) ho1 ⟨hex.1, hex.2.1, hex.2.2⟩ rfl ents1 ⟨place1, f3.dm, by omega⟩ nd1 ldd (by omega) b1 b2 (by rw [len1]; exact b3) fun h2 M2 es2 ep2 t2 sb2 R2 pm2 =>
        wpAny_pure (q true h2 M2 es2 ep2 t2 (sb.trans sb2) R2 ⟨fun z => absurd z m, fun _ => pm2.trans pm⟩)
    have two : (t.mask = 7 ∧ L.length = 4) ∨ (t.mask = 31 ∧ L.length = 18) := by
      rcases R.ok.mok with e | e | e
      · exact .inl ⟨e, by omega⟩
      · exact .inr ⟨e, by omega⟩
      · omega
    rcases two with ⟨e1, e2⟩ | ⟨e1, e2⟩
    · exact go 31 (by rw [e2, size_20]) (.inr (.inl rfl)) (by omega) (by omega)
    · exact go 127 (by rw [e2, size_76]) (.inr (.inr rfl)) (by omega) (by omega)
  · have z : (L.length + 1) * 5 < t1.mask * 3 := by
      have z := full1
      unfold SetTable.tooFull at z
      rw [decide_eq_true_eq, f9] at z
      omega
    have done_ : Q true { s with heap := s.heap.update a (Obj.putSet es1 t1) } := q true _ L1 es1 (ep + 1) t1 sb ⟨⟨_, ho1, ⟨hex.1, hex.2.1, hex.2.2⟩, rfl⟩, ents1, f3, nd1, ldd, by rw [len1]; exact ⟨z, few⟩⟩ nx
    first
      | exact wp_if_neg (by simp [full1]) (wpAny_pure done_)
      | exact wpAny_bind (wp_if_neg (by simp [full1]) (wpAny_pure (wpAny_pure done_)))
end
end LWT
set_option Elab.async false
set_option linter.all false
set_option maxRecDepth 100000
set_option maxHeartbeats 4000000
namespace LWT
open PySem PySem.Spec PyProof.Rows L2
section
variable {P : Program} {w : World} {κ : Type} [DecidableEq κ] {kd : KeyKind P w κ}
/-- L has what the first i of ks have -/
structure Fil (ks : List (Addr × List κ)) (i : Nat) (L : List (Addr × List κ)) : Prop where
  sub : ∀ e ∈ L, e ∈ ks.take i
  key : ∀ k, k ∈ L.map (·.2) ↔ k ∈ (ks.take i).map (·.2)
  len : L.length ≤ i
theorem Fil.next {ks L M : List (Addr × List κ)} {i : Nat} {e : Addr × List κ} (f : Fil ks i L) (he : ks[i]? = some e) (nx : Nx L e.1 e.2 M) : Fil ks (i + 1) M := by
  have tk := LW.take_snoc he
  have up : ∀ {z}, z ∈ ks.take i → z ∈ ks.take (i + 1) := fun m => by rw [tk]; exact List.mem_append_left _ m
  have kk : ∀ k, k ∈ (ks.take (i + 1)).map (·.2) ↔ k ∈ (ks.take i).map (·.2) ∨ k = e.2 := fun k => by
    rw [tk, List.map_append, List.mem_append, List.map_cons, List.map_nil, List.mem_singleton]
  by_cases m : e.2 ∈ L.map (·.2)
  · rw [nx.1 m]
    refine ⟨fun z hz => up (f.sub z hz), fun k => ?_, Nat.le_succ_of_le f.len⟩
    rw [kk, ← f.key]
    exact ⟨.inl, fun z => z.elim id fun q => q ▸ m⟩
  · have pm := nx.2 m
    refine ⟨fun z hz => ?_, fun k => ?_, ?_⟩
    · rcases List.mem_cons.mp (pm.mem_iff.mp hz) with rfl | q
      · rw [tk]; exact List.mem_append_right _ (List.mem_singleton.mpr rfl)
      · exact up (f.sub z q)
    · rw [kk, ← f.key, (pm.map (·.2)).mem_iff, List.map_cons, List.mem_cons]
      exact Or.comm
    · rw [pm.length_eq]
      exact Nat.succ_le_succ f.len
variable {A : Around} {R : Result → Shared → Prop} {I : Addr} {fp wr : List Addr} {G : Array GenState → Array GenState → Prop} {n : Nat} {Y : Nat → Value → Prop} {St : Nat → Shared → Prop}
theorem stand_up {h h' : Heap} {k : List κ} {b : Addr} (T : IsTupleKey kd h k b) (up : ∀ c o, h.get? c = some o → h'.get? c = some o) : IsTupleKey kd h' k b :=
  let ⟨o, items, n, ho, r⟩ := T
  ⟨o, items, n, up b o ho, r⟩
theorem tp_loop (V : Vl kd) (W : WalksS P w A.in1 I fp wr G n Y St) (S : Addr) (hSf : S ∉ fp) {ks : List (Addr × List κ)} (hn : ks.length = n) (hv : ∀ i v, Y i v → ∃ e, ks[i]? = some e ∧ v = .ref e.1) (few : n < 64) (h0 : Heap) (st0 : Stand kd h0 ks) (fr : h0.get? S = none ∧ ∀ b ∈ wr, h0.get? b = none) (hu : A.in1.units < cLine) :
    ∀ (m i : Nat) (s : Shared) (L : List (Addr × List κ)) (es : Array (Int × Value)) (ep : Nat) (t : SetTable), n - i = m → i ≤ n → St i s → (∀ b o, h0.get? b = some o → s.heap.get? b = some o) → Tb0 kd s.heap S L es ep t → Fil ks i L →
      (∀ s2 L2 es2 ep2 t2, Moved (S :: wr) G s s2 → Tb0 kd s2.heap S L2 es2 ep2 t2 → Fil ks n L2 → R (.ok (.ret .none)) s2) → codeAny (model P w) A (.builtin "set.update.loop" ⟨[.ref S, .ref I], []⟩) R s := by
  have out : S ∉ wr := fun z => hSf (W.sub _ z)
  have up : ∀ b ∈ wr, b ∈ S :: wr := fun b m => List.mem_cons_of_mem _ m
  have enter : ∀ {s : Shared}, wpAny (model P w) A.in1 (Builtin.«set.update.loop» ⟨[.ref S, .ref I], []⟩) (fun f s2 => match f with | .done f => R (.ok f) s2 | .again c => c.quiet = true ∧ codeAny (model P w) A c R s2) (fun e s2 => R (.error e) s2) s → codeAny (model P w) A (.builtin "set.update.loop" ⟨[.ref S, .ref I], []⟩) R s := fun q => by
    refine codeAny_builtin F.entry_set_update_loop ?_
    rw [Around.under_plainId F.plain_set_update_loop _]
    exact q
  intro m
  induction m with
  | zero =>
    intro i s L es ep t hm hi hst kp T f hR
    obtain rfl : i = n := by omega
    refine enter ?_
    show wpAny _ A.in1 (pyNext (.ref I) >>= fun x => _) _ _ s
    exact wpAny_bind (W.done s _ _ hst fun s2 mv => wpAny_pure (hR s2 L es ep t (mv.mono up) (T.keep fun o => mv.heap S o out) f))
  | succ m ih =>
    intro i s L es ep t hm hi hst kp T f hR
    have lt : i < n := by omega
    refine enter ?_
    show wpAny _ A.in1 (pyNext (.ref I) >>= fun x => _) _ _ s
    refine wpAny_bind (W.item i s _ _ lt hst fun v s2 hY hst2 mv => ?_)
    obtain ⟨e, he, rfl⟩ := hv i v hY
    have kp2 : ∀ b o, h0.get? b = some o → s2.heap.get? b = some o := fun b o z => mv.heap b o (fun hb => by rw [fr.2 b hb] at z; cases z) (kp b o z)
    have st2 : Stand kd s2.heap L := fun z hz => stand_up (st0 z (List.mem_of_mem_take (f.sub z hz))) kp2
    have Te := stand_up (st0 e (List.mem_of_getElem? he)) kp2
    show wpAny _ A.in1 (holding _ (setAdd S (.ref e.1)) >>= fun x => _) _ _ s2
    refine wpAny_bind (wpAny_holding ?_)
    unfold setAdd
    refine wpAny_holding (wpAny_bind (wpAny_pyHash_tuple hu Te ?_))
    refine put (s := { s2 with toks := s2.toks + (e.2.length + 1) }) V (T.keep fun o => mv.heap S o out) st2 Te hu (by have := f.len; omega) fun b h3 M es3 ep3 t3 sb T3 nx => ?_
    refine wpAny_pure ⟨plainId_quiet F.plain_set_update_loop _, ih (i + 1) _ M es3 ep3 t3 (by omega) lt (W.frame _ s2 _ _ hst2 (Nat.le_add_right ..) fun b hb o z => (sb.2 b fun q => hSf (q ▸ hb)).trans z) (fun b o z => (sb.2 b fun q => by rw [q, fr.1] at z; cases z).trans (kp2 b o z)) T3 (f.next he nx) fun s4 L4 es4 ep4 t4 mv4 => hR s4 L4 es4 ep4 t4 (Moved.trans W.gtrans ((mv.mono up).then_heap (Nat.le_add_right ..) fun b o hb z => (sb.2 b fun q => hb (q ▸ List.mem_cons_self ..)).trans z) mv4)⟩
end
section
variable {P : Program} {w : World} {A : Around} {E : Value → Shared → Prop} {s : Shared} {κ : Type} [DecidableEq κ] {kd : KeyKind P w κ}
theorem set_tups (V : Vl kd) {l : Addr} {items : Array Value} {ks : List (Addr × List κ)} {Q : Value → Shared → Prop} (hh : A.handled = none) (hu : A.units + 3 < cLine) (hl : s.heap.IsList l items) (hi : items.toList = ks.map fun e => Value.ref e.1) (st : Stand kd s.heap ks) (few : ks.length < 64)
    (q : ∀ (h' : Heap) (tk : Nat) L es ep t, Tb0 kd h' s.heap.objs.size L es ep t → Fil ks ks.length L → (∀ b o, s.heap.get? b = some o → h'.get? b = some o) → Q (.ref s.heap.objs.size) { s with heap := h', toks := tk }) : wpAny (model P w) A (call (.type "set") [.ref l]) Q E s := by
  have sz : ks.length = items.size := by rw [← Array.length_toList, hi, List.length_map]
  let h1 := s.heap.push { cls := .type "set", dict := none, data := .set #[] 0 (.fresh 0 0 (!w.params.followText "set-order")) }
  have hS : h1.get? s.heap.objs.size = some { cls := .type "set", dict := none, data := .set #[] 0 (.fresh 0 0 (!w.params.followText "set-order")) } := Heap.get?_push_size _ rfl
  refine LWS.set_made (.ref l) (Q₁ := fun obj s₁ => obj = .ref s.heap.objs.size ∧ s₁ = { s with heap := h1 }) (code_set_led1 (.ref l) ⟨rfl, rfl⟩) fun obj s₁ ⟨e1, e2⟩ => ?_
  subst e1 e2
  refine ⟨⟨_, hS, rfl⟩, ?_⟩
  obtain ⟨⟨oc, odi, oda, osl⟩, ho, hc, nl, hd⟩ := hl
  replace hc : oc = .type "list" := hc
  replace hd : oda = .seq items nl := hd
  subst hc hd
  have ho' : h1.get? l = some { cls := .type "list", dict := odi, data := .seq items nl, slots := osl } := Heap.get?_push_of_some _ ho
  have s1 := F.sub_list_set
  have s2 := F.sub_list_frozenset
  have s3 : (Value.type "list" == Value.type "dict") = false := by decide
  have hl1 : h1.IsList l items := ⟨_, ho', rfl, nl, rfl⟩
  have T0 : Tb0 kd h1 s.heap.objs.size [] #[] 0 (.fresh 0 0 (!w.params.followText "set-order")) := by
    refine ⟨⟨_, hS, ⟨rfl, rfl, rfl⟩, rfl⟩, rfl, ⟨List.Pairwise.nil, rfl, rfl, .inl rfl, fun x m => absurd m (by show ¬ x ∈ []; exact List.not_mem_nil), fun i v j z => by simp at z⟩, List.nodup_nil, ?_, (by decide : 0 * 5 < 7 * 3), (by decide : 0 < 64)⟩
    show _ ∨ (!w.params.followText "set-order") = true
    cases w.params.followText "set-order" <;> simp
  have z1 : h1.objs.size = s.heap.objs.size + 1 := Heap.size_push ..
  have k1 : ∀ b o, s.heap.get? b = some o → h1.get? b = some o := fun b o e => Heap.get?_push_of_some _ e
  have lS : l < s.heap.objs.size := Heap.lt_size ho
  clear_value h1
  unfold Builtin.«set.__init__» noKeywords Builtin.Frozenset.updateFrom
  generalize hPI : pyIter = PI
  wp_walk
  subst hPI
  refine wpAny_pyIter_list hl1 (wpAny_bind (wpAny_runValue ?_))
  have h3 : A.in1.in1.in1.handled = none := by simp [hh]
  have ne : l ≠ h1.objs.size := Nat.ne_of_lt (by rw [z1]; exact Nat.lt_succ_of_lt lS)
  have at_ : ∀ (i : Nat) (v : Value), items[i]? = some v → ∃ e, ks[i]? = some e ∧ v = .ref e.1 := fun i v z => by
    rw [← Array.getElem?_toList, hi, List.getElem?_map] at z
    obtain ⟨e, e1, e2⟩ := Option.map_eq_some_iff.mp z
    exact ⟨e, e1, e2.symm⟩
  refine tp_loop V ((Walks.list h3 _ l ne items).toS) s.heap.objs.size (fun m => ?_) sz at_ (by omega) s.heap st ⟨Heap.get?_none_of_le (Nat.le_refl _), fun b m => ?_⟩ (by first | exact (by simp; omega) | (show A.units + 3 < cLine; omega) | omega) (items.size - 0) 0 _ [] #[] 0 _ (by omega) (Nat.zero_le _) ⟨⟨_, Heap.get?_push_size _ rfl, rfl, rfl⟩, hl1.push _⟩ (fun b o e => Heap.get?_push_of_some _ (k1 b o e)) (T0.keep fun o e => Heap.get?_push_of_some _ e) ⟨fun e m => absurd m List.not_mem_nil, fun k => by simp, Nat.le_refl _⟩ fun s' L es ep t mv T f => ?_
  · rcases List.mem_cons.mp m with m | m
    · rw [z1] at m
      exact absurd m (Nat.ne_of_lt (Nat.lt_succ_self _))
    · exact absurd (List.mem_singleton.mp m) (Nat.ne_of_gt lS)
  · obtain rfl : b = h1.objs.size := List.mem_singleton.mp m
    exact Heap.get?_none_of_le (by omega)
  · obtain ⟨h', g', d', tk', os'⟩ := s'
    obtain rfl : g' = s.gens := mv.gens
    obtain rfl : d' = s.drawn := mv.drawn
    obtain rfl : os' = s.os := mv.os
    refine wpAny_pure (wpAny_pure ⟨rfl, q h' tk' L es ep t T (by rw [sz]; exact f) fun b o e => ?_⟩)
    have lb := Heap.lt_size e
    exact mv.heap b o (fun m => by
      rcases List.mem_cons.mp m with m | m
      · exact absurd m (Nat.ne_of_lt lb)
      · rw [List.mem_singleton.mp m, z1] at lb; exact absurd lb (Nat.not_lt_of_le (Nat.le_succ _))) (Heap.get?_push_of_some _ (k1 b o e))
end
end LWT
set_option Elab.async false
set_option linter.all false
set_option maxRecDepth 100000
set_option maxHeartbeats 4000000
namespace LWT
open PySem PySem.Spec PyProof.Rows L2 SrtO
section
variable {P : Program} {w : World} {A : Around} {E : Value → Shared → Prop} {s : Shared} {a : Addr}
theorem vl_str : Vl (PySem.strKind P w) := by
  have is : ∀ {k : Str} {v : Value}, (PySem.strKind P w).is k v = true → ∃ t, v = Value.str k t := fun {k v} h => by
    cases v <;> simp [PySem.strKind, Value.isStrOf] at h
    subst h
    exact ⟨_, rfl⟩
  refine ⟨fun {k v} h n => ?_, fun {k v} h n => ?_⟩
  · obtain ⟨t, rfl⟩ := is h
    cases n <;> rfl
  · obtain ⟨t, rfl⟩ := is h
    exact ⟨_, hashByValue_scannable n rfl⟩
theorem sort_tps {L : List (Addr × List Str)} {es : Array (Int × Value)} {ep : Nat} {t : SetTable} {Q : Value → Shared → Prop} (R : Tb0 (PySem.strKind P w) s.heap a L es ep t) (hh : A.handled = none) {k : Value → Str × Str} (hp : ∀ e ∈ L, LWK.IsPS s.heap (.ref e.1) (k (.ref e.1)))
    (q : ∀ s' p (out : List Value) (c : Nat), (∀ b o, s.heap.get? b = some o → s'.heap.get? b = some o) → s'.gens = s.gens ∧ s'.os = s.os → s.heap.objs.size ≤ p → s'.heap.get? p = some (seqObj "list" out.toArray c) → out.Perm (L.map fun e => Value.ref e.1) → Srtd (fun v u => LWK.ltB (k v) (k u)) out → Q (.ref p) s') :
    wpAny (model P w) A (call (.builtin "sorted") [.ref a]) Q E s := by
  obtain ⟨o, ho, hex, hd⟩ := R.obj
  have le := R.size
  have few := R.sz.2
  refine Calls.call_function_entry kind_sorted plain_sorted entry_sorted (args_sorted1 _) ?_
  unfold Builtin.«sorted»
  refine wpAny_bind (m := checkCount "sorted" 1 1 _) (wpAny_pure (wpAny_bind (collect_set (A := A.in1) hh ⟨o, ho, hex.1, hd⟩ R.fits (by unfold scanBound; omega) R.ok.ris R.fl fun s1 vs k1 hz g1 o1 pv => ?_)))
  have ev : es.toList.map (·.2) = L.map fun e => Value.ref e.1 := by
    rw [R.ent]
    unfold ents
    rw [List.map_map] <;> rfl
  rw [ev] at pv
  have lv : vs.length < 64 := by rw [pv.length_eq, List.length_map]; exact few
  have vz : vs.length ≤ sizeLine := by rw [sizeLine_eq]; omega
  refine wpAny_bind (wpAny_newList ?_ vz)
  have hoL : (s1.heap.push (seqObj "list" vs.toArray 0)).get? s1.heap.objs.size = some (seqObj "list" vs.toArray 0) := Heap.get?_push_size _ rfl
  have isp : ∀ v ∈ vs, LWK.IsPS (s1.heap.push (seqObj "list" vs.toArray 0)) v (k v) := fun v hv => by
    obtain ⟨e, he, rfl⟩ := List.mem_map.mp (pv.mem_iff.mp hv)
    exact (hp e he).keeps fun b u z _ => Heap.get?_push_of_some _ (k1 b u z)
  refine wpAny_bind (wpAny_holding (wpAny_call_entry slot_list_sort ⟨_, hoL, rfl⟩ entry_list_sort (list_sort_ord (LWK.swo_ps k) hoL vz (fun h2 => LWK.ps_sortable (s := { s1 with heap := s1.heap.push (seqObj "list" vs.toArray 0) }) (by omega) isp fun o2 e2 c2 => ?_) fun out hs hb => ⟨_, rfl, ?_⟩) (args_list_sort _)))
  · have z : some o2 = some (seqObj "list" vs.toArray 0) := e2.symm.trans hoL
    cases z
    exact absurd (Value.type.inj c2) (by decide)
  · obtain ⟨c, hc⟩ := sortedHeap_at (vs := vs) (out := out.toArray) hoL
    refine wpAny_pure ⟨_, rfl, q { s1 with heap := sortedHeap (s1.heap.push (seqObj "list" vs.toArray 0)) s1.heap.objs.size vs out.toArray } s1.heap.objs.size out c (fun b u e => ?_) ⟨g1, o1⟩ hz hc (hb.perm.trans pv) hs⟩
    have z := k1 b u e
    have lt := Heap.lt_size z
    exact (sortedHeap_old (Nat.ne_of_lt lt) (by rw [size_push']; exact Nat.lt_succ_of_lt lt)).trans (Heap.get?_push_of_some _ z)
end
/-! ### in the heap as it is tracked -/
/-- the set at a of the pairs qs, whose tuples stand at us -/
abbrev two (p : Str × Str) : List Str := [p.1, p.2]
abbrev zp (us : List Addr) (qs : List (Str × Str)) : List (Addr × List Str) := us.zip (qs.map two)
def TpO (P : Program) (w : World) (a : Addr) (L : List (Addr × List Str)) : HO := .ext fun h => ∃ es ep t, Tb0 (PySem.strKind P w) h a L es ep t
theorem tpO_new {P : Program} {w : World} {H : Hp} {h : Heap} {a : Addr} {L : List (Addr × List Str)} {es : Array (Int × Value)} {ep : Nat} {t : SetTable} (R : Tb0 (PySem.strKind P w) h a L es ep t) : ObjOk P w H h a (TpO P w a L) := by
  have ⟨o, ho, _⟩ := R.obj
  exact ⟨⟨es, ep, t, R⟩, ⟨o, ho⟩, fun h1 h2 ⟨e1, e2, e3, p⟩ k => ⟨e1, e2, e3, p.keep k⟩⟩
open LW in
theorem zp_mem {H : Hp} : ∀ {us : List Addr} {qs : List (Str × Str)}, TsAt H us qs → ∀ e ∈ zp us qs, ∃ p ∈ qs, e.2 = two p ∧ H e.1 = some (.tup [.str p.1, .str p.2])
  | _, _, .nil, e, m => absurd m List.not_mem_nil
  | _, _, .cons (b := p) h r, e, m => by
    rcases List.mem_cons.mp m with rfl | m
    · exact ⟨p, List.mem_cons_self .., rfl, h⟩
    · obtain ⟨q, a, b, c⟩ := zp_mem r e m
      exact ⟨q, List.mem_cons_of_mem _ a, b, c⟩
open LW in
/-- a part of it, in whatever sequence -/
theorem zp_of {H : Hp} : ∀ {L : List (Addr × List Str)}, (∀ e ∈ L, ∃ p : Str × Str, e.2 = two p ∧ H e.1 = some (.tup [.str p.1, .str p.2])) → ∃ us qs, L = zp us qs ∧ TsAt H us qs
  | [], _ => ⟨[], [], rfl, .nil⟩
  | e :: r, h => by
    obtain ⟨us, qs, e1, e2⟩ := zp_of (L := r) fun z m => h z (List.mem_cons_of_mem _ m)
    obtain ⟨p, a, b⟩ := h e (List.mem_cons_self ..)
    refine ⟨e.1 :: us, p :: qs, ?_, .cons b e2⟩
    show e :: r = (e.1, two p) :: us.zip (qs.map two)
    rw [← a, e1]
theorem two_inj {p q : Str × Str} (h : two p = two q) : p = q := by
  injection h with a b
  injection b with b _
  exact Prod.ext a b
theorem zp_keys : ∀ {us : List Addr} {qs : List (Str × Str)}, us.length = qs.length → (zp us qs).map (·.2) = qs.map two
  | [], [], _ => rfl
  | u :: us, q :: qs, h => by
    show two q :: (zp us qs).map (·.2) = two q :: qs.map two
    rw [zp_keys (by simpa using h)]
theorem zp_refs : ∀ {us : List Addr} {qs : List (Str × Str)}, us.length = qs.length → ((zp us qs).map fun e => Value.ref e.1) = us.map Value.ref
  | [], [], _ => rfl
  | u :: us, q :: qs, h => by
    show Value.ref u :: ((zp us qs).map fun e => Value.ref e.1) = Value.ref u :: us.map Value.ref
    rw [zp_refs (by simpa using h)]
theorem ref_vals : ∀ {ts : List Addr} {us : List Value}, Vals (ts.map V.ref) us → us = ts.map Value.ref
  | [], _, .nil => rfl
  | t :: ts, _, .cons h r => by rw [List.map_cons, ref_vals r, show _ = Value.ref t from h]
theorem vals_ref : ∀ l : List Addr, Vals (l.map V.ref) (l.map Value.ref)
  | [] => .nil
  | _ :: l => .cons rfl (vals_ref l)
section
open LW
variable {X : Cx} {pins : List (Addr × Obj)} {σ : L2.St} {H : Hp} {s : Shared}
theorem inv_two (I : Inv X pins σ H s) {b : Addr} {p : Str × Str} (h : H b = some (.tup [.str p.1, .str p.2])) : IsTupleKey (PySem.strKind X.prog X.w) s.heap (two p) b ∧ LWK.IsPS s.heap (.ref b) p := by
  obtain ⟨_, its, r, o, ho, hc, n, hd⟩ := I.hok _ _ h
  obtain ⟨u1, u2, rfl, ⟨t1, rfl⟩, ⟨t2, rfl⟩⟩ := vals2 r
  exact ⟨⟨o, _, n, ho, hc, hd, .cons (strKind_is _ _ _ _) (.cons (strKind_is _ _ _ _) .nil)⟩, b, o, t1, t2, n, rfl, ho, hc, hd⟩
def rSetTp (X : Cx) : List V → Hp → VK → Prop := fun vs H Q => ∃ (l : Addr) (ts : List Addr) (ps : List (Str × Str)), vs = [V.ref l] ∧ SqL X.K H l (ts.map V.ref) ∧ TsAt H ts ps ∧ ps.length ≤ 60 ∧
  ∀ p us qs, H p = none → TsAt H us qs → (∀ u ∈ us, u ∈ ts) → qs.Nodup → (∀ x, x ∈ qs ↔ x ∈ ps) → Q (.ref p) (upd H p (TpO X.prog X.w p (zp us qs)))
theorem cr_setTp (hc : X.calm = true) (hu : X.A.units + 64 < cLine) : CallR X (.type "set") (rSetTp X) := by
  intro pins s σ H vs us Q I r h
  obtain ⟨l, ts, ps, rfl, hs, hx, hz, q⟩ := h
  obtain ⟨its, rv, hl, _⟩ := I.list hs
  have e := ref_vals rv
  subst e
  have ln := hx.length
  rw [Vals.ref1 r]
  refine set_tups (ks := zp ts ps) (kd := PySem.strKind X.prog X.w) vl_str (I.ok.hd hc) (by omega) hl.isList (by rw [List.toList_toArray, zp_refs ln]) (fun e m => ?_) (by rw [List.length_zip, List.length_map]; omega) fun h' tk L es ep t T f k => ?_
  · obtain ⟨p, _, e2, h2⟩ := zp_mem hx e m
    rw [e2]
    exact (inv_two I h2).1
  · have sub : ∀ e ∈ L, e ∈ zp ts ps := fun e m => List.mem_of_mem_take (f.sub e m)
    obtain ⟨us, qs, rfl, hT⟩ := zp_of (H := H) (L := L) fun e m => by
      obtain ⟨p, _, a, b⟩ := zp_mem hx e (sub e m)
      exact ⟨p, a, b⟩
    have l2 := hT.length
    have ky := zp_keys l2
    have nd : qs.Nodup := by
      have z := T.dif
      rw [ky] at z
      exact List.Pairwise.of_map two (fun a b ne e => ne (congrArg two e)) z
    have mem : ∀ x, x ∈ qs ↔ x ∈ ps := fun x => by
      have z := f.key (two x)
      rw [ky, List.take_length, zp_keys ln, List.mem_map, List.mem_map] at z
      exact ⟨fun m => by obtain ⟨y, my, e⟩ := z.mp ⟨x, m, rfl⟩; exact two_inj e ▸ my, fun m => by obtain ⟨y, my, e⟩ := z.mpr ⟨x, m, rfl⟩; exact two_inj e ▸ my⟩
    have su : ∀ u ∈ us, u ∈ ts := fun u m => by
      have z : Value.ref u ∈ (zp us qs).map fun e => Value.ref e.1 := by rw [zp_refs l2]; exact List.mem_map.mpr ⟨u, m, rfl⟩
      obtain ⟨e, me, ee⟩ := List.mem_map.mp z
      injection ee with ee
      rw [← ee]
      exact (List.of_mem_zip (sub e me)).1
    exact ⟨.ref _, upd H s.heap.objs.size (TpO X.prog X.w s.heap.objs.size (zp us qs)), I.laid (t' := tk) k (Nat.le_refl _) (tpO_new T), rfl, q _ us qs (I.hok.fresh (Nat.le_refl _)) hT su nd mem⟩
def rSortTp (X : Cx) : List V → Hp → VK → Prop := fun vs H Q => ∃ (a : Addr) (us : List Addr) (qs : List (Str × Str)), vs = [V.ref a] ∧ H a = some (TpO X.prog X.w a (zp us qs)) ∧ TsAt H us qs ∧
  ∀ ts ps p, TsAt H ts ps → (∀ t ∈ ts, t ∈ us) → ps.Perm qs → SortP ps → H p = none → Q (.ref p) (upd H p (.lst (ts.map V.ref)))
theorem cr_sortTp (hc : X.calm = true) : CallR X (.builtin "sorted") (rSortTp X) := by
  intro pins s σ H vs us0 Q I r h
  obtain ⟨a, us, qs, rfl, ha, hx, q⟩ := h
  have ln := hx.length
  obtain ⟨⟨es, ep, t, R⟩, _⟩ := I.hok a _ ha
  rw [Vals.ref1 r]
  refine sort_tps R (I.ok.hd hc) (k := fun v => LW.pairAt H (addrOf v)) (fun e m => ?_) fun s' p out c k ⟨g, o⟩ hp hg h1 h2 => ?_
  · obtain ⟨p, _, _, hH⟩ := zp_mem hx e m
    have z : LW.pairAt H (addrOf (.ref e.1)) = p := by
      show LW.pairAt H e.1 = p
      unfold LW.pairAt
      rw [hH]
    rw [z]
    exact (inv_two I hH).2
  · rw [zp_refs ln] at h1
    have eo : out = (out.map addrOf).map Value.ref := by
      rw [List.map_map]
      refine (List.map_id out).symm.trans (List.map_congr_left fun v hv => ?_)
      obtain ⟨t, _, rfl⟩ := List.mem_map.mp (h1.mem_iff.mp hv)
      rfl
    have pm : (out.map addrOf).Perm us := by
      have z := h1.map addrOf
      rw [List.map_map] at z
      have e : us.map (addrOf ∘ Value.ref) = us := (List.map_congr_left fun t _ => rfl).trans (List.map_id us)
      rw [e] at z
      exact z
    have all : ∀ t ∈ out.map addrOf, H t = some (.tup [.str (LW.pairAt H t).1, .str (LW.pairAt H t).2]) := fun t ht => ts_mem hx t (pm.mem_iff.mp ht)
    have vv : Vals ((out.map addrOf).map V.ref) out := by
      have z := vals_ref (out.map addrOf)
      rw [← eo] at z
      exact z
    have lz : ((out.map addrOf).map V.ref).length ≤ sizeLine := by
      have z := R.sz.2
      rw [List.length_zip, List.length_map] at z
      rw [List.length_map, pm.length_eq, sizeLine_eq]
      omega
    have hn : H p = none := I.hok.fresh hp
    have J : Inv X pins σ (upd H p (.lst ((out.map addrOf).map V.ref))) { s with heap := s'.heap, gens := s'.gens, drawn := s'.drawn, toks := s'.toks } :=
      I.call (ch := []) (Un.laid k hp hn) (I.hok.laid k hp ⟨lz, out, c, vv, hg⟩) (by rw [g]; exact I.bare) (fun _ z => nomatch z)
    have e : s' = { s with heap := s'.heap, gens := s'.gens, drawn := s'.drawn, toks := s'.toks } := by
      cases s'; cases s; cases o; rfl
    rw [e]
    refine ⟨.ref p, _, J, rfl, q _ _ p (ts_of all) (fun t m => pm.mem_iff.mp m) ?_ (List.pairwise_map.mpr (List.pairwise_map.mpr (h2.imp fun {v u} z => of_decide_eq_false z))) hn⟩
    rw [ts_pairs hx]
    exact pm.map _
end
end LWT
namespace LW
open PySem L2
theorem ts_sub {H Hc : Hp} {ts us : List Addr} {ps qs : List (Str × Str)} (h : TsAt H ts ps) (ex : Ex H Hc) (k : TsAt Hc us qs) (su : ∀ u ∈ us, u ∈ ts) : TsAt H us qs := by
  induction k with
  | nil => exact .nil
  | cons a _ ih =>
    refine .cons ?_ (ih fun u m => su u (List.mem_cons_of_mem _ m))
    have z := ts_mem h _ (su _ (List.mem_cons_self ..))
    rw [z]
    exact (ex _ _ z).symm.trans a
/-- sorted(set(e)), e a list of pairs of texts -/
theorem e_sortSetP {X : Cx} {σ : St} {H : Hp} {e : Expr} {ps : List (Str × Str)} {p1 p2 p3 pos : Pos} (hc : X.calm = true) (hu : X.A.units + 64 < cLine) (m1 : X.mg "sorted" = none) (m2 : X.mg "set" = none) (h : Cm H (fun v H' => ∃ b ts, v = .ref b ∧ H' b = some (.lst (ts.map V.ref)) ∧ TsAt H' ts ps) (wE X e σ)) (hz : ps.length ≤ 60) (g1 : Gl X "sorted" := by rfl) (g2 : Gl X "set" := by rfl)
    (s1 : starEach [Expr.Call (.Name "set" p1) [e] [] p2] X.env = (false, eval (.Call (.Name "set" p1) [e] [] p2) X.env) :: starEach [] X.env := by rfl) (s2 : starEach [e] X.env = (false, eval e X.env) :: starEach [] X.env := by rfl) :
    Cm H (fun v H' => ∃ d us qs, v = .ref d ∧ H' d = some (.lst (us.map V.ref)) ∧ TsAt H' us qs ∧ qs.Nodup ∧ SortP qs ∧ ∀ x, x ∈ qs ↔ x ∈ ps) (wE X (.Call (.Name "sorted" p3) [.Call (.Name "set" p1) [e] [] p2] [] pos) σ) := by
  refine e_blt (LWT.cr_sortTp hc) m1 (a_cons (P := fun v H' => ∃ d us qs, v = .ref d ∧ H' d = some (LWT.TpO X.prog X.w d (LWT.zp us qs)) ∧ TsAt H' us qs ∧ (∀ x, x ∈ qs ↔ x ∈ ps) ∧ qs.Nodup) (e_ty (LWT.cr_setTp hc hu) m2 (a_cons h a_nil s2) (fun vs H1 e1 z => ?_) g2 (by decide +kernel) (by decide) (by decide) s2 (by rfl)) a_nil s1) (fun vs H1 e1 z => ?_) g1 (by decide +kernel) (by decide) (by decide) s1 (by rfl)
  · obtain ⟨_, _, rfl, ⟨b, ts, rfl, hb, hts⟩, rfl⟩ := z.now
    exact fun Hc ex Q q => ⟨b, ts, ps, rfl, SqL.of (ex _ _ hb), paired_ex ex hts, hz, fun p us qs hp hT su nd mem => q _ _ _ (Grow.new (o := LWT.TpO X.prog X.w p (LWT.zp us qs)) ex hp) fun H' e' => ⟨p, us, qs, rfl, e' _ _ upd_same, paired_ex ((Evl.Ex.new (Evl.fresh_back ex hp)).trans e') (ts_sub hts ex hT su), mem, nd⟩⟩
  · obtain ⟨_, _, rfl, ⟨d, us, qs, rfl, hd, hT, mem, nd⟩, rfl⟩ := z.now
    exact fun Hc ex Q q => ⟨d, us, qs, rfl, ex _ _ hd, paired_ex ex hT, fun ts ps2 p hT2 su pm sp hn => q _ _ _ (Grow.new ex hn) fun H' e' => ⟨p, ts, ps2, rfl, e' _ _ upd_same, paired_ex ((Evl.Ex.new (Evl.fresh_back ex hn)).trans e') (ts_sub hT ex hT2 su), pm.nodup_iff.mpr nd, sp, fun x => pm.mem_iff.trans (mem x)⟩⟩
end LW
set_option Elab.async false
set_option linter.all false
set_option maxRecDepth 100000
set_option maxHeartbeats 2000000
namespace LW
open PySem L2
/-- sorted(set(e)), e a list of texts that may stand already -/
theorem e_sortSetL {X : Cx} {σ : St} {H : Hp} {e : Expr} {xs : List Str} {p1 p2 p3 pos : Pos} (hc : X.calm = true) (m1 : X.mg "sorted" = none) (m2 : X.mg "set" = none) (h : Cm H (lst X.K (xs.map V.str)) (wE X e σ)) (hz : xs.length ≤ 60) (g1 : Gl X "sorted" := by rfl) (g2 : Gl X "set" := by rfl)
    (s1 : starEach [Expr.Call (.Name "set" p1) [e] [] p2] X.env = (false, eval (.Call (.Name "set" p1) [e] [] p2) X.env) :: starEach [] X.env := by rfl) (s2 : starEach [e] X.env = (false, eval e X.env) :: starEach [] X.env := by rfl) :
    Cm H (fun v H' => ∃ d ys, v = .ref d ∧ H' d = some (.lst (ys.map V.str)) ∧ ys.Nodup ∧ SortN ys ∧ ∀ x, x ∈ ys ↔ x ∈ xs) (wE X (.Call (.Name "sorted" p3) [.Call (.Name "set" p1) [e] [] p2] [] pos) σ) := by
  refine e_blt (LWS.cr_sortTx hc) m1 (a_cons (P := fun v H' => ∃ d ks, v = .ref d ∧ H' d = some (LWS.TxO X.prog X.w d ks) ∧ (∀ x, x ∈ ks ↔ x ∈ xs) ∧ ks.Nodup ∧ ks.length ≤ 60) (e_ty (LWS.cr_setS hc) m2 (a_cons h a_nil s2) (fun vs H1 e1 z => ?_) g2 (by decide +kernel) (by decide) (by decide) s2 (by rfl)) a_nil s1) (fun vs H1 e1 z => ?_) g1 (by decide +kernel) (by decide) (by decide) s1 (by rfl)
  · obtain ⟨_, _, rfl, ⟨b, rfl, hb⟩, rfl⟩ := z.now
    exact fun Hc ex Q q => ⟨b, xs, rfl, Evl.ex_l ex hb, hz, fun p ks hp hm nd hl => q _ _ _ (Grow.new ex hp) fun H' e' => ⟨p, ks, rfl, e' _ _ upd_same, hm, nd, Nat.le_trans hl hz⟩⟩
  · obtain ⟨_, _, rfl, ⟨d, ks, rfl, hd, hm, nd, hl⟩, rfl⟩ := z.now
    exact fun Hc ex Q q => ⟨d, ks, rfl, ex _ _ hd, by omega, fun ys p hp hs hn => q _ _ _ (Grow.new ex hn) fun H' e' => ⟨p, ys, rfl, e' _ _ upd_same, hp.nodup_iff.mpr nd, sortN_of hs, fun x => hp.mem_iff.trans (hm x)⟩⟩
end LW
namespace K19
open PySem L2 LW
abbrev sTold : Stmt := top 53
/-- what a model of nodes gs and pairs ps has -/
structure Told (gs : List Str) (ps : List (Str × Str)) (ns : List Str) (ls : List (Str × Str)) : Prop where
  nd : ns.Nodup
  sn : SortN ns
  mem : ∀ x, x ∈ ns ↔ x ∈ gs
  ndl : ls.Nodup
  sp : SortP ls
  lm : ∀ q, q ∈ ls ↔ ∃ p ∈ ps, lk p = q
theorem told_uniq {gs : List Str} {ps : List (Str × Str)} {ns ns' : List Str} {ls ls' : List (Str × Str)} (t : Told gs ps ns ls) (nt : Nt ns' ls') (h1 : ∀ x, x ∈ ns' ↔ x ∈ gs) (h2 : ∀ q, q ∈ ls' ↔ ∃ p ∈ ps, lk p = q) : ns = ns' ∧ ls = ls' := by
  exact ⟨sortN_uniq t.sn nt.sn ((List.perm_ext_iff_of_nodup t.nd nt.nd).mpr fun x => (t.mem x).trans (h1 x).symm), sortP_uniq t.sp nt.sp ((List.perm_ext_iff_of_nodup t.ndl nt.nl).mpr fun q => (t.lm q).trans (h2 q).symm)⟩
section
variable {P : Program} {w : World} {K : PySem.W.Frag} {mg : Str → Option Value} {base : Heap} {f fi C : Addr} {fd : FuncData}
def ATold (K : PySem.W.Frag) : List Str × List (Str × Str) → List V → Hp → Prop := fun x vs H => ∃ a b ts, vs = [.ref a, .ref b] ∧ SqL K H a (x.1.map V.str) ∧ SqL K H b (ts.map V.ref) ∧ TsAt H ts x.2 ∧ x.1.length ≤ 60 ∧ x.2.length ≤ 60
def RTold : List Str × List (Str × Str) → V → Hp → Prop := fun x v H => ∃ d ns ls, v = .ref d ∧ MdlAt d ns ls H ∧ Told x.1 x.2 ns ls
abbrev nTold : List Str := ["_law_spots", "_law_pairs", "_law_this", "_law_mate"]
theorem scTold : FnScope nTold ["_law_spots", "_law_pairs"] (defScope sTold) := ⟨rfl, rfl, rfl, by decide +kernel, rfl, by decide +kernel, by decide +kernel⟩
theorem b_told (hS : mg "sorted" = none) (ms : mg "set" = none) (FK : Fn P w K mg base "_law_link" 1 AP2 RLkO) : Body P w K mg base nTold "_law_told_model" sTold f 1 (ATold K) RTold := by
  intro cdv Ar outer s H0 E x vs H Hc D hr ex pa rt nx
  obtain ⟨gs, ps⟩ := x
  obtain ⟨a, b, ts, rfl, ha, hb, hts, lg, lp⟩ := pa.now
  have ha : SqL K H a (gs.map V.str) := ha
  have hts : TsAt H ts ps := hts
  have lg : gs.length ≤ 60 := lg
  have lp : ps.length ≤ 60 := lp
  have lt := hts.length
  have hu : (fx P w K mg base nTold "_law_told_model" sTold f cdv Ar outer s H0 E).A.units + 64 < cLine := hr.units
  refine b_ret (P := RTold (gs, ps)) ex (Cm.imp (e_disp2 (P1 := fun v H' => ∃ d ys, v = .ref d ∧ H' d = some (.lst (ys.map V.str)) ∧ ys.Nodup ∧ SortN ys ∧ ∀ x, x ∈ ys ↔ x ∈ gs) (P2 := fun v H' => ∃ d us qs, v = .ref d ∧ H' d = some (.lst (us.map V.ref)) ∧ TsAt H' us qs ∧ qs.Nodup ∧ SortP qs ∧ ∀ x, x ∈ qs ↔ x ∈ ps.map lk)
    (e_sortSetL rfl hS ms (Cm.imp (e_var (v := V.ref a) 0) fun v H' e z => ⟨a, z, Evl.ex_l e ha⟩) lg)
    (e_sortSetP rfl hu hS ms (e_lc (own := [("_law_this", 2), ("_law_mate", 3)]) (g := gTup K 2 (gCons (gName 2) (gCons (gName 3) gNil))) rfl scTold.nd (pi_list pe_w) (blkOk_by (N := nTold) (sc := defScope sTold) (by decide +kernel)) (fun _ _ _ _ _ => pg_tup rfl (pgs_cons (pg_name (i := 2) scTold.nd rfl (.inl rfl)) (pgs_cons (pg_name (i := 3) scTold.nd rfl (.inl rfl)) pgs_nil))) (fun _ _ _ _ _ => pts_nil)
      (c_lc (i_list (xs := ts.map V.ref) (Cm.imp (e_var (v := V.ref b) 1) fun v H' e z => ⟨b, z, Evl.ex_l e hb⟩)) (by rw [List.length_map]; omega) (fun i acc H' => ∃ us, acc = us.map V.ref ∧ TsAt H' us ((ps.map lk).take i)) (fun _ => ⟨[], rfl, .nil⟩) (fun i y acc H9 hi e9 py pacc => ?_) fun acc d H9 e9 pacc hd => ?_)) (by rw [List.length_map]; exact lp))) fun v H' e z => ?_) fun v Hn H2 g p => rt v _ _ g p
  · obtain ⟨t, q, rfl, ht, hq, hH⟩ := ts_get hts py.now
    refine ⟨_, true, bind_two (.sqt (SqT.of (e9 _ _ hH))), rfl, c_yes, fun _ => c_eb fun s H0 C cl fp => ?_, fun z => nomatch z⟩
    refine Cm.imp (e_callD q FK (hr.mono (by decide)) (a_consD (e_var (v := V.str q.1) 2) (a_consD (e_var (v := V.str q.2) 3) a_nil)) (.const rfl)) fun v H' e z => ?_
    obtain ⟨c, rfl, hc⟩ := z
    obtain ⟨us, rfl, hv⟩ := pacc H' e
    refine ⟨us ++ [c], by simp, ?_⟩
    rw [take_snoc (x := lk q) (by rw [List.getElem?_map, hq] <;> rfl)]
    exact ts_snoc hc hv
  · obtain ⟨us, rfl, hv⟩ := pacc.now
    rw [List.take_of_length_le (by rw [List.length_map, List.length_map]; omega)] at hv
    exact fun H' e' => ⟨d, us, rfl, e' _ _ hd, paired_ex e' hv⟩
  · obtain ⟨p, v1, v2, rfl, hp, ⟨d1, ys, rfl, h1, n1, s1, m1⟩, ⟨d2, us, qs, rfl, h2, t2, n2, s2, m2⟩⟩ := z
    exact ⟨p, ys, qs, rfl, ⟨d1, d2, us, hp, h1, h2, t2⟩, ⟨n1, s1, m1, n2, s2, fun q => (m2 q).trans List.mem_map⟩⟩
end
end K19
set_option Elab.async false
set_option linter.all false
set_option maxRecDepth 100000
set_option maxHeartbeats 2000000
namespace K19
open PySem L2 LW
abbrev sMoved : Stmt := top 61
/-- the later change stands -/
def mv (cs : List (Str × Str)) (z : Str) : Str := cs.foldl (fun y p => if z = p.1 then p.2 else y) z
def kvsOf (cs : List (Str × Str)) : List (Key × V) := mergeK [] (cs.map fun p => (.inr p.1, .str p.2))
theorem kvs_mv (cs : List (Str × Str)) (z : Str) : (valV (kvsOf cs) (.inr z)).getD (.str z) = .str (mv cs z) := by
  have go : ∀ (cs : List (Str × Str)) (acc : List (Key × V)) (y : Str), (valV acc (.inr z)).getD (.str z) = .str y →
      (valV (mergeK acc (cs.map fun p => ((.inr p.1 : Key), V.str p.2))) (.inr z)).getD (.str z) = .str (cs.foldl (fun y p => if z = p.1 then p.2 else y) y) := by
    intro cs
    induction cs with
    | nil => exact fun acc y h => h
    | cons p r ih =>
      intro acc y h
      show (valV (mergeK (putK acc (.inr p.1) (.str p.2)) (r.map fun p => ((.inr p.1 : Key), V.str p.2))) (.inr z)).getD (.str z) = _
      rw [List.foldl_cons]
      refine ih _ _ ?_
      rw [valV_put]
      by_cases e : z = p.1
      · rw [if_pos (congrArg Sum.inr e), if_pos e] <;> rfl
      · rw [if_neg (fun q => e (Sum.inr.inj q)), if_neg e]
        exact h
  exact go cs [] z rfl
theorem paired_kv {K : PySem.W.Frag} {H : Hp} : ∀ {us : List Addr} {cs : List (Str × Str)}, TsAt H us cs → Paired (fun (p : Addr) (kv : Key × V) => SqT K H p [kV kv.1, kv.2]) us (cs.map fun p => ((.inr p.1 : Key), V.str p.2))
  | _, _, .nil => .nil
  | _, _, .cons h r => .cons (SqT.of h) (paired_kv r)
section
variable {P : Program} {w : World} {K : PySem.W.Frag} {mg : Str → Option Value} {base : Heap} {f fi C : Addr} {fd : FuncData}
def AMov (K : PySem.W.Frag) : Mdl × List (Str × Str) → List V → Hp → Prop := fun x vs H => ∃ c us, vs = [.ref x.1.d, .ref c] ∧ x.1.At H ∧ SqL K H c (us.map V.ref) ∧ TsAt H us x.2
def RMov : Mdl × List (Str × Str) → V → Hp → Prop := fun x v H => ∃ d ns ls, v = .ref d ∧ MdlAt d ns ls H ∧ Told (x.1.ns.map (mv x.2)) (rnL (mv x.2) x.1.ls) ns ls
abbrev nMoved : List Str := ["_law_model", "_law_changes", "_law_table", "_law_pairs", "_law_this", "_law_mate", "_law_spot"]
theorem scMoved : FnScope nMoved ["_law_model", "_law_changes"] (defScope sMoved) := ⟨rfl, rfl, rfl, by decide +kernel, rfl, by decide +kernel, by decide +kernel⟩
theorem b_moved (md : mg "dict" = none) (FT : Fn P w K mg base "_law_told_model" 2 (ATold K) RTold) : Body P w K mg base nMoved "_law_moved" sMoved f 2 (AMov K) RMov := by
  intro cdv Ar outer s H0 E x vs H Hc D hr ex pa rt nx
  obtain ⟨x, cs⟩ := x
  obtain ⟨c, us, rfl, hX, hc, hus⟩ := pa.now
  have hM : MdlAt x.d x.ns x.ls H := hX.1
  have nt : Nt x.ns x.ls := hX.2
  have hus : TsAt H us cs := hus
  have ln := nt.len
  have ll := nt.ll
  obtain ⟨a, ha, ca⟩ := e_spots (X := fx P w K mg base nMoved "_law_moved" sMoved f cdv Ar outer s H0 E) (x := x) (hu_of hr) hM
  obtain ⟨b, ts, hb, hts, cb⟩ := e_pairs (X := fx P w K mg base nMoved "_law_moved" sMoved f cdv Ar outer s H0 E) (x := x) (hu_of hr) hM
  have l2 := hts.length
  refine b_set 2 ex (P := fun v H' => ∃ t, v = .ref t ∧ H' t = some (.dK (kvsOf cs))) (e_tyD (call_dictP rfl) md (a_consD (v := V.ref c) (e_var 1) a_nil) (fun Hc ex Q q => ⟨c, us, _, rfl, Evl.ex_l ex hc, paired_kv (paired_ex ex hus), fun p hp => q _ _ _ (Grow.new ex hp) fun H' e' => ⟨p, rfl, e' _ _ upd_same⟩⟩)) (fun v H1 Hc1 g1 p1 => ?_) scMoved.nd (hx := .inr rfl)
  obtain ⟨t, rfl, ht⟩ := p1.now
  have e1 := g1.k
  refine b_setLc 3 g1.s rfl scMoved.nd rfl rfl rfl (pi_list pe_w) (own := [("_law_this", 4), ("_law_mate", 5)]) (g := gTup K 2 (gCons (gName 4) (gCons (gName 5) gNil))) (P := RPs (rnL (mv cs) x.ls)) (blkOk_by (N := nMoved) (sc := defScope sMoved) (by decide +kernel)) (fun _ _ _ _ _ => pg_tup rfl (pgs_cons (pg_name (i := 4) scMoved.nd rfl (.inl rfl)) (pgs_cons (pg_name (i := 5) scMoved.nd rfl (.inl rfl)) pgs_nil))) (fun _ _ _ _ _ => pts_nil)
    (c_lc (i_list (xs := ts.map V.ref) (Cm.imp (cb _ _ _ _ _ _ e1 (e_var 0)) fun v H' e z => ⟨b, z, SqL.of (e _ _ (e1 _ _ hb))⟩)) (by rw [List.length_map]; omega) (fun i acc H' => ∃ os, acc = os.map V.ref ∧ TsAt H' os ((rnL (mv cs) x.ls).take i)) (fun _ => ⟨[], rfl, .nil⟩) (fun i y acc H9 hi e9 py pacc => ?_) fun acc q H9 e9 pacc hq => ?_) (fun v H2 Hc2 g2 p2 => ?_)
  · obtain ⟨u, q, rfl, hu, hq, hH⟩ := ts_get hts py.now
    have h9 : H9 t = _ := e9 _ _ ht
    refine ⟨_, true, bind_two (.sqt (SqT.of ((e1.trans e9) _ _ hH))), rfl, c_yes, fun _ => c_eb fun s H0 C cl fp => ?_, fun z => nomatch z⟩
    refine Cm.imp (e_tup (P := pr (mv cs q.1, mv cs q.2)) (a_consD (v := V.str (mv cs q.1)) (t_is (e_get2 (key := .inr q.1) (v := V.str q.1) (kvs := kvsOf cs) (hu_of hr) (e_var (v := V.ref t) 2) (e_var (v := V.str q.1) 4) (e_var (v := V.str q.1) 4) (.at h9)) (kvs_mv cs q.1)) (a_consD (v := V.str (mv cs q.2)) (t_is (e_get2 (key := .inr q.2) (v := V.str q.2) (kvs := kvsOf cs) (hu_of hr) (e_var (v := V.ref t) 2) (e_var (v := V.str q.2) 5) (e_var (v := V.str q.2) 5) (.at h9)) (kvs_mv cs q.2)) a_nil)) (fun xs _ z => by rw [show xs = _ from z]; exact (by decide : 2 ≤ 100000)) fun xs p H3 e3 z hp => ?_) fun v H' e z => ?_
    · rw [show xs = _ from z.now] at hp
      exact fun H' e' => ⟨p, rfl, e' _ _ hp⟩
    · obtain ⟨d, rfl, hd⟩ := z
      obtain ⟨os, rfl, ho⟩ := pacc H' e
      refine ⟨os ++ [d], by simp, ?_⟩
      rw [take_snoc (x := (mv cs q.1, mv cs q.2)) (by unfold rnL; rw [List.getElem?_map, hq] <;> rfl)]
      exact ts_snoc hd ho
  · obtain ⟨os, rfl, ho⟩ := pacc.now
    rw [List.take_of_length_le (by unfold rnL; rw [List.length_map, List.length_map]; omega)] at ho
    exact fun H' e' => ⟨q, os, rfl, e' _ _ hq, paired_ex e' ho⟩
  obtain ⟨d, os, rfl, hd, hos⟩ := p2.now
  have e2 := e1.trans g2.k
  have ht2 := g2.k _ _ ht
  refine b_ret (P := RMov (x, cs)) g2.s (e_call FT hr (a_cons (P := nl ((x.ns.map (mv cs)).map V.str)) (e_lc (own := [("_law_spot", 6)]) (g := gName 6) rfl scMoved.nd (pi_list pe_w) (blkOk_by (N := nMoved) (sc := defScope sMoved) (by decide +kernel)) (fun _ _ _ _ _ => pg_name (i := 6) scMoved.nd rfl (.inl rfl)) (fun _ _ _ _ _ => pts_nil)
    (c_lc (i_list (xs := x.ns.map V.str) (Cm.imp (ca _ _ _ _ _ _ e2 (e_var 0)) fun v H' e z => ⟨a, z, SqL.of (e _ _ (e2 _ _ ha))⟩)) (by rw [List.length_map]; omega) (fun i acc _ => acc = ((x.ns.take i).map (mv cs)).map V.str) (fun _ => rfl) (fun i y acc H9 hi e9 py pacc => ?_) fun acc q H9 e9 pacc hq => ?_)) (a_consD (v := V.ref d) (e_var 3) a_nil)) fun vs H3 e3 p3 => ?_) fun v Hn H4 g p => rt v _ _ ((g1.trans g2).trans g) p
  · obtain ⟨z, hz, rfl⟩ := txt_get py.now
    have h9 : H9 t = _ := e9 _ _ ht2
    refine ⟨_, true, bind_name, rfl, c_yes, fun _ => c_eb fun s H0 C cl fp => ?_, fun z => nomatch z⟩
    refine Cm.imp (t_is (e_get2 (key := .inr z) (v := V.str z) (kvs := kvsOf cs) (hu_of hr) (e_var (v := V.ref t) 2) (e_var (v := V.str z) 6) (e_var (v := V.str z) 6) (.at h9)) (kvs_mv cs z)) fun v H' _ q => ?_
    have ea : acc = _ := pacc.now
    rw [ea, show v = V.str (mv cs z) from q, take_snoc hz, List.map_append, List.map_append] <;> rfl
  · have ea : acc = _ := pacc.now
    rw [List.length_map, List.take_length] at ea
    subst ea
    exact fun H' e' => ⟨q, rfl, e' _ _ hq⟩
  · obtain ⟨_, _, rfl, ⟨b2, rfl, hb2⟩, rfl⟩ := p3.now
    exact ⟨(x.ns.map (mv cs), rnL (mv cs) x.ls), fun H' e => ⟨b2, d, os, rfl, SqL.of (e _ _ hb2), SqL.of ((e3.trans e) _ _ hd), paired_ex (e3.trans e) hos, by show (x.ns.map (mv cs)).length ≤ 60; rw [List.length_map]; exact ln, by show (rnL (mv cs) x.ls).length ≤ 60; unfold rnL; rw [List.length_map]; exact ll⟩, fun v H' e z => z⟩
end
end K19
set_option Elab.async false
set_option linter.all false
set_option maxRecDepth 100000
set_option maxHeartbeats 4000000
/-! o.m(k = v, ..), m a method of one's own with a ** parameter -/
namespace LW
open PySem PySem.W PyProof.Rows L2
section
variable {P : Program} {w : World} {A : Around} {E : Value → Shared → Prop}
theorem ns_put {s : Shared} {d : Addr} {es : List DictEntry} {n : Nat} {k : Str} {v : Value} {Q : Unit → Shared → Prop} (hd : s.heap.get? d = some (dictOf es n)) (h1 : ∀ e ∈ es, e.key.isStr k = false) (h2 : ∀ e ∈ es, e.refKey = false)
    (q : ∀ h', Heap.SameBut d s.heap h' → h'.get? d = some (dictOf (es ++ [⟨PyData.keyHash w.params k, .str k s.toks, v⟩]) (n + 1)) → Q () { s with heap := h', toks := s.toks + 1 }) : wpAny (model P w) A (nsSet d k v) Q E s := by
  have z1 : es.any (·.key.isStr k) = false := List.any_eq_false.mpr fun e m => by rw [h1 e m]; exact Bool.false_ne_true
  have z2 : es.any (·.refKey) = false := List.any_eq_false.mpr fun e m => by rw [h2 e m]; exact Bool.false_ne_true
  have ep : Obj.putName k (PyData.keyHash w.params k) (.str k s.toks) v (dictOf es n) = dictOf (es ++ [⟨PyData.keyHash w.params k, .str k s.toks, v⟩]) (n + 1) := by
    rw [putName_dict, putL_new h1]
    unfold putN
    rw [z1, if_neg Bool.false_ne_true]
  have no : aRefKeyMayBeTheName k es.toArray = false := by
    rw [aRefKeyMayBeTheName_at, ← Array.any_toList, ← Array.any_toList, List.toList_toArray, z2, Bool.and_false]
  unfold nsSet
  refine wpAny_bind (wpAny_bind (wpAny_askSetting (wpAny_pure (wpAny_bind (wpAny_mkText (wpAny_bind (wpAny_loadPart hd ?_)))))))
  dsimp only
  show wpAny _ _ (if aRefKeyMayBeTheName k es.toArray = true then _ else _) _ _ _
  rw [no, if_neg Bool.false_ne_true]
  refine wpAny_updatePart (o := dictOf es n) hd (q _ (Heap.SameBut.update ..) ?_)
  rw [← ep]
  exact Heap.get?_update_self (Obj.putName k (PyData.keyHash w.params k) (.str k s.toks) v) hd (by rw [ep]; rfl)
theorem ns_fill {d : Addr} {Q : PUnit → Shared → Prop} : ∀ (xs : List (Str × Value)) (s : Shared) (es : List DictEntry) (n : Nat), s.heap.get? d = some (dictOf es n) → (∀ e ∈ es, ∀ x ∈ xs, e.key.isStr x.1 = false) → (∀ e ∈ es, e.refKey = false) → (xs.map (·.1)).Nodup →
    (∀ h' tk, Heap.SameBut d s.heap h' → h'.get? d = some (dictOf (es ++ kwEs w.params s.toks xs) (n + xs.length)) → Q ⟨⟩ { s with heap := h', toks := tk }) → wpAny (model P w) A (forIn xs PUnit.unit fun x _ => (nsSet d x.1 x.2 >>= fun _ => pure (ForInStep.yield PUnit.unit))) Q E s
  | [], s, es, n, hd, _, _, _, q => by
    rw [List.forIn_nil]
    exact wpAny_pure (q s.heap s.toks (Heap.SameBut.refl d s.heap) (by rw [show kwEs w.params s.toks [] = [] from rfl, List.append_nil]; exact hd))
  | x :: r, s, es, n, hd, h1, h2, nd, q => by
    have nd' := List.nodup_cons.mp nd
    rw [List.forIn_cons]
    refine wpAny_bind (wpAny_bind (ns_put hd (fun e m => h1 e m x (List.mem_cons_self ..)) h2 fun h' sb hd' => wpAny_pure ?_))
    refine ns_fill r { s with heap := h', toks := s.toks + 1 } _ _ hd' (fun e m y my => ?_) (fun e m => ?_) nd'.2 fun h2 tk sb2 hd2 => q h2 tk (sb.trans sb2) ?_
    · rcases List.mem_append.mp m with m | m
      · exact h1 e m y (List.mem_cons_of_mem _ my)
      · obtain rfl := List.mem_singleton.mp m
        exact beq_eq_false_iff_ne.mpr fun e => nd'.1 (by show x.1 ∈ _; rw [e]; exact List.mem_map_of_mem my)
    · rcases List.mem_append.mp m with m | m
      · exact h2 e m
      · obtain rfl := List.mem_singleton.mp m
        rfl
    · rw [List.append_assoc] at hd2
      rw [List.length_cons, show n + (r.length + 1) = n + 1 + r.length by omega]
      exact hd2
theorem kw_pairs : ∀ (xs : List (Str × Value)) (t : Tok), PySem.Pairs (mixKind P w) (kwEs w.params t xs) (xs.map fun x => ((.inr x.1 : Key), x.2))
  | [], _ => .nil
  | x :: r, t => .cons (keyIs_str x.1 t) rfl (kw_pairs r (t + 1))
theorem kw_ok {H : Hp} {h : Heap} {d : Addr} {ks : List Str} {zs : List V} {ws : List Value} {t : Tok} {n : Nat} (hd : h.get? d = some (dictOf (kwEs w.params t (ks.zip ws)) n)) (nd : ks.Nodup) (r : Vals zs ws) (hl : zs.length = ks.length) (hz : ks.length ≤ 1000) (hs : (d == sysModules) = false) :
    ObjOk P w H h d (.dK ((ks.map Sum.inr).zip zs)) := by
  have lw : ws.length = ks.length := by rw [← r.length, hl]
  refine ⟨?_, hs, (ks.map Sum.inr).zip ws, ?_, _, _, n, hd, ⟨rfl, rfl, rfl⟩, rfl, fun e m => ?_, ?_, ?_⟩
  · rw [List.length_zip, List.length_map, sizeLine_eq]; omega
  · clear hd hl nd lw
    induction r generalizing ks with
    | nil => rw [List.zip_nil_right, List.zip_nil_right]; exact .nil
    | cons h1 _ ih =>
      cases ks with
      | nil => exact .nil
      | cons k ks => exact .cons ⟨rfl, h1⟩ (ih (by rw [List.length_cons] at hz; omega))
  · have m : e ∈ kwEs w.params t (ks.zip ws) := by simpa using m
    obtain ⟨k, u, e1, e2⟩ := kwEs_key _ _ e m
    exact ⟨.inr k, by rw [e1]; exact keyIs_str k u, e2⟩
  · have z := kw_pairs (P := P) (w := w) (ks.zip ws) t
    have e : (ks.zip ws).map (fun x => ((.inr x.1 : Key), x.2)) = (ks.map Sum.inr).zip ws := by
      rw [List.zip_map_left] <;> rfl
    rw [e] at z
    exact z
  · rw [List.map_fst_zip (by rw [List.length_map]; omega)]
    exact List.Pairwise.map Sum.inr (fun a b ne e => ne (Sum.inr.inj e)) nd
end
/-- a promise by the instance and the keywords ks, which come in a dict of their own -/
def FnKw (P : Program) (w : World) (K : PySem.W.Frag) (mg : Str → Option Value) (base : Heap) (k : Nat) (f : Addr) (ks : List Str) (sp : Sp) : Prop :=
  ∀ (A : Around) (outer : List Env) (s : Shared) (H : Hp) (a : Addr) (ws : List Value) (zs : List V) (Q : VK) (E : XK), Room k A → Env0 P w K mg base A outer s H → Vals zs ws → zs.length = ks.length →
    (∀ d, H d = none → sp [.ref a, .ref d] (upd H d (.dK ((ks.map Sum.inr).zip zs))) Q E) → codeAny (model P w) A (.call (.ref f) ⟨[.ref a], ks.zip ws⟩) (CR CX0 outer P w H s Q E) s
section
variable {P : Program} {w : World} {K : PySem.W.Frag} {mg : Str → Option Value} {base : Heap} {f : Addr} {name qual : Str} {params : Arguments} {body : List Stmt} {scope : Scope} {dV kV doc pm cdv ct oc : Value} {an od : Option Addr} {osl : Array (Option Value)} {N : List Str} {p1 pd : Str} {k : Nat} {sp : Sp} {ks : List Str}
theorem fn_kw (lk : K.lookup f = some ⟨oc, od, .func (PySem.W.fnOf name qual params body scope dV kV doc pm an cdv ct), osl⟩) (hcd : PySem.W.codeIn K cdv qual = true) (S : FnScope N [p1, pd] scope) (nd : ks.Nodup) (hz : ks.length ≤ 1000)
    (hb : ∀ (a : Value) (ws : List Value), ws.length = ks.length → bindArgs (PySem.W.fnOf name qual params body scope dV kV doc pm an cdv ct) ⟨[a], ks.zip ws⟩ =
      ((alloc ({ cls := .type "dict", data := .dict #[] } : Obj) : Sem Addr) >>= fun d => (forIn (ks.zip ws) PUnit.unit fun x _ => (nsSet d x.1 x.2 >>= fun _ => pure (ForInStep.yield PUnit.unit))) >>= fun _ => pure [(p1, a), (pd, Value.ref d)]))
    (hbody : ∀ (A : Around) (outer : List Env) (s : Shared) (H : Hp) (vs : List V) (Q : VK) (E : XK), Room k (A.deeper (envOfC qual scope s.heap.objs.size f cdv)) → sp vs H Q E →
      ∃ t, PSs (cxOf CX0 P w K mg base N qual scope f cdv A outer s H E) body t ∧ t { nx := fun _ H' => Q .non H', rt := Q } (L2.start N vs) H) : FnKw P w K mg base (k + 1) f ks sp := by
  intro A outer s H a ws zs Q E hr e0 r hl hq
  have lw : ws.length = ks.length := by rw [← r.length, hl]
  have hn : H s.heap.objs.size = none := e0.hok.fresh (Nat.le_refl _)
  refine StX.run_bnd lk hcd S hr e0 (G := fun xs H2 => ∃ d, H d = none ∧ xs = [V.ref a, V.ref d] ∧ H2 = upd H d (.dK ((ks.map Sum.inr).zip zs))) (fun A' Ex Q' h => ?_) fun s2 H2 xs ⟨d, hd, ex, eH⟩ hr' => ?_
  · rw [hb (.ref a) ws lw]
    refine wpAny_bind (wpAny_alloc (wpAny_bind ?_))
    have o0 : (s.heap.push ({ cls := .type "dict", data := .dict #[] } : Obj)).get? s.heap.objs.size = some (dictOf [] 0) := Heap.get?_push_size _ rfl
    refine ns_fill (ks.zip ws) { s with heap := s.heap.push ({ cls := .type "dict", data := .dict #[] } : Obj) } [] 0 o0 (fun e m => absurd m List.not_mem_nil) (fun e m => absurd m List.not_mem_nil) (by rw [List.map_fst_zip (by omega)]; exact nd) fun h' tk sb hd => wpAny_pure ?_
    rw [List.nil_append] at hd
    have keep : ∀ b o, s.heap.get? b = some o → h'.get? b = some o := fun b o e => (sb.2 b (Nat.ne_of_lt (Heap.lt_size e))).trans (Heap.get?_push_of_some _ e)
    have new : ObjOk P w (upd H s.heap.objs.size (.dK ((ks.map Sum.inr).zip zs))) h' s.heap.objs.size (.dK ((ks.map Sum.inr).zip zs)) := kw_ok hd nd r hl hz (beq_eq_false_iff_ne.mpr (Ne.symm (Nat.ne_of_lt (StX.env0_big e0))))
    have un : Un (frs outer) [] H (upd H s.heap.objs.size (.dK ((ks.map Sum.inr).zip zs))) s.heap h' := Un.laid keep (Nat.le_refl _) hn
    have e2 : Env0 P w K mg base A outer { s with heap := h', toks := tk } (upd H s.heap.objs.size (.dK ((ks.map Sum.inr).zip zs))) :=
      ⟨e0.frames, e0.mod, fun b o e => ⟨keep b o (e0.bs b o e).1, by
        have lt : b < s.heap.objs.size := Heap.lt_size (e0.bs b o e).1
        rw [upd_ne (Nat.ne_of_lt lt)]
        exact (e0.bs b o e).2⟩, Nat.le_trans e0.bsz (Nat.le_of_lt (Heap.lt_size hd)), Heap.FunFrames.of_keeps (fun b x e _ => ⟨x, keep b x e, rfl⟩) e0.funs, fun b m => by
        obtain ⟨_, o, ho, _⟩ := e0.funs.mem m
        rw [upd_ne (Nat.ne_of_lt (Heap.lt_size ho))]
        exact e0.frf b m, e0.hok.laid keep (Nat.le_refl _) new, e0.bare⟩
    exact h _ _ [V.ref a, V.ref s.heap.objs.size] [Value.ref a, Value.ref s.heap.objs.size] e2 un rfl (fun e s' z => z) (.cons rfl (.cons rfl .nil)) rfl ⟨_, hn, rfl, rfl⟩
  · subst ex eH
    exact hbody A outer s2 _ _ Q E hr' (hq d hd)
end
/-! keywords -/
def wK (X : Cx) (kws : List Keyword) (σ : L2.St) (H : Hp) (Q : List V → Hp → Prop) : Prop := ∀ pos pins s, Inv X pins σ H s → wpAny (model X.prog X.w) X.A (evalAll ((backToKw pos (keywordEach kws X.env)).map (·.2))) (AP X pins σ Q) X.xe s
section
variable {X : Cx} {σ : L2.St} {H : Hp} {P : V → Hp → Prop} {e o : Expr} {kws : List Keyword} {nm : Option Str} {kpos pos apos : Pos} {v : V} {m : Str} {C f a dx : Addr} {k : Nat} {sp : Sp} {ks : List Str} {fs : List (Str × V)} {α : Type} {A : α → List V → Hp → Prop} {R : α → V → Hp → Prop} {Pa : List V → Hp → Prop}
theorem pk_w : PK X kws (wK X kws) := ⟨fun pos pins s _ _ _ I h => h pos pins s I⟩
theorem w_k {t : TA} (h : PK X kws t) {Q : List V → Hp → Prop} (q : t σ H Q) : wK X kws σ H Q := fun pos pins s I => h.run pos pins s σ H Q I q
theorem ck {t : TA} {Pr : List V → Hp → Prop} (h : PK X kws t) (q : Cm H Pr (t σ)) : Cm H Pr (wK X kws σ) := fun Hc a Q k => w_k h (q Hc a Q k)
theorem k_nil : Cm H (is []) (wK X [] σ) := ck pk_nil (Cm.ret (fun _ _ _ q => q) (.const rfl))
theorem k_cons {Pr : List V → Hp → Prop} (h : Cm H P (wE X e σ)) (hr : Cm H Pr (wK X kws σ)) : Cm H (fun ws H' => ∃ u us, ws = u :: us ∧ P u H' ∧ Pr us H') (wK X (⟨nm, e, kpos⟩ :: kws) σ) :=
  ck (pk_cons pe_w pk_w) (cm2 (r := fun v vs Hc Q => Q (v :: vs) Hc) h hr fun u us H2 e2 p1 p2 => Cm.ret (fun _ _ _ q => q) fun H' e' => ⟨u, us, rfl, p1 H' e', p2 H' e'⟩)
/-- o.m(k = v, ..): the keywords come in a dict -/
theorem pe_methKw {pl : Sem Bool} {ta : TE} {tk : TA} (he : PE X o ta) (c : Cls X.K C) (hm : Meth X.K C m f) (F : FnKw X.prog X.w X.K X.mg X.base k f ks sp) (hr : Room k X.A) (hkw : PK X kws tk) (hall : (backToKw pos (keywordEach kws X.env)).all (·.1.isSome) = true := by rfl) (hks : (backToKw pos (keywordEach kws X.env)).filterMap (·.1) = ks := by rfl)
    (hpl : ((backTo pos (starEach [] X.env)).any (·.1) || (backToKw pos (keywordEach kws X.env)).any (·.1.isNone)) = false := by rfl)
    (ht : eval (.Call (.Attribute o m apos) [] kws pos) X.env = (eval o X.env >>= fun ov => standAt apos.atName >>= fun _ => holding [ov] (getMethod ov m pl) >>= fun fx =>
      callWith pos fx.1 fx.2 (backTo pos (starEach [] X.env)) (backToKw pos (keywordEach kws X.env))) := by rfl) :
    PE X (.Call (.Attribute o m apos) [] kws pos) (fun σ H Q => ta σ H fun x H1 => ∃ a dx fs, x = .ref a ∧ H1 a = some (.ins C dx fs) ∧ fs.lookup m = none ∧ tk σ H1 fun zs H2 => zs.length = ks.length ∧ ∀ d, H2 d = none → sp [.ref a, .ref d] (upd H2 d (.dK ((ks.map Sum.inr).zip zs))) Q E0) := by
  refine ⟨fun pins s σ H Q I h => ?_⟩
  refine PySem.W.methodCall_KW (pl := pl) (thn (he.run pins s σ H _ I h) fun u s1 ⟨x, H1, I1, rx, a, dx, fs, ex, ea, l, q⟩ => ?_) ht
  subst ex
  obtain rfl : u = Value.ref a := rx
  refine getmeth_ok I1 ea c hm l ?_
  refine PySem.W.callWith_KW0 (h₀ := X.base) (first := [.ref a]) I1.ok.mod.kin hm.kp hall (thn (hkw.run pos pins s1 σ H1 _ I1 q) fun ws s2 ⟨zs, H2, I2, rz, hl, q2⟩ => ⟨I2.kIn, ?_⟩) hpl
  rw [hks]
  refine wpAny_call (codeAny_mono (F X.A X.stack s2 H2 a ws zs Q E0 hr I2.env0 rz hl q2) fun r s' hq => ?_)
  cases r with
  | error e => exact pass0 pins σ H2 s2 e s' I2 hq
  | ok fl =>
    cases fl with
    | ret u => exact I2.after hq
    | next => exact False.elim hq
    | brk => exact False.elim hq
    | cont => exact False.elim hq
theorem e_methKw (hm : Meth X.K C m f) (F : FnKw X.prog X.w X.K X.mg X.base k f ks (SpF A R)) (c : Cls X.K C) (hr : Room k X.A) (ho : Cm H (is (V.ref a)) (wE X o σ)) (hi : Pz H (fun H' => H' a = some (.ins C dx fs))) (hl : fs.lookup m = none) (ha : Cm H Pa (wK X kws σ))
    (hp : ∀ zs H1, Ex H H1 → Pz H1 (Pa zs) → ∃ x, zs.length = ks.length ∧ (∀ d H2, Ex H1 H2 → H2 d = some (.dK ((ks.map Sum.inr).zip zs)) → Pz H2 (A x [.ref a, .ref d])) ∧ ∀ v H2, Ex H1 H2 → R x v H2 → P v H2) {pl : Sem Bool}
    (hall : (backToKw pos (keywordEach kws X.env)).all (·.1.isSome) = true := by rfl) (hks : (backToKw pos (keywordEach kws X.env)).filterMap (·.1) = ks := by rfl)
    (hpl : ((backTo pos (starEach [] X.env)).any (·.1) || (backToKw pos (keywordEach kws X.env)).any (·.1.isNone)) = false := by rfl)
    (ht : eval (.Call (.Attribute o m apos) [] kws pos) X.env = (eval o X.env >>= fun ov => standAt apos.atName >>= fun _ => holding [ov] (getMethod ov m pl) >>= fun fx =>
      callWith pos fx.1 fx.2 (backTo pos (starEach [] X.env)) (backToKw pos (keywordEach kws X.env))) := by rfl) : Cm H P (wE X (.Call (.Attribute o m apos) [] kws pos) σ) := by
  refine ce (pe_methKw (pl := pl) pe_w c hm F hr pk_w hall hks hpl ht) (cm1D (u := fun (x : V) (Hc : Hp) (Q : VK) => ∃ a dx fs, x = V.ref a ∧ Hc a = some (.ins C dx fs) ∧ fs.lookup m = none ∧ wK X kws σ Hc fun zs H2 => zs.length = ks.length ∧ ∀ d, H2 d = none → SpF A R [.ref a, .ref d] (upd H2 d (.dK ((ks.map Sum.inr).zip zs))) Q E0) ho ?_)
  refine fun Hc ex Q q => ⟨a, dx, fs, rfl, hi Hc ex, hl, ha Hc ex _ fun zs Hn H2 g p => ?_⟩
  obtain ⟨x, hz, h1, h2⟩ := hp zs Hn g.k p
  refine ⟨hz, fun d hd => ?_⟩
  have gd := Grow.new (o := .dK ((ks.map Sum.inr).zip zs)) g.s hd
  refine ⟨x, _, gd.s, h1 d _ gd.k upd_same, fun v Hn2 H3 g2 r => q v Hn2 H3 ((g.trans gd).trans g2) (r.imp fun H' e' z => h2 v H' ((gd.k.trans g2.k).trans e') z)⟩
/-- o.m(k = v), m without a **: as by position -/
def gK {α : Type} (us ws : List α) : List α := if us.length = 1 ∧ ws.length = 1 then us ++ ws else []
structure MdK {α : Type} (P : Program) (w : World) (K : PySem.W.Frag) (mg : Str → Option Value) (base : Heap) (C : Addr) (m : Str) (ks : List Str) (k : Nat) (A : α → List V → Hp → Prop) (R : α → V → Hp → Prop) : Prop where
  ex : ∃ (f : Addr) (fd : FuncData) (ps : List Str), Meth K C m f ∧ FnOk P w K mg base CX0 k f fd ps (SpF A R) ∧ ps.length = 2 ∧ KBinds K fd ps ks gK gK
theorem pe_methK {pl : Sem Bool} {ta : TE} {tk : TA} {fd : FuncData} {ps : List Str} (he : PE X o ta) (c : Cls X.K C) (hm : Meth X.K C m f) (F : FnOk X.prog X.w X.K X.mg X.base CX0 k f fd ps sp) (hps : ps.length = 2) (hb : KBinds X.K fd ps ks gK gK) (hr : Room k X.A) (hkw : PK X kws tk) (hall : (backToKw pos (keywordEach kws X.env)).all (·.1.isSome) = true := by rfl) (hks : (backToKw pos (keywordEach kws X.env)).filterMap (·.1) = ks := by rfl)
    (hpl : ((backTo pos (starEach [] X.env)).any (·.1) || (backToKw pos (keywordEach kws X.env)).any (·.1.isNone)) = false := by rfl)
    (ht : eval (.Call (.Attribute o m apos) [] kws pos) X.env = (eval o X.env >>= fun ov => standAt apos.atName >>= fun _ => holding [ov] (getMethod ov m pl) >>= fun fx =>
      callWith pos fx.1 fx.2 (backTo pos (starEach [] X.env)) (backToKw pos (keywordEach kws X.env))) := by rfl) :
    PE X (.Call (.Attribute o m apos) [] kws pos) (fun σ H Q => ta σ H fun x H1 => ∃ a dx fs, x = .ref a ∧ H1 a = some (.ins C dx fs) ∧ fs.lookup m = none ∧ tk σ H1 fun zs H2 => sp (.ref a :: zs) H2 Q E0) := by
  refine ⟨fun pins s σ H Q I h => ?_⟩
  refine PySem.W.methodCall_KW (pl := pl) (thn (he.run pins s σ H _ I h) fun u s1 ⟨x, H1, I1, rx, a, dx, fs, ex, ea, l, q⟩ => ?_) ht
  subst ex
  obtain rfl : u = Value.ref a := rx
  refine getmeth_ok I1 ea c hm l ?_
  refine PySem.W.callWith_KW0 (h₀ := X.base) (first := [.ref a]) I1.ok.mod.kin hm.kp hall (thn (hkw.run pos pins s1 σ H1 _ I1 q) fun ws s2 ⟨zs, H2, I2, rz, q2⟩ => ⟨I2.kIn, ?_⟩) hpl
  rw [hks]
  have l := F.len _ _ _ _ q2
  rw [List.length_cons, hps] at l
  exact run_fnk (us := [.ref a]) (vs := [.ref a]) F hr hb pass0 I2 (.cons rfl .nil) rz (by unfold gK; rw [if_pos ⟨rfl, by omega⟩]; exact q2)
/-- f(u, k = w), of two parameters -/
theorem kb_of {K : PySem.W.Frag} {x qual : Str} {st : Stmt} {f : Addr} {fd : FuncData} {p1 p2 k1 : Str} (F : L2.Fun K x qual st f fd)
    (h : ∀ (kV doc pm : Value) (an : Option Addr) (cdv ct u w : Value), bindArgs (PySem.W.fnOf x qual (defArgs st) (defBody st) (defScope st) .none kV doc pm an cdv ct) ⟨[u], [(k1, w)]⟩ = pure [(p1, u), (p2, w)]) : KBinds K fd [p1, p2] [k1] gK gK := by
  obtain ⟨oc, od, kV, doc, pm, an, cdv, ct, osl, rfl, lk, hcd⟩ := F.ex
  refine ⟨fun s us ws _ hl => ?_, fun {vs us zs ws} r1 r2 => ?_⟩
  · unfold gK at hl ⊢
    by_cases c : us.length = 1 ∧ ws.length = 1
    · rw [if_pos c]
      obtain ⟨u, rfl⟩ := List.length_eq_one_iff.mp c.1
      obtain ⟨w, rfl⟩ := List.length_eq_one_iff.mp c.2
      exact .of_eq (h kV doc pm an cdv ct u w)
    · rw [if_neg c] at hl
      cases hl
  · unfold gK
    rw [← r1.length, ← r2.length]
    by_cases c : vs.length = 1 ∧ zs.length = 1
    · rw [if_pos c, if_pos c]; exact r1.append r2
    · rw [if_neg c, if_neg c]; exact .nil
theorem e_methK (F : MdK X.prog X.w X.K X.mg X.base C m ks k A R) (c : Cls X.K C) (hr : Room k X.A) (ho : Cm H (is (V.ref a)) (wE X o σ)) (hi : Pz H (fun H' => H' a = some (.ins C dx fs))) (hl : fs.lookup m = none) (ha : Cm H Pa (wK X kws σ))
    (hp : ∀ zs H1, Ex H H1 → Pz H1 (Pa zs) → ∃ x, Pz H1 (A x (.ref a :: zs)) ∧ ∀ v H2, Ex H1 H2 → R x v H2 → P v H2) {pl : Sem Bool}
    (hall : (backToKw pos (keywordEach kws X.env)).all (·.1.isSome) = true := by rfl) (hks : (backToKw pos (keywordEach kws X.env)).filterMap (·.1) = ks := by rfl)
    (hpl : ((backTo pos (starEach [] X.env)).any (·.1) || (backToKw pos (keywordEach kws X.env)).any (·.1.isNone)) = false := by rfl)
    (ht : eval (.Call (.Attribute o m apos) [] kws pos) X.env = (eval o X.env >>= fun ov => standAt apos.atName >>= fun _ => holding [ov] (getMethod ov m pl) >>= fun fx =>
      callWith pos fx.1 fx.2 (backTo pos (starEach [] X.env)) (backToKw pos (keywordEach kws X.env))) := by rfl) : Cm H P (wE X (.Call (.Attribute o m apos) [] kws pos) σ) := by
  obtain ⟨f, fd, ps, hm, G, hps, hb⟩ := F.ex
  refine ce (pe_methK (pl := pl) pe_w c hm G hps hb hr pk_w hall hks hpl ht) (cm1D (u := fun (x : V) (Hc : Hp) (Q : VK) => ∃ a dx fs, x = V.ref a ∧ Hc a = some (.ins C dx fs) ∧ fs.lookup m = none ∧ wK X kws σ Hc fun zs H2 => SpF A R (.ref a :: zs) H2 Q E0) ho ?_)
  refine fun Hc ex Q q => ⟨a, dx, fs, rfl, hi Hc ex, hl, ha Hc ex _ fun zs Hn H2 g p => ?_⟩
  obtain ⟨x, h1, h2⟩ := hp zs Hn g.k p
  exact ⟨x, Hn, g.s, h1, fun v Hn2 H3 g2 r => q v Hn2 H3 (g.trans g2) (r.imp fun H' e' z => h2 v H' (g2.k.trans e') z)⟩
end
end LW
set_option Elab.async false
set_option linter.all false
set_option maxRecDepth 100000
set_option maxHeartbeats 4000000
/-! (x, y)[::-1] -/
namespace LW
open PySem PySem.W PyProof.Rows L2
section
variable {P : Program} {w : World} {A : Around} {E : Value → Shared → Prop} {s : Shared}
theorem sl_back {sl : Addr} {vl vu vs : Value} {Q : Int × Int × Nat → Shared → Prop} (hs : s.heap.IsSliceOf sl vl vu vs) (pl : IsPart vl none) (pu : IsPart vu none) (ps : IsPart vs (some (-1))) (h : Q (1, -1, 2) s) :
    wpAny (model P w) A (Builtin.Slice.sliceApplied (.ref sl) (pure (2 : Int))) Q E s := by
  obtain ⟨os, hos, hcs, hds⟩ := id hs
  unfold Builtin.Slice.sliceApplied Builtin.Slice.sliceFields
  refine wpAny_bind (wpAny_bind (wpAny_field hos hds (x := vl) rfl (wpAny_bind (wpAny_field hos hds (x := vu) rfl (wpAny_bind (wpAny_field hos hds (x := vs) rfl (wpAny_pure ?_)))))))
  refine wpAny_bind (HT.slicePart_ ps ?_)
  show wpAny _ _ (if ((-1 : Int) == 0) = true then _ else _) _ _ s
  rw [if_neg (by decide)]
  refine wpAny_bind (HT.slicePart_ pl (wpAny_bind (HT.slicePart_ pu (wpAny_bind (wpAny_pure ?_)))))
  have e : Builtin.Slice.sliceAdjust none none (-1) (2 : Int) = (1, -1) := by decide
  show wpAny _ _ (match Builtin.Slice.sliceAdjust none none (-1) (2 : Int) with | (lo, hi) => pure (lo, (-1 : Int), Builtin.Slice.slicePlaces lo hi (-1))) _ _ s
  rw [e]
  show wpAny _ _ (pure ((1 : Int), (-1 : Int), Builtin.Slice.slicePlaces 1 (-1) (-1))) _ _ s
  rw [show Builtin.Slice.slicePlaces 1 (-1) (-1) = 2 from by decide]
  exact wpAny_pure h
theorem tup_back {t sl : Addr} {a b vl vu vs : Value} {Q : Value → Shared → Prop} (ht : IsTup s.heap t #[a, b]) (hs : s.heap.IsSliceOf sl vl vu vs) (pl : IsPart vl none) (pu : IsPart vu none) (ps : IsPart vs (some (-1)))
    (h : Q (.ref s.heap.objs.size) { s with heap := s.heap.push { cls := .type "tuple", data := .seq #[b, a] } }) : wpAny (model P w) A (getItem (.ref t) (.ref sl)) Q E s := by
  obtain ⟨os, hos, hcs, hds⟩ := id hs
  have hTs : s.TypeIs (.ref sl) "slice" := ⟨os, hos, hcs⟩
  have fits : sizeOk (.seq #[b, a]) := by show (2 : Nat) ≤ sizeLine; rw [sizeLine_eq]; decide
  unfold getItem
  try with_reducible refine wpAny_holding ?_
  first | refine wpAny_bind (wpAny_pure ?_) | skip
  refine wpAny_bind (wpAny_sequenceKey ht.typeIs (by decide) ?_)
  refine wpAny_bind (wpAny_callSpecial?_slot (name := Str.ofString "__getitem__") ht.typeIs PyProof.Rows.slot_tuple_getitem
    (wpAny_call_entry PyProof.Rows.slot_tuple_getitem ht.typeIs entry_tuple_getitem ?_ (args_tuple_getitem _ _)))
  refine wpAny_bind (m := Builtin.Tuple.tupleItemsOf (.ref t)) (tupleItemsOf_ ht ?_)
  refine wpAny_bind (wpAny_typeOf hTs ?_)
  rw [if_pos (by decide)]
  refine wpAny_bind (m := Builtin.Slice.sliceApplied (.ref sl) (pure (2 : Int))) (sl_back hs pl pu ps ?_)
  have e : ((List.range 2).filterMap fun (k : Nat) => (#[a, b] : Array Value)[((1 : Int) + (k : Int) * (-1)).toNat]?).toArray = #[b, a] := by rfl
  dsimp only
  rw [if_neg (by simp), e]
  first
    | exact wpAny_bind (m := Builtin.Tuple.tupleExact _) (wpAny_newObj_type (wpAny_pure ⟨_, rfl, wpAny_pure h⟩) fits)
    | exact wpAny_bind (m := Builtin.Tuple.tupleExact _) (wpAny_newObj_type (wpAny_bind (wpAny_pure (wpAny_pure ⟨_, rfl, wpAny_pure h⟩))) fits)
    | exact wpAny_bind (wpAny_bind (m := Builtin.Tuple.tupleExact _) (wpAny_newObj_type (wpAny_pure (wpAny_pure ⟨_, rfl, wpAny_pure h⟩)) fits))
    | exact wpAny_bind (wpAny_bind (m := Builtin.Tuple.tupleExact _) (wpAny_newObj_type (wpAny_pure ⟨_, rfl, wpAny_pure h⟩) fits))
end
def tRevT (K : PySem.W.Frag) (te : TE) : TE := fun σ H Q => te σ H fun x H1 => ∃ a u v, x = .ref a ∧ SqT K H1 a [u, v] ∧ ∀ p, H1 p = none → Q (.ref p) (upd H1 p (.tup [v, u]))
theorem pe_revT {X : Cx} {e : Expr} {te : TE} {k : Nat} {p1 p2 p3 pos : Pos} (he : PE X e te) : PE X (.Subscript e (.Slice none none (some (.UnaryOp .USub (.Constant (.int 1) k p1) p2)) p3) pos) (tRevT X.K te) := by
  refine ⟨fun pins s σ H Q I h => ?_⟩
  refine Subscript_ (thn (he.run pins s σ H _ I h) fun v s1 ⟨x, H1, I1, r1, a, u, u2, ex, hx, q⟩ => ?_)
  subst ex
  cases r1
  have hst : PO X (some (.UnaryOp .USub (.Constant (.int 1) k p1) p2)) (tPart (tUn (rU fun i => .int (-i)) (tC (.int 1)))) := po_some (pe_un un_neg pe_int)
  refine wpAny_Slice (thn (po_none.run pins s1 σ H1 (fun o H2 => o = none ∧ H2 = H1) I1 ⟨rfl, rfl⟩) fun vl s2 ⟨l, H2, I2, pl, el, e2⟩ => ?_)
  subst el e2
  refine thn (po_none.run pins s2 σ H2 (fun o H3 => o = none ∧ H3 = H2) I2 ⟨rfl, rfl⟩) fun vu s3 ⟨u3, H3, I3, pu, eu, e3⟩ => ?_
  subst eu e3
  refine thn (hst.run pins s3 σ H3 (fun o H4 => o = some (-1) ∧ H4 = H3) I3 ⟨1, rfl, -1, rfl, rfl, rfl⟩) fun vs s4 ⟨o, H4, I4, ps, eo, e4⟩ => ?_
  subst eo e4
  have I5 : Inv X pins σ H4 { s4 with heap := s4.heap.push { cls := .type "slice", data := .fields #[vl, vu, vs] } } := I4.kept (t' := s4.toks) fun b ob q => Heap.get?_push_of_some _ q
  obtain ⟨its, r, ht, hz⟩ := I5.tuple hx
  obtain ⟨w1, w2, rfl, rw1, rw2⟩ := vals2 r
  show wpAny (model X.prog X.w) X.A (subscriptTail e (.Slice none none (some (.UnaryOp .USub (.Constant (.int 1) k p1) p2)) p3) (.ref a) (.ref s4.heap.objs.size)) (EP X pins σ Q) X.xe { s4 with heap := s4.heap.push { cls := .type "slice", data := .fields #[vl, vu, vs] } }
  refine tail_any (ops := [.ref a, .ref s4.heap.objs.size]) ht.typeIs (PyProof.Rows.slot_tuple_getitem.lookup) ?_ (by with_unfolding_all rfl)
  refine tup_back ht (Heap.IsSliceOf.new _ vl vu vs) pl pu ps ?_
  refine ⟨.ref _, _, I5.laid (t' := s4.toks) (o := .tup [u2, u]) (fun b ob q => Heap.get?_push_of_some _ q) (Nat.le_refl _) ?_, rfl, q _ (I5.hok.fresh (Nat.le_refl _))⟩
  exact ⟨by rw [sizeLine_eq]; simp, [w2, w1], .cons rw2 (.cons rw1 .nil), ⟨_, Heap.get?_push_size _ rfl, rfl, _, rfl⟩⟩
/-- p[::-1], p a pair of texts -/
theorem e_back {X : Cx} {σ : L2.St} {H : Hp} {e : Expr} {q : Str × Str} {k : Nat} {p1 p2 p3 pos : Pos} (h : Cm H (prT X.K q) (wE X e σ)) : Cm H (pr (q.2, q.1)) (wE X (.Subscript e (.Slice none none (some (.UnaryOp .USub (.Constant (.int 1) k p1) p2)) p3) pos) σ) := by
  refine ce (pe_revT pe_w) fun Hc ex Q k2 => h Hc ex _ fun v Hn H2 g p => ?_
  obtain ⟨a, rfl, ha⟩ := p H2 g.s
  exact ⟨a, _, _, rfl, ha, fun t ht => k2 _ _ _ (g.trans (Grow.new (o := .tup [.str q.2, .str q.1]) g.s ht)) fun H' e' => ⟨t, rfl, e' _ _ upd_same⟩⟩
end LW
set_option Elab.async false
set_option linter.all false
set_option maxRecDepth 100000
set_option maxHeartbeats 2000000
namespace K19
open PySem L2 LW
abbrev sTog : Stmt := top 56
/-- the two ends of p when kept and gone have become one -/
def frP (p0 p : Str × Str) : Str × Str := (fr p0.1 p0.2 p.1, fr p0.1 p0.2 p.2)
theorem fr_ne {p0 p : Str × Str} (h0 : Lt p0.1 p0.2) (h : Lt p.1 p.2) : fr p0.1 p0.2 p.1 ≠ fr p0.1 p0.2 p.2 ↔ p ≠ p0 := by
  have ne : p.1 ≠ p.2 := fun e => Lt.irr _ (e ▸ h)
  unfold fr
  constructor
  · rintro z rfl
    exact z (by rw [if_pos rfl, if_neg (fun e => ne e)])
  · intro z
    by_cases a : p.1 = p0.2
    · rw [if_pos a, if_neg (fun e => ne (a.trans e.symm))]
      exact fun e => Lt.as h0 (by rw [← a, e]; exact h)
    · by_cases b : p.2 = p0.2
      · rw [if_neg a, if_pos b]
        exact fun e => z (Prod.ext e b)
      · rw [if_neg a, if_neg b]
        exact ne
theorem pr_len {xs ys : List (Str × Str)} (nd : xs.Nodup) (h : ∀ x ∈ xs, x ∈ ys) : xs.length ≤ ys.length := by
  exact nd_len xs ys nd h
section
variable {P : Program} {w : World} {K : PySem.W.Frag} {mg : Str → Option Value} {base : Heap} {f fi C : Addr} {fd : FuncData}
/-- a net and its model, of which φ holds -/
def AStp (C : Addr) (φ : NetV → Prop) : StIn → List V → Hp → Prop := fun r vs H => vs = [.ref r.p, .ref r.x.a, .ref r.d] ∧ H r.p = some (PotO r.p) ∧ r.x.At C H ∧ MdlAt r.d r.x.ns r.x.ls H ∧ φ r.x
abbrev nTog : List Str := ["_law_pot_here", "_law_made", "_law_model", "_law_pair", "_law_left", "_law_moved_here", "_law_due", "_law_this", "_law_mate", "_law_spot"]
theorem scTog : FnScope nTog ["_law_pot_here", "_law_made", "_law_model"] (defScope sTog) := ⟨rfl, rfl, rfl, by decide +kernel, rfl, by decide +kernel, by decide +kernel⟩
theorem b_ltog (F : NetF K mg C) (N : Md P w K mg base C "drawn_together" 7 (ACont C K) (RDrawn C)) (N2 : MdK P w K mg base C "drawn_together" ["link"] 7 (ACont C K) (RDrawn C)) (FD : Fn P w K mg base "_law_draw" 1 AD RD) (FP : Fn P w K mg base "_law_pick" 2 (APk K) RPk) (FA : Fn P w K mg base "_law_at" 1 (ALAt K) RLAt) (FT : Fn P w K mg base "_law_told_model" 2 (ATold K) RTold) :
    Body P w K mg base nTog "_law_together" sTog f 7 (AStp C fun x => x.ls ≠ []) (RSt C) := by
  intro cdv Ar outer s H0 E r vs H Hc D hr ex pa rt nx
  obtain ⟨p, x, d⟩ := r
  obtain ⟨rfl, hp, hX, hM, hne⟩ := pa.now
  have hp : H p = some (PotO p) := hp
  have hX : x.At C H := hX
  have nt : Nt x.ns x.ls := hX.2
  have hM : MdlAt d x.ns x.ls H := hM
  have hne : x.ls ≠ [] := hne
  have ln := nt.len
  have ll := nt.ll
  have hu : (fx P w K mg base nTog "_law_together" sTog f cdv Ar outer s H0 E).A.units + 64 < cLine := hr.units
  have hins : ∃ dx fs, H x.a = some (.ins C dx fs) ∧ fs.lookup ("drawn_together" : Str) = none := by
    obtain ⟨dx, l1, l2, l3, _, _, h, _⟩ := hX.1
    exact ⟨dx, _, h, rfl⟩
  obtain ⟨dx, fs, hi, hf⟩ := hins
  obtain ⟨a, ha, ca⟩ := e_spots (X := fx P w K mg base nTog "_law_together" sTog f cdv Ar outer s H0 E) (x := ⟨d, x.ns, x.ls⟩) (hu_of hr) hM
  obtain ⟨b, ts, hb, hts, cb⟩ := e_pairs (X := fx P w K mg base nTog "_law_together" sTog f cdv Ar outer s H0 E) (x := ⟨d, x.ns, x.ls⟩) (hu_of hr) hM
  have ha : H a = some (.lst (x.ns.map V.str)) := ha
  have hts : TsAt H ts x.ls := hts
  have l2 := hts.length
  have tne : ts.map V.ref ≠ [] := fun e => hne (by rw [List.map_eq_nil_iff] at e; rw [e] at l2; exact List.eq_nil_of_length_eq_zero l2.symm)
  refine b_set 3 ex (P := fun v _ => v ∈ ts.map V.ref) (e_callD (p, ts.map V.ref) FP (hr.mono (by decide)) (a_consD (v := V.ref p) (e_var 0) (a_consD (v := V.ref b) (cb _ _ _ _ _ _ (Evl.Ex.refl _) (e_var 2)) a_nil)) fun H' e => ⟨b, rfl, e _ _ hp, SqL.of (e _ _ hb), tne, by show (ts.map V.ref).length ≤ 1000; rw [List.length_map]; omega⟩) (fun v H1 Hc1 g1 p1 => ?_) scTog.nd (hx := .inr rfl)
  obtain ⟨i0, hi0⟩ := List.getElem?_of_mem p1.now
  obtain ⟨t0, p0, rfl, ht0, hp0, hH0⟩ := ts_get hts hi0
  have m0 := List.mem_of_getElem? hp0
  obtain ⟨q1, q2, q3⟩ := nt.lk p0 m0
  have n1 := nt.nm _ q1
  have n2 := nt.nm _ q2
  have e1 := g1.k
  have hT0 : ∀ {H'}, Ex H H' → SqT K H' t0 [.str p0.1, .str p0.2] := fun e => SqT.of (e _ _ hH0)
  have nml := nt.nml
  refine b_setLc 4 g1.s rfl scTog.nd rfl rfl rfl (pi_list pe_w) (own := [("_law_this", 7), ("_law_mate", 8)]) (g := gTup K 2 (gCons (gName 7) (gCons (gName 8) gNil))) (P := RPs (x.ls.filter fun q => !decide (q = p0))) (blkOk_by (N := nTog) (sc := defScope sTog) (by decide +kernel)) (fun _ _ _ _ _ => pg_tup rfl (pgs_cons (pg_name (i := 7) scTog.nd rfl (.inl rfl)) (pgs_cons (pg_name (i := 8) scTog.nd rfl (.inl rfl)) pgs_nil))) (fun s H C cl fp => pts_one (pt_b s H C cl fp))
    (c_lc (i_list (xs := ts.map V.ref) (Cm.imp (cb _ _ _ _ _ _ e1 (e_var 2)) fun v H' e z => ⟨b, z, SqL.of (e _ _ (e1 _ _ hb))⟩)) (by rw [List.length_map]; omega) (fun i acc H' => ∃ os, acc = os.map V.ref ∧ TsAt H' os ((x.ls.take i).filter fun q => !decide (q = p0))) (fun _ => ⟨[], rfl, .nil⟩) (fun i v acc H9 hi9 e9 py pacc => ?_) fun acc q H9 e9 pacc hq => ?_) (fun v H2 Hc2 g2 p2 => ?_)
  · obtain ⟨t, q, rfl, ht, hq, hH⟩ := ts_get hts py.now
    have hm : q ∈ x.ls := List.mem_of_getElem? hq
    refine ⟨_, !decide (q = p0), bind_two (.sqt (SqT.of ((e1.trans e9) _ _ hH))), rfl, c_tb fun s0 H00 C0 cl fp => t_cmp (Pa := pr q) (Pb := is (V.ref t0)) (op_neD (hu)) (by rfl) (e_tup (a_consD (v := V.str q.1) (e_var 7) (a_consD (v := V.str q.2) (e_var 8) a_nil)) (fun xs _ z => by rw [show xs = _ from z]; exact (by decide : 2 ≤ 100000)) fun xs c H6 e6 z hc => ?_) (e_var 3) fun u1 u2 H6 e6 z1 z2 => ?_, fun k => c_eb fun s0 H00 C0 cl fp => ?_, fun k => ?_⟩
    · rw [show xs = _ from z.now] at hc
      exact fun H' e' => ⟨c, rfl, e' _ _ hc⟩
    · obtain ⟨c, rfl, hc⟩ := z1.now
      obtain rfl : u2 = V.ref t0 := z2.now
      refine Cm.ret (fun Hc ex Q q' => ⟨dPr q, dPr p0, .tup (SqT.of (ex _ _ hc)) (.cons (.str _) (.cons (.str _) .nil)), .tup (hT0 (((e1.trans e9).trans e6).trans ex)) (.cons (.str _) (.cons (.str _) .nil)), sh_pr (nml q hm).1 (nml q hm).2, sh_pr n1 n2, by rw [eqv_pr]; exact q'⟩) (.const rfl)
    · refine Cm.imp (e_tup (P := pr q) (a_consD (v := V.str q.1) (e_var 7) (a_consD (v := V.str q.2) (e_var 8) a_nil)) (fun xs _ z => by rw [show xs = _ from z]; exact (by decide : 2 ≤ 100000)) fun xs c H6 e6 z hc => ?_) fun v H' e z => ?_
      · rw [show xs = _ from z.now] at hc
        exact fun H' e' => ⟨c, rfl, e' _ _ hc⟩
      · obtain ⟨c, rfl, hc⟩ := z
        obtain ⟨os, rfl, ho⟩ := pacc H' e
        refine ⟨os ++ [c], by rw [List.map_append] <;> rfl, ?_⟩
        rw [take_snoc hq, List.filter_append, List.filter_cons_of_pos (by exact k), List.filter_nil]
        exact ts_snoc hc ho
    · refine pacc.imp fun H' e ⟨os, w1, w2⟩ => ⟨os, w1, ?_⟩
      rw [take_snoc hq, List.filter_append, List.filter_cons_of_neg (by rw [k]; exact Bool.false_ne_true), List.filter_nil, List.append_nil]
      exact w2
  · obtain ⟨os, rfl, ho⟩ := pacc.now
    rw [List.length_map, l2, List.take_length] at ho
    exact fun H' e' => ⟨q, os, rfl, e' _ _ hq, paired_ex e' ho⟩
  obtain ⟨c, os, rfl, hc, hos⟩ := p2.now
  have e2 := e1.trans g2.k
  have lo : os.length ≤ 60 := by rw [hos.length]; exact Nat.le_trans (List.length_filter_le _ _) ll
  generalize hLf : (x.ls.filter fun q => !decide (q = p0)) = Lf at hos
  have lo2 := hos.length
  refine b_setLc 5 g2.s rfl scTog.nd rfl rfl rfl (pi_list pe_w) (own := [("_law_this", 7), ("_law_mate", 8)]) (g := gTup K 2 (gCons (gName 7) (gCons (gName 8) gNil))) (P := RPs (Lf.map (frP p0))) (blkOk_by (N := nTog) (sc := defScope sTog) (by decide +kernel)) (fun _ _ _ _ _ => pg_tup rfl (pgs_cons (pg_name (i := 7) scTog.nd rfl (.inl rfl)) (pgs_cons (pg_name (i := 8) scTog.nd rfl (.inl rfl)) pgs_nil))) (fun _ _ _ _ _ => pts_nil)
    (c_lc (i_list (xs := os.map V.ref) (Cm.imp (e_var (v := V.ref c) 4) fun v H' e z => ⟨c, z, SqL.of (e _ _ hc)⟩)) (by rw [List.length_map]; omega) (fun i acc H' => ∃ us, acc = us.map V.ref ∧ TsAt H' us ((Lf.map (frP p0)).take i)) (fun _ => ⟨[], rfl, .nil⟩) (fun i v acc H9 hi9 e9 py pacc => ?_) fun acc q H9 e9 pacc hq => ?_) (fun v H3 Hc3 g3 p3 => ?_)
  · obtain ⟨t, q, rfl, ht, hq, hH⟩ := ts_get hos py.now
    have hT9 : ∀ {H'}, Ex H9 H' → SqT K H' t0 [.str p0.1, .str p0.2] := fun e => hT0 ((e2.trans e9).trans e)
    refine ⟨_, true, bind_two (.sqt (SqT.of (e9 _ _ hH))), rfl, c_yes, fun _ => c_eb fun s0 H00 C0 cl fp => ?_, fun z => nomatch z⟩
    refine Cm.imp (e_tup (P := pr (frP p0 q)) (a_cons (P := is (V.str (fr p0.1 p0.2 q.1))) ?_ (a_cons (P := is (V.str (fr p0.1 p0.2 q.2))) ?_ a_nil)) (fun xs _ z => ?_) fun xs c2 H6 e6 z hc2 => ?_) fun v H' e z => ?_
    · refine Cm.imp (e_callD (q.1, p0) FA (hr.mono (by decide)) (a_consD (v := V.str q.1) (e_var 7) (a_consD (v := V.ref t0) (e_var 3) a_nil)) fun H' e => ⟨t0, rfl, hT9 e⟩) fun v H' _ z => z
    · refine Cm.imp (e_callD (q.2, p0) FA (hr.mono (by decide)) (a_consD (v := V.str q.2) (e_var 8) (a_consD (v := V.ref t0) (e_var 3) a_nil)) fun H' e => ⟨t0, rfl, hT9 e⟩) fun v H' _ z => z
    · obtain ⟨_, _, rfl, _, _, _, rfl, _, rfl⟩ := z
      exact (by decide : 2 ≤ 100000)
    · obtain ⟨_, _, rfl, rfl, _, _, rfl, rfl, rfl⟩ := z.now
      exact fun H' e' => ⟨c2, rfl, e' _ _ hc2⟩
    · obtain ⟨c2, rfl, hc2⟩ := z
      obtain ⟨us, rfl, hv⟩ := pacc H' e
      refine ⟨us ++ [c2], by simp, ?_⟩
      rw [take_snoc (x := frP p0 q) (by rw [List.getElem?_map, hq] <;> rfl)]
      exact ts_snoc hc2 hv
  · obtain ⟨us, rfl, hv⟩ := pacc.now
    rw [List.take_of_length_le (by rw [List.length_map, List.length_map]; omega)] at hv
    exact fun H' e' => ⟨q, us, rfl, e' _ _ hq, paired_ex e' hv⟩
  obtain ⟨c3, us3, rfl, hc3, hus3⟩ := p3.now
  have e3 := e2.trans g3.k
  refine b_set 6 g3.s (P := RTold (x.ns.map (fr p0.1 p0.2), Lf.map (frP p0))) (e_call FT (hr.mono (by decide)) (a_cons (P := nl ((x.ns.map (fr p0.1 p0.2)).map V.str)) (e_lc (own := [("_law_spot", 9)]) (g := gName 9) rfl scTog.nd (pi_list pe_w) (blkOk_by (N := nTog) (sc := defScope sTog) (by decide +kernel)) (fun _ _ _ _ _ => pg_name (i := 9) scTog.nd rfl (.inl rfl)) (fun _ _ _ _ _ => pts_nil)
    (c_lc (i_list (xs := x.ns.map V.str) (Cm.imp (ca _ _ _ _ _ _ e3 (e_var 2)) fun v H' e z => ⟨a, z, SqL.of (e _ _ (e3 _ _ ha))⟩)) (by rw [List.length_map]; omega) (fun i acc _ => acc = ((x.ns.take i).map (fr p0.1 p0.2)).map V.str) (fun _ => rfl) (fun i y acc H9 hi9 e9 py pacc => ?_) fun acc q H9 e9 pacc hq => ?_)) (a_consD (v := V.ref c3) (e_var 5) a_nil)) fun vs H4 e4 p4 => ?_) (fun v H4 Hc4 g4 p4 => ?_) scTog.nd
  · obtain ⟨z, hz, rfl⟩ := txt_get py.now
    refine ⟨_, true, bind_name, rfl, c_yes, fun _ => c_eb fun s0 H00 C0 cl fp => ?_, fun q => nomatch q⟩
    refine Cm.imp (e_callD (z, p0) FA (hr.mono (by decide)) (a_consD (v := V.str z) (e_var 9) (a_consD (v := V.ref t0) (e_var 3) a_nil)) fun H' e => ⟨t0, rfl, hT0 ((e3.trans e9).trans e)⟩) fun v H' _ q => ?_
    have ea : acc = _ := pacc.now
    rw [ea, show v = V.str (fr p0.1 p0.2 z) from q, take_snoc hz, List.map_append, List.map_append] <;> rfl
  · have ea : acc = _ := pacc.now
    rw [List.length_map, List.take_length] at ea
    subst ea
    exact fun H' e' => ⟨q, rfl, e' _ _ hq⟩
  · obtain ⟨_, _, rfl, ⟨b2, rfl, hb2⟩, rfl⟩ := p4.now
    exact ⟨(x.ns.map (fr p0.1 p0.2), Lf.map (frP p0)), fun H' e => ⟨b2, c3, us3, rfl, SqL.of (e _ _ hb2), SqL.of ((e4.trans e) _ _ hc3), paired_ex (e4.trans e) hus3, by show (x.ns.map _).length ≤ 60; rw [List.length_map]; exact ln, by show (Lf.map _).length ≤ 60; rw [List.length_map]; omega⟩, fun v H' e z => z⟩
  obtain ⟨d2, ns2, ls2, rfl, hd2, T⟩ := p4.now
  have T : Told (x.ns.map (fr p0.1 p0.2)) (Lf.map (frP p0)) ns2 ls2 := T
  have hd2 : MdlAt d2 ns2 ls2 H4 := hd2
  have e4 := e3.trans g4.k
  have lkk : lk p0 = p0 := lk_lk q3
  have nk : Lk p0 := ⟨n1, n2, fun e => Lt.irr _ (e ▸ q3)⟩
  have same : ∀ {q : Str × Str}, Way p0 q → ∀ (v : V) (H' : Hp), RDrawn C (x, q) v H' → NetR C ns2 ls2 v H' ∧ Nt ns2 ls2 ∧ ns2.length ≤ x.ns.length ∧ ls2.length ≤ x.ls.length := fun {q} hw v H' z => by
    obtain ⟨a3, ns3, ls3, rfl, hN, z1, z2, nt3⟩ := z
    have z1 : ns3.Perm (x.ns.filter fun z => !decide (z = (lk q).2)) := z1
    have z2 : ∀ y, y ∈ ls3 ↔ ∃ p ∈ x.ls, fr (lk q).1 (lk q).2 p.1 ≠ fr (lk q).1 (lk q).2 p.2 ∧ y = lnk (fr (lk q).1 (lk q).2 p.1) (fr (lk q).1 (lk q).2 p.2) := z2
    rw [hw.lk, lkk] at z1 z2
    have h1 : ∀ y, y ∈ ns3 ↔ y ∈ x.ns.map (fr p0.1 p0.2) := fun y => by
      rw [z1.mem_iff, List.mem_filter, List.mem_map]
      constructor
      · rintro ⟨a, b⟩
        have b : ¬ y = p0.2 := by simpa using b
        exact ⟨y, a, if_neg b⟩
      · rintro ⟨z, a, b⟩
        unfold fr at b
        by_cases c : z = p0.2
        · rw [if_pos c] at b
          rw [← b]
          exact ⟨q1, by simpa using nk.2.2⟩
        · rw [if_neg c] at b
          rw [← b]
          exact ⟨a, by simpa using c⟩
    have h2 : ∀ y, y ∈ ls3 ↔ ∃ p ∈ Lf.map (frP p0), lk p = y := fun y => by
      rw [z2, ← hLf]
      constructor
      · rintro ⟨p, a, b, rfl⟩
        exact ⟨frP p0 p, List.mem_map.mpr ⟨p, List.mem_filter.mpr ⟨a, by simpa using (fr_ne q3 (nt.lk p a).2.2).mp b⟩, rfl⟩, rfl⟩
      · rintro ⟨_, m, rfl⟩
        obtain ⟨p, a, rfl⟩ := List.mem_map.mp m
        obtain ⟨a1, a2⟩ := List.mem_filter.mp a
        exact ⟨p, a1, (fr_ne q3 (nt.lk p a1).2.2).mpr (by simpa using a2), rfl⟩
    obtain ⟨c1, c2⟩ := told_uniq T nt3 h1 h2
    subst c1 c2
    refine ⟨⟨a3, rfl, hN⟩, nt3, ?_, ?_⟩
    · rw [z1.length_eq]
      exact List.length_filter_le _ _
    · refine Nat.le_trans (pr_len (ys := (Lf.map (frP p0)).map lk) T.ndl fun y hy => List.mem_map.mpr ((T.lm y).mp hy)) ?_
      rw [List.length_map, List.length_map, ← hLf]
      exact List.length_filter_le _ _
  have G4 := ((g1.trans g2).trans g3).trans g4
  refine b_ret (P := RSt C ⟨p, x, d⟩) g4.s (e_tup (a_cons (P := fun v H' => ∃ q, Way p0 q ∧ RDrawn C (x, q) v H') (e_ifX (t_cmpX (Pa := RD (p, 2)) (Pb := is (V.int 0)) op_eq (by rfl) (e_callD (p, 2) FD (hr.mono (by decide)) (a_consD (e_var 0) (a_consD e_int a_nil)) fun H' e => ad ((e4.trans e) _ _ hp) (by decide) (by decide)) e_int fun u v H7 e7 z1 z2 => ?_) ?_ ?_) (a_consD (v := V.ref d2) (e_var 6) a_nil)) (fun xs _ z => ?_) fun xs q H6 e6 z hq => ?_) fun v Hn H7 g p => rt v _ _ (G4.trans g) p
  · obtain ⟨r, rfl, _⟩ := z1.now
    obtain rfl := z2.now
    exact ⟨_, r_eq (x := V.int r) (y := V.int 0) rfl⟩
  · refine Cm.imp (e_meth N F.cls (hr.mono (by decide)) (e_var (v := V.ref x.a) 1) (.at (e4 _ _ hi)) hf (a_consD (v := V.ref t0) (e_var 3) a_nil) fun vs H5 e5 p5 => ?_) fun v H' e z => ⟨p0, .inl rfl, z⟩
    obtain rfl := p5.now
    exact ⟨(x, p0), fun H' e => ⟨t0, rfl, hT0 ((e4.trans e5).trans e), ⟨hX.1.ex ((e4.trans e5).trans e), nt⟩, nk, by show lk p0 ∈ x.ls; rw [lkk]; exact m0⟩, fun _ _ _ z => z⟩
  · refine Cm.imp (e_methK N2 F.cls (hr.mono (by decide)) (e_var (v := V.ref x.a) 1) (.at (e4 _ _ hi)) hf (k_cons (e_back (q := p0) (Cm.imp (e_var (v := V.ref t0) 3) fun v H' e z => ⟨t0, z, hT0 (e4.trans e)⟩)) k_nil) fun zs H5 e5 p5 => ?_) fun v H' e z => ⟨(p0.2, p0.1), .inr rfl, z⟩
    obtain ⟨_, _, rfl, ⟨c5, rfl, hc5⟩, rfl⟩ := p5.now
    exact ⟨(x, (p0.2, p0.1)), fun H' e => ⟨c5, rfl, SqT.of (e _ _ hc5), ⟨hX.1.ex ((e4.trans e5).trans e), nt⟩, ⟨n2, n1, nk.2.2.symm⟩, by show lk (p0.2, p0.1) ∈ x.ls; rw [Way.lk (q := p0) (.inr rfl), lkk]; exact m0⟩, fun _ _ _ z => z⟩
  · obtain ⟨_, _, rfl, _, rfl⟩ := z
    exact (by decide : 2 ≤ 100000)
  · obtain ⟨_, _, rfl, ⟨q5, hw, hR⟩, rfl⟩ := z.now
    obtain ⟨⟨a3, rfl, hN⟩, nt3, b1, b2⟩ := same hw _ _ hR
    exact fun H' e => ⟨q, a3, d2, ns2, ls2, rfl, e _ _ hq, hN.ex e, hd2.ex (e6.trans e), nt3, b1, b2⟩
end
end K19
set_option Elab.async false
set_option linter.all false
set_option maxRecDepth 100000
set_option maxHeartbeats 2000000
/-! a comprehension whose test is drawn -/
namespace LW
open PySem L2
/-- one turn, whatever the test says -/
def LcTurnX (g : TG) (tt : TT) (te : TE) (vs : List Nat) (σ : St) (A : List V → Hp → Prop) (A0 : Hp → Prop) (x : V) (H : Hp) : Prop :=
  ∃ σ' : St, Bind g x (wipe σ vs) H σ' ∧ wipe σ' vs = wipe σ vs ∧ Cm H any2 (tt σ') ∧ Cm H (fun y H' => A [y] H') (te σ') ∧ Pz H A0
theorem c_lcT {wi : TI} {g : TG} {tt : TT} {te : TE} {vs : List Nat} {σ : St} {H : Hp} {n : Nat} {Y : Nat → V → Hp → Prop} {P : V → Hp → Prop} (hci : Ci H n Y (wi σ)) (hn : n ≤ 100000) (A : Nat → List V → Hp → Prop) (h0 : ∀ H', A 0 [] H')
    (hs : ∀ i x acc H1, i < n → Ex H H1 → Pz H1 (Y i x) → Pz H1 (A i acc) → LcTurnX g tt te vs σ (fun ys => A (i + 1) (acc ++ ys)) (A (i + 1) acc) x H1)
    (hd : ∀ acc p H1, Ex H H1 → Pz H1 (A n acc) → H1 p = some (.lst acc) → Pz H1 (P (.ref p))) : Cm H P (tLc wi g tt te vs σ) := by
  intro Hc e Q q
  refine hci Hc e _ fun J Hn H2 g2 ov => fun Dl hD => ?_
  have hcD : Hc Dl = none := Evl.fresh_back g2.c hD
  refine ⟨fun i m Hc1 => m = n - i ∧ i ≤ n ∧ ∃ H1 acc, Ex Hn H1 ∧ Grow H Hc H1 Hc1 ∧ H1 Dl = none ∧ Hc1 Dl = some (.lst acc) ∧ acc.length ≤ i ∧ Pz H1 (A i acc), ⟨n, rfl, Nat.zero_le _, Hn, [], Evl.Ex.refl _, g2.mut hcD (Evl.fresh_back g2.s hD), Evl.fresh_back g2.s hD, upd_same, Nat.le_refl _, fun H' _ => h0 H'⟩, ?_⟩
  rintro i m Hc1 ⟨rfl, hi, H1, acc, e1, g1, hD1, hl, hlen, pa⟩
  rcases Nat.lt_or_ge i n with hlt | hge
  · refine .inr ⟨ov.go i Hc1 (e1.trans g1.s) hlt, fun Hc3 => ∃ H3 acc', Ex Hn H3 ∧ Grow H Hc H3 Hc3 ∧ H3 Dl = none ∧ Hc3 Dl = some (.lst acc') ∧ acc'.length ≤ i + 1 ∧ Pz H3 (A (i + 1) acc'), ?_, ?_⟩
    · rintro H3 ⟨H5, acc', a, b, c, d, f, h⟩
      exact ⟨n - (i + 1), by omega, rfl, hlt, H5, acc', a, b, c, d, f, h⟩
    · intro x H' y
      obtain ⟨H3, g3, z⟩ := ov.yld i x Hc1 H' (e1.trans g1.s) hlt y H1 e1 g1.s
      obtain ⟨σ', Tbd, Twp, Tt, Ty, Tn⟩ := hs i x acc H3 hlt ((g1.trans g3).k) z (pa.mono g3.k)
      refine Tbd H' g3.s _ ⟨Twp, Tt H' g3.s _ fun b H4 Hc4 g4 pb => ?_⟩
      have hD3 : H3 Dl = none := g3.un hl hD1
      have hl3 := g3.c _ _ hl
      have hD4 : H4 Dl = none := g4.un hl3 hD3
      have hl4 := g4.c _ _ hl3
      cases b with
      | true =>
        show te σ' Hc4 _
        refine Ty.mono g4.k Hc4 g4.s _ fun y H5 Hc5 g5 py => ?_
        have hl5 := g5.c _ _ hl4
        have hD5 : H5 Dl = none := g5.un hl4 hD4
        refine ⟨acc, hl5, Evl.sz_lt (by omega), H5, acc ++ [y], e1.trans ((g3.trans (g4.trans g5)).k), (g1.trans (g3.trans (g4.trans g5))).mut hcD hD5, hD5, upd_same, ?_, py⟩
        rw [List.length_append, List.length_singleton]; omega
      | false => exact ⟨H4, acc, e1.trans ((g3.trans g4).k), g1.trans (g3.trans g4), hD4, hl4, by omega, Tn.mono g4.k⟩
  · have qe : i = n := by omega
    subst qe
    refine .inl ⟨ov.stop i Hc1 (e1.trans g1.s) (Nat.le_refl _), ?_⟩
    exact q (.ref Dl) (upd H1 Dl (.lst acc)) Hc1 (g1.know hcD hD1 hl) (hd acc Dl _ (g1.k.trans (Evl.Ex.new hD1)) (pa.mono (Evl.Ex.new hD1)) upd_same)
end LW
set_option Elab.async false
set_option linter.all false
set_option maxRecDepth 100000
set_option maxHeartbeats 2000000
namespace K19
open PySem L2 LW
abbrev sBes : Stmt := top 58
section
variable {P : Program} {w : World} {K : PySem.W.Frag} {mg : Str → Option Value} {base : Heap} {f fi C : Addr} {fd : FuncData}
def ABes : Addr × Mdl → List V → Hp → Prop := fun x vs H => vs = [.ref x.1, .ref x.2.d] ∧ H x.1 = some (PotO x.1) ∧ x.2.At H ∧ x.2.ns.length ≤ 40
/-- a model of some of the nodes, two more at most, and four links at most -/
def RBes : Addr × Mdl → V → Hp → Prop := fun x v H => ∃ d ns ls, ∃ zs : List Str, v = .ref d ∧ MdlAt d ns ls H ∧ Nt ns ls ∧ (∀ y ∈ ns, y ∈ x.2.ns ∨ y ∈ zs) ∧ zs.length ≤ 2 ∧ ls.length ≤ 4
abbrev nBes : List Str := ["_law_pot_here", "_law_model", "_law_spots", "_law_pairs", "_law_turn", "_law_this", "_law_mate", "_law_spot"]
theorem scBes : FnScope nBes ["_law_pot_here", "_law_model"] (defScope sBes) := ⟨rfl, rfl, rfl, by decide +kernel, rfl, by decide +kernel, by decide +kernel⟩
theorem told_nt {gs : List Str} {ps : List (Str × Str)} {ns : List Str} {ls : List (Str × Str)} (t : Told gs ps ns ls) (ne : gs ≠ []) (ng : gs.length ≤ 60) (np : ps.length ≤ 60) (nm : ∀ x ∈ gs, Nm x) (lk' : ∀ p ∈ ps, p.1 ∈ gs ∧ p.2 ∈ gs ∧ p.1 ≠ p.2) : Nt ns ls ∧ ns.length ≤ gs.length ∧ ls.length ≤ ps.length := by
  have a : ns.length ≤ gs.length := nd_len ns gs t.nd fun x hx => (t.mem x).mp hx
  have b : ls.length ≤ ps.length := by
    have z := nd_len ls (ps.map lk) t.ndl fun x hx => List.mem_map.mpr ((t.lm x).mp hx)
    rw [List.length_map] at z
    exact z
  refine ⟨⟨by omega, fun e => ?_, t.nd, fun x hx => nm x ((t.mem x).mp hx), t.sn, by omega, t.ndl, fun q hq => ?_, t.sp⟩, a, b⟩
  · obtain ⟨x, hx⟩ := List.exists_mem_of_ne_nil _ ne
    have z := (t.mem x).mpr hx
    rw [e] at z
    exact absurd z List.not_mem_nil
  · obtain ⟨p, hp, rfl⟩ := (t.lm q).mp hq
    obtain ⟨h1, h2, h3⟩ := lk' p hp
    refine ⟨?_, ?_, lk_lt (p := p) ⟨nm _ h1, nm _ h2, h3⟩⟩ <;> rcases lnk_cases p.1 p.2 with e | e <;> unfold lk <;> rw [e]
    · exact (t.mem _).mpr h1
    · exact (t.mem _).mpr h2
    · exact (t.mem _).mpr h2
    · exact (t.mem _).mpr h1
theorem b_lbes (B : BltL mg) (FD : Fn P w K mg base "_law_draw" 1 AD RD) (FN : Fn P w K mg base "_law_named" 2 (ANamed K) RNamed) (FP : Fn P w K mg base "_law_pick" 2 (APk K) RPk) (FT : Fn P w K mg base "_law_told_model" 2 (ATold K) RTold) : Body P w K mg base nBes "_law_beside" sBes f 2 ABes RBes := by
  intro cdv Ar outer s H0 E x vs H Hc D hr ex pa rt nx
  obtain ⟨p, x⟩ := x
  obtain ⟨rfl, hp, hX, h40⟩ := pa.now
  have hp : H p = some (PotO p) := hp
  have hM : MdlAt x.d x.ns x.ls H := hX.1
  have nt : Nt x.ns x.ls := hX.2
  have h40 : x.ns.length ≤ 40 := h40
  obtain ⟨a, ha, ca⟩ := e_spots (X := fx P w K mg base nBes "_law_beside" sBes f cdv Ar outer s H0 E) (x := x) (hu_of hr) hM
  refine b_setLc 2 ex rfl scBes.nd rfl rfl rfl (pi_list pe_w) (own := [("_law_spot", 7)]) (g := gName 7) (P := fun v H' => ∃ (c : Addr) (gs : List Str), v = .ref c ∧ H' c = some (.lst (gs.map V.str)) ∧ gs.length ≤ x.ns.length ∧ ∀ y ∈ gs, y ∈ x.ns) (blkOk_by (N := nBes) (sc := defScope sBes) (by decide +kernel)) (fun _ _ _ _ _ => pg_name (i := 7) scBes.nd rfl (.inl rfl)) (fun s H C cl fp => pts_one (pt_b s H C cl fp))
    (c_lcT (i_list (xs := x.ns.map V.str) (Cm.imp (ca _ _ _ _ _ _ (Evl.Ex.refl _) (e_var 1)) fun v H' e z => ⟨a, z, SqL.of (e _ _ ha)⟩)) (by rw [List.length_map]; omega) (fun i acc _ => ∃ gs : List Str, acc = gs.map V.str ∧ gs.length ≤ i ∧ ∀ y ∈ gs, y ∈ x.ns) (fun _ => ⟨[], rfl, Nat.le_refl _, fun y hy => absurd hy List.not_mem_nil⟩) (fun i v acc H9 hi9 e9 py pacc => ?_) fun acc q H9 e9 pacc hq => ?_) (fun v H1 Hc1 g1 p1 => ?_)
  · obtain ⟨z, hz, rfl⟩ := txt_get py.now
    obtain ⟨gs, rfl, lg, mg'⟩ := pacc.now
    have mz := List.mem_of_getElem? hz
    refine ⟨_, bind_name, rfl, c_tb fun s0 H00 C0 cl fp => t_cmpX (Pa := RD (p, 3)) (Pb := is (V.int 0)) op_eq (by rfl) (e_callD (p, 3) FD (hr.mono (by decide)) (a_consD (v := V.ref p) (e_var 0) (a_consD e_int a_nil)) fun H' e => ad ((e9.trans e) _ _ hp) (by decide) (by decide)) e_int fun u v H7 e7 z1 z2 => ?_, c_eb fun s0 H00 C0 cl fp => ?_, .const ⟨gs, rfl, by omega, mg'⟩⟩
    · obtain ⟨r, rfl, _⟩ := z1.now
      obtain rfl := z2.now
      exact ⟨_, r_eq (x := V.int r) (y := V.int 0) rfl⟩
    · refine Cm.imp (e_var (v := V.str z) 7) fun v H' _ q => ⟨gs ++ [z], by rw [show v = V.str z from q, List.map_append] <;> rfl, by rw [List.length_append, List.length_singleton]; omega, fun y hy => ?_⟩
      rcases List.mem_append.mp hy with h | h
      · exact mg' y h
      · rw [List.mem_singleton.mp h]; exact mz
  · obtain ⟨gs, rfl, lg, mg'⟩ := pacc.now
    rw [List.length_map] at lg
    exact fun H' e' => ⟨q, gs, rfl, e' _ _ hq, lg, mg'⟩
  obtain ⟨c, gs, rfl, hc, lg, mgs⟩ := p1.now
  have e1 := g1.k
  refine b_set 2 g1.s (P := fun v H' => ∃ c2 zs, v = .ref c2 ∧ H' c2 = some (.lst (gs.map V.str ++ zs)) ∧ ∃ fs : List Str, zs = fs.map V.str ∧ 1 ≤ fs.length ∧ fs.length ≤ 2 ∧ ∀ y ∈ fs, Nm y) (e_catX (φ := fun zs => ∃ fs : List Str, zs = fs.map V.str ∧ 1 ≤ fs.length ∧ fs.length ≤ 2 ∧ ∀ y ∈ fs, Nm y) (Cm.imp (e_var (v := V.ref c) 2) fun v H' e z => ⟨c, z, e _ _ hc⟩)
    (e_call FN hr (a_cons (P := is (V.ref p)) (e_var 0) (a_cons (P := fun v _ => ∃ n : Nat, v = V.int (n : Int) ∧ 1 ≤ n ∧ n ≤ 2)
      (e_op op_add (e_int (i := 1)) (e_callD (p, 2) FD (hr.mono (by decide)) (a_consD (e_var 0) (a_consD e_int a_nil)) fun H' e => ad ((e1.trans e) _ _ hp) (by decide) (by decide)) fun x2 y2 H6 e6 px2 py2 => ?_)
      (a_cons (P := fun v H' => ∃ (b : Addr) (ts : List Str), v = .ref b ∧ H' b = some (.lst (ts.map V.str)) ∧ ts.length ≤ 40) (e_ifX (t_cmpX (Pa := RD (p, 2)) (Pb := is (V.int 0)) op_eq (by rfl) (e_callD (p, 2) FD (hr.mono (by decide)) (a_consD (e_var 0) (a_consD e_int a_nil)) fun H' e => ad ((e1.trans e) _ _ hp) (by decide) (by decide)) e_int fun u v H7 e7 z1 z2 => ?_) ?_ ?_) a_nil))) fun vs H4 e4 p4 => ?_) fun zs z => ?_) (fun v H2 Hc2 g2 p2 => ?_) scBes.nd
  · obtain rfl : x2 = V.int 1 := px2.now
    obtain ⟨r, rfl, r0, r1⟩ := py2.now
    have r1 : r < 2 := r1
    refine (r_I0 (g := fun i j => V.int (i + j)) (i := 1) (j := r)).imp fun v _ _ z => ⟨(1 + r).toNat, ?_, by omega, by omega⟩
    rw [show v = V.int (1 + r) from z]
    congr 1
    omega
  · obtain ⟨r, rfl, _⟩ := z1.now
    obtain rfl := z2.now
    exact ⟨_, r_eq (x := V.int r) (y := V.int 0) rfl⟩
  · exact Cm.imp (ca _ _ _ _ _ _ e1 (e_var 1)) fun v H' e z => ⟨a, x.ns, z, e _ _ (e1 _ _ ha), h40⟩
  · exact Cm.imp (e_var (v := V.ref c) 2) fun v H' e z => ⟨c, gs, z, e _ _ hc, by omega⟩
  · obtain ⟨_, _, rfl, rfl, _, _, rfl, ⟨n, rfl, n1, n2⟩, _, _, rfl, ⟨b, ts, rfl, hb, lt⟩, rfl⟩ := p4.now
    refine ⟨(p, n, ts), fun H' e => ⟨b, rfl, e _ _ ((e1.trans e4) _ _ hp), SqL.of (e _ _ hb), by show n ≤ 60; omega, by show n + ts.length < 100; omega⟩, fun v H2 e2 z => ?_⟩
    obtain ⟨c2, ys, rfl, hc2, F⟩ := z
    have fl : ys.length = n := F.len
    exact ⟨c2, ys.map V.str, rfl, hc2, ys, rfl, by omega, by omega, fun y hy => (F.lb y hy).1.nm (by decide)⟩
  · obtain ⟨fs, rfl, _, h2, _⟩ := z
    rw [List.length_map, List.length_map]; omega
  obtain ⟨c2, _, rfl, hc2, zs, rfl, z1, z2, z3⟩ := p2.now
  rw [← List.map_append] at hc2
  have e2 := e1.trans g2.k
  generalize hns : gs ++ zs = ns at hc2
  have nin : ∀ y ∈ ns, y ∈ x.ns ∨ y ∈ zs := fun y hy => by
    rw [← hns] at hy
    exact (List.mem_append.mp hy).imp (mgs y) id
  have nm : ∀ y ∈ ns, Nm y := fun y hy => (nin y hy).elim (nt.nm y) (z3 y)
  have ne : ns ≠ [] := fun e => by
    rw [← hns] at e
    have := congrArg List.length e
    rw [List.length_append] at this
    have : gs.length + zs.length = 0 := this
    omega
  have lns : ns.length ≤ 42 := by rw [← hns, List.length_append]; omega
  have hp2 : H2 p = some (PotO p) := e2 _ _ hp
  have G2 := g1.trans g2
  refine b_lnew 3 g2.s (fun l hl => ?_) scBes.nd
  have hl2 : H2 l = none := Evl.fresh_back g2.s hl
  refine b_forX (H := H2) (Φ := fun n => n ≤ 4) (g := gName 4) (g2.s.trans (Evl.Ex.new hl)) PassesOwn.never rfl (pi_range1 rfl B.range pa_w) (i_rngX (Cm.imp (a_cons (P := fun v _ => ∃ n : Nat, v = V.int (n : Int) ∧ n ≤ 4)
      (Cm.imp (e_callD (p, 5) FD (hr.mono (by decide)) (a_consD (e_var 0) (a_consD e_int a_nil)) fun H' e => ad (e _ _ hp2) (by decide) (by decide)) fun v _ _ ⟨r, z1, z2, z3⟩ => ⟨r.toNat, by rw [z1]; congr 1; omega, by have z3 : r < 5 := z3; omega⟩) a_nil) fun vs H' e z => ?_)) (pg_name (i := 4) scBes.nd rfl (.inl rfl)) fun n H3 Hc3 hn g3 => ?_
  · obtain ⟨u, us, rfl, ⟨m, rfl, m1⟩, rfl⟩ := z
    exact ⟨m, rfl, by omega, m1⟩
  have gg := (still (g2.s.trans (Evl.Ex.new hl)) (Evl.Ex.new hl)).trans g3
  have hn : n ≤ 4 := hn
  refine ⟨fun i σ1 H4 Hc4 => ∃ (ts : List Addr) (qs : List (Str × Str)) (u1 u2 u3 : Option V), σ1 = [some (.ref p), some (.ref x.d), some (.ref c2), some (.ref l), u1, u2, u3, none] ∧ H4 l = none ∧ Hc4 l = some (.lst (ts.map V.ref)) ∧ TsAt H4 ts qs ∧ qs.length ≤ i ∧ (∀ q ∈ qs, q.1 ∈ ns ∧ q.2 ∈ ns ∧ q.1 ≠ q.2) ∧ Ex H2 H4 ∧ Grow H2 Hc2 H4 Hc4,
    ⟨[], [], none, none, none, rfl, g3.un upd_same hl2, g3.c _ _ upd_same, .nil, Nat.le_refl _, fun p hp => absurd hp List.not_mem_nil, gg.k, gg⟩, ?_, ?_⟩
  · rintro i σ1 H4 Hc4 hi e4 e5 ⟨ts, qs, u1, u2, u3, rfl, hl4, hc4, hts, hlen, hQ, e24, g4⟩ y H5 Hc5 g5 py
    have pt : ∀ {H'}, Ex H5 H' → H' p = some (PotO p) := fun e => e _ _ ((e24.trans g5.k) _ _ hp2)
    have sp : ∀ {H'}, Ex H5 H' → SqL K H' c2 (ns.map V.str) := fun e => SqL.of (e _ _ ((e24.trans g5.k) _ _ hc2))
    have pk : ∀ {H'}, Ex H5 H' → APk K (p, ns.map V.str) [.ref p, .ref c2] H' := fun e => ⟨c2, rfl, pt e, sp e, by simpa using ne, by show (ns.map V.str).length ≤ 1000; rw [List.length_map]; omega⟩
    refine b_par 5 6 g5.s rfl scBes.nd (Pa := fun vs _ => ∃ y z, vs = [V.str y, V.str z] ∧ y ∈ ns ∧ z ∈ ns) (Cm.imp (a_cons (P := RPk (p, ns.map V.str)) (e_callD (p, ns.map V.str) FP hr (a_consD (e_var 0) (a_consD (e_var 2) a_nil)) fun H' e => pk e) (a_cons (P := RPk (p, ns.map V.str)) (e_callD (p, ns.map V.str) FP hr (a_consD (e_var 0) (a_consD (e_var 2) a_nil)) fun H' e => pk e) a_nil)) fun vs H' e z => ?_) (fun vs _ z => ?_) (fun v v2 H6 Hc6 g6 p6 => ?_)
    · obtain ⟨_, _, rfl, h1, _, _, rfl, h2, rfl⟩ := z
      obtain ⟨y, hy, rfl⟩ := List.mem_map.mp h1
      obtain ⟨z, hz, rfl⟩ := List.mem_map.mp h2
      exact ⟨y, z, rfl, hy, hz⟩
    · obtain ⟨y, z, rfl, _⟩ := z
      exact ⟨_, _, rfl⟩
    · obtain ⟨y, z, e, hy, hz⟩ := p6.now
      injection e with e1 e2
      injection e2 with e2 _
      subst e1 e2
      have hl6 := g6.c _ _ (g5.c _ _ hc4)
      have n6 : H6 l = none := g6.un (g5.c _ _ hc4) (g5.un hc4 hl4)
      have g6' := (g4.trans g5).trans g6
      have t6 : TsAt H6 ts qs := paired_ex (g5.k.trans g6.k) hts
      refine b_if g6.s (k := !decide (y = z)) (t_is (t_cmpD op_ne (by rfl) (e_var 5) (e_var 6) (r_ne (x := V.str y) (y := V.str z) rfl)) (by by_cases h : y = z <;> simp [h])) (fun hk H7 Hc7 g7 => ?_) fun hk H7 Hc7 g7 => b_nil (b_nil ?_)
      · have hne : y ≠ z := by simpa using hk
        have hl7 := g7.c _ _ hl6
        have n7 : H7 l = none := g7.un hl6 n6
        refine b_app (l := l) (xs := ts.map V.ref) (P := pr (y, z)) g7.s (e_var 3) (e_tup (a_consD (v := V.str y) (e_var 5) (a_consD (v := V.str z) (e_var 6) a_nil)) (fun xs _ z => by rw [show xs = _ from z]; exact (by decide : 2 ≤ 100000)) fun xs c3 H9 e9 w hc3 => ?_) hl7 (by rw [List.length_map, hts.length]; omega) fun v8 H8 Hc8 g8 p8 => b_nil (b_nil ?_)
        · rw [show xs = _ from w.now] at hc3
          exact fun H' e' => ⟨c3, rfl, e' _ _ hc3⟩
        · obtain ⟨t, rfl, ht⟩ := p8.now
          have n8 : H8 l = none := g8.un hl7 n7
          refine ⟨H8, ((e4.trans g5.k).trans g6.k).trans (g7.k.trans g8.k), g8.s.mut n8, ts ++ [t], qs ++ [(y, z)], _, _, _, rfl, n8, by rw [upd_same, List.map_append] <;> rfl, ts_snoc ht (paired_ex (g7.k.trans g8.k) t6), by rw [List.length_append, List.length_singleton]; omega, fun q hq => ?_, ((e24.trans g5.k).trans g6.k).trans (g7.k.trans g8.k), ((g6'.trans g7).trans g8).mut hl n8⟩
          rcases List.mem_append.mp hq with h | h
          · exact hQ q h
          · rw [List.mem_singleton.mp h]; exact ⟨hy, hz, hne⟩
      · exact ⟨H7, ((e4.trans g5.k).trans g6.k).trans g7.k, g7.s, ts, qs, _, _, _, rfl, g7.un hl6 n6, g7.c _ _ hl6, paired_ex g7.k t6, by omega, hQ, ((e24.trans g5.k).trans g6.k).trans g7.k, g6'.trans g7⟩
  · rintro σ1 H4 Hc4 e4 e5 ⟨ts, qs, u1, u2, u3, rfl, hl4, hc4, hts, hlen, hQ, e24, g4⟩
    have own : Ex (upd H4 l (.lst (ts.map V.ref))) Hc4 := g4.s.own hc4
    have lq : qs.length ≤ 4 := Nat.le_trans hlen hn
    refine b_ret (H := upd H4 l (.lst (ts.map V.ref))) (P := RBes (p, x)) own (Cm.imp (e_callD (ns, qs) FT hr (a_consD (v := V.ref c2) (e_var 2) (a_consD (v := V.ref l) (e_var 3) a_nil)) fun H' e => ⟨c2, l, ts, rfl, SqL.of (e _ _ ((e24.trans (Ex.put hl4)) _ _ hc2)), SqL.of (e _ _ upd_same), paired_ex ((Ex.put hl4).trans e) hts, by show ns.length ≤ 60; omega, by show qs.length ≤ 60; omega⟩) fun v H' e z => ?_) fun v H6 Hc6 g6 p6 => rt v _ _ ((G2.trans (g4.know hl hl4 hc4)).trans g6) p6
    obtain ⟨d, ns2, ls2, rfl, hd, T⟩ := z
    obtain ⟨n1, n2, n3⟩ := told_nt T ne (by show ns.length ≤ 60; omega) (by show qs.length ≤ 60; omega) nm hQ
    exact ⟨d, ns2, ls2, zs, rfl, hd, n1, fun y hy => nin y ((T.mem y).mp hy), z2, Nat.le_trans n3 lq⟩
end
end K19
set_option Elab.async false
set_option linter.all false
set_option maxRecDepth 100000
set_option maxHeartbeats 2000000
/-! o op t, both of one class, by its own method -/
namespace LW
open PySem PySem.Spec PyProof.Rows L2
/-- the method of an operator of the class at C -/
structure BinO (K : PySem.W.Frag) (C f : Addr) (nm : String) : Prop where
  own : HasOp K C (PySem.dunder nm) f
  first : PySem.W.selfFirst K C = true
section
variable {prog : Program} {w : World} {M : Model} {A : Around} {E : Value → Shared → Prop} {s : Shared} {K : PySem.W.Frag} {x y C f : Addr} {ox oy : Obj} {od oe : Option Obj}
theorem bin_same {op : Operator} {Q : Value → Shared → Prop} (KI : K.In s.heap) (J : PySem.W.InstAt s.heap x ox C od) (J2 : PySem.W.InstAt s.heap y oy C oe) (c : BinO K C f op.info.2)
    (h : wpAny (model prog w) A (call (.ref f) [.ref x, .ref y]) (PySem.W.CmpBack Q) E s) : wpAny (model prog w) A (binaryOp op (.ref x) (.ref y)) Q E s := by
  obtain ⟨cd, more, hcd, hm⟩ := PySem.W.ksp_first c.first
  have e1 := PySem.W.fills_K (M := model prog w) KI hcd hm c.own.at_
  have one := PySem.W.ksp_try (M := model prog w) (A := A) (E := E) KI J c.own.at_ c.own.fn h
  have same : (Value.ref C == Value.ref C) = true := beq_self_eq_true _
  unfold binaryOp
  refine wpAny_holding (wpAny_bind ?_)
  unfold binaryOp1
  refine wpAny_bind (J.type.here (wpAny_bind (J2.type.here (wpAny_bind (e1.here ?_)))))
  simp only [same, if_true]
  refine wpAny_bind (wpAny_pure ?_)
  simp only [Bool.and_false, Bool.false_and, Bool.false_eq_true, if_false]
  try refine wpAny_bind (wpAny_pure ?_)
  try simp only [Bool.false_eq_true, if_false]
  refine wpAny_bind (m := tryMethod (.ref x) _ (.ref y)) (thn one fun r s' z => ?_)
  obtain ⟨v, rfl, hq⟩ := z
  first
  | exact wpAny_pure (wpAny_pure hq)
  | exact wpAny_pure (wpAny_pure (wpAny_pure hq))
end
section
variable {X : Cx} {C f : Addr} {k : Nat} {sp : Sp}
def rOwnO (C : Addr) (sp : Sp) (E : XK) : R2 := fun x y H Q => ∃ a dx fs b dy gs, x = .ref a ∧ H a = some (.ins C dx fs) ∧ y = .ref b ∧ H b = some (.ins C dy gs) ∧ sp [x, y] H Q E
theorem op_ownBinO {op : Operator} (c : BinO X.K C f op.info.2) (F : FnR X.prog X.w X.K X.mg X.base CX0 k f sp) (hr : Room k X.A) : OpR X (binaryOp op) (rOwnO C sp E0) := by
  intro pins s σ H x y u v Q I rx ry h
  obtain ⟨a, dx, fs, b, dy, gs, rfl, ha, rfl, hb, q⟩ := h
  cases (show u = Value.ref a from rx)
  cases (show v = Value.ref b from ry)
  obtain ⟨ox, od, J⟩ := inst_at I ha
  obtain ⟨oy, oe, J2⟩ := inst_at I hb
  exact bin_same I.kIn J J2 c (thn (wpAny_call (run_fnR (vs := [.ref a, .ref b]) F hr pass0 I (.cons (show RelV (.ref a) (.ref a) from rfl) (.cons (show RelV (.ref b) (.ref b) from rfl) .nil)) q)) fun w s' z => cmp_back z)
end
section
variable {α : Type} {A : α → List V → Hp → Prop} {R : α → V → Hp → Prop} {X : Cx} {σ : L2.St} {H : Hp} {k : Nat} {C f a b dx dy : Addr} {fs gs : List (Str × V)} {i o : Expr} {pos : Pos} {op : Operator}
/-- o | t -/
theorem e_binO (c : BinO X.K C f op.info.2) (F : FnR X.prog X.w X.K X.mg X.base CX0 k f (SpF A R)) (hr : Room k X.A) (hx : Cm H (is (V.ref a)) (wE X i σ)) (ho : Cm H (is (V.ref b)) (wE X o σ)) (hi : Pz H (fun H' => H' a = some (.ins C dx fs))) (hj : Pz H (fun H' => H' b = some (.ins C dy gs))) (y : α)
    (hp : Pz H (A y [.ref a, .ref b])) : Cm H (R y) (wE X (.BinOp i op o pos) σ) :=
  e_opD (op_ownBinO c F hr) hx ho fun Hc ex Q q => ⟨a, dx, fs, b, dy, gs, rfl, hi Hc ex, rfl, hj Hc ex, y, H, ex, hp, fun v Hn H2 g r => q v Hn H2 g r⟩
end
end LW
set_option Elab.async false
set_option linter.all false
set_option maxRecDepth 100000
set_option maxHeartbeats 2000000
/-! tests of which not all is known -/
namespace LW
open PySem L2
section
variable {X : Cx} {σ : St} {H Hc : Hp} {c a b : Expr} {sa sb rest : List Stmt} {pos : Pos} {D : Ends} {Pt : Bool → Hp → Prop} {k : Bool}
theorem b_ifX (ex : Ex H Hc) (hc : Cm H Pt (wT X c σ)) (h1 : ∀ Hn H2, Grow H Hc Hn H2 → Pz Hn (Pt true) → wB X sa { D with nx := wB X rest D } σ H2) (h2 : ∀ Hn H2, Grow H Hc Hn H2 → Pz Hn (Pt false) → wB X sb { D with nx := wB X rest D } σ H2) :
    wB X (.If c sa sb pos :: rest) D σ Hc :=
  b_cons (w_s (ps_if pt_w pss_w pss_w) (hc Hc ex _ fun d Hn H2 g p => by
    cases d with
    | true => exact h1 Hn H2 g p
    | false => exact h2 Hn H2 g p))
theorem t_and2X (h : Cm H any2 (wT X a σ)) (h2 : Cm H (is k) (wT X b σ)) : Cm H (fun d _ => d = true → k = true) (wT X (.BoolOp .And [a, b] pos) σ) :=
  ct pw_w.pt (cw (pw_and pt_w pw_w) (cm1 (u := fun d Hc Q => if d = true then wW X (.BoolOp .And [b] pos) σ Hc Q else Q false Hc) h fun d H1 e _ => by
    cases d with
    | true => exact ((cw (pw_and1 pt_w) h2).mono e).imp fun v _ _ z => fun q => (show v = k from z) ▸ q
    | false => exact Cm.ret (v := false) (fun _ _ _ q => q) (.const fun z => nomatch z)))
end
/-- the operator op of the class at C keeps its promise between two of the class -/
structure OpB {α : Type} (P : Program) (w : World) (K : PySem.W.Frag) (mg : Str → Option Value) (base : Heap) (C : Addr) (op : Operator) (k : Nat) (A : α → List V → Hp → Prop) (R : α → V → Hp → Prop) : Prop where
  ex : ∃ f : Addr, BinO K C f op.info.2 ∧ FnR P w K mg base CX0 k f (SpF A R)
end LW
set_option Elab.async false
set_option linter.all false
set_option maxRecDepth 100000
set_option maxHeartbeats 2000000
namespace K19
open PySem L2 LW
abbrev sBoth : Stmt := top 59
section
variable {P : Program} {w : World} {K : PySem.W.Frag} {mg : Str → Option Value} {base : Heap} {f fi C : Addr} {fd : FuncData}
/-- one change more -/
def RStB (C : Addr) : StIn → V → Hp → Prop := fun r v H => Both C v (r.x.ns.length + 2) (r.x.ls.length + 4) H
abbrev nBoth : List Str := ["_law_pot_here", "_law_made", "_law_model", "_law_more", "_law_beside_here", "_law_due", "_law_found", "_law_common", "_law_spot", "_law_pair"]
theorem scBoth : FnScope nBoth ["_law_pot_here", "_law_made", "_law_model"] (defScope sBoth) := ⟨rfl, rfl, rfl, by decide +kernel, rfl, by decide +kernel, by decide +kernel⟩
theorem NetAt.ins {a : Addr} {ns : List Str} {ls : List (Str × Str)} {H : Hp} (h : NetAt C a ns ls H) : ∃ dx fs, H a = some (.ins C dx fs) ∧ True := by
  obtain ⟨dx, l1, l2, l3, _, _, h, _⟩ := h
  exact ⟨dx, _, h, trivial⟩
theorem e_sp {X : Cx} {H : Hp} {σ : L2.St} {o : Expr} {d a b : Addr} {j1 : Nat} {p1 pos : Pos} (hu : X.A.units + 1 < cLine) (h : H d = some (.dK [(.inr "spots", .ref a), (.inr "pairs", .ref b)])) (ho : Cm H (is (V.ref d)) (wE X o σ)) : Cm H (is (V.ref a)) (wE X (.Subscript o (.Constant (.str "spots") j1 p1) pos) σ) :=
  e_dget hu ho e_str (by
    have q := pz_dK (key := .inr "spots") (Pz.at h)
    rw [val_spots] at q
    exact q)
theorem e_pp {X : Cx} {H : Hp} {σ : L2.St} {o : Expr} {d a b : Addr} {j1 : Nat} {p1 pos : Pos} (hu : X.A.units + 1 < cLine) (h : H d = some (.dK [(.inr "spots", .ref a), (.inr "pairs", .ref b)])) (ho : Cm H (is (V.ref d)) (wE X o σ)) : Cm H (is (V.ref b)) (wE X (.Subscript o (.Constant (.str "pairs") j1 p1) pos) σ) :=
  e_dget hu ho e_str (by
    have q := pz_dK (key := .inr "pairs") (Pz.at h)
    rw [val_pairs] at q
    exact q)
theorem filter_all {α : Type} {p : α → Bool} {xs : List α} (h : ∀ x ∈ xs, p x = true) : xs.filter p = xs := List.filter_eq_self.mpr h
theorem b_lboth (B : Blt K mg) (F : NetF K mg C) (OO : OpB P w K mg base C .BitOr 7 (AOr C) (ROr C)) (OA : OpB P w K mg base C .BitAnd 7 (AAnd C) (RAnd C)) (FD : Fn P w K mg base "_law_draw" 1 AD RD) (FB : Fn P w K mg base "_law_beside" 3 ABes RBes) (FN : Fn P w K mg base "_law_net" 7 ALNet (RLNet C)) (FT : Fn P w K mg base "_law_told_model" 2 (ATold K) RTold)
    (FI : Gn P w K mg base "_law_is" 7 (ALIs C) RTrue) : BodyG P w K mg base nBoth "_law_both" sBoth f 7 (AStp C fun x => x.ns.length ≤ 40 ∧ x.ls.length ≤ 56) (RStB C) := by
  intro cdv Ar outer s H0 E r vs H Hc D hr ex pa rt nx
  obtain ⟨p, x, d⟩ := r
  obtain ⟨rfl, hp, hX, hM, h40, h56⟩ := pa.now
  have hp : H p = some (PotO p) := hp
  have hX : x.At C H := hX
  have nt : Nt x.ns x.ls := hX.2
  have hM : MdlAt d x.ns x.ls H := hM
  have h40 : x.ns.length ≤ 40 := h40
  have h56 : x.ls.length ≤ 56 := h56
  have rr := hr.r
  have hu : (fx P w K mg base nBoth "_law_both" sBoth f cdv Ar outer s H0 E).A.units + 65 < cLine := by have := rr.un; omega
  obtain ⟨dx, fs, hi, _⟩ := hX.1.ins
  obtain ⟨a, ha, ca⟩ := e_spots (X := fx P w K mg base nBoth "_law_both" sBoth f cdv Ar outer s H0 E) (x := ⟨d, x.ns, x.ls⟩) (hu_of rr) hM
  obtain ⟨b, ts, hb, hts, cb⟩ := e_pairs (X := fx P w K mg base nBoth "_law_both" sBoth f cdv Ar outer s H0 E) (x := ⟨d, x.ns, x.ls⟩) (hu_of rr) hM
  have ha : H a = some (.lst (x.ns.map V.str)) := ha
  have hts : TsAt H ts x.ls := hts
  have l2 := hts.length
  have idl : x.ls.map lk = x.ls := hu_nt nt
  refine b_set 3 ex (P := RBes (p, ⟨d, x.ns, x.ls⟩)) (e_callD (p, ⟨d, x.ns, x.ls⟩) FB (rr.mono (by decide)) (a_consD (v := V.ref p) (e_var 0) (a_consD (v := V.ref d) (e_var 2) a_nil)) fun H' e => ⟨rfl, e _ _ hp, ⟨hM.ex e, nt⟩, h40⟩) (fun v H1 Hc1 g1 p1 => ?_) scBoth.nd (hx := .inr rfl)
  obtain ⟨d2, ns2, ls2, zs, rfl, hd2, nt2, hin, lz, l4⟩ := p1.now
  have hd2 : MdlAt d2 ns2 ls2 H1 := hd2
  have e1 := g1.k
  refine b_set 4 g1.s (P := NetR C ns2 ls2) (e_callD (p, ⟨d2, ns2, ls2⟩) FN rr (a_consD (v := V.ref p) (e_var 0) (a_consD (v := V.ref d2) (e_var 3) a_nil)) fun H' e => ⟨rfl, (e1.trans e) _ _ hp, ⟨hd2.ex e, nt2⟩⟩) (fun v H2 Hc2 g2 p2 => ?_) scBoth.nd
  obtain ⟨a2, rfl, hN2⟩ := p2.now
  have hN2 : NetAt C a2 ns2 ls2 H2 := hN2
  have e2 := e1.trans g2.k
  have hd22 := hd2.ex g2.k
  obtain ⟨dy, gs, hj, _⟩ := hN2.ins
  have G2 := g1.trans g2
  obtain ⟨a3, b3, ts3, hd3, ha3, hb3, hts3⟩ := id hd22
  have id2 : ls2.map lk = ls2 := hu_nt nt2
  have hX2 : ∀ {H'}, Ex H2 H' → x.At C H' := fun e => ⟨hX.1.ex (e2.trans e), nt⟩
  have hY2 : ∀ {H'}, Ex H2 H' → NetV.At C ⟨a2, ns2, ls2⟩ H' := fun e => ⟨hN2.ex e, nt2⟩
  have lns2 : ns2.length ≤ x.ns.length + 2 := by
    have z := nd_len ns2 (x.ns ++ zs) nt2.nd fun y hy => List.mem_append.mpr (hin y hy)
    rw [List.length_append] at z
    omega
  have draw0 : ∀ (σ : L2.St) (H' : Hp) (p1 p2 p3 p4 : Pos) (j : Nat) (pc : Pos) (j2 : Nat) (pc2 : Pos), Ex H2 H' → σ[0]? = some (some (.ref p)) → Cm H' any2 (wT (fx P w K mg base nBoth "_law_both" sBoth f cdv Ar outer s H0 E) (.Compare (.Call (.Name "_law_draw" p1) [.Name "_law_pot_here" p2, .Constant (.int 2) j pc] [] p3) [.Eq] [.Constant (.int 0) j2 pc2] p4) σ) := fun σ H' p1 p2 p3 p4 j pc j2 pc2 e hs =>
    t_cmpX (Pa := RD (p, 2)) (Pb := is (V.int 0)) op_eq (by rfl) (e_callD (p, 2) FD (rr.mono (by decide)) (a_consD (v := V.ref p) (e_var 0 hs) (a_consD e_int a_nil)) fun H'' e'' => ad (((e2.trans e).trans e'') _ _ hp) (by decide) (by decide)) e_int fun u v H7 e7 z1 z2 => by
      obtain ⟨r, rfl, _⟩ := z1.now
      obtain rfl := z2.now
      exact ⟨_, r_eq (x := V.int r) (y := V.int 0) rfl⟩
  have fin : ∀ {Hz Hcz : Hp} {dd aa : Addr} {s7 : Option V} {n' : List Str} {l' : List (Str × Str)}, Ex H2 Hz → Grow H Hc Hz Hcz → MdlAt dd n' l' Hz → NetAt C aa n' l' Hz → Nt n' l' → n'.length ≤ x.ns.length + 2 → l'.length ≤ x.ls.length + 4 →
      wB (fx P w K mg base nBoth "_law_both" sBoth f cdv Ar outer s H0 E) ((defBody sBoth).drop 3) D [some (.ref p), some (.ref x.a), some (.ref d), some (.ref d2), some (.ref a2), some (.ref dd), some (.ref aa), s7, none, none] Hcz := fun {Hz Hcz dd aa s7 n' l'} ez gz hdd haa nt' b1 b2 => by
    refine b_ret (P := RStB C ⟨p, x, d⟩) gz.s (e_tup (a_cons (P := is (V.ref aa)) (e_if (k := true) (t_val (e_callGD (⟨a2, ns2, ls2⟩, d2) FI hr (a_consD (v := V.ref a2) (e_var 4) (a_consD (v := V.ref d2) (e_var 3) a_nil)) fun H' e => ⟨rfl, hY2 (ez.trans e), hd22.ex (ez.trans e)⟩)) (fun _ => e_var 6) fun q => nomatch q) (a_consD (v := V.ref dd) (e_var 5) a_nil)) (fun xs _ z => ?_) fun xs q H6 e6 z hq => ?_) fun v Hn H7 g p => rt v _ _ (gz.trans g) p
    · obtain ⟨_, _, rfl, _, rfl⟩ := z
      exact (by decide : 2 ≤ 100000)
    · obtain ⟨_, _, rfl, rfl, rfl⟩ := z.now
      exact fun H' e => ⟨q, aa, dd, n', l', rfl, e _ _ hq, haa.ex (e6.trans e), hdd.ex (e6.trans e), nt', b1, b2⟩
  refine b_ifX (Pt := fun c _ => c = true → decide ((x.ns.length : Int) < 20) = true) g2.s (t_and2X (draw0 _ _ _ _ _ _ _ _ _ _ (Evl.Ex.refl _) rfl) (t_cmpD op_lt (by rfl) (t_is (e_len (xs := x.ns.map V.str) B.len (ca _ _ _ _ _ _ e2 (e_var 2)) (fun H' e => .inl (SqL.of ((e2.trans e) _ _ ha)))) (by rw [List.length_map])) e_int (r_I0 (g := fun i j => V.bl (decide (i < j))) (i := (x.ns.length : Int)) (j := 20)))) (fun H3 Hc3 g3 p3 => ?_) fun H3 Hc3 g3 p3 => ?_
  · have l20 : x.ns.length < 20 := by
      have z := of_decide_eq_true (p3.now rfl)
      omega
    have e3 := e2.trans g3.k
    refine b_set 5 g3.s (P := RTold (x.ns ++ ns2, x.ls ++ ls2)) (e_call FT (rr.mono (by decide)) (a_cons (P := nl ((x.ns ++ ns2).map V.str)) (Cm.imp (e_cat (xs := x.ns.map V.str) (ys := ns2.map V.str) (Cm.imp (ca _ _ _ _ _ _ e3 (e_var 2)) fun v H' e z => ⟨a, z, e _ _ (e3 _ _ ha)⟩) (Cm.imp (e_sp (hu_of rr) (g3.k _ _ hd3) (e_var (v := V.ref d2) 3)) fun v H' e z => ⟨a3, z, e _ _ (g3.k _ _ ha3)⟩) (by rw [List.length_map, List.length_map]; omega)) fun v H' _ q => by rw [List.map_append]; exact q)
      (a_cons (P := nl ((ts ++ ts3).map V.ref)) (Cm.imp (e_cat (xs := ts.map V.ref) (ys := ts3.map V.ref) (Cm.imp (cb _ _ _ _ _ _ e3 (e_var 2)) fun v H' e z => ⟨b, z, e _ _ (e3 _ _ hb)⟩) (Cm.imp (e_pp (hu_of rr) (g3.k _ _ hd3) (e_var (v := V.ref d2) 3)) fun v H' e z => ⟨b3, z, e _ _ (g3.k _ _ hb3)⟩) (by rw [List.length_map, List.length_map, l2, hts3.length]; omega)) fun v H' _ q => by rw [List.map_append]; exact q) a_nil)) fun vs H4 e4 p4 => ?_) (fun v H4 Hc4 g4 p4 => ?_) scBoth.nd
    · obtain ⟨_, _, rfl, ⟨c1, rfl, hc1⟩, _, _, rfl, ⟨c2, rfl, hc2⟩, rfl⟩ := p4.now
      exact ⟨(x.ns ++ ns2, x.ls ++ ls2), fun H' e => ⟨c1, c2, ts ++ ts3, rfl, SqL.of (e _ _ hc1), SqL.of (e _ _ hc2), ts_append (paired_ex ((e3.trans e4).trans e) hts) (paired_ex ((g3.k.trans e4).trans e) hts3), by show (x.ns ++ ns2).length ≤ 60; rw [List.length_append]; omega, by show (x.ls ++ ls2).length ≤ 60; rw [List.length_append]; omega⟩, fun v H' e z => z⟩
    obtain ⟨dd, n', l', rfl, hdd, T⟩ := p4.now
    have T : Told (x.ns ++ ns2) (x.ls ++ ls2) n' l' := T
    have e34 := g3.k.trans g4.k
    have e4 := e2.trans e34
    obtain ⟨fo, co, Fo⟩ := OO.ex
    refine b_set 6 g4.s (P := fun v H' => ∃ aa ns3 ls3, v = .ref aa ∧ NetAt C aa ns3 ls3 H' ∧ Nt ns3 ls3 ∧ (∀ t, t ∈ ns3 ↔ t ∈ x.ns ∨ t ∈ ns2) ∧ ∀ q, q ∈ ls3 ↔ q ∈ x.ls ∨ q ∈ ls2) (e_ifX (draw0 _ _ _ _ _ _ _ _ _ _ e34 rfl) ?_ ?_) (fun v H5 Hc5 g5 p5 => b_nil ?_) scBoth.nd
    · refine Cm.imp (e_binO (y := (⟨x, ⟨a2, ns2, ls2⟩⟩ : TwoIn)) co Fo rr (e_var (v := V.ref x.a) 1) (e_var (v := V.ref a2) 4) (.at (e4 _ _ hi)) (.at (e34 _ _ hj)) fun H' e => ⟨rfl, hX2 (e34.trans e), hY2 (e34.trans e), by show x.ns.length + ns2.length ≤ 60; omega, by show x.ls.length + ls2.length ≤ 60; omega⟩) fun v H' e z => ?_
      obtain ⟨aa, ns3, ls3, rfl, z1, z2, z3, z4⟩ := z
      exact ⟨aa, ns3, ls3, rfl, z1, z2, z3, z4⟩
    · refine Cm.imp (e_binO (y := (⟨⟨a2, ns2, ls2⟩, x⟩ : TwoIn)) co Fo rr (e_var (v := V.ref a2) 4) (e_var (v := V.ref x.a) 1) (.at (e34 _ _ hj)) (.at (e4 _ _ hi)) fun H' e => ⟨rfl, hY2 (e34.trans e), hX2 (e34.trans e), by show ns2.length + x.ns.length ≤ 60; omega, by show ls2.length + x.ls.length ≤ 60; omega⟩) fun v H' e z => ?_
      obtain ⟨aa, ns3, ls3, rfl, z1, z2, z3, z4⟩ := z
      exact ⟨aa, ns3, ls3, rfl, z1, z2, fun t => (z3 t).trans Or.comm, fun q => (z4 q).trans Or.comm⟩
    obtain ⟨aa, ns3, ls3, rfl, hN3, nt3, m1, m2⟩ := p5.now
    obtain ⟨c1, c2⟩ := told_uniq T nt3 (fun y => (m1 y).trans List.mem_append.symm) (fun q => by
      rw [m2]
      constructor
      · rintro (h | h)
        · exact ⟨q, List.mem_append_left _ h, lk_lk (nt.lk q h).2.2⟩
        · exact ⟨q, List.mem_append_right _ h, lk_lk (nt2.lk q h).2.2⟩
      · rintro ⟨p, hp, rfl⟩
        rcases List.mem_append.mp hp with h | h
        · rw [lk_lk (nt.lk p h).2.2]; exact .inl h
        · rw [lk_lk (nt2.lk p h).2.2]; exact .inr h)
    subst c1 c2
    have b1 : n'.length ≤ x.ns.length + 2 := by
      have z := nd_len n' (x.ns ++ zs) nt3.nd fun y hy => List.mem_append.mpr (((m1 y).mp hy).elim .inl (hin y))
      rw [List.length_append] at z
      omega
    have b2 : l'.length ≤ x.ls.length + 4 := by
      have z := nd_len l' (x.ls ++ ls2) nt3.nl fun y hy => List.mem_append.mpr ((m2 y).mp hy)
      rw [List.length_append] at z
      omega
    exact fin (e34.trans g5.k) (((G2.trans g3).trans g4).trans g5) (hdd.ex g5.k) hN3 nt3 b1 b2
  · have e3 := e2.trans g3.k
    refine b_setLc 7 g3.s rfl scBoth.nd rfl rfl rfl (pi_list pe_w) (own := [("_law_spot", 8)]) (g := gName 8) (P := nl ((x.ns.filter fun t => decide (t ∈ ns2)).map V.str)) (blkOk_by (N := nBoth) (sc := defScope sBoth) (by decide +kernel)) (fun _ _ _ _ _ => pg_name (i := 8) scBoth.nd rfl (.inl rfl)) (fun s H C cl fp => pts_one (pt_b s H C cl fp))
      (c_lc (i_list (xs := x.ns.map V.str) (Cm.imp (ca _ _ _ _ _ _ e3 (e_var 2)) fun v H' e z => ⟨a, z, SqL.of (e _ _ (e3 _ _ ha))⟩)) (by rw [List.length_map]; omega) (fun i acc _ => acc = ((x.ns.take i).filter fun t => decide (t ∈ ns2)).map V.str) (fun _ => rfl) (fun i v acc H9 hi9 e9 py pacc => ?_) fun acc q H9 e9 pacc hq => ?_) (fun v H4 Hc4 g4 p4 => ?_)
    · obtain ⟨t, ht, rfl⟩ := txt_get py.now
      have ea : acc = _ := pacc.now
      have e39 := g3.k.trans e9
      refine ⟨_, decide (t ∈ ns2), bind_name, rfl, c_tb fun s0 H00 C0 cl fp => t_inS (z := t) (e_var (v := V.str t) 8) (e_sp (hu_of rr) (e39 _ _ hd3) (e_var (v := V.ref d2) 3)) (fun H' e => .inl (SqL.of ((e39.trans e) _ _ ha3))), fun k => c_eb fun s0 H00 C0 cl fp => ?_, fun k => .const ?_⟩
      · refine Cm.imp (e_var (v := V.str t) 8) fun v H' _ z => ?_
        rw [ea, show v = V.str t from z, take_snoc ht, List.filter_append, List.map_append, List.filter_cons_of_pos (by exact k), List.filter_nil] <;> rfl
      · rw [ea, take_snoc ht, List.filter_append, List.filter_cons_of_neg (by rw [k]; exact Bool.false_ne_true), List.filter_nil, List.append_nil]
    · have ea : acc = _ := pacc.now
      rw [List.length_map, List.take_length] at ea
      subst ea
      exact fun H' e' => ⟨q, rfl, e' _ _ hq⟩
    obtain ⟨c7, rfl, hc7⟩ := p4.now
    have e34 := g3.k.trans g4.k
    have e4 := e2.trans e34
    have nml := nt.nml
    have nml2 := nt2.nml
    refine b_set 5 g4.s (P := fun v H' => ∃ dd u, v = .ref dd ∧ H' dd = some (.dK [(.inr "spots", .ref c7), (.inr "pairs", .ref u)]) ∧ RPs (x.ls.filter fun q => decide (q ∈ ls2)) (.ref u) H') (Cm.imp (e_disp2 (P1 := is (V.ref c7)) (P2 := RPs (x.ls.filter fun q => decide (q ∈ ls2))) (e_var 7) (e_lc (own := [("_law_pair", 9)]) (g := gName 9) rfl scBoth.nd (pi_list pe_w) (blkOk_by (N := nBoth) (sc := defScope sBoth) (by decide +kernel)) (fun _ _ _ _ _ => pg_name (i := 9) scBoth.nd rfl (.inl rfl)) (fun s H C cl fp => pts_one (pt_b s H C cl fp))
      (c_lc (i_list (xs := ts.map V.ref) (Cm.imp (cb _ _ _ _ _ _ e4 (e_var 2)) fun v H' e z => ⟨b, z, SqL.of (e _ _ (e4 _ _ hb))⟩)) (by rw [List.length_map]; omega) (fun i acc H' => ∃ os, acc = os.map V.ref ∧ TsAt H' os ((x.ls.take i).filter fun q => decide (q ∈ ls2))) (fun _ => ⟨[], rfl, .nil⟩) (fun i v acc H9 hi9 e9 py pacc => ?_) fun acc q H9 e9 pacc hq => ?_))) fun v H' e z => ?_) (fun v H5 Hc5 g5 p5 => ?_) scBoth.nd
    · obtain ⟨t, q, rfl, ht, hq, hH⟩ := ts_get hts py.now
      have hm := List.mem_of_getElem? hq
      have e39 := e34.trans e9
      have hH9 : H9 t = _ := (e4.trans e9) _ _ hH
      refine ⟨_, decide (q ∈ ls2), bind_name, rfl, c_tb fun s0 H00 C0 cl fp => t_inPr hu (Cm.imp (e_var (v := V.ref t) 9) fun v H' e z => ⟨t, z, e _ _ hH9⟩) (e_pp (hu_of rr) (e39 _ _ hd3) (e_var (v := V.ref d2) 3)) (fun H' e => ⟨SqL.of ((e39.trans e) _ _ hb3), paired_ex (e39.trans e) hts3⟩) (nml q hm) nml2, fun k => c_eb fun s0 H00 C0 cl fp => ?_, fun k => ?_⟩
      · refine Cm.imp (e_var (v := V.ref t) 9) fun v H' e z => ?_
        obtain ⟨os, rfl, ho⟩ := pacc H' e
        refine ⟨os ++ [t], by rw [show v = V.ref t from z, List.map_append] <;> rfl, ?_⟩
        rw [take_snoc hq, List.filter_append, List.filter_cons_of_pos (by exact k), List.filter_nil]
        exact ts_snoc (e _ _ hH9) ho
      · refine pacc.imp fun H' e ⟨os, w1, w2⟩ => ⟨os, w1, ?_⟩
        rw [take_snoc hq, List.filter_append, List.filter_cons_of_neg (by rw [k]; exact Bool.false_ne_true), List.filter_nil, List.append_nil]
        exact w2
    · obtain ⟨os, rfl, ho⟩ := pacc.now
      rw [List.length_map, l2, List.take_length] at ho
      exact fun H' e' => ⟨q, os, rfl, e' _ _ hq, paired_ex e' ho⟩
    · obtain ⟨dd, v1, v2, rfl, hdd, rfl, z2⟩ := z
      obtain ⟨u, os, rfl, z3, z4⟩ := id z2
      exact ⟨dd, u, rfl, hdd, z2⟩
    obtain ⟨dd, u, rfl, hdd, ⟨u', os, hu', hu2, hos⟩⟩ := p5.now
    cases hu'
    have e45 := e34.trans g5.k
    have e5 := e2.trans e45
    have hc75 := g5.k _ _ hc7
    generalize hcm : (x.ns.filter fun t => decide (t ∈ ns2)) = cm at hc75
    generalize hcl : (x.ls.filter fun q => decide (q ∈ ls2)) = cl at hos
    have hdd2 : MdlAt dd cm cl H5 := ⟨c7, u, os, hdd, hc75, hu2, hos⟩
    have G5 := ((G2.trans g3).trans g4).trans g5
    have lcm : cm.length ≤ x.ns.length := by rw [← hcm]; exact List.length_filter_le _ _
    have lcl : cl.length ≤ x.ls.length := by rw [← hcl]; exact List.length_filter_le _ _
    obtain ⟨fa, ca5, Fa⟩ := OA.ex
    have hnm : ∀ t ∈ cm, Nm t := fun t m => nt.nm t (by rw [← hcm] at m; exact (List.mem_filter.mp m).1)
    refine b_if (k := decide (cm = [])) g5.s (t_cmp (Pa := is (V.ref c7)) (Pb := nl []) (op_eqD (by omega)) (by rfl) (e_var 7) (e_lst a_nil (fun xs _ z => by rw [show xs = _ from z]; exact (by decide : 0 ≤ 100000)) fun xs q H9 e9 z hq => ?_) fun u1 u2 H6 e6 z1 z2 => ?_) (fun hk H6 Hc6 g6 => ?_) fun hk H6 Hc6 g6 => b_nil ?_
    · rw [show xs = _ from z.now] at hq
      exact fun H' e' => ⟨q, rfl, e' _ _ hq⟩
    · obtain rfl := z1.now
      obtain ⟨c, rfl, hc⟩ := z2.now
      refine Cm.ret (fun Hc ex Q q => ⟨_, _, .lst (SqL.of (ex _ _ (e6 _ _ hc75))) (dp_txts _), .lst (SqL.of (ex _ _ hc)) .nil, sh_txts hnm, sh_txts (xs := []) fun t ht => absurd ht List.not_mem_nil, ?_⟩) (.const rfl)
      have z : PyData.eqv (.list (cm.map PyData.str)) (.list []) = decide (cm = []) := by
        rw [PyData.eqv, show ([] : List PyData) = ([] : List Str).map PyData.str from rfl, eqv_txts]
      rw [z]; exact q
    · have e6 := e5.trans g6.k
      obtain ⟨t0, ht0⟩ := List.exists_mem_of_ne_nil _ nt.ne
      have f1 : (x.ns.filter fun t => decide (t ∈ x.ns)) = x.ns := filter_all fun t m => decide_eq_true m
      have f2 : (x.ls.filter fun t => decide (t ∈ x.ls)) = x.ls := filter_all fun t m => decide_eq_true m
      refine b_ret (P := RStB C ⟨p, x, d⟩) g6.s (e_tup (a_cons (P := NetR C x.ns x.ls) (Cm.imp (e_binO (y := (⟨x, x⟩ : TwoIn)) ca5 Fa rr (e_var (v := V.ref x.a) 1) (e_var (v := V.ref x.a) 1) (.at (e6 _ _ hi)) (.at (e6 _ _ hi)) fun H' e => ⟨rfl, ⟨hX.1.ex (e6.trans e), nt⟩, ⟨hX.1.ex (e6.trans e), nt⟩, t0, ht0, ht0⟩) fun v H' e z => ?_) (a_consD (v := V.ref d) (e_var 2) a_nil)) (fun xs _ z => ?_) fun xs q H7 e7 z hq => ?_) fun v Hn H7 g p => rt v _ _ ((G5.trans g6).trans g) p
      · obtain ⟨aa, rfl, z1, z2⟩ := z
        have z1 : NetAt C aa (x.ns.filter fun t => decide (t ∈ x.ns)) (x.ls.filter fun t => decide (t ∈ x.ls)) H' := z1
        rw [f1, f2] at z1
        exact ⟨aa, rfl, z1⟩
      · obtain ⟨_, _, rfl, _, rfl⟩ := z
        exact (by decide : 2 ≤ 100000)
      · obtain ⟨_, _, rfl, ⟨aa, rfl, hN⟩, rfl⟩ := z.now
        exact fun H' e => ⟨q, aa, d, x.ns, x.ls, rfl, e _ _ hq, hN.ex e, hM.ex ((e6.trans e7).trans e), nt, Nat.le_add_right _ _, Nat.le_add_right _ _⟩
    · have hne : cm ≠ [] := of_decide_eq_false hk
      obtain ⟨t0, ht0⟩ := List.exists_mem_of_ne_nil _ hne
      have ht0' : t0 ∈ x.ns ∧ t0 ∈ ns2 := by
        rw [← hcm] at ht0
        obtain ⟨a1, a2⟩ := List.mem_filter.mp ht0
        exact ⟨a1, of_decide_eq_true a2⟩
      have e26 := e45.trans g6.k
      have e6 := e2.trans e26
      refine b_set 6 g6.s (P := fun v H' => NetR C cm cl v H' ∧ Nt cm cl) (e_ifX (draw0 _ _ _ _ _ _ _ _ _ _ e26 rfl) ?_ ?_) (fun v H7 Hc7 g7 p7 => b_nil ?_) scBoth.nd
      · refine Cm.imp (e_binO (y := (⟨x, ⟨a2, ns2, ls2⟩⟩ : TwoIn)) ca5 Fa rr (e_var (v := V.ref x.a) 1) (e_var (v := V.ref a2) 4) (.at (e6 _ _ hi)) (.at (e26 _ _ hj)) fun H' e => ⟨rfl, hX2 (e26.trans e), hY2 (e26.trans e), t0, ht0'.1, ht0'.2⟩) fun v H' e z => ?_
        obtain ⟨aa, rfl, z1, z2⟩ := z
        have z1 : NetAt C aa (x.ns.filter fun t => decide (t ∈ ns2)) (x.ls.filter fun t => decide (t ∈ ls2)) H' := z1
        have z2 : Nt (x.ns.filter fun t => decide (t ∈ ns2)) (x.ls.filter fun t => decide (t ∈ ls2)) := z2
        rw [hcm, hcl] at z1 z2
        exact ⟨⟨aa, rfl, z1⟩, z2⟩
      · refine Cm.imp (e_binO (y := (⟨⟨a2, ns2, ls2⟩, x⟩ : TwoIn)) ca5 Fa rr (e_var (v := V.ref a2) 4) (e_var (v := V.ref x.a) 1) (.at (e26 _ _ hj)) (.at (e6 _ _ hi)) fun H' e => ⟨rfl, hY2 (e26.trans e), hX2 (e26.trans e), t0, ht0'.2, ht0'.1⟩) fun v H' e z => ?_
        obtain ⟨aa, rfl, z1, z2⟩ := z
        have z1 : NetAt C aa (ns2.filter fun t => decide (t ∈ x.ns)) (ls2.filter fun t => decide (t ∈ x.ls)) H' := z1
        have z2 : Nt (ns2.filter fun t => decide (t ∈ x.ns)) (ls2.filter fun t => decide (t ∈ x.ls)) := z2
        have s1 : (ns2.filter fun t => decide (t ∈ x.ns)) = cm := by
          rw [← hcm]
          refine sortN_uniq z2.sn (nt.sn.sublist List.filter_sublist) ((List.perm_ext_iff_of_nodup z2.nd (nt.nd.sublist List.filter_sublist)).mpr fun t => ?_)
          rw [List.mem_filter, List.mem_filter, decide_eq_true_eq, decide_eq_true_eq]
          exact And.comm
        have s2 : (ls2.filter fun t => decide (t ∈ x.ls)) = cl := by
          rw [← hcl]
          refine sortP_uniq z2.sp (nt.sp.sublist List.filter_sublist) ((List.perm_ext_iff_of_nodup z2.nl (nt.nl.sublist List.filter_sublist)).mpr fun t => ?_)
          rw [List.mem_filter, List.mem_filter, decide_eq_true_eq, decide_eq_true_eq]
          exact And.comm
        rw [s1, s2] at z1 z2
        exact ⟨⟨aa, rfl, z1⟩, z2⟩
      obtain ⟨⟨aa, rfl, hNa⟩, ntc⟩ := p7.now
      exact fin (e26.trans g7.k) ((G5.trans g6).trans g7) (hdd2.ex (g6.k.trans g7.k)) hNa ntc (by omega) (by omega)
end
end K19
set_option Elab.async false
set_option linter.all false
set_option maxRecDepth 100000
set_option maxHeartbeats 2000000
namespace LW
open PySem L2
section
variable {X : Cx} {σ : L2.St} {H : Hp} {a b c d : Expr} {x1 x2 : Str} {y1 y2 : Str} {k1 : Nat} {p1 : Pos}
theorem e_pair (ha : Cm H (is (V.str x1)) (wE X a σ)) (hb : Cm H (is (V.str y1)) (wE X b σ)) (hs : starEach [a, b] X.env = (false, eval a X.env) :: starEach [b] X.env := by rfl) (hs2 : starEach [b] X.env = (false, eval b X.env) :: starEach [] X.env := by rfl) : Cm H (pr (x1, y1)) (wE X (.Tuple [a, b] k1 p1) σ) :=
  e_tup (a_consD ha (a_consD hb a_nil hs2) hs) (fun xs _ z => by rw [show xs = _ from z]; exact (by decide : 2 ≤ 100000)) fun xs c H6 e6 z hc => by
    rw [show xs = _ from z.now] at hc
    exact fun H' e' => ⟨c, rfl, e' _ _ hc⟩
end
end LW
namespace K19
open PySem L2 LW
abbrev sLRen : Stmt := top 60
abbrev abL : List Str := ["aa", "b"]
theorem mv1 (a b z : Str) : mv [(a, b)] z = if z = a then b else z := rfl
theorem mv2 (a b c d z : Str) : mv [(a, b), (c, d)] z = if z = c then d else if z = a then b else z := rfl
theorem nm_aa : Nm ("aa" : Str) := ⟨by decide +kernel, by decide +kernel, by decide +kernel⟩
theorem nm_b : Nm ("b" : Str) := ⟨by decide +kernel, by decide +kernel, by decide +kernel⟩
theorem aa_b : ("aa" : Str) ≠ "b" := by decide +kernel
theorem nd_map {α β : Type} {f : α → β} {xs : List α} (nd : xs.Nodup) (h : ∀ x ∈ xs, ∀ y ∈ xs, f x = f y → x = y) : (xs.map f).Nodup :=
  List.pairwise_map.mpr (List.Pairwise.imp_of_mem (fun {a b} ha hb ne e => ne (h a ha b hb e)) nd)
theorem val_one {k : Str} {v : V} : valV [((.inr k : Key), v)] (.inr k) = some v := by
  unfold valV
  rw [List.find?_cons_of_pos (by simp)] <;> rfl
theorem val_fst {k k2 : Str} {v v2 : V} : valV [((.inr k : Key), v), (.inr k2, v2)] (.inr k) = some v := by
  unfold valV
  rw [List.find?_cons_of_pos (by simp)] <;> rfl
theorem val_snd {k k2 : Str} {v v2 : V} (h : k ≠ k2) : valV [((.inr k : Key), v), (.inr k2, v2)] (.inr k2) = some v2 := by
  unfold valV
  rw [List.find?_cons_of_neg (by simp only [decide_eq_true_eq, Sum.inr.injEq]; exact h), List.find?_cons_of_pos (by simp)] <;> rfl
/-- all renamed by changes that keep names apart -/
structure Ren (ns : List Str) (cs : List (Str × Str)) : Prop where
  inj : ∀ x ∈ ns, ∀ y ∈ ns, mv cs x = mv cs y → x = y
  nm : ∀ x ∈ ns, Nm (mv cs x)
theorem ren_nt {ns : List Str} {ls : List (Str × Str)} {cs : List (Str × Str)} {ns2 : List Str} {ls2 : List (Str × Str)} (nt : Nt ns ls) (r : Ren ns cs) (t : Told (ns.map (mv cs)) (rnL (mv cs) ls) ns2 ls2) : Nt ns2 ls2 ∧ ns2.length ≤ ns.length ∧ ls2.length ≤ ls.length := by
  have ln := nt.len
  have ll := nt.ll
  obtain ⟨a, b, c⟩ := told_nt t (fun e => nt.ne (List.map_eq_nil_iff.mp e)) (by rw [List.length_map]; exact ln) (by unfold rnL; rw [List.length_map]; exact ll) (fun x hx => by
    obtain ⟨y, hy, rfl⟩ := List.mem_map.mp hx
    exact r.nm y hy) fun p hp => by
    obtain ⟨q, hq, rfl⟩ := List.mem_map.mp hp
    obtain ⟨h1, h2, h3⟩ := nt.lk q hq
    exact ⟨List.mem_map.mpr ⟨_, h1, rfl⟩, List.mem_map.mpr ⟨_, h2, rfl⟩, fun e => by
      have z := r.inj _ h1 _ h2 e
      rw [z] at h3
      exact Lt.irr _ h3⟩
  unfold rnL at c
  rw [List.length_map] at b c
  exact ⟨a, b, c⟩
theorem ren_swap {ns : List Str} (h : ∀ u ∈ ns, Nm u) : Ren ns [("aa", "b"), ("b", "aa")] := by
  refine ⟨fun u hu v hv e => ?_, fun u hu => ?_⟩
  · rw [mv2, mv2] at e
    by_cases a1 : u = "b" <;> by_cases a2 : v = "b"
    · rw [a1, a2]
    · rw [if_pos a1, if_neg a2] at e
      by_cases b2 : v = "aa"
      · rw [if_pos b2] at e; exact absurd e aa_b
      · rw [if_neg b2] at e; exact absurd e.symm b2
    · rw [if_neg a1, if_pos a2] at e
      by_cases b1 : u = "aa"
      · rw [if_pos b1] at e; exact absurd e.symm aa_b
      · rw [if_neg b1] at e; exact absurd e b1
    · rw [if_neg a1, if_neg a2] at e
      by_cases b1 : u = "aa" <;> by_cases b2 : v = "aa"
      · rw [b1, b2]
      · rw [if_pos b1, if_neg b2] at e; exact absurd e.symm a2
      · rw [if_neg b1, if_pos b2] at e; exact absurd e a1
      · rw [if_neg b1, if_neg b2] at e; exact e
  · rw [mv2]
    split
    · exact nm_aa
    split
    · exact nm_b
    · exact h u hu
theorem ren_one {ns : List Str} {k t : Str} (h : ∀ u ∈ ns, Nm u) (ht : Nm t) (hn : t ∉ ns) : Ren ns [(k, t)] := by
  refine ⟨fun u hu v hv e => ?_, fun u hu => ?_⟩
  · rw [mv1, mv1] at e
    by_cases a1 : u = k <;> by_cases a2 : v = k
    · rw [a1, a2]
    · rw [if_pos a1, if_neg a2] at e; exact absurd (e ▸ hv) hn
    · rw [if_neg a1, if_pos a2] at e; exact absurd (e ▸ hu) hn
    · rw [if_neg a1, if_neg a2] at e; exact e
  · rw [mv1]
    split
    · exact ht
    · exact h u hu
theorem ren_two {ns : List Str} {t : Str} (h : ∀ u ∈ ns, Nm u) (ht : Nm t) (hn : t ∉ ns) (ta : t ≠ "aa") : Ren ns [("aa", t), ("b", "aa")] := by
  refine ⟨fun u hu v hv e => ?_, fun u hu => ?_⟩
  · rw [mv2, mv2] at e
    by_cases a1 : u = "b" <;> by_cases a2 : v = "b"
    · rw [a1, a2]
    · rw [if_pos a1, if_neg a2] at e
      by_cases b2 : v = "aa"
      · rw [if_pos b2] at e; exact absurd e.symm ta
      · rw [if_neg b2] at e; exact absurd e.symm b2
    · rw [if_neg a1, if_pos a2] at e
      by_cases b1 : u = "aa"
      · rw [if_pos b1] at e; exact absurd e ta
      · rw [if_neg b1] at e; exact absurd e b1
    · rw [if_neg a1, if_neg a2] at e
      by_cases b1 : u = "aa" <;> by_cases b2 : v = "aa"
      · rw [b1, b2]
      · rw [if_pos b1, if_neg b2] at e; exact absurd (e ▸ hv) hn
      · rw [if_neg b1, if_pos b2] at e; exact absurd (e ▸ hu) hn
      · rw [if_neg b1, if_neg b2] at e; exact e
  · rw [mv2]
    split
    · exact nm_aa
    split
    · exact ht
    · exact h u hu
theorem ok_two {x : NetV} {k1 k2 v1 v2 : Str} {ρ : Str → Str} (ne : k1 ≠ k2) (m1 : k1 ∈ x.ns) (m2 : k2 ∈ x.ns) (e1 : ρ k1 = v1) (e2 : ρ k2 = v2) (n1 : Nm v1) (n2 : Nm v2) (same : ∀ z, z ≠ k1 → z ≠ k2 → ρ z = z) (nd : (x.ns.map ρ).Nodup) :
    RenIn.Ok ⟨x, [(.inr k1, .str v1), (.inr k2, .str v2)], [k1, k2], ρ⟩ := by
  refine ⟨rfl, by simp [ne], by exact (by decide : 2 ≤ 10), fun k hk => ?_, fun z _ hz => same z (fun e => hz (by rw [e]; simp)) (fun e => hz (by rw [e]; simp)), nd⟩
  rcases List.mem_cons.mp hk with rfl | hk
  · exact ⟨m1, e1 ▸ val_fst, (e1.symm ▸ n1 : Nm (ρ _))⟩
  · rw [List.mem_singleton.mp hk]
    exact ⟨m2, e2 ▸ val_snd ne, (e2.symm ▸ n2 : Nm (ρ _))⟩
theorem ok_one {x : NetV} {k v : Str} {ρ : Str → Str} (m : k ∈ x.ns) (e : ρ k = v) (n : Nm v) (same : ∀ z, z ≠ k → ρ z = z) (nd : (x.ns.map ρ).Nodup) : RenIn.Ok ⟨x, [(.inr k, .str v)], [k], ρ⟩ := by
  refine ⟨rfl, by simp, by exact (by decide : 1 ≤ 10), fun k2 hk => ?_, fun z _ hz => same z (fun e => hz (by rw [e]; simp)), nd⟩
  rw [List.mem_singleton.mp hk]
  exact ⟨m, e ▸ val_one, (e.symm ▸ n : Nm (ρ _))⟩
section
variable {P : Program} {w : World} {K : PySem.W.Frag} {mg : Str → Option Value} {base : Heap} {f fi C : Addr} {fd : FuncData}
/-- renamed, called with one of the lists of keywords of which the law makes use -/
structure MdRen (P : Program) (w : World) (K : PySem.W.Frag) (mg : Str → Option Value) (base : Heap) (C : Addr) : Prop where
  ex : ∃ f : Addr, Meth K C "renamed" f ∧ ∀ ks : List Str, ks ∈ ([[], ["aa"], ["aa", "b"], ["b", "aa"]] : List (List Str)) → FnKw P w K mg base 7 f ks (SpF (ARen C) (RRen C))
abbrev nLRen : List Str := ["_law_pot_here", "_law_made", "_law_model", "_law_spots", "_law_first", "_law_last", "_law_base", "_law_changed", "_law_way", "_law_fresh"]
theorem scLRen : FnScope nLRen ["_law_pot_here", "_law_made", "_law_model"] (defScope sLRen) := ⟨rfl, rfl, rfl, by decide +kernel, rfl, by decide +kernel, by decide +kernel⟩
theorem b_lren (B : Blt K mg) (F : NetF K mg C) (M : MkN P w K mg base C fi) (N : MdRen P w K mg base C) (FD : Fn P w K mg base "_law_draw" 1 AD RD) (FP : Fn P w K mg base "_law_pick" 2 (APk K) RPk) (FN : Fn P w K mg base "_law_named" 2 (ANamed K) RNamed) (FM : Fn P w K mg base "_law_moved" 3 (AMov K) RMov) :
    Body P w K mg base nLRen "_law_renamed" sLRen f 7 (AStp C fun x => x.ns.length ≤ 40) (RStB C) := by
  intro cdv Ar outer s H0 E r vs H Hc D hr ex pa rt nx
  obtain ⟨p, x, d⟩ := r
  obtain ⟨rfl, hp, hX, hM, h40⟩ := pa.now
  have hp : H p = some (PotO p) := hp
  have hX : x.At C H := hX
  have nt : Nt x.ns x.ls := hX.2
  have hM : MdlAt d x.ns x.ls H := hM
  have h40 : x.ns.length ≤ 40 := h40
  obtain ⟨fr, hmr, Fr⟩ := N.ex
  have hins : ∀ {a : Addr} {ns : List Str} {ls : List (Str × Str)} {H' : Hp}, NetAt C a ns ls H' → ∃ dx fs, H' a = some (.ins C dx fs) ∧ fs.lookup ("renamed" : Str) = none := fun h => by
    obtain ⟨dx, l1, l2, l3, _, _, h, _⟩ := h
    exact ⟨dx, _, h, rfl⟩
  obtain ⟨dx, fs, hi, hf⟩ := hins hX.1
  obtain ⟨a, ha, ca⟩ := e_spots (X := fx P w K mg base nLRen "_law_renamed" sLRen f cdv Ar outer s H0 E) (x := ⟨d, x.ns, x.ls⟩) (hu_of hr) hM
  have ha : H a = some (.lst (x.ns.map V.str)) := ha
  have ne : x.ns.map V.str ≠ [] := by simpa using nt.ne
  refine b_set 3 ex (P := is (V.ref a)) (ca _ _ _ _ _ _ (Evl.Ex.refl _) (e_var (v := V.ref d) 2)) (fun v H1 Hc1 g1 p1 => ?_) scLRen.nd
  obtain rfl := p1.now
  have e1 := g1.k
  have pk : ∀ {H'}, Ex H1 H' → APk K (p, x.ns.map V.str) [.ref p, .ref a] H' := fun e => ⟨a, rfl, (e1.trans e) _ _ hp, SqL.of ((e1.trans e) _ _ ha), ne, by show (x.ns.map V.str).length ≤ 1000; rw [List.length_map]; omega⟩
  refine b_par 4 5 g1.s rfl scLRen.nd (Pa := fun vs _ => ∃ y z, vs = [V.str y, V.str z] ∧ y ∈ x.ns ∧ z ∈ x.ns) (Cm.imp (a_cons (P := RPk (p, x.ns.map V.str)) (e_callD (p, x.ns.map V.str) FP (hr.mono (by decide)) (a_consD (e_var 0) (a_consD (e_var 3) a_nil)) fun H' e => pk e) (a_cons (P := RPk (p, x.ns.map V.str)) (e_callD (p, x.ns.map V.str) FP (hr.mono (by decide)) (a_consD (e_var 0) (a_consD (e_var 3) a_nil)) fun H' e => pk e) a_nil)) fun vs H' e z => ?_) (fun vs _ z => ?_) (fun v v2 H2 Hc2 g2 p2 => ?_)
  · obtain ⟨_, _, rfl, h1, _, _, rfl, h2, rfl⟩ := z
    obtain ⟨y, hy, rfl⟩ := List.mem_map.mp h1
    obtain ⟨z, hz, rfl⟩ := List.mem_map.mp h2
    exact ⟨y, z, rfl, hy, hz⟩
  · obtain ⟨y, z, rfl, _⟩ := z
    exact ⟨_, _, rfl⟩
  obtain ⟨y, z, e, hy, hz⟩ := p2.now
  injection e with ey e
  injection e with ez _
  subst ey ez
  have e2 := e1.trans g2.k
  have G2 := g1.trans g2
  refine b_if g2.s (k := decide (("aa" : Str) ∈ x.ns) || (decide (("b" : Str) ∈ x.ns) || decide (y = z))) (t_w (w_or (k := decide (("aa" : Str) ∈ x.ns)) (t_inS (z := "aa") e_str (e_var (v := V.ref a) 3) fun H' e => .inl (SqL.of ((e2.trans e) _ _ ha))) fun _ => w_or (k := decide (("b" : Str) ∈ x.ns)) (t_inS (z := "b") e_str (e_var (v := V.ref a) 3) fun H' e => .inl (SqL.of ((e2.trans e) _ _ ha))) fun _ => w_or1 (t_is (t_cmpD op_eq (by rfl) (e_var (v := V.str y) 4) (e_var (v := V.str z) 5) (r_eq (x := V.str y) (y := V.str z) rfl)) (by by_cases h : y = z <;> simp [h])))) (fun hk H3 Hc3 g3 => ?_) fun hk H3 Hc3 g3 => b_nil ?_
  · have e3 := e2.trans g3.k
    refine b_ret (P := RStB C ⟨p, x, d⟩) g3.s (e_tup (a_cons (P := NetR C x.ns x.ls) (Cm.imp (e_methKw (ks := []) hmr (Fr [] (by simp)) F.cls (hr.mono (by decide)) (e_var (v := V.ref x.a) 1) (.at (e3 _ _ hi)) hf (Pa := is []) k_nil fun zs H4 e4 p4 => ?_) fun v H' e z => z) (a_consD (v := V.ref d) (e_var 2) a_nil)) (fun xs _ z => ?_) fun xs q H7 e7 z hq => ?_) fun v Hn H7 g p => rt v _ _ ((G2.trans g3).trans g) p
    · obtain rfl := p4.now
      refine ⟨⟨x, [], [], id⟩, rfl, fun m H5 e5 hm => fun H' e => ⟨m, rfl, e _ _ hm, ⟨hX.1.ex (((e3.trans e4).trans e5).trans e), nt⟩, ⟨rfl, List.nodup_nil, Nat.zero_le _, fun k hk => absurd hk List.not_mem_nil, fun _ _ _ => rfl, by rw [List.map_id]; exact nt.nd⟩⟩, fun v H2 e2 z => ?_⟩
      obtain ⟨a3, ns3, ls3, rfl, hN, nt3, q1, q2⟩ := z
      have q1 : ns3.Perm (x.ns.map id) := q1
      have q2 : ls3.Perm ((rnL id x.ls).map lk) := q2
      have i2 : (rnL id x.ls).map lk = x.ls := by
        have : rnL id x.ls = x.ls := List.map_id x.ls
        rw [this, hu_nt nt]
      rw [List.map_id] at q1
      rw [i2] at q2
      have c1 := sortN_uniq nt3.sn nt.sn q1
      have c2 := sortP_uniq nt3.sp nt.sp q2
      subst c1 c2
      exact ⟨a3, rfl, hN⟩
    · obtain ⟨_, _, rfl, _, rfl⟩ := z
      exact (by decide : 2 ≤ 100000)
    · obtain ⟨_, _, rfl, ⟨aa, rfl, hN⟩, rfl⟩ := z.now
      exact fun H' e => ⟨q, aa, d, x.ns, x.ls, rfl, e _ _ hq, hN.ex e, hM.ex ((e3.trans e7).trans e), nt, Nat.le_add_right _ _, Nat.le_add_right _ _⟩
  simp only [Bool.or_eq_false_iff, decide_eq_false_iff_not] at hk
  obtain ⟨naa, nb, nyz⟩ := hk
  have e3 := e2.trans g3.k
  have G3 := G2.trans g3
  have R0 : Ren x.ns [(y, "aa"), (z, "b")] := by
    refine ⟨fun u hu v hv e => ?_, fun u hu => ?_⟩
    · rw [mv2, mv2] at e
      have u1 : u ≠ "aa" := fun q => naa (q ▸ hu)
      have u2 : u ≠ "b" := fun q => nb (q ▸ hu)
      have v1 : v ≠ "aa" := fun q => naa (q ▸ hv)
      have v2 : v ≠ "b" := fun q => nb (q ▸ hv)
      by_cases a1 : u = z <;> by_cases a2 : v = z
      · rw [a1, a2]
      · rw [if_pos a1, if_neg a2] at e
        by_cases b2 : v = y
        · rw [if_pos b2] at e; exact absurd e.symm aa_b
        · rw [if_neg b2] at e; exact absurd e.symm v2
      · rw [if_neg a1, if_pos a2] at e
        by_cases b1 : u = y
        · rw [if_pos b1] at e; exact absurd e aa_b
        · rw [if_neg b1] at e; exact absurd e u2
      · rw [if_neg a1, if_neg a2] at e
        by_cases b1 : u = y <;> by_cases b2 : v = y
        · rw [b1, b2]
        · rw [if_pos b1, if_neg b2] at e; exact absurd e.symm v1
        · rw [if_neg b1, if_pos b2] at e; exact absurd e u1
        · rw [if_neg b1, if_neg b2] at e; exact e
    · rw [mv2]
      split
      · exact nm_b
      split
      · exact nm_aa
      · exact nt.nm u hu
  refine b_set 6 g3.s (P := RMov (⟨d, x.ns, x.ls⟩, [(y, "aa"), (z, "b")])) (e_call FM (hr.mono (by decide)) (a_cons (P := is (V.ref d)) (e_var 2) (a_cons (P := RPs [(y, "aa"), (z, "b")]) (e_lst (a_cons (P := pr (y, "aa")) (e_pair (e_var (v := V.str y) 4) e_str) (a_cons (P := pr (z, "b")) (e_pair (e_var (v := V.str z) 5) e_str) a_nil)) (fun xs _ w => ?_) fun xs q H9 e9 w hq => ?_) a_nil)) fun vs H4 e4 p4 => ?_) (fun v H4 Hc4 g4 p4 => ?_) scLRen.nd
  · obtain ⟨_, _, rfl, _, _, _, rfl, _, rfl⟩ := w
    exact (by decide : 2 ≤ 100000)
  · obtain ⟨_, _, rfl, ⟨c1, rfl, h1⟩, _, _, rfl, ⟨c2, rfl, h2⟩, rfl⟩ := w.now
    exact fun H' e => ⟨q, [c1, c2], rfl, e _ _ hq, .cons (e _ _ h1) (.cons (e _ _ h2) .nil)⟩
  · obtain ⟨_, _, rfl, rfl, _, _, rfl, ⟨c, us, rfl, hc, hus⟩, rfl⟩ := p4.now
    exact ⟨(⟨d, x.ns, x.ls⟩, [(y, "aa"), (z, "b")]), fun H' e => ⟨c, us, rfl, ⟨hM.ex ((e3.trans e4).trans e), nt⟩, SqL.of (e _ _ hc), paired_ex e hus⟩, fun _ _ _ w => w⟩
  obtain ⟨db, bns, bls, rfl, hdb, T0⟩ := p4.now
  have T0 : Told (x.ns.map (mv [(y, "aa"), (z, "b")])) (rnL (mv [(y, "aa"), (z, "b")]) x.ls) bns bls := T0
  have hdb : MdlAt db bns bls H4 := hdb
  obtain ⟨ntb, lb1, lb2⟩ := ren_nt nt R0 T0
  have e4 := e3.trans g4.k
  have G4 := G3.trans g4
  have bin : ∀ u ∈ bns, u ∈ x.ns ∨ u = "aa" ∨ u = "b" := fun u hu => by
    obtain ⟨t, ht, rfl⟩ := List.mem_map.mp ((T0.mem u).mp hu)
    rw [mv2]
    split
    · exact .inr (.inr rfl)
    split
    · exact .inr (.inl rfl)
    · exact .inl ht
  have maa : ("aa" : Str) ∈ bns := (T0.mem _).mpr (List.mem_map.mpr ⟨y, hy, by rw [mv2, if_neg nyz, if_pos rfl]⟩)
  have mb : ("b" : Str) ∈ bns := (T0.mem _).mpr (List.mem_map.mpr ⟨z, hz, by rw [mv2, if_pos rfl]⟩)
  obtain ⟨a6, b6, ts6, hd6, ha6, hb6, hts6⟩ := id hdb
  refine b_set 7 g4.s (P := NetR C bns bls) (Cm.imp (e_make M.cl F.mgN M.init (hr.mono (by decide)) (a_cons (P := is (V.ref a6)) (e_sp (hu_of hr) hd6 (e_var (v := V.ref db) 6)) (a_cons (P := is (V.ref b6)) (e_pp (hu_of hr) hd6 (e_var (v := V.ref db) 6)) a_nil)) fun vs H5 e5 p5 => ?_) fun v H' e w => w) (fun v H5 Hc5 g5 p5 => ?_) scLRen.nd
  · obtain ⟨_, _, rfl, rfl, _, _, rfl, rfl, rfl⟩ := p5.now
    refine ⟨⟨true, bns, true, bls⟩, fun H' e => ⟨a6, b6, ts6, rfl, SqL.of ((e5.trans e) _ _ ha6), SqL.of ((e5.trans e) _ _ hb6), paired_ex (e5.trans e) hts6, ⟨⟨ntb.len, ntb.ne, ntb.nd, ntb.nm⟩, ⟨ntb.ll, fun q hq => ⟨(ntb.nml q hq).1, (ntb.nml q hq).2, ntb.hne q hq⟩, by rw [hu_nt ntb]; exact ntb.nl, fun q hq => ⟨(ntb.lk q hq).1, (ntb.lk q hq).2.1⟩⟩⟩⟩, fun v H' e w => ?_⟩
    obtain ⟨a3, ns3, ls3, rfl, hN, q1, q2, nt3⟩ := w
    have q2 : ls3.Perm (bls.map lk) := q2
    rw [hu_nt ntb] at q2
    have c1 : ns3 = bns := sortN_uniq nt3.sn ntb.sn q1
    have c2 : ls3 = bls := sortP_uniq nt3.sp ntb.sp q2
    subst c1 c2
    exact ⟨a3, rfl, hN⟩
  obtain ⟨ac, rfl, hNc⟩ := p5.now
  have hNc : NetAt C ac bns bls H5 := hNc
  have e5 := e4.trans g5.k
  have G5 := G4.trans g5
  have hdb5 := hdb.ex g5.k
  obtain ⟨dy, gs, hj, hg⟩ := hins hNc
  refine b_par 8 9 g5.s rfl scLRen.nd (Pa := fun vs H' => ∃ (n : Nat) (c : Addr) (ys : List Str), vs = [V.int (n : Int), V.ref c] ∧ n < 4 ∧ H' c = some (.lst (ys.map V.str)) ∧ Fresh ys (x.ns ++ abL) 2) (Cm.imp (a_cons (P := RD (p, 4)) (e_callD (p, 4) FD (hr.mono (by decide)) (a_consD (e_var 0) (a_consD e_int a_nil)) fun H' e => ad ((e5.trans e) _ _ hp) (by decide) (by decide))
    (a_cons (P := RNamed (p, 2, x.ns ++ abL)) (e_call FN (hr.mono (by decide)) (a_cons (P := is (V.ref p)) (e_var 0) (a_cons (P := is (V.int ((2 : Nat) : Int))) e_int (a_cons (P := nl ((x.ns ++ abL).map V.str)) (Cm.imp (e_cat (xs := x.ns.map V.str) (ys := [V.str "aa", V.str "b"]) (Cm.imp (e_var (v := V.ref a) 3) fun v H' e w => ⟨a, w, e _ _ (e5 _ _ ha)⟩) (e_lst (a_consD (v := V.str "aa") e_str (a_consD (v := V.str "b") e_str a_nil)) (fun xs _ w => by rw [show xs = _ from w]; exact (by decide : 2 ≤ 100000)) fun xs q H9 e9 w hq => ?_) (by rw [List.length_map]; show x.ns.length + 2 ≤ 100000; omega)) fun v H' _ q => by rw [List.map_append]; exact q) a_nil))) fun vs H6 e6 p6 => ?_) a_nil)) fun vs H' e w => ?_) (fun vs _ w => ?_) (fun v v2 H6 Hc6 g6 p6 => ?_)
  · rw [show xs = _ from w.now] at hq
    exact fun H' e' => ⟨q, rfl, e' _ _ hq⟩
  · obtain ⟨_, _, rfl, rfl, _, _, rfl, rfl, _, _, rfl, ⟨c, rfl, hc⟩, rfl⟩ := p6.now
    exact ⟨(p, 2, x.ns ++ abL), fun H' e => ⟨c, rfl, (e5.trans (e6.trans e)) _ _ hp, SqL.of (e _ _ hc), by show 2 ≤ 60; decide, by show 2 + (x.ns ++ abL).length < 100; rw [List.length_append]; show 2 + (x.ns.length + 2) < 100; omega⟩, fun _ _ _ w => w⟩
  · obtain ⟨_, _, rfl, ⟨r, rfl, r0, r1⟩, _, _, rfl, ⟨c, ys, rfl, hc, Fy⟩, rfl⟩ := w
    have r1 : r < 4 := r1
    exact ⟨r.toNat, c, ys, by congr 2; omega, by omega, hc, Fy⟩
  · obtain ⟨n, c, ys, rfl, _⟩ := w
    exact ⟨_, _, rfl⟩
  obtain ⟨n, c, ys, ev, hn4, hc, Fy⟩ := p6.now
  injection ev with ev1 ev
  injection ev with ev2 _
  subst ev1 ev2
  have e6 := e5.trans g6.k
  have G6 := G5.trans g6
  obtain ⟨f0, f1, rfl⟩ : ∃ f0 f1, ys = [f0, f1] := by
    match ys, Fy.len with
    | [a, b], _ => exact ⟨a, b, rfl⟩
  have fresh : ∀ t, t ∈ [f0, f1] → Nm t ∧ t ∉ bns ∧ t ≠ "aa" ∧ t ≠ "b" := fun t ht => by
    obtain ⟨h1, h2⟩ := Fy.lb t ht
    have h3 : t ≠ "aa" := fun q => h2 (List.mem_append_right _ (List.mem_cons.mpr (.inl q)))
    have h4 : t ≠ "b" := fun q => h2 (List.mem_append_right _ (List.mem_cons.mpr (.inr (List.mem_singleton.mpr q))))
    exact ⟨h1.nm (by decide), fun m => by
      rcases bin t m with q | q | q
      · exact h2 (List.mem_append_left _ q)
      · exact h3 q
      · exact h4 q, h3, h4⟩
  obtain ⟨nm0, nb0, na0, nB0⟩ := fresh f0 (by simp)
  obtain ⟨nm1, nb1, na1, nB1⟩ := fresh f1 (by simp)
  have hX5 : ∀ {H'}, Ex H6 H' → NetV.At C ⟨ac, bns, bls⟩ H' := fun e => ⟨hNc.ex (g6.k.trans e), ntb⟩
  have it0 : ∀ {H'}, Ex H6 H' → Pz H' (fun H2 => SqL K H2 c ([f0, f1].map V.str)) := fun e => .sql (SqL.of (e _ _ hc))
  -- a return of what is renamed by cs and of its model
  have ret : ∀ {cs : List (Str × Str)} {ks : List Str} {kvs : List (Key × V)} {Hz Hcz : Hp} {σz : L2.St} {e1 e2 : Expr} {xk : Nat} {q1 q2 : Pos}, Ren bns cs → Ex H6 Hz → Grow H Hc Hz Hcz → Cm Hz (RRen C ⟨⟨ac, bns, bls⟩, kvs, ks, mv cs⟩) (wE (fx P w K mg base nLRen "_law_renamed" sLRen f cdv Ar outer s H0 E) e1 σz) → Cm Hz (RMov (⟨db, bns, bls⟩, cs)) (wE (fx P w K mg base nLRen "_law_renamed" sLRen f cdv Ar outer s H0 E) e2 σz) →
      (starEach [e1, e2] (fx P w K mg base nLRen "_law_renamed" sLRen f cdv Ar outer s H0 E).env = (false, eval e1 (fx P w K mg base nLRen "_law_renamed" sLRen f cdv Ar outer s H0 E).env) :: starEach [e2] (fx P w K mg base nLRen "_law_renamed" sLRen f cdv Ar outer s H0 E).env) → (starEach [e2] (fx P w K mg base nLRen "_law_renamed" sLRen f cdv Ar outer s H0 E).env = (false, eval e2 (fx P w K mg base nLRen "_law_renamed" sLRen f cdv Ar outer s H0 E).env) :: starEach [] (fx P w K mg base nLRen "_law_renamed" sLRen f cdv Ar outer s H0 E).env) → ∀ (D2 : Ends) (sts : List Stmt), D2.rt = D.rt →
      wB (fx P w K mg base nLRen "_law_renamed" sLRen f cdv Ar outer s H0 E) (.Return (some (.Tuple [e1, e2] xk q1)) q2 :: sts) D2 σz Hcz := fun {cs ks kvs Hz Hcz σz e1 e2 xk q1 q2} R ez gz c1 c2 s1 s2 D2 sts hD => by
    refine b_ret (P := RStB C ⟨p, x, d⟩) gz.s (e_tup (a_cons c1 (a_cons c2 a_nil s2) s1) (fun xs _ w => ?_) fun xs q H7 e7 w hq => ?_) fun v Hn H7 g p => by
      rw [hD]
      exact rt v _ _ (gz.trans g) p
    · obtain ⟨_, _, rfl, _, _, _, rfl, _, rfl⟩ := w
      exact (by decide : 2 ≤ 100000)
    · obtain ⟨_, _, rfl, ⟨a3, ns3, ls3, rfl, hN, nt3, q1, q2⟩, _, _, rfl, ⟨dd, n', l', rfl, hdd, T⟩, rfl⟩ := w.now
      have q1 : ns3.Perm (bns.map (mv cs)) := q1
      have q2 : ls3.Perm ((rnL (mv cs) bls).map lk) := q2
      have T : Told (bns.map (mv cs)) (rnL (mv cs) bls) n' l' := T
      obtain ⟨c1, c2⟩ := told_uniq T nt3 (fun y => q1.mem_iff) fun q => q2.mem_iff.trans List.mem_map
      subst c1 c2
      obtain ⟨_, l1, l2⟩ := ren_nt ntb R T
      exact fun H' e => ⟨q, a3, dd, n', l', rfl, e _ _ hq, hN.ex e, hdd.ex e, nt3, by show n'.length ≤ x.ns.length + 2; omega, by show l'.length ≤ x.ls.length + 4; omega⟩
  -- the model's side
  have mov : ∀ {cs : List (Str × Str)} {Hz : Hp} {σz : L2.St} {e : Expr} {p1 p2 p3 : Pos}, Ex H6 Hz → σz[6]? = some (some (.ref db)) → Cm Hz (RPs cs) (wE (fx P w K mg base nLRen "_law_renamed" sLRen f cdv Ar outer s H0 E) e σz) → (starEach [Expr.Name "_law_base" p2, e] (fx P w K mg base nLRen "_law_renamed" sLRen f cdv Ar outer s H0 E).env = (false, eval (Expr.Name "_law_base" p2) (fx P w K mg base nLRen "_law_renamed" sLRen f cdv Ar outer s H0 E).env) :: starEach [e] (fx P w K mg base nLRen "_law_renamed" sLRen f cdv Ar outer s H0 E).env) → (starEach [e] (fx P w K mg base nLRen "_law_renamed" sLRen f cdv Ar outer s H0 E).env = (false, eval e (fx P w K mg base nLRen "_law_renamed" sLRen f cdv Ar outer s H0 E).env) :: starEach [] (fx P w K mg base nLRen "_law_renamed" sLRen f cdv Ar outer s H0 E).env) → ((backTo p3 (starEach [e] (fx P w K mg base nLRen "_law_renamed" sLRen f cdv Ar outer s H0 E).env)).any (·.1) = false) →
      Cm Hz (RMov (⟨db, bns, bls⟩, cs)) (wE (fx P w K mg base nLRen "_law_renamed" sLRen f cdv Ar outer s H0 E) (.Call (.Name "_law_moved" p1) [.Name "_law_base" p2, e] [] p3) σz) := fun {cs Hz σz e p1 p2 p3} ez hs c1 s1 s2 s3 =>
    e_call FM (hr.mono (by decide)) (a_cons (P := is (V.ref db)) (e_var 6 hs) (a_cons (P := RPs cs) c1 a_nil s2) s1) (fun vs H7 e7 p7 => by
      obtain ⟨_, _, rfl, rfl, _, _, rfl, ⟨c, us, rfl, hc, hus⟩, rfl⟩ := p7.now
      exact ⟨(⟨db, bns, bls⟩, cs), fun H' e => ⟨c, us, rfl, ⟨hdb5.ex (g6.k.trans ((ez.trans e7).trans e)), ntb⟩, SqL.of (e _ _ hc), paired_ex e hus⟩, fun _ _ _ w => w⟩) (hs := s1) (hpl := s3)
  have Rs := ren_swap ntb.nm
  have R1 := ren_one (k := "aa") ntb.nm nm0 nb0
  have R2 := ren_two ntb.nm nm1 nb1 na1
  have R3 := ren_one (k := "b") ntb.nm nm0 nb0
  have one : ∀ {cs : List (Str × Str)} {x1 y1 : Str} {Hz : Hp} {σz : L2.St} {a1 b1 : Expr} {k1 : Nat} {p1 pos : Pos}, cs = [(x1, y1)] → Cm Hz (is (V.str x1)) (wE (fx P w K mg base nLRen "_law_renamed" sLRen f cdv Ar outer s H0 E) a1 σz) → Cm Hz (is (V.str y1)) (wE (fx P w K mg base nLRen "_law_renamed" sLRen f cdv Ar outer s H0 E) b1 σz) →
      (starEach [a1, b1] (fx P w K mg base nLRen "_law_renamed" sLRen f cdv Ar outer s H0 E).env = (false, eval a1 (fx P w K mg base nLRen "_law_renamed" sLRen f cdv Ar outer s H0 E).env) :: starEach [b1] (fx P w K mg base nLRen "_law_renamed" sLRen f cdv Ar outer s H0 E).env) → (starEach [b1] (fx P w K mg base nLRen "_law_renamed" sLRen f cdv Ar outer s H0 E).env = (false, eval b1 (fx P w K mg base nLRen "_law_renamed" sLRen f cdv Ar outer s H0 E).env) :: starEach [] (fx P w K mg base nLRen "_law_renamed" sLRen f cdv Ar outer s H0 E).env) →
      Cm Hz (RPs cs) (wE (fx P w K mg base nLRen "_law_renamed" sLRen f cdv Ar outer s H0 E) (.List [.Tuple [a1, b1] k1 p1] pos) σz) := fun {cs x1 y1 Hz σz a1 b1 k1 p1 pos} ec c1 c2 s1 s2 => by
    subst ec
    refine e_lst (a_cons (P := pr (x1, y1)) (e_pair c1 c2 s1 s2) a_nil) (fun xs _ w => ?_) fun xs q H9 e9 w hq => ?_
    · obtain ⟨_, _, rfl, _, rfl⟩ := w
      exact (by decide : 1 ≤ 100000)
    · obtain ⟨_, _, rfl, ⟨c1, rfl, h1⟩, rfl⟩ := w.now
      exact fun H' e => ⟨q, [c1], rfl, e _ _ hq, .cons (e _ _ h1) .nil⟩
  have num : ∀ (m : Nat) (σz : L2.St) (Hz : Hp) (p1 p2 p3 : Pos) (j : Nat), σz[8]? = some (some (.int (n : Int))) → Cm Hz (is (decide (n = m))) (wT (fx P w K mg base nLRen "_law_renamed" sLRen f cdv Ar outer s H0 E) (.Compare (.Name "_law_way" p1) [.Eq] [.Constant (.int (m : Int)) j p2] p3) σz) := fun m σz Hz p1 p2 p3 j hs =>
    t_is (t_cmpD op_eq (by rfl) (e_var (v := V.int (n : Int)) 8 hs) e_int (r_eq (x := V.int (n : Int)) (y := V.int (m : Int)) rfl)) (decide_eq_decide.mpr ⟨fun e => by have := V.int.inj e; omega, fun e => by rw [e]⟩)
  refine b_if g6.s (k := decide (n = 0)) (num 0 _ _ _ _ _ _ rfl) (fun hk H7 Hc7 g7 => ?_) fun hk H7 Hc7 g7 => b_nil ?_
  · refine ret (kvs := [(.inr "aa", .str "b"), (.inr "b", .str "aa")]) (ks := ["aa", "b"]) Rs g7.k (G6.trans g7) (e_methKw (ks := ["aa", "b"]) hmr (Fr _ (by simp)) F.cls (hr.mono (by decide)) (e_var (v := V.ref ac) 7) (.at ((g6.k.trans g7.k) _ _ hj)) hg (k_cons (P := is (V.str "b")) e_str (k_cons (P := is (V.str "aa")) e_str k_nil)) fun zs H8 e8 p8 => ?_) (mov g7.k rfl (e_lst (a_cons (P := pr ("aa", "b")) (e_pair e_str e_str) (a_cons (P := pr ("b", "aa")) (e_pair e_str e_str) a_nil)) (fun xs _ w => ?_) fun xs q H9 e9 w hq => ?_) rfl rfl rfl) rfl rfl _ _ rfl
    · obtain ⟨_, _, rfl, rfl, _, _, rfl, rfl, rfl⟩ := p8.now
      exact ⟨⟨⟨ac, bns, bls⟩, _, ["aa", "b"], mv [("aa", "b"), ("b", "aa")]⟩, rfl, fun m H9 e9 hm H' e => ⟨m, rfl, e _ _ hm, hX5 (((g7.k.trans e8).trans e9).trans e), ok_two aa_b maa mb (by rw [mv2, if_neg aa_b, if_pos rfl]) (by rw [mv2, if_pos rfl]) nm_b nm_aa (fun z h1 h2 => by rw [mv2, if_neg h2, if_neg h1]) (nd_map ntb.nd Rs.inj)⟩, fun _ _ _ w => w⟩
    · obtain ⟨_, _, rfl, _, _, _, rfl, _, rfl⟩ := w
      exact (by decide : 2 ≤ 100000)
    · obtain ⟨_, _, rfl, ⟨c1, rfl, h1⟩, _, _, rfl, ⟨c2, rfl, h2⟩, rfl⟩ := w.now
      exact fun H' e => ⟨q, [c1, c2], rfl, e _ _ hq, .cons (e _ _ h1) (.cons (e _ _ h2) .nil)⟩
  refine b_if g7.s (k := decide (n = 1)) (num 1 _ _ _ _ _ _ rfl) (fun hk H8 Hc8 g8 => ?_) fun hk H8 Hc8 g8 => b_nil ?_
  · have e68 := g7.k.trans g8.k
    refine ret (kvs := [(.inr "aa", .str f0)]) (ks := ["aa"]) R1 e68 ((G6.trans g7).trans g8) (e_methKw (ks := ["aa"]) hmr (Fr _ (by simp)) F.cls (hr.mono (by decide)) (e_var (v := V.ref ac) 7) (.at ((g6.k.trans e68) _ _ hj)) hg (k_cons (P := is (V.str f0)) (e_item (j := 0) (e_var (v := V.ref c) 9) e_int (it0 e68) rfl) k_nil) fun zs H9 e9 p9 => ?_) (mov e68 rfl (one rfl e_str (e_item (j := 0) (e_var (v := V.ref c) 9) e_int (it0 e68) rfl) rfl rfl) rfl rfl rfl) rfl rfl _ _ rfl
    obtain ⟨_, _, rfl, rfl, rfl⟩ := p9.now
    exact ⟨⟨⟨ac, bns, bls⟩, _, ["aa"], mv [("aa", f0)]⟩, rfl, fun m H9 e9' hm H' e => ⟨m, rfl, e _ _ hm, hX5 (((e68.trans e9).trans e9').trans e), ok_one maa (by rw [mv1, if_pos rfl]) nm0 (fun z h1 => by rw [mv1, if_neg h1]) (nd_map ntb.nd R1.inj)⟩, fun _ _ _ w => w⟩
  refine b_if g8.s (k := decide (n = 2)) (num 2 _ _ _ _ _ _ rfl) (fun hk H9 Hc9 g9 => ?_) fun hk H9 Hc9 g9 => b_nil ?_
  · have e69 := (g7.k.trans g8.k).trans g9.k
    refine ret (kvs := [(.inr "b", .str "aa"), (.inr "aa", .str f1)]) (ks := ["b", "aa"]) R2 e69 (((G6.trans g7).trans g8).trans g9) (e_methKw (ks := ["b", "aa"]) hmr (Fr _ (by simp)) F.cls (hr.mono (by decide)) (e_var (v := V.ref ac) 7) (.at ((g6.k.trans e69) _ _ hj)) hg (k_cons (P := is (V.str "aa")) e_str (k_cons (P := is (V.str f1)) (e_item (j := 1) (e_var (v := V.ref c) 9) e_int (it0 e69) rfl) k_nil)) fun zs H10 e10 p10 => ?_) (mov e69 rfl (e_lst (a_cons (P := pr ("aa", f1)) (e_pair e_str (e_item (j := 1) (e_var (v := V.ref c) 9) e_int (it0 e69) rfl)) (a_cons (P := pr ("b", "aa")) (e_pair e_str e_str) a_nil)) (fun xs _ w => ?_) fun xs q H9 e9 w hq => ?_) rfl rfl rfl) rfl rfl _ _ rfl
    · obtain ⟨_, _, rfl, rfl, _, _, rfl, rfl, rfl⟩ := p10.now
      exact ⟨⟨⟨ac, bns, bls⟩, _, ["b", "aa"], mv [("aa", f1), ("b", "aa")]⟩, rfl, fun m H11 e11 hm H' e => ⟨m, rfl, e _ _ hm, hX5 (((e69.trans e10).trans e11).trans e), ok_two aa_b.symm mb maa (by rw [mv2, if_pos rfl]) (by rw [mv2, if_neg aa_b, if_pos rfl]) nm_aa nm1 (fun z h1 h2 => by rw [mv2, if_neg h1, if_neg h2]) (nd_map ntb.nd R2.inj)⟩, fun _ _ _ w => w⟩
    · obtain ⟨_, _, rfl, _, _, _, rfl, _, rfl⟩ := w
      exact (by decide : 2 ≤ 100000)
    · obtain ⟨_, _, rfl, ⟨c1, rfl, h1⟩, _, _, rfl, ⟨c2, rfl, h2⟩, rfl⟩ := w.now
      exact fun H' e => ⟨q, [c1, c2], rfl, e _ _ hq, .cons (e _ _ h1) (.cons (e _ _ h2) .nil)⟩
  · have e69 := (g7.k.trans g8.k).trans g9.k
    refine ret (kvs := [(.inr "aa", .str "aa"), (.inr "b", .str f0)]) (ks := ["aa", "b"]) R3 e69 (((G6.trans g7).trans g8).trans g9) (e_methKw (ks := ["aa", "b"]) hmr (Fr _ (by simp)) F.cls (hr.mono (by decide)) (e_var (v := V.ref ac) 7) (.at ((g6.k.trans e69) _ _ hj)) hg (k_cons (P := is (V.str "aa")) e_str (k_cons (P := is (V.str f0)) (e_item (j := 0) (e_var (v := V.ref c) 9) e_int (it0 e69) rfl) k_nil)) fun zs H10 e10 p10 => ?_) (mov e69 rfl (one rfl e_str (e_item (j := 0) (e_var (v := V.ref c) 9) e_int (it0 e69) rfl) rfl rfl) rfl rfl rfl) rfl rfl _ _ rfl
    obtain ⟨_, _, rfl, rfl, _, _, rfl, rfl, rfl⟩ := p10.now
    exact ⟨⟨⟨ac, bns, bls⟩, _, ["aa", "b"], mv [("b", f0)]⟩, rfl, fun m H11 e11 hm H' e => ⟨m, rfl, e _ _ hm, hX5 (((e69.trans e10).trans e11).trans e), ok_two aa_b maa mb (by rw [mv1, if_neg aa_b]) (by rw [mv1, if_pos rfl]) nm_aa nm0 (fun z h1 h2 => by rw [mv1, if_neg h2]) (nd_map ntb.nd R3.inj)⟩, fun _ _ _ w => w⟩
end
end K19
set_option Elab.async false
set_option linter.all false
set_option maxRecDepth 100000
set_option maxHeartbeats 2000000
/-! == of two dicts of two texts each, what they hold being data -/
namespace LW
open PySem PySem.Spec PyProof.Rows L2
section
variable {X : Cx}
def rEqKD (K : PySem.W.Frag) : R2 := fun x y H Q => ∃ (a b : Addr) (k1 k2 : Key) (v1 v2 w1 w2 : V) (d1 d2 e1 e2 : PyData), x = .ref a ∧ y = .ref b ∧ H a = some (.dK [(k1, v1), (k2, v2)]) ∧ H b = some (.dK [(k1, w1), (k2, w2)]) ∧ k1 ≠ k2 ∧
  (Dp K H v1 d1 ∧ Dp K H w1 e1 ∧ SeqAt.shaped d1 = true ∧ SeqAt.shaped e1 = true) ∧ (Dp K H v2 d2 ∧ Dp K H w2 e2 ∧ SeqAt.shaped d2 = true ∧ SeqAt.shaped e2 = true) ∧ Q (.bl (PyData.eqv d1 e1 && PyData.eqv d2 e2)) H
theorem op_eqKD (hu : X.A.units + 65 < cLine) : OpR X (compareOp .Eq) (rEqKD X.K) := by
  intro pins s σ H x y v u Q I rx ry h
  obtain ⟨a, b, k1, k2, v1, v2, w1, w2, d1, d2, e1, e2, rfl, rfl, ha, hb, ne, ⟨D1, E1, s1, t1⟩, ⟨D2, E2, s2, t2⟩, q⟩ := h
  cases (show v = Value.ref a from rx)
  cases (show u = Value.ref b from ry)
  obtain ⟨_, ya, va, ra, da⟩ := (show ObjOk X.prog X.w H s.heap a (.dK [(k1, v1), (k2, v2)]) from I.hok a _ ha)
  obtain ⟨_, yb, vb, rb, db⟩ := (show ObjOk X.prog X.w H s.heap b (.dK [(k1, w1), (k2, w2)]) from I.hok b _ hb)
  have eqd : ∀ {x y : V} {d e : PyData} {v u : Value}, Dp X.K H x d → Dp X.K H y e → SeqAt.shaped d = true → SeqAt.shaped e = true → RelV x v → RelV y u → SeqAt.EqP X.prog X.w X.A.in1 s v u (PyData.eqv d e) := fun {x y d e v u} D E sd se rx ry => by
    obtain ⟨as, r1⟩ := Dp.reads I d x v D rx
    obtain ⟨bs, r2⟩ := Dp.reads I e y u E ry
    exact (SeqAt.eqAt_reads d e X.A.in1 s v u as bs r1 r2 (SeqAt.canLay_of_shaped sd) (SeqAt.canLay_of_shaped se) (SeqAt.room_of_shaped sd (by show X.A.units + 1 + 64 < cLine; omega))).eqP
  have i1 : valV [(k1, w1), (k2, w2)] k1 = some w1 := by
    unfold valV
    rw [List.find?_cons_of_pos (by simp)] <;> rfl
  have i2 : valV [(k1, w1), (k2, w2)] k2 = some w2 := by
    unfold valV
    rw [List.find?_cons_of_neg (by simpa using ne), List.find?_cons_of_pos (by simp)] <;> rfl
  have f1 : RelO (some w1) (valueAt vb k1) := i1 ▸ rb.val k1
  have f2 : RelO (some w2) (valueAt vb k2) := i2 ▸ rb.val k2
  obtain ⟨y1, hy1, ry1⟩ := f1.some_of
  obtain ⟨y2, hy2, ry2⟩ := f2.some_of
  have ra' : Paired (fun (p : Key × V) (q : Key × Value) => p.1 = q.1 ∧ RelV p.2 q.2) [(k1, v1), (k2, v2)] va := ra
  cases ra' with
  | cons h1 r1 =>
    cases r1 with
    | cons h2 r2 =>
      cases r2
      rename_i q1 q2
      obtain ⟨c1, u1⟩ := q1
      obtain ⟨c2, u2⟩ := q2
      obtain ⟨g1, g2⟩ := h1
      obtain ⟨g3, g4⟩ := h2
      have g1 : k1 = c1 := g1
      have g3 : k2 = c2 := g3
      subst g1 g3
      have lb : vb.length = 2 := by rw [← rb.length] <;> rfl
      refine PySem.W.rcP_dicts (knd := mixKind X.prog X.w) (r := PyData.eqv d1 e1 && (PyData.eqv d2 e2 && true)) ya yb da db (by omega) (fun _ => .hit hy1 (eqd D1 E1 s1 t1 g2 ry1) (.hit hy2 (eqd D2 E2 s2 t2 g4 ry2) .nil)) _ _ ?_
      rw [lb, Bool.and_true]
      exact ⟨.bl _, H, I, rfl, q⟩
end
section
variable {α : Type} {A : α → List V → Hp → Prop} {R : α → V → Hp → Prop} {X : Cx} {σ : L2.St} {H : Hp} {k : Nat} {C a dx : Addr} {fs : List (Str × V)} {i o : Expr} {pos : Pos} {Po : V → Hp → Prop} {c : Bool}
/-- o != e, e newly made -/
theorem t_neOX (F : Opx X.prog X.w X.K X.mg X.base C "__eq__" k A R) (nb : NeBy X.K C) (hr : Room (k + 1) X.A) (hx : Cm H (is (V.ref a)) (wE X i σ)) (ho : Cm H Po (wE X o σ)) (hi : Pz H (fun H' => H' a = some (.ins C dx fs))) (h : ∀ v H1, Ex H H1 → Po v H1 → ∃ (b dy : Addr) (gs : List (Str × V)) (y : α), v = .ref b ∧ H1 b = some (.ins C dy gs) ∧ Pz H1 (A y [.ref a, .ref b]) ∧ ∀ v H', R y v H' → v = .bl c) (hm : behindInMarks .NotEq o = false := by rfl) :
    Cm H (is (!c)) (wT X (.Compare i [.NotEq] [o] pos) σ) := by
  obtain ⟨f, hf, G⟩ := F.ex
  exact t_cmp (op_ownNe hf nb G hr pass0) hm hx ho fun u v H1 e1 p1 p2 => by
    obtain rfl : u = V.ref a := p1.now
    obtain ⟨b, dy, gs, y, rfl, hb, hA, hR⟩ := h v H1 e1 p2.now
    exact r_ownEq true (hi.mono e1) (.at hb) hA hR
end
end LW
/-! o + t, t a tuple, whose + is no number's -/
namespace LW
open PySem PySem.Spec PyProof.Rows L2
structure BinQ (K : PySem.W.Frag) (C f : Addr) (T : String) (nm : String) : Prop where
  own : HasOp K C (PySem.dunder nm) f
  first : PySem.W.selfFirst K C = true
  t : ∃ fo ro, PySem.W.findIn K (.type T) (PySem.dunder nm) = some fo ∧ PySem.W.findIn K (.type T) (dunderR nm) = some ro ∧ ((fo.isSome && !isSeqSlot fo) || (ro.isSome && !isSeqSlot ro)) = false
section
variable {prog : Program} {w : World} {M : Model} {A : Around} {E : Value → Shared → Prop} {s : Shared} {K : PySem.W.Frag} {x C f : Addr} {ox : Obj} {od : Option Obj}
theorem binQ_run {op : Operator} {b : Value} {T : String} {Q : Value → Shared → Prop} (KI : K.In s.heap) (J : PySem.W.InstAt s.heap x ox C od) (c : BinQ K C f T op.info.2) (hb : PySem.W.Looks (model prog w) s.heap (typeOf b) (.type T))
    (h : wpAny (model prog w) A (call (.ref f) [.ref x, b]) (PySem.W.CmpBack Q) E s) : wpAny (model prog w) A (binaryOp op (.ref x) b) Q E s := by
  obtain ⟨cd, more, hcd, hm⟩ := PySem.W.ksp_first c.first
  obtain ⟨fo, ro, t1, t2, tf⟩ := c.t
  have e1 := PySem.W.fills_K (M := model prog w) KI hcd hm c.own.at_
  have e2 := PySem.W.ksp_fillsT (M := model prog w) KI t1 t2
  rw [tf] at e2
  have one := PySem.W.ksp_try (M := model prog w) (A := A) (E := E) KI J c.own.at_ c.own.fn h
  have ne : (Value.ref C == Value.type T) = false := Bool.eq_false_iff.mpr fun q => by cases beq_iff_eq.mp q
  unfold binaryOp
  refine wpAny_holding (wpAny_bind ?_)
  unfold binaryOp1
  refine wpAny_bind (J.type.here (wpAny_bind (hb.here (wpAny_bind (e1.here ?_)))))
  simp only [ne, Bool.false_eq_true, if_false]
  refine wpAny_bind (e2.here ?_)
  simp only [Bool.and_false, Bool.false_eq_true, if_false]
  refine wpAny_bind (wpAny_pure ?_)
  simp only [Bool.false_eq_true, if_false]
  refine wpAny_bind (m := tryMethod (.ref x) _ b) (thn one fun r s' z => ?_)
  obtain ⟨v, rfl, hq⟩ := z
  first
  | exact wpAny_pure (wpAny_pure hq)
  | exact wpAny_pure (wpAny_pure (wpAny_pure hq))
end
section
variable {X : Cx} {C f : Addr} {k : Nat} {sp : Sp}
theorem op_ownBinQ {op : Operator} (c : BinQ X.K C f "tuple" op.info.2) (F : FnR X.prog X.w X.K X.mg X.base CX0 k f sp) (hr : Room k X.A) : OpR X (binaryOp op) (rOwnT X.K C sp E0) := by
  intro pins s σ H x y u v Q I rx ry h
  obtain ⟨a, dx, fs, b, xs, rfl, ha, rfl, hb, q⟩ := h
  cases (show u = Value.ref a from rx)
  cases (show v = Value.ref b from ry)
  obtain ⟨ox, od, J⟩ := inst_at I ha
  obtain ⟨its, rv, ⟨o, ho, hc, n, hd⟩, hz⟩ := I.tuple hb
  have L : PySem.W.Looks (model X.prog X.w) s.heap (typeOf (.ref b)) (.type "tuple") := fun A Q E s2 k q => wpAny_typeOf_ref (k b o ho) (by rw [hc] at *; exact q)
  exact binQ_run I.kIn J c L (thn (wpAny_call (run_fnR (vs := [.ref a, .ref b]) F hr pass0 I (.cons (show RelV (.ref a) (.ref a) from rfl) (.cons (show RelV (.ref b) (.ref b) from rfl) .nil)) q)) fun w s' z => cmp_back z)
end
section
variable {α : Type} {A : α → List V → Hp → Prop} {R : α → V → Hp → Prop} {X : Cx} {σ : L2.St} {H : Hp} {k : Nat} {C f a dx : Addr} {fs : List (Str × V)} {i o : Expr} {pos : Pos} {op : Operator} {xs : List V}
theorem e_binQ (c : BinQ X.K C f "tuple" op.info.2) (F : FnR X.prog X.w X.K X.mg X.base CX0 k f (SpF A R)) (hr : Room k X.A) (hx : Cm H (is (V.ref a)) (wE X i σ)) (hi : Pz H (fun H' => H' a = some (.ins C dx fs))) (ho : Cm H (fun v H' => ∃ b, v = .ref b ∧ H' b = some (.tup xs)) (wE X o σ)) (y : α)
    (hp : ∀ b H1, Ex H H1 → H1 b = some (.tup xs) → Pz H1 (A y [.ref a, .ref b])) : Cm H (R y) (wE X (.BinOp i op o pos) σ) :=
  e_op (op_ownBinQ c F hr) hx ho fun u v H1 e1 p1 p2 => by
    obtain rfl : u = V.ref a := p1.now
    obtain ⟨b, rfl, hb⟩ := p2.now
    exact fun Hc ex Q q => ⟨a, dx, fs, b, xs, rfl, hi Hc (e1.trans ex), rfl, SqT.of (ex _ _ hb), y, H1, ex, hp b H1 e1 hb, fun v Hn H2 g r => q v Hn H2 g r⟩
end
/-- the operator op of the class at C, a tuple on its right side -/
structure OpT {α : Type} (P : Program) (w : World) (K : PySem.W.Frag) (mg : Str → Option Value) (base : Heap) (C : Addr) (op : Operator) (k : Nat) (A : α → List V → Hp → Prop) (R : α → V → Hp → Prop) : Prop where
  ex : ∃ f : Addr, BinQ K C f "tuple" op.info.2 ∧ FnR P w K mg base CX0 k f (SpF A R)
end LW
set_option Elab.async false
set_option linter.all false
set_option maxRecDepth 100000
set_option maxHeartbeats 2000000
namespace LW
open PySem L2
section
variable {X : Cx} {σ : St} {H Hc : Hp} {Pa : List V → Hp → Prop} {a b c i o : Expr} {rest : List Stmt} {pos px py pz pt pt2 : Pos} {D : Ends} {x y z : Str}
theorem b_par3 (i j l : Nat) {kt k2} (ex : Ex H Hc) (hc : X.calm = true) (hN : X.N.Nodup) (ha : Cm H Pa (wA X [a, b, c] σ)) (hP : ∀ vs H', Pa vs H' → ∃ u v w, vs = [u, v, w]) (h : ∀ u v w Hn H2, Grow H Hc Hn H2 → Pz Hn (Pa [u, v, w]) → wB X rest D (((σ.set i (some u)).set j (some v)).set l (some w)) H2)
    (hi : X.N[i]? = some x := by rfl) (hj : X.N[j]? = some y := by rfl) (hl : X.N[l]? = some z := by rfl) (hij : i ≠ j := by decide) (hil : i ≠ l := by decide) (hjl : j ≠ l := by decide) (hx : X.env.scope.names.lookup x = some .local := by rfl) (hy : X.env.scope.names.lookup y = some .local := by rfl) (hz : X.env.scope.names.lookup z = some .local := by rfl)
    (hw : swappedStores [.Tuple [.Name x px, .Name y py, .Name z pz] kt pt] (.Tuple [a, b, c] k2 pt2) X.env = pure (some [x, y, z]) := by rfl) (hs : swapsWithSole [.Tuple [.Name x px, .Name y py, .Name z pz] kt pt] (.Tuple [a, b, c] k2 pt2) pos.line X.env = pure false := by rfl) :
    wB X (.Assign [.Tuple [.Name x px, .Name y py, .Name z pz] kt pt] (.Tuple [a, b, c] k2 pt2) pos :: rest) D σ Hc :=
  b_cons (w_s (ps_par3 hc hN hi hj hl hij hil hjl hx hy hz pa_w hw hs) (ha Hc ex _ fun vs Hn H2 g p => by
    obtain ⟨u, v, w, rfl⟩ := hP vs Hn p.now
    exact ⟨u, v, w, rfl, h u v w Hn H2 g p⟩))
/-- x in (..), all flat -/
theorem t_inT {xs : List V} {v : V} (hx : Cm H (is v) (wE X i σ)) (ho : Cm H (fun u H' => ∃ a, u = .ref a ∧ H' a = some (.tup xs)) (wE X o σ)) (hf : flatV v = true) (hfs : xs.all flatV = true) (hm : behindInMarks .In o = false := by rfl) : Cm H (is (inV v xs)) (wT X (.Compare i [.In] [o] pos) σ) :=
  t_cmp op_in_seq hm hx ho fun u w H1 e1 p1 p2 => by
    obtain rfl : u = v := p1.now
    obtain ⟨a, rfl, ha⟩ := p2.now
    exact Cm.ret (fun Hc ex Q q => ⟨a, xs, rfl, .inr (SqT.of (ex _ _ ha)), hf, hfs, q⟩) (.const rfl)
/-- xs + ys, ys of a kind -/
theorem e_catH {e1 e2 : Expr} {xs : List V} {φ : List V → Hp → Prop} (h1 : Cm H (nl xs) (wE X e1 σ)) (h2 : Cm H (fun v H' => ∃ b zs, v = .ref b ∧ H' b = some (.lst zs) ∧ φ zs H') (wE X e2 σ)) (hz : ∀ zs H', φ zs H' → xs.length + zs.length ≤ 100000) (hφ : ∀ zs H1 H2, Ex H1 H2 → φ zs H1 → φ zs H2) :
    Cm H (fun v H' => ∃ b zs, v = .ref b ∧ H' b = some (.lst (xs ++ zs)) ∧ φ zs H') (wE X (.BinOp e1 .Add e2 pos) σ) :=
  e_op op_cat h1 h2 fun u v H1 e z1 z2 => by
    obtain ⟨b, rfl, hb⟩ := z1.now
    obtain ⟨c, zs, rfl, hc, hf⟩ := z2.now
    exact fun Hc ex Q q => ⟨b, c, xs, zs, rfl, rfl, ex _ _ hb, ex _ _ hc, Evl.sz_of (hz zs _ hf), fun p hp => q _ _ _ (Grow.new ex hp) fun H' e => ⟨p, zs, rfl, e _ _ upd_same, hφ _ _ _ ((Evl.Ex.new (Evl.fresh_back ex hp)).trans e) hf⟩⟩
/-- xs[0], xs a list not yet named -/
theorem e_item0 {P Q : V → Hp → Prop} (ho : Cm H P (wE X o σ)) (hi : Cm H (is (V.int 0)) (wE X i σ)) (h : ∀ v H', P v H' → ∃ a w ws, v = .ref a ∧ H' a = some (.lst (w :: ws)) ∧ Q w H') (hQ : ∀ w H' H2, Ex H' H2 → Q w H' → Q w H2) (hs : PlainIx i := by exact fun _ _ => rfl) : Cm H Q (wE X (.Subscript o i pos) σ) :=
  e_ix ix_list ho hi (fun x y H1 e1 p1 p2 => by
    obtain rfl : y = V.int 0 := p2.now
    obtain ⟨a, w, ws, rfl, ha, hq⟩ := h x H1 p1.now
    exact (r_ixL (a := a) (xs := w :: ws) (v := w) (fun H' e => SqL.of (e _ _ ha)) (by
      show (ixN (w :: ws).length ((0 : Nat) : Int)).bind _ = _
      rw [Evl.ixN_nat (show 0 < (w :: ws).length from Nat.succ_pos _)] <;> rfl)).imp fun v H' e z => (show v = w from z) ▸ hQ w _ _ e hq) hs
end
end LW
namespace K19
open PySem L2 LW
abbrev sStep : Stmt := top 62
theorem Both.mono {C : Addr} {v : V} {n l n' l' : Nat} {H : Hp} (h : Both C v n l H) (a : n ≤ n') (b : l ≤ l') : Both C v n' l' H := by
  obtain ⟨t, aa, d, ns, ls, h1, h2, h3, h4, h5, h6, h7⟩ := h
  exact ⟨t, aa, d, ns, ls, h1, h2, h3, h4, h5, Nat.le_trans h6 a, Nat.le_trans h7 b⟩
section
variable {P : Program} {w : World} {K : PySem.W.Frag} {mg : Str → Option Value} {base : Heap} {f fi C : Addr} {fd : FuncData}
abbrev nStep : List Str := ["_law_pot_here", "_law_made", "_law_model", "_law_way", "_law_spots", "_law_pairs", "_law_this", "_law_mate", "_law_left", "_law_pair"]
theorem scStep : FnScope nStep ["_law_pot_here", "_law_made", "_law_model"] (defScope sStep) := ⟨rfl, rfl, rfl, by decide +kernel, rfl, by decide +kernel, by decide +kernel⟩
theorem b_lstep (B : Blt K mg) (F : NetF K mg C) (OP : OpT P w K mg base C .Add 7 (AAdd C) (RAdd C)) (OM : OpT P w K mg base C .Sub 7 (ACont C K) (RSub C)) (FD : Fn P w K mg base "_law_draw" 1 AD RD) (FP : Fn P w K mg base "_law_pick" 2 (APk K) RPk) (FK : Fn P w K mg base "_law_link" 1 AP2 RLkO) (FT : Fn P w K mg base "_law_told_model" 2 (ATold K) RTold) (FU : Fn P w K mg base "_law_turned" 3 (ATurn K) RTurn)
    (FW : Fn P w K mg base "_law_without" 9 (ASt C) (RSt C)) (FG : Fn P w K mg base "_law_together" 8 (AStp C fun x => x.ls ≠ []) (RSt C)) (FB : Gn P w K mg base "_law_both" 8 (AStp C fun x => x.ns.length ≤ 40 ∧ x.ls.length ≤ 56) (RStB C)) (FR : Fn P w K mg base "_law_renamed" 8 (AStp C fun x => x.ns.length ≤ 40) (RStB C)) :
    BodyG P w K mg base nStep "_law_step" sStep f 9 (AStp C fun x => x.ns.length ≤ 40 ∧ x.ls.length ≤ 56) (RStB C) := by
  intro cdv Ar outer s H0 E r vs H Hc D hr ex pa rt nx
  obtain ⟨p, x, d⟩ := r
  obtain ⟨rfl, hp, hX, hM, h40, h56⟩ := pa.now
  have hp : H p = some (PotO p) := hp
  have hX : x.At C H := hX
  have nt : Nt x.ns x.ls := hX.2
  have hM : MdlAt d x.ns x.ls H := hM
  have h40 : x.ns.length ≤ 40 := h40
  have h56 : x.ls.length ≤ 56 := h56
  have rr := hr.r
  have hu : (fx P w K mg base nStep "_law_step" sStep f cdv Ar outer s H0 E).A.units + 65 < cLine := by have := rr.un; omega
  have hu4 : (fx P w K mg base nStep "_law_step" sStep f cdv Ar outer s H0 E).A.units + 64 < cLine := by omega
  obtain ⟨dx, fs, hi, _⟩ := hX.1.ins
  obtain ⟨a, b, ts, hd, ha, hb, hts⟩ := id hM
  have l2 := hts.length
  have nml := nt.nml
  have ne : x.ns.map V.str ≠ [] := by simpa using nt.ne
  have hX2 : ∀ {H'}, Ex H H' → x.At C H' := fun e => ⟨hX.1.ex e, nt⟩
  have rtB : ∀ v Hn H2, Grow H Hc Hn H2 → Pz Hn (RStB C ⟨p, x, d⟩ v) → D.rt v H2 := rt
  refine b_par3 3 4 5 ex rfl scStep.nd (Pa := fun vs _ => ∃ r : Int, vs = [.int r, .ref a, .ref b] ∧ 0 ≤ r ∧ r < 9) (Cm.imp (a_cons (P := RD (p, 9)) (e_callD (p, 9) FD (rr.mono (by decide)) (a_consD (e_var 0) (a_consD e_int a_nil)) fun H' e => ad (e _ _ hp) (by decide) (by decide)) (a_consD (v := V.ref a) (e_sp (hu_of rr) hd (e_var (v := V.ref d) 2)) (a_consD (v := V.ref b) (e_pp (hu_of rr) hd (e_var (v := V.ref d) 2)) a_nil))) fun vs H' e z => ?_) (fun vs _ z => ?_) (fun u v v2 H1 Hc1 g1 p1 => ?_)
  · obtain ⟨_, _, rfl, ⟨r, rfl, r0, r1⟩, rfl⟩ := z
    exact ⟨r, rfl, r0, r1⟩
  · obtain ⟨r, rfl, _⟩ := z
    exact ⟨_, _, _, rfl⟩
  obtain ⟨r, ev, r0, r9⟩ := p1.now
  injection ev with ev1 ev
  injection ev with ev2 ev
  injection ev with ev3 _
  subst ev1 ev2 ev3
  have e1 := g1.k
  have pt : ∀ {H'}, Ex H1 H' → H' p = some (PotO p) := fun e => (e1.trans e) _ _ hp
  have nep : ∀ (σz : L2.St) (Hz : Hp) (q1 q2 q3 : Pos), σz[5]? = some (some (.ref b)) → Ex H Hz → Cm Hz (is (!decide (x.ls = []))) (wT (fx P w K mg base nStep "_law_step" sStep f cdv Ar outer s H0 E) (.Compare (.Name "_law_pairs" q1) [.NotEq] [.List [] q2] q3) σz) := fun σz Hz q1 q2 q3 hs ez =>
    t_cmp (Pa := is (V.ref b)) (Pb := nl []) (op_neD (by omega)) (by rfl) (e_var (v := V.ref b) 5 hs) (e_lst a_nil (fun xs _ z => by rw [show xs = _ from z]; exact (by decide : 0 ≤ 100000)) fun xs q H9 e9 z hq => by
      rw [show xs = _ from z.now] at hq
      exact fun H' e' => ⟨q, rfl, e' _ _ hq⟩) fun u1 u2 H6 e6 z1 z2 => by
      obtain rfl : u1 = V.ref b := z1.now
      obtain ⟨c, rfl, hc⟩ := z2.now
      have ee := ez.trans e6
      refine Cm.ret (fun Hc ex Q q => ⟨_, _, .lst (SqL.of (ex _ _ (ee _ _ hb))) (dp_prs (paired_ex (ee.trans ex) hts)), .lst (SqL.of (ex _ _ hc)) .nil, sh_prs nml, sh_prs (ps := []) fun t ht => absurd ht List.not_mem_nil, ?_⟩) (.const rfl)
      have z : PyData.eqv (.list (x.ls.map dPr)) (.list []) = decide (x.ls = []) := by
        rw [PyData.eqv, show ([] : List PyData) = ([] : List (Str × Str)).map dPr from rfl, eqv_prs]
      rw [z]; exact q
  have num : ∀ (m : Int) (σz : L2.St) (Hz : Hp) (p1 p2 p3 : Pos) (j : Nat), σz[3]? = some (some (.int r)) → Cm Hz (is (decide (r = m))) (wT (fx P w K mg base nStep "_law_step" sStep f cdv Ar outer s H0 E) (.Compare (.Name "_law_way" p1) [.Eq] [.Constant (.int m) j p2] p3) σz) := fun m σz Hz p1 p2 p3 j hs =>
    t_is (t_cmpD op_eq (by rfl) (e_var (v := V.int r) 3 hs) e_int (r_eq (x := V.int r) (y := V.int m) rfl)) (decide_eq_decide.mpr ⟨fun e => V.int.inj e, fun e => by rw [e]⟩)
  have rest : ∀ {Hz Hcz : Hp} {u6 u7 : Option V}, Ex H1 Hz → Grow H Hc Hz Hcz → wB (fx P w K mg base nStep "_law_step" sStep f cdv Ar outer s H0 E) ((defBody sStep).drop 2) D [some (.ref p), some (.ref x.a), some (.ref d), some (.int r), some (.ref a), some (.ref b), u6, u7, none, none] Hcz := fun {Hz Hcz u6 u7} ez gz => by
    have ezz := e1.trans ez
    refine b_if gz.s (k := decide (r = 3) && !decide (x.ls = [])) (t_w (w_and (num 3 _ _ _ _ _ _ rfl) fun _ => w_and1 (nep _ _ _ _ _ rfl ezz))) (fun hk H2 Hc2 g2 => ?_) fun hk H2 Hc2 g2 => b_nil ?_
    · have hne : x.ls ≠ [] := fun q => by simp [q] at hk
      have e2 := ezz.trans g2.k
      have tne : ts.map V.ref ≠ [] := fun e => hne (by rw [List.map_eq_nil_iff] at e; rw [e] at l2; exact List.eq_nil_of_length_eq_zero l2.symm)
      refine b_asg (g := gTup K 2 (gCons (gName 6) (gCons (gName 7) gNil))) (P := fun v H' => ∃ (t : Addr) (q q' : Str × Str), v = .ref t ∧ H' t = some (.tup [.str q'.1, .str q'.2]) ∧ q ∈ x.ls ∧ Way q q') g2.s
        (e_item0 (P := fun v H' => ∃ (c t : Addr) (q q' : Str × Str), v = .ref c ∧ H' c = some (.lst [.ref t]) ∧ H' t = some (.tup [.str q'.1, .str q'.2]) ∧ q ∈ x.ls ∧ Way q q') (e_call FU (rr.mono (by decide)) (a_cons (P := is (V.ref p)) (e_var 0) (a_cons (P := fun v H' => ∃ (c t : Addr) (q : Str × Str), v = .ref c ∧ H' c = some (.lst [.ref t]) ∧ H' t = some (.tup [.str q.1, .str q.2]) ∧ q ∈ x.ls)
          (e_lst (a_cons (P := RPk (p, ts.map V.ref)) (e_callD (p, ts.map V.ref) FP (rr.mono (by decide)) (a_consD (v := V.ref p) (e_var 0) (a_consD (v := V.ref b) (e_var 5) a_nil)) fun H' e => ⟨b, rfl, (e2.trans e) _ _ hp, SqL.of ((e2.trans e) _ _ hb), tne, by show (ts.map V.ref).length ≤ 1000; rw [List.length_map]; omega⟩) a_nil) (fun xs _ z => ?_) fun xs c H6 e6 z hc => ?_) a_nil)) fun vs H6 e6 p6 => ?_) e_int (fun v H' z => ?_) (fun w H' H2 e z => ?_)) (pg_tup rfl (pgs_cons (pg_name (i := 6) scStep.nd rfl (.inr rfl)) (pgs_cons (pg_name (i := 7) scStep.nd rfl (.inr rfl)) pgs_nil))) fun v H3 Hc3 g3 p3 => ?_
      · obtain ⟨_, _, rfl, _, rfl⟩ := z
        exact (by decide : 1 ≤ 100000)
      · obtain ⟨_, _, rfl, h1, rfl⟩ := z.now
        obtain ⟨i0, hi0⟩ := List.getElem?_of_mem h1
        obtain ⟨t, q, rfl, _, hq, hH⟩ := ts_get hts hi0
        exact fun H' e' => ⟨c, t, q, rfl, e' _ _ hc, ((e2.trans e6).trans e') _ _ hH, List.mem_of_getElem? hq⟩
      · obtain ⟨_, _, rfl, rfl, _, _, rfl, ⟨c, t, q, rfl, hc, ht, hq⟩, rfl⟩ := p6.now
        refine ⟨(p, [q]), fun H' e => ⟨c, [t], rfl, ((e2.trans e6).trans e) _ _ hp, SqL.of (e _ _ hc), .cons (e _ _ ht) .nil, by show 1 ≤ 200; decide⟩, fun v H' e z => ?_⟩
        obtain ⟨c2, us, qs, rs, rfl, hc2, hus, pm, _, hw⟩ := z
        have l1 : rs.length = 1 := by
          have := hus.length
          have z := congrArg List.length ‹rs.map lk = qs.map lk›
          rw [List.length_map, List.length_map, pm.length_eq] at z
          exact z
        obtain ⟨r2, rfl⟩ := List.length_eq_one_iff.mp l1
        obtain ⟨q2, hq2, W⟩ := hw r2 (List.mem_singleton.mpr rfl)
        obtain rfl : q2 = q := List.mem_singleton.mp hq2
        cases hus with
        | cons h2 h3 =>
          cases h3
          exact ⟨c2, _, q2, r2, rfl, hc2, h2, hq, W⟩
      · obtain ⟨c, t, q, q', rfl, hc, ht, hq, W⟩ := z
        exact ⟨c, _, _, rfl, hc, t, q, q', rfl, ht, hq, W⟩
      · obtain ⟨t, q, q', rfl, ht, hq, W⟩ := z
        exact ⟨t, q, q', rfl, e _ _ ht, hq, W⟩
      obtain ⟨t, q, q', rfl, ht, hq, W⟩ := p3.now
      refine bind_two (K := K) (.sqt (SqT.of ht)) Hc3 g3.s _ ?_
      obtain ⟨m1, m2, m3⟩ := nt.lk q hq
      have nq : Lk q := ⟨nt.nm _ m1, nt.nm _ m2, fun e => Lt.irr _ (e ▸ m3)⟩
      have lkq : lk q' = q := W.lk.trans (lk_lk m3)
      have nq' : Lk q' := by
        rcases W with rfl | rfl
        · exact nq
        · exact ⟨nq.2.1, nq.1, fun e => nq.2.2 e.symm⟩
      have e3 := e2.trans g3.k
      refine b_setLc 8 g3.s rfl scStep.nd rfl rfl rfl (pi_list pe_w) (own := [("_law_pair", 9)]) (g := gName 9) (P := RPs (without x.ls q)) (blkOk_by (N := nStep) (sc := defScope sStep) (by decide +kernel)) (fun _ _ _ _ _ => pg_name (i := 9) scStep.nd rfl (.inl rfl)) (fun s H C cl fp => pts_one (pt_b s H C cl fp))
        (c_lc (i_list (xs := ts.map V.ref) (Cm.imp (e_var (v := V.ref b) 5) fun v H' e z => ⟨b, z, SqL.of (e _ _ (e3 _ _ hb))⟩)) (by rw [List.length_map]; omega) (fun i acc H' => ∃ os, acc = os.map V.ref ∧ TsAt H' os (without (x.ls.take i) q)) (fun _ => ⟨[], rfl, .nil⟩) (fun i v acc H9 hi9 e9 py pacc => ?_) fun acc c H9 e9 pacc hc => ?_) (fun v H4 Hc4 g4 p4 => ?_)
      · obtain ⟨t9, q9, rfl, ht9, hq9, hH⟩ := ts_get hts py.now
        have hm : q9 ∈ x.ls := List.mem_of_getElem? hq9
        refine ⟨_, !decide (q9 = q), bind_name, rfl, c_tb fun s0 H00 C0 cl fp => t_cmp (Pa := is (V.ref t9)) (Pb := pr q) (op_neD hu4) (by rfl) (e_var 9) (Cm.imp (e_callD q' FK (rr.mono (by decide)) (a_consD (v := V.str q'.1) (e_var 6) (a_consD (v := V.str q'.2) (e_var 7) a_nil)) (.const rfl)) fun v H' _ z => ?_) fun u1 u2 H6 e6 z1 z2 => ?_, fun k => c_eb fun s0 H00 C0 cl fp => ?_, fun k => ?_⟩
        · have z : pr (lk q') v H' := z
          rw [lkq] at z
          exact z
        · obtain rfl : u1 = V.ref t9 := z1.now
          obtain ⟨c, rfl, hc⟩ := z2.now
          refine Cm.ret (fun Hc ex Q w => ⟨dPr q9, dPr q, .tup (SqT.of (ex _ _ (((e3.trans e9).trans e6) _ _ hH))) (.cons (.str _) (.cons (.str _) .nil)), .tup (SqT.of (ex _ _ hc)) (.cons (.str _) (.cons (.str _) .nil)), sh_pr (nml q9 hm).1 (nml q9 hm).2, sh_pr nq.1 nq.2.1, by rw [eqv_pr]; exact w⟩) (.const rfl)
        · refine Cm.imp (e_var (v := V.ref t9) 9) fun v H' e z => ?_
          obtain ⟨os, rfl, ho⟩ := pacc H' e
          refine ⟨os ++ [t9], by rw [show v = V.ref t9 from z, List.map_append] <;> rfl, ?_⟩
          unfold without
          rw [take_snoc hq9, List.filter_append, List.filter_cons_of_pos (by exact k), List.filter_nil]
          exact ts_snoc (((e3.trans e9).trans e) _ _ hH) ho
        · refine pacc.imp fun H' e ⟨os, w1, w2⟩ => ⟨os, w1, ?_⟩
          unfold without
          rw [take_snoc hq9, List.filter_append, List.filter_cons_of_neg (by rw [k]; exact Bool.false_ne_true), List.filter_nil, List.append_nil]
          exact w2
      · obtain ⟨os, rfl, ho⟩ := pacc.now
        rw [List.length_map, l2, List.take_length] at ho
        exact fun H' e' => ⟨c, os, rfl, e' _ _ hc, paired_ex e' ho⟩
      obtain ⟨c, os, rfl, hc, hos⟩ := p4.now
      have e4 := e3.trans g4.k
      obtain ⟨fm, cm, Fm⟩ := OM.ex
      refine b_ret (P := RStB C ⟨p, x, d⟩) g4.s (e_tup (a_cons (P := fun v H' => NetR C x.ns (without x.ls q) v H' ∧ Nt x.ns (without x.ls q)) (Cm.imp (e_binQ (xs := [V.str q'.1, V.str q'.2]) (y := (x, q')) cm Fm (rr.mono (by decide)) (e_var (v := V.ref x.a) 1) (.at (e4 _ _ hi)) (e_tup (a_consD (v := V.str q'.1) (e_var 6) (a_consD (v := V.str q'.2) (e_var 7) a_nil)) (fun xs _ z => by rw [show xs = _ from z]; exact (by decide : 2 ≤ 100000)) fun xs c H9 e9 z hc => ?_) fun t9 H9 e9 h9 => fun H' e => ⟨t9, rfl, SqT.of (e _ _ h9), hX2 ((e4.trans e9).trans e), nq', by rw [lkq]; exact hq⟩) fun v H' e z => ?_)
        (a_cons (P := fun v H' => ∃ dd, v = .ref dd ∧ H' dd = some (.dK [(.inr "spots", .ref a), (.inr "pairs", .ref c)])) (Cm.imp (e_disp2 (P1 := is (V.ref a)) (P2 := is (V.ref c)) (e_var 4) (e_var 8)) fun v H' e z => ?_) a_nil)) (fun xs _ z => ?_) fun xs c9 H9 e9 z hc9 => ?_) fun v Hn H2 g p => rt v _ _ ((((gz.trans g2).trans g3).trans g4).trans g) p
      · rw [show xs = _ from z.now] at hc
        exact fun H' e' => ⟨c, rfl, e' _ _ hc⟩
      · obtain ⟨aa, rfl, z1, z2⟩ := z
        have z1 : NetAt C aa x.ns (without x.ls (lk q')) H' := z1
        have z2 : Nt x.ns (without x.ls (lk q')) := z2
        rw [lkq] at z1 z2
        exact ⟨⟨aa, rfl, z1⟩, z2⟩
      · obtain ⟨dd, v1, v2, rfl, hdd, rfl, rfl⟩ := z
        exact ⟨dd, rfl, hdd⟩
      · obtain ⟨_, _, rfl, _, _, _, rfl, _, rfl⟩ := z
        exact (by decide : 2 ≤ 100000)
      · obtain ⟨_, _, rfl, ⟨⟨aa, rfl, hN⟩, ntw⟩, _, _, rfl, ⟨dd, rfl, hdd⟩, rfl⟩ := z.now
        exact fun H' e => ⟨c9, aa, dd, x.ns, without x.ls q, rfl, e _ _ hc9, hN.ex e, ⟨a, c, os, e _ _ hdd, ((e4.trans e9).trans e) _ _ ha, (e9.trans e) _ _ hc, paired_ex (e9.trans e) hos⟩, ntw, Nat.le_add_right _ _, Nat.le_trans (List.length_filter_le _ _) (Nat.le_add_right _ _)⟩
    refine b_if g2.s (k := decide (r = 4) && decide ((3 : Int) < (x.ns.length : Int))) (t_w (w_and (num 4 _ _ _ _ _ _ rfl) fun _ => w_and1 (t_cmpD op_gt (by rfl) (t_is (e_len (xs := x.ns.map V.str) B.len (e_var (v := V.ref a) 4) (fun H' e => .inl (SqL.of (((ezz.trans g2.k).trans e) _ _ ha)))) (by rw [List.length_map])) e_int (r_I0 (g := fun i j => V.bl (decide (j < i))) (i := (x.ns.length : Int)) (j := 3))))) (fun hk H3 Hc3 g3 => ?_) fun hk H3 Hc3 g3 => b_nil ?_
    · have l4 : 4 ≤ x.ns.length := by
        simp only [Bool.and_eq_true, decide_eq_true_eq] at hk
        omega
      have e3 := (ezz.trans g2.k).trans g3.k
      exact b_ret (P := RStB C ⟨p, x, d⟩) g3.s (Cm.imp (e_callD (⟨p, x, d⟩ : StIn) FW (rr.mono (by decide)) (a_consD (v := V.ref p) (e_var 0) (a_consD (v := V.ref x.a) (e_var 1) (a_consD (v := V.ref d) (e_var 2) a_nil))) fun H' e => ⟨rfl, (e3.trans e) _ _ hp, hX2 (e3.trans e), hM.ex (e3.trans e), l4⟩) fun v H' e z => Both.mono z (Nat.le_add_right _ _) (Nat.le_add_right _ _)) fun v Hn H2 g p => rt v _ _ (((gz.trans g2).trans g3).trans g) p
    refine b_if g3.s (k := decide (r = 5) && !decide (x.ls = [])) (t_w (w_and (num 5 _ _ _ _ _ _ rfl) fun _ => w_and1 (nep _ _ _ _ _ rfl ((ezz.trans g2.k).trans g3.k)))) (fun hk H4 Hc4 g4 => ?_) fun hk H4 Hc4 g4 => b_nil ?_
    · have hne : x.ls ≠ [] := fun q => by simp [q] at hk
      have e3 := ((ezz.trans g2.k).trans g3.k).trans g4.k
      exact b_ret (P := RStB C ⟨p, x, d⟩) g4.s (Cm.imp (e_callD (⟨p, x, d⟩ : StIn) FG (rr.mono (by decide)) (a_consD (v := V.ref p) (e_var 0) (a_consD (v := V.ref x.a) (e_var 1) (a_consD (v := V.ref d) (e_var 2) a_nil))) fun H' e => ⟨rfl, (e3.trans e) _ _ hp, hX2 (e3.trans e), hM.ex (e3.trans e), hne⟩) fun v H' e z => Both.mono z (Nat.le_add_right _ _) (Nat.le_add_right _ _)) fun v Hn H2 g p => rt v _ _ ((((gz.trans g2).trans g3).trans g4).trans g) p
    refine b_if g4.s (k := inV (V.int r) [.int 6, .int 7]) (t_inT (e_var (v := V.int r) 3) (e_tup (a_consD (v := V.int 6) e_int (a_consD (v := V.int 7) e_int a_nil)) (fun xs _ z => by rw [show xs = _ from z]; exact (by decide : 2 ≤ 100000)) fun xs q H9 e9 z hq => ?_) rfl rfl) (fun hk H5 Hc5 g5 => ?_) fun hk H5 Hc5 g5 => b_nil ?_
    · rw [show xs = _ from z.now] at hq
      exact fun H' e' => ⟨q, rfl, e' _ _ hq⟩
    · have e3 := (((ezz.trans g2.k).trans g3.k).trans g4.k).trans g5.k
      exact b_ret (P := RStB C ⟨p, x, d⟩) g5.s (e_callGD (⟨p, x, d⟩ : StIn) FB (hr.mono (by decide)) (a_consD (v := V.ref p) (e_var 0) (a_consD (v := V.ref x.a) (e_var 1) (a_consD (v := V.ref d) (e_var 2) a_nil))) fun H' e => ⟨rfl, (e3.trans e) _ _ hp, hX2 (e3.trans e), hM.ex (e3.trans e), h40, h56⟩) fun v Hn H2 g p => rt v _ _ (((((gz.trans g2).trans g3).trans g4).trans g5).trans g) p
    · have e3 := (((ezz.trans g2.k).trans g3.k).trans g4.k).trans g5.k
      exact b_ret (P := RStB C ⟨p, x, d⟩) g5.s (e_callD (⟨p, x, d⟩ : StIn) FR (rr.mono (by decide)) (a_consD (v := V.ref p) (e_var 0) (a_consD (v := V.ref x.a) (e_var 1) (a_consD (v := V.ref d) (e_var 2) a_nil))) fun H' e => ⟨rfl, (e3.trans e) _ _ hp, hX2 (e3.trans e), hM.ex (e3.trans e), h40⟩) fun v Hn H2 g p => rt v _ _ (((((gz.trans g2).trans g3).trans g4).trans g5).trans g) p
  refine b_if g1.s (k := decide (r < 3)) (t_cmpD op_lt (by rfl) (e_var (v := V.int r) 3) e_int (r_I0 (g := fun i j => V.bl (decide (i < j))) (i := r) (j := 3))) (fun hk H2 Hc2 g2 => ?_) fun hk H2 Hc2 g2 => b_nil (rest g2.k (g1.trans g2))
  have e2 := e1.trans g2.k
  have pk : ∀ {H'}, Ex H2 H' → APk K (p, x.ns.map V.str) [.ref p, .ref a] H' := fun e => ⟨a, rfl, (e2.trans e) _ _ hp, SqL.of ((e2.trans e) _ _ ha), ne, by show (x.ns.map V.str).length ≤ 1000; rw [List.length_map]; omega⟩
  refine b_asg (g := gTup K 2 (gCons (gName 6) (gCons (gName 7) gNil))) (P := fun v H' => ∃ (t : Addr) (y z : Str), v = .ref t ∧ H' t = some (.tup [.str y, .str z]) ∧ y ∈ x.ns ∧ z ∈ x.ns) g2.s
    (e_tup (a_cons (P := RPk (p, x.ns.map V.str)) (e_callD (p, x.ns.map V.str) FP (rr.mono (by decide)) (a_consD (v := V.ref p) (e_var 0) (a_consD (v := V.ref a) (e_var 4) a_nil)) fun H' e => pk e) (a_cons (P := RPk (p, x.ns.map V.str)) (e_callD (p, x.ns.map V.str) FP (rr.mono (by decide)) (a_consD (v := V.ref p) (e_var 0) (a_consD (v := V.ref a) (e_var 4) a_nil)) fun H' e => pk e) a_nil)) (fun xs _ z => ?_) fun xs t H6 e6 z ht => ?_) (pg_tup rfl (pgs_cons (pg_name (i := 6) scStep.nd rfl (.inr rfl)) (pgs_cons (pg_name (i := 7) scStep.nd rfl (.inr rfl)) pgs_nil))) fun v H3 Hc3 g3 p3 => ?_
  · obtain ⟨_, _, rfl, _, _, _, rfl, _, rfl⟩ := z
    exact (by decide : 2 ≤ 100000)
  · obtain ⟨_, _, rfl, h1, _, _, rfl, h2, rfl⟩ := z.now
    obtain ⟨y, hy, rfl⟩ := List.mem_map.mp h1
    obtain ⟨y2, hz, rfl⟩ := List.mem_map.mp h2
    exact fun H' e' => ⟨t, y, y2, rfl, e' _ _ ht, hy, hz⟩
  obtain ⟨t, y, z, rfl, ht, hy, hz⟩ := p3.now
  refine bind_two (K := K) (.sqt (SqT.of ht)) Hc3 g3.s _ ?_
  have e3 := e2.trans g3.k
  have G3 := (g1.trans g2).trans g3
  have nmy := nt.nm _ hy
  have nmz := nt.nm _ hz
  refine b_if g3.s (k := !decide (y = z) && !decide (lnk y z ∈ x.ls)) (t_w (w_and (k := !decide (y = z)) (t_is (t_cmpD op_ne (by rfl) (e_var (v := V.str y) 6) (e_var (v := V.str z) 7) (r_ne (x := V.str y) (y := V.str z) rfl)) (by by_cases h : y = z <;> simp [h])) fun _ => w_and1 (t_ninPr hu (e_callD (y, z) FK (rr.mono (by decide)) (a_consD (v := V.str y) (e_var 6) (a_consD (v := V.str z) (e_var 7) a_nil)) (.const rfl)) (e_var (v := V.ref b) 5) (fun H' e => ⟨SqL.of ((e3.trans e) _ _ hb), paired_ex (e3.trans e) hts⟩) ?_ nml))) (fun hk H4 Hc4 g4 => ?_) fun hk H4 Hc4 g4 => b_nil (b_nil (rest ((g2.k.trans g3.k).trans g4.k) (G3.trans g4)))
  · rcases lnk_cases y z with e | e <;> rw [e]
    · exact ⟨nmy, nmz⟩
    · exact ⟨nmz, nmy⟩
  have hyz : y ≠ z := fun h => by simp [h] at hk
  have hnew : lnk y z ∉ x.ls := fun h => by simp [h] at hk
  have e4 := e3.trans g4.k
  obtain ⟨fa, ca, Fa⟩ := OP.ex
  refine b_ret (P := RStB C ⟨p, x, d⟩) g4.s (e_tup (a_cons (P := RAdd C (x, (y, z))) (e_binQ (xs := [V.str y, V.str z]) (y := (x, (y, z))) ca Fa (rr.mono (by decide)) (e_var (v := V.ref x.a) 1) (.at (e4 _ _ hi)) (e_tup (a_consD (v := V.str y) (e_var 6) (a_consD (v := V.str z) (e_var 7) a_nil)) (fun xs _ w => by rw [show xs = _ from w]; exact (by decide : 2 ≤ 100000)) fun xs c H9 e9 w hc => ?_) fun t9 H9 e9 h9 => fun H' e => ⟨t9, rfl, e _ _ h9, hX2 ((e4.trans e9).trans e), ⟨nmy, nmz, hyz⟩, hy, hz, hnew, by show x.ls.length < 60; omega⟩)
    (a_cons (P := RTold (x.ns, x.ls ++ [(y, z)])) (e_call FT (rr.mono (by decide)) (a_cons (P := is (V.ref a)) (e_var 4) (a_cons (P := fun v H' => ∃ (c : Addr) (zs : List V), v = .ref c ∧ H' c = some (.lst (ts.map V.ref ++ zs)) ∧ ∃ t, zs = [V.ref t] ∧ H' t = some (.tup [.str y, .str z])) (e_catH (Cm.imp (e_var (v := V.ref b) 5) fun v H' e w => ⟨b, w, (e4.trans e) _ _ hb⟩) (e_lst (a_cons (P := pr (y, z)) (e_pair (e_var (v := V.str y) 6) (e_var (v := V.str z) 7)) a_nil) (fun xs _ w => ?_) fun xs c H9 e9 w hc => ?_) (fun zs _ w => ?_) (fun zs H1 H2 e w => ?_)) a_nil)) fun vs H6 e6 p6 => ?_) a_nil)) (fun xs _ w => ?_) fun xs c9 H9 e9 w hc9 => ?_) fun v Hn H2 g p => rt v _ _ ((G3.trans g4).trans g) p
  · rw [show xs = _ from w.now] at hc
    exact fun H' e' => ⟨c, rfl, e' _ _ hc⟩
  · obtain ⟨_, _, rfl, _, rfl⟩ := w
    exact (by decide : 1 ≤ 100000)
  · obtain ⟨_, _, rfl, ⟨t, rfl, ht⟩, rfl⟩ := w.now
    exact fun H' e' => ⟨c, _, rfl, e' _ _ hc, t, rfl, e' _ _ ht⟩
  · obtain ⟨t, rfl, _⟩ := w
    rw [List.length_map, l2]
    show x.ls.length + 1 ≤ 100000
    omega
  · obtain ⟨t, rfl, ht⟩ := w
    exact ⟨t, rfl, e _ _ ht⟩
  · obtain ⟨_, _, rfl, rfl, _, _, rfl, ⟨c, _, rfl, hc, t9, rfl, ht9⟩, rfl⟩ := p6.now
    refine ⟨(x.ns, x.ls ++ [(y, z)]), fun H' e => ⟨a, c, ts ++ [t9], rfl, SqL.of ((e4.trans (e6.trans e)) _ _ ha), SqL.of (by rw [List.map_append]; exact e _ _ hc), ts_snoc (e _ _ ht9) (paired_ex (e4.trans (e6.trans e)) hts), by show x.ns.length ≤ 60; omega, by show (x.ls ++ [(y, z)]).length ≤ 60; rw [List.length_append]; show x.ls.length + 1 ≤ 60; omega⟩, fun v H' e z => z⟩
  · obtain ⟨_, _, rfl, _, _, _, rfl, _, rfl⟩ := w
    exact (by decide : 2 ≤ 100000)
  · obtain ⟨_, _, rfl, ⟨aa, ls, rfl, hN, hpm, ntl⟩, _, _, rfl, ⟨dd, ns', ls', rfl, hdd, T⟩, rfl⟩ := w.now
    have T : Told x.ns (x.ls ++ [(y, z)]) ns' ls' := T
    have hpm : ls.Perm (x.ls ++ [lk (y, z)]) := hpm
    have hN : NetAt C aa x.ns ls H9 := hN
    have ntl : Nt x.ns ls := ntl
    obtain ⟨c1, c2⟩ := told_uniq T ntl (fun _ => Iff.rfl) fun q => by
      rw [hpm.mem_iff, List.mem_append, List.mem_singleton]
      constructor
      · rintro (h | rfl)
        · exact ⟨q, List.mem_append_left _ h, lk_lk (nt.lk q h).2.2⟩
        · exact ⟨_, List.mem_append_right _ (List.mem_singleton.mpr rfl), rfl⟩
      · rintro ⟨p, hp, rfl⟩
        rcases List.mem_append.mp hp with h | h
        · rw [lk_lk (nt.lk p h).2.2]; exact .inl h
        · rw [List.mem_singleton.mp h]; exact .inr rfl
    subst c1 c2
    exact fun H' e => ⟨c9, aa, dd, _, _, rfl, e _ _ hc9, hN.ex e, hdd.ex e, ntl, Nat.le_add_right _ _, by rw [hpm.length_eq, List.length_append]; show x.ls.length + 1 ≤ x.ls.length + 4; omega⟩
end
end K19
set_option Elab.async false
set_option linter.all false
set_option maxRecDepth 100000
set_option maxHeartbeats 2000000
namespace LW
open PySem L2
section
variable {X : Cx} {σ : L2.St} {H : Hp} {i : Expr} {pos p1 : Pos} {v : V} {j : Nat}
theorem t_isN (h : Cm H (is v) (wE X i σ)) : Cm H (is (decide (v = .non))) (wT X (.Compare i [.Is] [.Constant .none j p1] pos) σ) :=
  ct (pt_cmp (pc_isN pe_w)) (cm1D (u := fun v Hc Q => ∃ c, v = .bl c ∧ Q c Hc) (cm1D (u := fun x H1 (Q : VK) => Q (.bl (decide (x = .non))) H1) (x := v) h (Cm.ret (v := V.bl (decide (v = .non))) (fun _ _ _ q => q) (.const rfl))) (Cm.ret (fun _ _ _ q => ⟨_, rfl, q⟩) (.const rfl)))
end
end LW
namespace K19
open PySem L2 LW
abbrev sRt : Stmt := top 63
section
variable {P : Program} {w : World} {K : PySem.W.Frag} {mg : Str → Option Value} {base : Heap} {f fi C : Addr} {fd : FuncData}
abbrev nRt : List Str := ["_law_pot_here", "_law_model", "_law_made", "_law_turn", "_law_before", "_law_kept"]
theorem scRt : FnScope nRt ["_law_pot_here"] (defScope sRt) := ⟨rfl, rfl, rfl, by decide +kernel, rfl, by decide +kernel, by decide +kernel⟩
def APt3 : Addr → List V → Hp → Prop := fun p vs H => vs = [.ref p] ∧ H p = some (PotO p)
theorem b_lright (B : Blt K mg) (BL : BltL mg) (F : NetF K mg C) (M : MkN P w K mg base C fi) (FE : Opx P w K mg base C "__eq__" 1 (AEq C) REq) (nb : NeBy K C) (FA : Fn P w K mg base "_law_any" 3 AAny RAny) (FN : Fn P w K mg base "_law_net" 7 ALNet (RLNet C)) (FU : Fn P w K mg base "_law_turned" 3 (ATurn K) RTurn)
    (FI : Gn P w K mg base "_law_is" 7 (ALIs C) RTrue) (FS : Gn P w K mg base "_law_step" 10 (AStp C fun x => x.ns.length ≤ 40 ∧ x.ls.length ≤ 56) (RStB C)) :
    BodyG P w K mg base nRt "_law_right" sRt f 10 APt3 RTrue := by
  intro cdv Ar outer s H0 E p vs H Hc D hr ex pa rt nx
  obtain ⟨rfl, hp⟩ := pa.now
  have rr := hr.r
  have hu : (fx P w K mg base nRt "_law_right" sRt f cdv Ar outer s H0 E).A.units + 65 < cLine := by have := rr.un; omega
  refine b_set 1 ex (P := RAny (p, 8, 10)) (e_callD (p, 8, 10) FA (rr.mono (by decide)) (a_consD (v := V.ref p) (e_var 0) (a_consD (v := V.int 8) e_int (a_consD (v := V.int 10) e_int a_nil))) fun H' e => ⟨rfl, e _ _ hp, by show 1 ≤ 8; decide, by show 8 ≤ 50; decide, by show 10 ≤ 50; decide⟩) (fun v H1 Hc1 g1 p1 => ?_) scRt.nd
  obtain ⟨d, ns, ls, rfl, hd, nt, l1, l2, _⟩ := p1.now
  have l1 : ns.length ≤ 8 := l1
  have l2 : ls.length ≤ 10 := l2
  refine b_set 2 g1.s (P := RLNet C (p, ⟨d, ns, ls⟩)) (e_callD (p, ⟨d, ns, ls⟩) FN (rr.mono (by decide)) (a_consD (v := V.ref p) (e_var 0) (a_consD (v := V.ref d) (e_var 1) a_nil)) fun H' e => ⟨rfl, (g1.k.trans e) _ _ hp, ⟨hd.ex e, nt⟩⟩) (fun v H2 Hc2 g2 p2 => ?_) scRt.nd
  obtain ⟨a, rfl, hN⟩ := p2.now
  have hN : NetAt C a ns ls H2 := hN
  have G2 := g1.trans g2
  refine b_for (H := H2) (g := gName 3) g2.s PassesOwn.never rfl (pi_range1 rfl BL.range pa_w) (i_rng1 (n := 12) (a_consD e_int a_nil) (by decide) (by decide)) (pg_name (i := 3) scRt.nd rfl (.inl rfl)) fun Hn H3 g3 => ?_
  refine ⟨fun i σ1 H4 Hc4 => ∃ (a d : Addr) (ns : List Str) (ls : List (Str × Str)) (u3 u4 u5 : Option V), σ1 = [some (.ref p), some (.ref d), some (.ref a), u3, u4, u5] ∧ NetAt C a ns ls H4 ∧ MdlAt d ns ls H4 ∧ Nt ns ls ∧ ns.length ≤ 8 + 2 * i ∧ ls.length ≤ 10 + 4 * i ∧ Grow H Hc H4 Hc4,
    ⟨a, d, ns, ls, none, none, none, rfl, hN.ex g3.k, hd.ex (g2.k.trans g3.k), nt, by omega, by omega, G2.trans g3⟩, ?_, ?_⟩
  · rintro i σ1 H4 Hc4 hi e4 e5 ⟨a, d, ns, ls, u3, u4, u5, rfl, hN, hd, nt, b1, b2, g4⟩ y H5 Hc5 g5 py
    have hi : i < 12 := hi
    refine b_par 4 5 g5.s rfl scRt.nd (Pa := is [V.ref a, V.ref d]) (a_consD (v := V.ref a) (e_var 2) (a_consD (v := V.ref d) (e_var 1) a_nil)) (fun vs _ z => ⟨_, _, z⟩) (fun v v2 H6 Hc6 g6 p6 => ?_)
    have ev : [v, v2] = [V.ref a, V.ref d] := p6.now
    injection ev with ev1 ev
    injection ev with ev2 _
    subst ev1 ev2
    have e6 := g5.k.trans g6.k
    have G6 := (g4.trans g5).trans g6
    have hN6 := hN.ex e6
    have hd6 := hd.ex e6
    refine b_asg (g := gTup K 2 (gCons (gName 2) (gCons (gName 1) gNil))) (P := RStB C ⟨p, ⟨a, ns, ls⟩, d⟩) g6.s (e_callGD (⟨p, ⟨a, ns, ls⟩, d⟩ : StIn) FS hr (a_consD (v := V.ref p) (e_var 0) (a_consD (v := V.ref a) (e_var 2) (a_consD (v := V.ref d) (e_var 1) a_nil))) fun H' e => ⟨rfl, (G6.k.trans e) _ _ hp, ⟨hN6.ex e, nt⟩, hd6.ex e, by show ns.length ≤ 40; omega, by show ls.length ≤ 56; omega⟩) (pg_tup rfl (pgs_cons (pg_name (i := 2) scRt.nd rfl (.inl rfl)) (pgs_cons (pg_name (i := 1) scRt.nd rfl (.inl rfl)) pgs_nil))) fun v H7 Hc7 g7 p7 => ?_
    obtain ⟨t, a2, d2, ns2, ls2, rfl, ht, hN2, hd2, nt2, c1, c2⟩ := p7.now
    have c1 : ns2.length ≤ ns.length + 2 := c1
    have c2 : ls2.length ≤ ls.length + 4 := c2
    refine bind_two (K := K) (.sqt (SqT.of ht)) Hc7 g7.s _ ?_
    have G7 := G6.trans g7
    have hN7 := hN6.ex g7.k
    have hd7 := hd6.ex g7.k
    refine b_ifF g7.s (t_w (w_or (k := false) (k' := false) (t_is (t_isN (e_var (v := V.ref a2) 2)) (by rfl)) fun _ => w_or (k := false) (k' := false) (t_not (k := true) (t_val (e_callGD (⟨a2, ns2, ls2⟩, d2) FI (hr.mono (by decide)) (a_consD (v := V.ref a2) (e_var 2) (a_consD (v := V.ref d2) (e_var 1) a_nil)) fun H' e => ⟨rfl, ⟨hN2.ex e, nt2⟩, hd2.ex e⟩))) fun _ => w_or1 (t_not (k := true) (t_val (e_callGD (⟨a, ns, ls⟩, d) FI (hr.mono (by decide)) (a_consD (v := V.ref a) (e_var 4) (a_consD (v := V.ref d) (e_var 5) a_nil)) fun H' e => ⟨rfl, ⟨hN7.ex e, nt⟩, hd7.ex e⟩))))) fun H8 Hc8 g8 => b_nil ?_
    have G8 := G7.trans g8
    have hN8 := hN7.ex g8.k
    have hd8 := hd7.ex g8.k
    have hN28 := hN2.ex g8.k
    have hd28 := hd2.ex g8.k
    obtain ⟨dx, fs, hi1, _⟩ := hN8.ins
    obtain ⟨dy, gs, hi2, _⟩ := hN28.ins
    obtain ⟨as, bs, ts, m1, m2, m3, m4⟩ := id hd8
    obtain ⟨as2, bs2, ts2, n1, n2, n3, n4⟩ := id hd28
    have lt2 := nt2.len
    have ll2 := nt2.ll
    refine b_ifF g8.s (t_w (w_or (k := false) (k' := false) (t_is (t_neOX (c := true) (Po := NetR C ns2 ls2) FE nb (rr.mono (by decide)) (e_var (v := V.ref a2) 2) (e_make M.cl F.mgN M.init (rr.mono (by decide)) (a_cons (P := is (V.ref as2)) (e_sp (hu_of rr) n1 (e_var (v := V.ref d2) 1)) (a_cons (P := RTurn (p, ls2)) (e_callD (p, ls2) FU (rr.mono (by decide)) (a_consD (v := V.ref p) (e_var 0) (a_consD (v := V.ref bs2) (e_pp (hu_of rr) n1 (e_var (v := V.ref d2) 1)) a_nil)) fun H' e => ⟨bs2, ts2, rfl, (G8.k.trans e) _ _ hp, SqL.of (e _ _ n3), paired_ex e n4, by show ls2.length ≤ 200; omega⟩) a_nil)) fun vs H1 e1 p1 => ?_) (.at hi2) fun v H1 e1 z => ?_) (by rfl)) fun _ => w_or1 (t_is (t_cmpD op_ne (by rfl) (e_eqO (c := decide (ns2 = ns ∧ ls2 = ls)) (y := ((⟨a2, ns2, ls2⟩ : NetV), (⟨a, ns, ls⟩ : NetV))) FE (rr.mono (by decide)) (e_var (v := V.ref a2) 2) (e_var (v := V.ref a) 4) (.at hi2) (.at hi1) (fun H' e => ⟨rfl, ⟨hN28.ex e, nt2⟩, ⟨hN8.ex e, nt⟩⟩) fun v H' z => z)
      (e_cmpD (x := V.ref d2) (y := V.ref d) (P := is (V.bl (decide (ns2 = ns) && decide (ls2 = ls)))) (op_eqKD hu) (by rfl) (e_var (v := V.ref d2) 1) (e_var (v := V.ref d) 5) (Cm.ret (fun Hc ex Q q => ⟨d2, d, .inr "spots", .inr "pairs", .ref as2, .ref bs2, .ref as, .ref bs, .list (ns2.map PyData.str), .list (ls2.map dPr), .list (ns.map PyData.str), .list (ls.map dPr), rfl, rfl, ex _ _ n1, ex _ _ m1, by decide, ⟨.lst (SqL.of (ex _ _ n2)) (dp_txts _), .lst (SqL.of (ex _ _ m2)) (dp_txts _), sh_txts nt2.nm, sh_txts nt.nm⟩, ⟨.lst (SqL.of (ex _ _ n3)) (dp_prs (paired_ex ex n4)), .lst (SqL.of (ex _ _ m3)) (dp_prs (paired_ex ex m4)), sh_prs nt2.nml, sh_prs nt.nml⟩, by
        rw [PyData.eqv, PyData.eqv, eqv_txts, eqv_prs]; exact q⟩) (.const rfl)))
      (r_ne (x := V.bl (decide (ns2 = ns ∧ ls2 = ls))) (y := V.bl (decide (ns2 = ns) && decide (ls2 = ls))) rfl)) ?_))) fun H9 Hc9 g9 => b_nil (b_nil ?_)
    · obtain ⟨_, _, rfl, rfl, _, _, rfl, ⟨b9, us, qs, rs, rfl, hd9, hu9, hq, hrs, hw⟩, rfl⟩ := p1.now
      have hq : qs.Perm ls2 := hq
      have hw : ∀ r ∈ rs, ∃ q ∈ ls2, Way q r := hw
      obtain ⟨z1, z2, z3⟩ := lk_way nt2 hq hrs hw
      have lr : rs.length = ls2.length := by have := z1.length_eq; rw [List.length_map] at this; exact this
      refine ⟨⟨true, ns2, true, rs⟩, fun H' e => ⟨as2, b9, us, rfl, SqL.of ((e1.trans e) _ _ n2), SqL.of (e _ _ hd9), paired_ex e hu9, ⟨⟨lt2, nt2.ne, nt2.nd, nt2.nm⟩, ⟨by rw [lr]; exact ll2, z2, z1.nodup_iff.mpr nt2.nl, z3⟩⟩⟩, fun v H2 e2 z => ?_⟩
      obtain ⟨a9, ns9, ls9, rfl, hN9, q1, q2, nt9⟩ := z
      have e1 : ns9 = ns2 := sortN_uniq nt9.sn nt2.sn q1
      have e2 : ls9 = ls2 := sortP_uniq nt9.sp nt2.sp (q2.trans z1)
      rw [e1, e2] at hN9
      exact ⟨a9, rfl, hN9⟩
    · obtain ⟨b9, rfl, hN9⟩ := z
      obtain ⟨dz, hs, hi9, _⟩ := hN9.ins
      exact ⟨b9, dz, hs, (⟨a2, ns2, ls2⟩, ⟨b9, ns2, ls2⟩), rfl, hi9, fun H' e => ⟨rfl, ⟨hN28.ex (e1.trans e), nt2⟩, ⟨hN9.ex e, nt2⟩⟩, fun v H' q => q.trans (congrArg V.bl (decide_eq_true ⟨rfl, rfl⟩))⟩
    · rw [Bool.decide_and]
      simp
    · exact ⟨H9, ((((e4.trans e6).trans g7.k).trans g8.k).trans g9.k), (G8.trans g9).s, a2, d2, ns2, ls2, _, _, _, rfl, hN28.ex g9.k, hd28.ex g9.k, nt2, by omega, by omega, G8.trans g9⟩
  · rintro σ1 H4 Hc4 e4 e5 ⟨a, d, ns, ls, u3, u4, u5, rfl, hN, hd, nt, b1, b2, g4⟩
    exact b_ret (P := is (V.bl true)) g4.s e_bl fun v Hn H2 g p => rt v _ _ (g4.trans g) p
end
end K19
set_option Elab.async false
set_option linter.all false
set_option maxRecDepth 100000
set_option maxHeartbeats 2000000
namespace LW
open PySem PySem.Spec PyProof.Rows L2
section
variable {P : Program} {w : World} {K : PySem.W.Frag} {mg : Str → Option Value} {base : Heap} {x qual : Str} {st : Stmt} {f : Addr} {fd : FuncData} {N : List Str} {k : Nat} {p1 pd : Str} {ks : List Str} {α : Type} {A : α → List V → Hp → Prop} {R : α → V → Hp → Prop}
/-- a method with a ** parameter, by its body -/
theorem kw_mk (F : L2.Fun K x qual st f fd) (S : FnScope N [p1, pd] (defScope st)) (nd : ks.Nodup) (hz : ks.length ≤ 1000)
    (hb : ∀ (kV doc pm : Value) (an : Option Addr) (cdv ct : Value) (a : Value) (ws : List Value), ws.length = ks.length → bindArgs (PySem.W.fnOf x qual (defArgs st) (defBody st) (defScope st) .none kV doc pm an cdv ct) ⟨[a], ks.zip ws⟩ =
      ((alloc ({ cls := .type "dict", data := .dict #[] } : Obj) : Sem Addr) >>= fun d => (forIn (ks.zip ws) PUnit.unit fun x _ => (nsSet d x.1 x.2 >>= fun _ => pure (ForInStep.yield PUnit.unit))) >>= fun _ => pure [(p1, a), (pd, Value.ref d)]))
    (b : Body P w K mg base N qual st f k A R) : FnKw P w K mg base (k + 1) f ks (SpF A R) := by
  obtain ⟨oc, od, kV, doc, pm, an, cdv, ct, osl, rfl, lk, hcd⟩ := F.ex
  exact fn_kw lk hcd S nd hz (hb kV doc pm an cdv ct) fun Ar outer s H vs Q E hr h => by
    obtain ⟨a, H1, e, p, q⟩ := h
    exact ⟨_, (pss_w (X := fx P w K mg base N qual st f cdv Ar outer s H E) (sts := defBody st)).nox, b cdv Ar outer s H E a vs H1 H { nx := fun _ H' => Q .non H', rt := Q } hr e p (fun v Hn H2 g r => q v Hn H2 g r) fun _ Hn H2 g r => q .non Hn H2 g r⟩
end
end LW
namespace K19
open PySem L2 LW
abbrev sLaw : Stmt := top 64
section
variable {P : Program} {w : World} {K : PySem.W.Frag} {mg : Str → Option Value} {base : Heap} {f fi C : Addr} {fd : FuncData}
/-! the law -/
abbrev nLaw : List Str := ["_law_script", "_law_k"]
theorem scLaw : FnScope nLaw ["_law_script"] (defScope sLaw) := ⟨rfl, rfl, rfl, by decide +kernel, rfl, by decide +kernel, by decide +kernel⟩
def ALaw (K : PySem.W.Frag) : List Int → List V → Hp → Prop := fun xs vs H => ∃ a, vs = [.ref a] ∧ SqL K H a (xs.map V.int) ∧ xs.length ≤ 63
theorem b_law (B : Blt K mg) (BL : BltL mg) (mn : mg "min" = none) (FP : Fn P w K mg base "_law_pot" 1 (APot K) RPot) (FR : Gn P w K mg base "_law_right" 11 APt3 RTrue) : BodyG P w K mg base nLaw "law" sLaw f 11 (ALaw K) RTrue := by
  intro cdv Ar outer s H0 E xs vs H Hc D hr ex pa rt nx
  obtain ⟨a, rfl, h1, hz⟩ := pa.now
  have hq := Pz.sql h1
  have l0 : (xs.map V.int).length = xs.length := List.length_map _
  obtain ⟨n, hn1, hn2⟩ : ∃ n : Nat, n ≤ 4 ∧ (if (if ((xs.map V.int).length : Int) < 4 then ((xs.map V.int).length : Int) else 4) > 1 then (if ((xs.map V.int).length : Int) < 4 then ((xs.map V.int).length : Int) else 4) else 1) = (n : Int) := by
    rw [l0]
    refine ⟨(if (if (xs.length : Int) < 4 then (xs.length : Int) else 4) > 1 then (if (xs.length : Int) < 4 then (xs.length : Int) else 4) else 1).toNat, ?_, ?_⟩ <;> split <;> (try split) <;> omega
  refine b_ret (P := is (V.bl true)) ex (t_is (e_all (bs := List.replicate n true) rfl B.all (e_lc (own := [("_law_k", 1)]) (g := gName 1) rfl scLaw.nd (pi_range1 rfl BL.range pa_w) (blkOk_by (N := nLaw) (sc := defScope sLaw) (by decide +kernel)) (fun _ _ _ _ _ => pg_name (i := 1) scLaw.nd rfl (.inl rfl)) (fun _ _ _ _ _ => pts_nil)
    (c_lc (i_rng1 (n := (n : Int)) (a_consD (t_is (e_bltD (call_max2 rfl) BL.max (a_consD e_int (a_consD (e_bltD (call_min2 rfl) mn (a_consD e_int (a_consD (e_len (xs := xs.map V.int) BL.len (e_var (v := V.ref a) 0) (hq.imp fun _ _ z => .inl z)) a_nil)) (Cm.ret (fun _ _ _ q => ⟨4, ((xs.map V.int).length : Int), rfl, q⟩) (.const rfl))) a_nil)) (Cm.ret (fun _ _ _ q => ⟨1, _, rfl, q⟩) (.const rfl))) (by rw [← hn2])) a_nil) (by omega) (by omega)) (by omega) (fun i acc _ => acc = (List.replicate i true).map V.bl) (fun _ => rfl) (fun i y acc H9 hi e9 py pacc => ?_) fun acc q H9 e9 pacc hq => ?_))) (by congr 1; exact List.all_eq_true.mpr fun b hb => List.eq_of_mem_replicate hb)) fun v Hn H2 g q => rt v _ _ g q
  · have hi : i < n := by simpa using hi
    obtain rfl : y = V.int (0 + (i : Int)) := py.now
    refine ⟨_, true, bind_name, rfl, c_yes, fun _ => c_eb fun s H0 C cl fp => ?_, fun q => nomatch q⟩
    refine Cm.imp (e_callG (P := is (V.bl true)) FR hr (a_cons (e_callD (xs, (i : Int)) FP (hr.r.mono (by decide)) (a_consD (e_var (v := V.ref a) 0) (a_consD (t_is (e_var (v := V.int (0 + (i : Int))) 1) (by rw [Int.zero_add])) a_nil)) (fun H' e => ⟨a, rfl, hq H' (e9.trans e), by exact Int.natCast_nonneg i, by show (i : Int) < 10; omega⟩)) a_nil) fun vs H1 e1 z => ?_) fun v H' _ z => ?_
    · obtain ⟨_, _, rfl, ⟨p, rfl, hp⟩, rfl⟩ := z.now
      exact ⟨p, fun H' e => ⟨rfl, e _ _ hp⟩, fun _ _ _ q => q⟩
    · have ea : acc = (List.replicate i true).map V.bl := pacc.now
      rw [ea, show v = V.bl true from z, List.replicate_succ', List.map_append] <;> rfl
  · have ea : acc = (List.replicate (Int.toNat (n : Int)) true).map V.bl := pacc.now
    rw [Int.toNat_natCast] at ea
    subst ea
    exact fun H' e' => ⟨q, rfl, SqL.of (e' _ _ hq)⟩
end
end K19
set_option Elab.async false
set_option linter.all false
set_option maxRecDepth 100000
set_option maxHeartbeats 4000000
namespace K19
open PySem PySem.Spec PyProof.Rows L2 LW He
section
variable {P : Program} {w : World} {K : PySem.W.Frag} {mg : Str → Option Value} {base : Heap}
theorem fn_mk {α : Type} {A : α → List V → Hp → Prop} {R : α → V → Hp → Prop} {x qual n : Str} {st : Stmt} {f : Addr} {fd : FuncData} {N ps : List Str} {k : Nat} (F : L2.Fun K x qual st f fd) (S : FnScope N ps (defScope st)) (hb : Binds K fd ps []) (len : ∀ a vs H, A a vs H → vs.length = ps.length) (b : Body P w K mg base N qual st f k A R)
    (hm : mg n = some (.ref f)) : Fn P w K mg base n (k + 1) A R := ⟨f, hm, F.kp, raw_of (ok_of F S len b) hb⟩
theorem gn_mk {α : Type} {A : α → List V → Hp → Prop} {R : α → V → Hp → Prop} {x qual n : Str} {st : Stmt} {f : Addr} {fd : FuncData} {N ps : List Str} {k : Nat} (F : L2.Fun K x qual st f fd) (S : FnScope N ps (defScope st)) (hb : Binds K fd ps []) (len : ∀ a vs H, A a vs H → vs.length = ps.length) (b : BodyG P w K mg base N qual st f k A R)
    (hm : mg n = some (.ref f)) : Gn P w K mg base n (k + 1) A R := ⟨f, hm, F.kp, okG_of F S hb len b⟩
theorem binds_init {fd : FuncData} {f : Addr} {dvs : List V} (hd : dvs.length = 1) (F : FunD K "__init__" "Net.__init__" (defArgs sInit) (defBody sInit) (defScope sInit) dvs [] f fd) : Binds K fd ["self", "nodes", "links"] [] := by
  obtain ⟨ds, hv, hb⟩ := F.binds1 (ps := ["self", "nodes", "links"]) 3 1 (by rintro rfl; cases hd) (by rw [hd]; rfl) fun T kV doc pm an cdv ct us its hu hi => by
    rw [hd] at hi
    match us, its, hu, hi with
    | [_, _, _], [_], _, _ => exact ⟨_, rfl, rfl⟩
  have e : dvs.drop 1 = [] := List.drop_eq_nil_of_le (by omega)
  rw [e] at hv
  cases hv
  exact hb
theorem law_facts {h : Heap} (X : K.In h) (G : h.Ns mainGlobals mg) (c : SaysY fa [dI] ds ex K) : FnG P w K mg base 12 (atG "law" K) (SpF (ALaw K) RTrue) := by
  obtain ⟨xe, _⟩ := c.two
  obtain ⟨fd_is_name, F_is_name⟩ := c.def_ 0 (d := ⟨atG "is_name", "is_name", "is_name", top 20⟩) rfl
  obtain ⟨fd_is_link, F_is_link⟩ := c.def_ 1 (d := ⟨atG "is_link", "is_link", "is_link", top 21⟩) rfl
  obtain ⟨fd_link_of, F_link_of⟩ := c.def_ 2 (d := ⟨atG "link_of", "link_of", "link_of", top 22⟩) rfl
  obtain ⟨fd_sorted_names, F_sorted_names⟩ := c.def_ 3 (d := ⟨atG "sorted_names", "sorted_names", "sorted_names", top 24⟩) rfl
  obtain ⟨fd_sorted_links, F_sorted_links⟩ := c.def_ 4 (d := ⟨atG "sorted_links", "sorted_links", "sorted_links", top 25⟩) rfl
  obtain ⟨fd_is_list, F_is_list⟩ := c.def_ 5 (d := ⟨atG "is_list", "is_list", "is_list", top 27⟩) rfl
  obtain ⟨fd_check_nodes, F_check_nodes⟩ := c.def_ 6 (d := ⟨atG "check_nodes", "check_nodes", "check_nodes", top 28⟩) rfl
  obtain ⟨fd_joins_known, F_joins_known⟩ := c.def_ 7 (d := ⟨atG "joins_known", "joins_known", "joins_known", top 29⟩) rfl
  obtain ⟨fd_checked_links, F_checked_links⟩ := c.def_ 8 (d := ⟨atG "checked_links", "checked_links", "checked_links", top 30⟩) rfl
  obtain ⟨fd_neighbour_table, F_neighbour_table⟩ := c.def_ 9 (d := ⟨atG "neighbour_table", "neighbour_table", "neighbour_table", top 32⟩) rfl
  obtain ⟨fd_joined_to, F_joined_to⟩ := c.def_ 10 (d := ⟨atG "joined_to", "joined_to", "joined_to", top 33⟩) rfl
  obtain ⟨fd_need_net, F_need_net⟩ := c.def_ 11 (d := ⟨atG "need_net", "need_net", "need_net", top 35⟩) rfl
  obtain ⟨fd_is_node, F_is_node⟩ := c.def_ 12 (d := ⟨atG "is_node", "is_node", "is_node", top 36⟩) rfl
  obtain ⟨fd_need_node, F_need_node⟩ := c.def_ 13 (d := ⟨atG "need_node", "need_node", "need_node", top 37⟩) rfl
  obtain ⟨fd_need_link, F_need_link⟩ := c.def_ 14 (d := ⟨atG "need_link", "need_link", "need_link", top 38⟩) rfl
  obtain ⟨fd__law_pot, F__law_pot⟩ := c.def_ 15 (d := ⟨atG "_law_pot", "_law_pot", "_law_pot", top 40⟩) rfl
  obtain ⟨fd__law_draw, F__law_draw⟩ := c.def_ 16 (d := ⟨atG "_law_draw", "_law_draw", "_law_draw", top 41⟩) rfl
  obtain ⟨fd__law_pick, F__law_pick⟩ := c.def_ 17 (d := ⟨atG "_law_pick", "_law_pick", "_law_pick", top 42⟩) rfl
  obtain ⟨fd__law_mixed, F__law_mixed⟩ := c.def_ 18 (d := ⟨atG "_law_mixed", "_law_mixed", "_law_mixed", top 43⟩) rfl
  obtain ⟨fd__law_named, F__law_named⟩ := c.def_ 19 (d := ⟨atG "_law_named", "_law_named", "_law_named", top 44⟩) rfl
  obtain ⟨fd__law_link, F__law_link⟩ := c.def_ 20 (d := ⟨atG "_law_link", "_law_link", "_law_link", top 45⟩) rfl
  obtain ⟨fd__law_any, F__law_any⟩ := c.def_ 21 (d := ⟨atG "_law_any", "_law_any", "_law_any", top 46⟩) rfl
  obtain ⟨fd__law_turned, F__law_turned⟩ := c.def_ 22 (d := ⟨atG "_law_turned", "_law_turned", "_law_turned", top 47⟩) rfl
  obtain ⟨fd__law_net, F__law_net⟩ := c.def_ 23 (d := ⟨atG "_law_net", "_law_net", "_law_net", top 48⟩) rfl
  obtain ⟨fd__law_near, F__law_near⟩ := c.def_ 24 (d := ⟨atG "_law_near", "_law_near", "_law_near", top 49⟩) rfl
  obtain ⟨fd__law_piece, F__law_piece⟩ := c.def_ 25 (d := ⟨atG "_law_piece", "_law_piece", "_law_piece", top 50⟩) rfl
  obtain ⟨fd__law_pieces, F__law_pieces⟩ := c.def_ 26 (d := ⟨atG "_law_pieces", "_law_pieces", "_law_pieces", top 51⟩) rfl
  obtain ⟨fd__law_is, F__law_is⟩ := c.def_ 27 (d := ⟨atG "_law_is", "_law_is", "_law_is", top 52⟩) rfl
  obtain ⟨fd__law_told_model, F__law_told_model⟩ := c.def_ 28 (d := ⟨atG "_law_told_model", "_law_told_model", "_law_told_model", top 53⟩) rfl
  obtain ⟨fd__law_less, F__law_less⟩ := c.def_ 29 (d := ⟨atG "_law_less", "_law_less", "_law_less", top 54⟩) rfl
  obtain ⟨fd__law_without, F__law_without⟩ := c.def_ 30 (d := ⟨atG "_law_without", "_law_without", "_law_without", top 55⟩) rfl
  obtain ⟨fd__law_together, F__law_together⟩ := c.def_ 31 (d := ⟨atG "_law_together", "_law_together", "_law_together", top 56⟩) rfl
  obtain ⟨fd__law_at, F__law_at⟩ := c.def_ 32 (d := ⟨atG "_law_at", "_law_at", "_law_at", top 57⟩) rfl
  obtain ⟨fd__law_beside, F__law_beside⟩ := c.def_ 33 (d := ⟨atG "_law_beside", "_law_beside", "_law_beside", top 58⟩) rfl
  obtain ⟨fd__law_both, F__law_both⟩ := c.def_ 34 (d := ⟨atG "_law_both", "_law_both", "_law_both", top 59⟩) rfl
  obtain ⟨fd__law_renamed, F__law_renamed⟩ := c.def_ 35 (d := ⟨atG "_law_renamed", "_law_renamed", "_law_renamed", top 60⟩) rfl
  obtain ⟨fd__law_moved, F__law_moved⟩ := c.def_ 36 (d := ⟨atG "_law_moved", "_law_moved", "_law_moved", top 61⟩) rfl
  obtain ⟨fd__law_step, F__law_step⟩ := c.def_ 37 (d := ⟨atG "_law_step", "_law_step", "_law_step", top 62⟩) rfl
  obtain ⟨fd__law_right, F__law_right⟩ := c.def_ 38 (d := ⟨atG "_law_right", "_law_right", "_law_right", top 63⟩) rfl
  obtain ⟨fd_law, F_law⟩ := c.def_ 39 (d := ⟨atG "law", "law", "law", top 64⟩) rfl
  obtain ⟨fd_nodes, F_nodes⟩ := c.def_ 40 (d := ⟨atM "Net" "nodes", "nodes", "Net.nodes", inClass sNet 7⟩) rfl
  obtain ⟨fd_links, F_links⟩ := c.def_ 41 (d := ⟨atM "Net" "links", "links", "Net.links", inClass sNet 8⟩) rfl
  obtain ⟨fd_size, F_size⟩ := c.def_ 42 (d := ⟨atR "property" "Net" "size", "size", "Net.size", inClass sNet 9⟩) rfl
  obtain ⟨fd___len__, F___len__⟩ := c.def_ 43 (d := ⟨atM "Net" "__len__", "__len__", "Net.__len__", inClass sNet 10⟩) rfl
  obtain ⟨fd_neighbours, F_neighbours⟩ := c.def_ 44 (d := ⟨atM "Net" "neighbours", "neighbours", "Net.neighbours", inClass sNet 11⟩) rfl
  obtain ⟨fd_pieces, F_pieces⟩ := c.def_ 45 (d := ⟨atM "Net" "pieces", "pieces", "Net.pieces", inClass sNet 12⟩) rfl
  obtain ⟨fd_without, F_without⟩ := c.def_ 46 (d := ⟨atM "Net" "without", "without", "Net.without", inClass sNet 14⟩) rfl
  obtain ⟨fd_drawn_together, F_drawn_together⟩ := c.def_ 47 (d := ⟨atM "Net" "drawn_together", "drawn_together", "Net.drawn_together", inClass sNet 15⟩) rfl
  obtain ⟨fd_renamed, F_renamed⟩ := c.def_ 48 (d := ⟨atM "Net" "renamed", "renamed", "Net.renamed", inClass sNet 16⟩) rfl
  obtain ⟨fd___add__, F___add__⟩ := c.def_ 49 (d := ⟨atM "Net" "__add__", "__add__", "Net.__add__", inClass sNet 17⟩) rfl
  obtain ⟨fd___sub__, F___sub__⟩ := c.def_ 50 (d := ⟨atM "Net" "__sub__", "__sub__", "Net.__sub__", inClass sNet 18⟩) rfl
  obtain ⟨fd___or__, F___or__⟩ := c.def_ 51 (d := ⟨atM "Net" "__or__", "__or__", "Net.__or__", inClass sNet 19⟩) rfl
  obtain ⟨fd___and__, F___and__⟩ := c.def_ 52 (d := ⟨atM "Net" "__and__", "__and__", "Net.__and__", inClass sNet 20⟩) rfl
  obtain ⟨fd___contains__, F___contains__⟩ := c.def_ 53 (d := ⟨atM "Net" "__contains__", "__contains__", "Net.__contains__", inClass sNet 22⟩) rfl
  obtain ⟨fd___eq__, F___eq__⟩ := c.def_ 54 (d := ⟨atM "Net" "__eq__", "__eq__", "Net.__eq__", inClass sNet 23⟩) rfl
  obtain ⟨fd___repr__, F___repr__⟩ := c.def_ 55 (d := ⟨atM "Net" "__repr__", "__repr__", "Net.__repr__", inClass sNet 24⟩) rfl
  obtain ⟨fd_init, F_init⟩ := c.d.def_ 0 (d := dI) rfl
  unfold ex at xe
  simp only [Bool.and_eq_true] at xe
  obtain ⟨x1, x2, x3, x4, x5, x6, x7, x8, x9, x10, x11, x12, x13, x14, x15, x16, x17, x18, x19, x20⟩ := xe
  have B : Blt K mg := ⟨(free_ok X G (c.fact 41 (f := .free "isinstance") rfl)), (free_ok X G (c.fact 42 (f := .free "len") rfl)), (free_ok X G (c.fact 43 (f := .free "all") rfl)), (free_ok X G (c.fact 44 (f := .free "str") rfl)), (free_ok X G (c.fact 45 (f := .free "tuple") rfl)), (free_ok X G (c.fact 46 (f := .free "list") rfl)), (free_ok X G (c.fact 47 (f := .free "sorted") rfl)), (free_ok X G (c.fact 48 (f := .free "enumerate") rfl)), (free_ok X G (c.fact 49 (f := .free "range") rfl)), str_ok X G (c.fact 59 (f := .str "LETTERS" "abcdefghijklmnopqrstuvwxyz") rfl), int_ok X G (c.fact 60 (f := .int "LONGEST_NAME" 8) rfl)⟩
  have BL : BltL mg := ⟨(free_ok X G (c.fact 50 (f := .free "divmod") rfl)), (free_ok X G (c.fact 51 (f := .free "int") rfl)), (free_ok X G (c.fact 52 (f := .free "max") rfl)), (free_ok X G (c.fact 53 (f := .free "abs") rfl)), (free_ok X G (c.fact 42 (f := .free "len") rfl)), (free_ok X G (c.fact 49 (f := .free "range") rfl))⟩
  obtain ⟨u1, c1⟩ := numB_ok x15
  obtain ⟨u2, c2⟩ := numB_ok x16
  have CR : ClX.CRead K (ga K "Net") (.type "type") := ⟨x13, eqO_ok x14⟩
  have F : NetF K mg (ga K "Net") := ⟨(glo_ok X G (c.fact 40 (f := .glo "Net") rfl)), cls_ok (c.fact 61 (f := .cls "Net") rfl), noat_ok (c.fact 63 (f := .noat "Net" "_nodes") rfl), noat_ok (c.fact 64 (f := .noat "Net" "_links") rfl), noat_ok (c.fact 65 (f := .noat "Net" "_near") rfl), ⟨_, _, _, CR, c1, c2⟩⟩
  have T : NetTy K (ga K "Net") := ⟨eqO_ok x1, eqO_ok x2, opB_ok x3, opB_ok x4, opB_ok x5⟩
  have G_is_name := fn_mk (P := P) (w := w) (base := base) (n := "is_name") F_is_name scName (F_is_name.binds fun _ _ _ _ _ _ us hl => match us, hl with | [_], _ => rfl) (fun _ _ _ h => by obtain ⟨rfl, _⟩ := h; rfl) (b_name B) (glo_ok X G (c.fact 0 (f := .glo "is_name") rfl))
  have G_is_link := fn_mk (P := P) (w := w) (base := base) (n := "is_link") F_is_link scIsL (F_is_link.binds fun _ _ _ _ _ _ us hl => match us, hl with | [_], _ => rfl) (fun _ _ _ h => by obtain ⟨_, rfl, _⟩ := h; rfl) (b_isLink B G_is_name) (glo_ok X G (c.fact 1 (f := .glo "is_link") rfl))
  have GS_is_link := fn_mk (P := P) (w := w) (base := base) (n := "is_link") F_is_link scIsL (F_is_link.binds fun _ _ _ _ _ _ us hl => match us, hl with | [_], _ => rfl) (fun _ _ _ h => by obtain rfl := h; rfl) (b_isLinkS B) (glo_ok X G (c.fact 1 (f := .glo "is_link") rfl))
  have G_link_of := fn_mk (P := P) (w := w) (base := base) (n := "link_of") F_link_of scLkO (F_link_of.binds fun _ _ _ _ _ _ us hl => match us, hl with | [_, _], _ => rfl) (fun _ _ _ h => by obtain ⟨rfl, _⟩ := h; rfl) (b_linkOf B G_is_name) (glo_ok X G (c.fact 2 (f := .glo "link_of") rfl))
  have G_sorted_names := fn_mk (P := P) (w := w) (base := base) (n := "sorted_names") F_sorted_names scSortN (F_sorted_names.binds fun _ _ _ _ _ _ us hl => match us, hl with | [_], _ => rfl) (fun _ _ _ h => by obtain ⟨_, rfl, _⟩ := h; rfl) (b_sortN B) (glo_ok X G (c.fact 3 (f := .glo "sorted_names") rfl))
  have G_sorted_links := fn_mk (P := P) (w := w) (base := base) (n := "sorted_links") F_sorted_links scSortL (F_sorted_links.binds fun _ _ _ _ _ _ us hl => match us, hl with | [_], _ => rfl) (fun _ _ _ h => by obtain ⟨_, _, rfl, _⟩ := h; rfl) (b_sortL B) (glo_ok X G (c.fact 4 (f := .glo "sorted_links") rfl))
  have G_is_list := fn_mk (P := P) (w := w) (base := base) (n := "is_list") F_is_list scIsList (F_is_list.binds fun _ _ _ _ _ _ us hl => match us, hl with | [_], _ => rfl) (fun _ _ _ h => by obtain ⟨_, rfl, _⟩ := h; rfl) (b_isList B) (glo_ok X G (c.fact 5 (f := .glo "is_list") rfl))
  have G_check_nodes := fn_mk (P := P) (w := w) (base := base) (n := "check_nodes") F_check_nodes scChkN (F_check_nodes.binds fun _ _ _ _ _ _ us hl => match us, hl with | [_], _ => rfl) (fun _ _ _ h => by obtain ⟨_, rfl, _⟩ := h; rfl) (b_chkN B G_is_list G_is_name) (glo_ok X G (c.fact 6 (f := .glo "check_nodes") rfl))
  have G_joins_known := fn_mk (P := P) (w := w) (base := base) (n := "joins_known") F_joins_known scJoins (F_joins_known.binds fun _ _ _ _ _ _ us hl => match us, hl with | [_, _], _ => rfl) (fun _ _ _ h => by obtain ⟨_, _, rfl, _⟩ := h; rfl) (b_joins B G_is_link) (glo_ok X G (c.fact 7 (f := .glo "joins_known") rfl))
  have G_checked_links := fn_mk (P := P) (w := w) (base := base) (n := "checked_links") F_checked_links scChkL (F_checked_links.binds fun _ _ _ _ _ _ us hl => match us, hl with | [_, _], _ => rfl) (fun _ _ _ h => by obtain ⟨_, _, _, rfl, _⟩ := h; rfl) (b_chkL B G_is_list G_joins_known G_link_of G_sorted_links) (glo_ok X G (c.fact 8 (f := .glo "checked_links") rfl))
  have G_neighbour_table := fn_mk (P := P) (w := w) (base := base) (n := "neighbour_table") F_neighbour_table scNear (F_neighbour_table.binds fun _ _ _ _ _ _ us hl => match us, hl with | [_, _], _ => rfl) (fun _ _ _ h => by obtain ⟨_, _, _, rfl, _⟩ := h; rfl) (b_near) (glo_ok X G (c.fact 9 (f := .glo "neighbour_table") rfl))
  have G_joined_to := fn_mk (P := P) (w := w) (base := base) (n := "joined_to") F_joined_to scJo (F_joined_to.binds fun _ _ _ _ _ _ us hl => match us, hl with | [_, _], _ => rfl) (fun _ _ _ h => by obtain ⟨_, _, rfl, _⟩ := h; rfl) (b_joined B G_sorted_names) (glo_ok X G (c.fact 10 (f := .glo "joined_to") rfl))
  have M : MkN P w K mg base (ga K "Net") (ma K (ga K "Net") "__init__") := ⟨mkr_ok (c.fact 62 (f := .mkr "Net") rfl), init_of (defOk_of F_init scInit) (binds_init rfl F_init) (fun _ _ _ h => by obtain ⟨_, _, _, rfl, _⟩ := h; rfl) (b_init B F G_check_nodes G_checked_links G_sorted_names G_neighbour_table)⟩
  have O_nodes := ok_of (P := P) (w := w) (base := base) F_nodes scNodes (fun _ _ _ h => by obtain ⟨rfl, _⟩ := h; rfl) (b_nodes B F)
  have I_nodes : Binds K fd_nodes ["self"] [] := (F_nodes.binds fun _ _ _ _ _ _ us hl => match us, hl with | [_], _ => rfl)
  have O_links := ok_of (P := P) (w := w) (base := base) F_links scLinks (fun _ _ _ h => by obtain ⟨rfl, _⟩ := h; rfl) (b_links B F)
  have I_links : Binds K fd_links ["self"] [] := (F_links.binds fun _ _ _ _ _ _ us hl => match us, hl with | [_], _ => rfl)
  have O_size := ok_of (P := P) (w := w) (base := base) F_size scSize (fun _ _ _ h => by obtain ⟨rfl, _⟩ := h; rfl) (b_size B F)
  have I_size : Binds K fd_size ["self"] [] := (F_size.binds fun _ _ _ _ _ _ us hl => match us, hl with | [_], _ => rfl)
  have O___len__ := ok_of (P := P) (w := w) (base := base) F___len__ scLen (fun _ _ _ h => by obtain ⟨rfl, _⟩ := h; rfl) (b_len B F)
  have I___len__ : Binds K fd___len__ ["self"] [] := (F___len__.binds fun _ _ _ _ _ _ us hl => match us, hl with | [_], _ => rfl)
  have O___eq__ := ok_of (P := P) (w := w) (base := base) F___eq__ scEq (fun _ _ _ h => by obtain ⟨rfl, _⟩ := h; rfl) (b_eq B F T)
  have I___eq__ : Binds K fd___eq__ ["self", "other"] [] := (F___eq__.binds fun _ _ _ _ _ _ us hl => match us, hl with | [_, _], _ => rfl)
  have O___contains__ := ok_of (P := P) (w := w) (base := base) F___contains__ scCont (fun _ _ _ h => by obtain ⟨_, rfl, _⟩ := h; rfl) (b_cont B F G_is_link)
  have I___contains__ : Binds K fd___contains__ ["self", "x"] [] := (F___contains__.binds fun _ _ _ _ _ _ us hl => match us, hl with | [_, _], _ => rfl)
  have ON___contains__ := ok_of (P := P) (w := w) (base := base) F___contains__ scCont (fun _ _ _ h => by obtain ⟨rfl, _⟩ := h; rfl) (b_conN B F GS_is_link G_is_name)
  have OL___contains__ := ok_of (P := P) (w := w) (base := base) F___contains__ scCont (fun _ _ _ h => by obtain ⟨_, rfl, _⟩ := h; rfl) (b_conL B F G_is_link)
  have C_cont : Opx P w K mg base (ga K "Net") "__contains__" 3 (ACont (ga K "Net") K) RTrue := ⟨_, (let m := meth_ok (c.fact 79 (f := .meth "Net" "__contains__") rfl); (⟨m.1, m.2⟩ : HasOp K (ga K "Net") "__contains__" (atM "Net" "__contains__" K))), raw_of O___contains__ I___contains__⟩
  have C_conN : Opx P w K mg base (ga K "Net") "__contains__" 2 (AConN (ga K "Net")) RConN := ⟨_, (let m := meth_ok (c.fact 79 (f := .meth "Net" "__contains__") rfl); (⟨m.1, m.2⟩ : HasOp K (ga K "Net") "__contains__" (atM "Net" "__contains__" K))), raw_of ON___contains__ I___contains__⟩
  have C_conL : Opx P w K mg base (ga K "Net") "__contains__" 3 (AConL (ga K "Net") K) RConL := ⟨_, (let m := meth_ok (c.fact 79 (f := .meth "Net" "__contains__") rfl); (⟨m.1, m.2⟩ : HasOp K (ga K "Net") "__contains__" (atM "Net" "__contains__" K))), raw_of OL___contains__ I___contains__⟩
  have G_need_link := fn_mk (P := P) (w := w) (base := base) (n := "need_link") F_need_link scNeedL (F_need_link.binds fun _ _ _ _ _ _ us hl => match us, hl with | [_, _], _ => rfl) (fun _ _ _ h => by obtain ⟨_, rfl, _⟩ := h; rfl) (b_needL B G_is_link C_cont) (glo_ok X G (c.fact 14 (f := .glo "need_link") rfl))
  have G_need_net := fn_mk (P := P) (w := w) (base := base) (n := "need_net") F_need_net scNeedN (F_need_net.binds fun _ _ _ _ _ _ us hl => match us, hl with | [_], _ => rfl) (fun _ _ _ h => by obtain ⟨rfl, _⟩ := h; rfl) (b_needN B F T) (glo_ok X G (c.fact 11 (f := .glo "need_net") rfl))
  have G_is_node := fn_mk (P := P) (w := w) (base := base) (n := "is_node") F_is_node scIsNode (F_is_node.binds fun _ _ _ _ _ _ us hl => match us, hl with | [_, _], _ => rfl) (fun _ _ _ h => by obtain ⟨rfl, _⟩ := h; rfl) (b_isNode G_is_name C_conN) (glo_ok X G (c.fact 12 (f := .glo "is_node") rfl))
  have G_need_node := fn_mk (P := P) (w := w) (base := base) (n := "need_node") F_need_node scNeedNode (F_need_node.binds fun _ _ _ _ _ _ us hl => match us, hl with | [_, _], _ => rfl) (fun _ _ _ h => by obtain ⟨rfl, _⟩ := h; rfl) (b_needNode G_is_node) (glo_ok X G (c.fact 13 (f := .glo "need_node") rfl))
  have O_pieces := ok_of (P := P) (w := w) (base := base) F_pieces scPcs (fun _ _ _ h => by obtain ⟨rfl, _⟩ := h; rfl) (b_pieces F G_joined_to)
  have I_pieces : Binds K fd_pieces ["self"] [] := (F_pieces.binds fun _ _ _ _ _ _ us hl => match us, hl with | [_], _ => rfl)
  have O_neighbours := ok_of (P := P) (w := w) (base := base) F_neighbours scNbrs (fun _ _ _ h => by obtain ⟨rfl, _⟩ := h; rfl) (b_nbrs B F G_need_node)
  have I_neighbours : Binds K fd_neighbours ["self", "node"] [] := (F_neighbours.binds fun _ _ _ _ _ _ us hl => match us, hl with | [_, _], _ => rfl)
  have O_drawn_together := ok_of (P := P) (w := w) (base := base) F_drawn_together scDrawn (fun _ _ _ h => by obtain ⟨_, rfl, _⟩ := h; rfl) (b_drawn B F M G_need_link G_link_of)
  have I_drawn_together : Binds K fd_drawn_together ["self", "link"] [] := (F_drawn_together.binds fun _ _ _ _ _ _ us hl => match us, hl with | [_, _], _ => rfl)
  have O___add__ := ok_of (P := P) (w := w) (base := base) F___add__ scAdd (fun _ _ _ h => by obtain ⟨_, rfl, _⟩ := h; rfl) (b_add B F M G_is_link C_conL)
  have I___add__ : Binds K fd___add__ ["self", "other"] [] := (F___add__.binds fun _ _ _ _ _ _ us hl => match us, hl with | [_, _], _ => rfl)
  have O___sub__ := ok_of (P := P) (w := w) (base := base) F___sub__ scSub (fun _ _ _ h => by obtain ⟨_, rfl, _⟩ := h; rfl) (b_sub B F M G_need_link G_link_of)
  have I___sub__ : Binds K fd___sub__ ["self", "other"] [] := (F___sub__.binds fun _ _ _ _ _ _ us hl => match us, hl with | [_, _], _ => rfl)
  have O___or__ := ok_of (P := P) (w := w) (base := base) F___or__ scOr (fun _ _ _ h => by obtain ⟨rfl, _⟩ := h; rfl) (b_or B F M G_need_net)
  have I___or__ : Binds K fd___or__ ["self", "other"] [] := (F___or__.binds fun _ _ _ _ _ _ us hl => match us, hl with | [_, _], _ => rfl)
  have O___and__ := ok_of (P := P) (w := w) (base := base) F___and__ scAnd (fun _ _ _ h => by obtain ⟨rfl, _⟩ := h; rfl) (b_and B F M G_need_net)
  have I___and__ : Binds K fd___and__ ["self", "other"] [] := (F___and__.binds fun _ _ _ _ _ _ us hl => match us, hl with | [_, _], _ => rfl)
  have I___repr__ : Binds K fd___repr__ ["self"] [] := (F___repr__.binds fun _ _ _ _ _ _ us hl => match us, hl with | [_], _ => rfl)
  have RP : OpG P w K mg base (ga K "Net") "__repr__" 1 (ASelf (ga K "Net")) RRepr := ⟨_, (let m := meth_ok (c.fact 80 (f := .meth "Net" "__repr__") rfl); (⟨m.1, m.2⟩ : HasOp K (ga K "Net") "__repr__" (atM "Net" "__repr__" K))), okG_of F___repr__ scRepr I___repr__ (fun _ _ _ h => by obtain ⟨rfl, _⟩ := h; rfl) (b_repr F)⟩
  have NP : NetP P w K mg base (ga K "Net") := ⟨⟨_, _, _, meth_ok (c.fact 66 (f := .meth "Net" "nodes") rfl), O_nodes, I_nodes⟩, ⟨_, _, _, meth_ok (c.fact 67 (f := .meth "Net" "links") rfl), O_links, I_links⟩, ⟨_, _, _, _, ⟨eqO_ok x17, eqO_ok x18, opB_ok x19, recB_ok x20⟩, O_size, I_size⟩, ⟨_, (let m := meth_ok (c.fact 78 (f := .meth "Net" "__len__") rfl); (⟨m.1, m.2⟩ : HasOp K (ga K "Net") "__len__" (atM "Net" "__len__" K))), raw_of O___len__ I___len__⟩, ⟨_, _, _, meth_ok (c.fact 68 (f := .meth "Net" "pieces") rfl), O_pieces, I_pieces⟩, ⟨_, _, _, meth_ok (c.fact 69 (f := .meth "Net" "neighbours") rfl), O_neighbours, I_neighbours⟩, RP⟩
  have CE : Opx P w K mg base (ga K "Net") "__eq__" 1 (AEq (ga K "Net")) REq := ⟨_, (let m := meth_ok (c.fact 77 (f := .meth "Net" "__eq__") rfl); (⟨m.1, m.2⟩ : HasOp K (ga K "Net") "__eq__" (atM "Net" "__eq__" K))), raw_of O___eq__ I___eq__⟩
  have NB : NeBy K (ga K "Net") := ⟨eqO_ok x6, opB_ok x7⟩
  have S_wo := star_of (P := P) (w := w) (mg := mg) (base := base) (starOk_of (ps := ["self"]) F_without scWo fun _ _ _ _ _ _ us rest hl => match us, rest, hl with | [_], [], _ => rfl | [_], _ :: _, _ => rfl) (b_without B F M G_need_node)
  have MW : MdS P w K mg base (ga K "Net") "without" 1 8 (AWo (ga K "Net") K) (RWo (ga K "Net")) := ⟨_, meth_ok (c.fact 70 (f := .meth "Net" "without") rfl), FnR.mono S_wo (by decide)⟩
  have DT : Md P w K mg base (ga K "Net") "drawn_together" 7 (ACont (ga K "Net") K) (RDrawn (ga K "Net")) := ⟨_, _, _, meth_ok (c.fact 71 (f := .meth "Net" "drawn_together") rfl), O_drawn_together, I_drawn_together⟩
  have DK : MdK P w K mg base (ga K "Net") "drawn_together" ["link"] 7 (ACont (ga K "Net") K) (RDrawn (ga K "Net")) := ⟨_, _, ["self", "link"], meth_ok (c.fact 71 (f := .meth "Net" "drawn_together") rfl), O_drawn_together, rfl, kb_of F_drawn_together fun _ _ _ _ _ _ u w => rfl⟩
  have OPL : OpT P w K mg base (ga K "Net") .Add 7 (AAdd (ga K "Net")) (RAdd (ga K "Net")) := ⟨_, ⟨(let m := meth_ok (c.fact 73 (f := .meth "Net" "__add__") rfl); (⟨m.1, m.2⟩ : HasOp K (ga K "Net") "__add__" (atM "Net" "__add__" K))), x8, _, _, eqO_ok x11, eqO_ok x12, by decide +kernel⟩, raw_of O___add__ I___add__⟩
  have OMI : OpT P w K mg base (ga K "Net") .Sub 7 (ACont (ga K "Net") K) (RSub (ga K "Net")) := ⟨_, ⟨(let m := meth_ok (c.fact 74 (f := .meth "Net" "__sub__") rfl); (⟨m.1, m.2⟩ : HasOp K (ga K "Net") "__sub__" (atM "Net" "__sub__" K))), x8, _, _, eqO_ok x9, eqO_ok x10, rfl⟩, raw_of O___sub__ I___sub__⟩
  have OOR : OpB P w K mg base (ga K "Net") .BitOr 7 (AOr (ga K "Net")) (ROr (ga K "Net")) := ⟨_, ⟨(let m := meth_ok (c.fact 75 (f := .meth "Net" "__or__") rfl); (⟨m.1, m.2⟩ : HasOp K (ga K "Net") "__or__" (atM "Net" "__or__" K))), x8⟩, raw_of O___or__ I___or__⟩
  have OAN : OpB P w K mg base (ga K "Net") .BitAnd 7 (AAnd (ga K "Net")) (RAnd (ga K "Net")) := ⟨_, ⟨(let m := meth_ok (c.fact 76 (f := .meth "Net" "__and__") rfl); (⟨m.1, m.2⟩ : HasOp K (ga K "Net") "__and__" (atM "Net" "__and__" K))), x8⟩, raw_of O___and__ I___and__⟩
  have KR : ∀ ks : List Str, ks ∈ ([[], ["aa"], ["aa", "b"], ["b", "aa"]] : List (List Str)) → FnKw P w K mg base 7 (atM "Net" "renamed" K) ks (SpF (ARen (ga K "Net")) (RRen (ga K "Net"))) := fun ks hk => by
    have bR := b_renamed (P := P) (w := w) (base := base) (f := atM "Net" "renamed" K) B F M G_sorted_names G_need_node G_is_name
    rcases List.mem_cons.mp hk with rfl | hk
    · exact kw_mk F_renamed scRen (by decide +kernel) (by decide) (fun _ _ _ _ _ _ a ws hl => match ws, hl with | [], _ => rfl) bR
    rcases List.mem_cons.mp hk with rfl | hk
    · exact kw_mk F_renamed scRen (by decide +kernel) (by decide) (fun _ _ _ _ _ _ a ws hl => match ws, hl with | [_], _ => rfl) bR
    rcases List.mem_cons.mp hk with rfl | hk
    · exact kw_mk F_renamed scRen (by decide +kernel) (by decide) (fun _ _ _ _ _ _ a ws hl => match ws, hl with | [_, _], _ => rfl) bR
    obtain rfl := List.mem_singleton.mp hk
    exact kw_mk F_renamed scRen (by decide +kernel) (by decide) (fun _ _ _ _ _ _ a ws hl => match ws, hl with | [_, _], _ => rfl) bR
  have MR : MdRen P w K mg base (ga K "Net") := ⟨_, meth_ok (c.fact 72 (f := .meth "Net" "renamed") rfl), KR⟩
  have G__law_draw := fn_mk (P := P) (w := w) (base := base) (n := "_law_draw") F__law_draw scDraw (F__law_draw.binds fun _ _ _ _ _ _ us hl => match us, hl with | [_, _], _ => rfl) (fun _ _ _ h => by obtain ⟨rfl, _⟩ := h; rfl) (b_draw BL) (glo_ok X G (c.fact 16 (f := .glo "_law_draw") rfl))
  have G__law_pot := fn_mk (P := P) (w := w) (base := base) (n := "_law_pot") F__law_pot scPot (F__law_pot.binds fun _ _ _ _ _ _ us hl => match us, hl with | [_, _], _ => rfl) (fun _ _ _ h => by obtain ⟨_, rfl, _⟩ := h; rfl) (K19.b_pot BL) (glo_ok X G (c.fact 15 (f := .glo "_law_pot") rfl))
  have G__law_link := fn_mk (P := P) (w := w) (base := base) (n := "_law_link") F__law_link scLink (F__law_link.binds fun _ _ _ _ _ _ us hl => match us, hl with | [_, _], _ => rfl) (fun _ _ _ h => by obtain rfl := h; rfl) (b_link) (glo_ok X G (c.fact 20 (f := .glo "_law_link") rfl))
  have G__law_pick := fn_mk (P := P) (w := w) (base := base) (n := "_law_pick") F__law_pick scPick (F__law_pick.binds fun _ _ _ _ _ _ us hl => match us, hl with | [_, _], _ => rfl) (fun _ _ _ h => by obtain ⟨_, rfl, _⟩ := h; rfl) (b_pick BL G__law_draw) (glo_ok X G (c.fact 17 (f := .glo "_law_pick") rfl))
  have G__law_mixed := fn_mk (P := P) (w := w) (base := base) (n := "_law_mixed") F__law_mixed scMixed (F__law_mixed.binds fun _ _ _ _ _ _ us hl => match us, hl with | [_, _], _ => rfl) (fun _ _ _ h => by obtain ⟨_, rfl, _⟩ := h; rfl) (b_mixed BL (free_ok X G (c.fact 46 (f := .free "list") rfl)) G__law_draw) (glo_ok X G (c.fact 18 (f := .glo "_law_mixed") rfl))
  have G__law_named := fn_mk (P := P) (w := w) (base := base) (n := "_law_named") F__law_named scNamed (F__law_named.binds fun _ _ _ _ _ _ us hl => match us, hl with | [_, _, _], _ => rfl) (fun _ _ _ h => by obtain ⟨_, rfl, _⟩ := h; rfl) (b_named BL G__law_draw) (glo_ok X G (c.fact 19 (f := .glo "_law_named") rfl))
  have G__law_any := fn_mk (P := P) (w := w) (base := base) (n := "_law_any") F__law_any scAny (F__law_any.binds fun _ _ _ _ _ _ us hl => match us, hl with | [_, _, _], _ => rfl) (fun _ _ _ h => by obtain ⟨rfl, _⟩ := h; rfl) (b_any BL (free_ok X G (c.fact 47 (f := .free "sorted") rfl)) G__law_draw G__law_named G__law_pick G__law_link) (glo_ok X G (c.fact 21 (f := .glo "_law_any") rfl))
  have G__law_turned := fn_mk (P := P) (w := w) (base := base) (n := "_law_turned") F__law_turned scTurned (F__law_turned.binds fun _ _ _ _ _ _ us hl => match us, hl with | [_, _], _ => rfl) (fun _ _ _ h => by obtain ⟨_, _, rfl, _⟩ := h; rfl) (b_turned BL G__law_draw G__law_mixed) (glo_ok X G (c.fact 22 (f := .glo "_law_turned") rfl))
  have G__law_net := fn_mk (P := P) (w := w) (base := base) (n := "_law_net") F__law_net scLNet (F__law_net.binds fun _ _ _ _ _ _ us hl => match us, hl with | [_, _], _ => rfl) (fun _ _ _ h => by obtain ⟨rfl, _⟩ := h; rfl) (b_lnet F M G__law_mixed G__law_turned) (glo_ok X G (c.fact 23 (f := .glo "_law_net") rfl))
  have G__law_near := fn_mk (P := P) (w := w) (base := base) (n := "_law_near") F__law_near scLNear (F__law_near.binds fun _ _ _ _ _ _ us hl => match us, hl with | [_, _], _ => rfl) (fun _ _ _ h => by obtain ⟨_, _, rfl, _⟩ := h; rfl) (b_lnear (free_ok X G (c.fact 47 (f := .free "sorted") rfl))) (glo_ok X G (c.fact 24 (f := .glo "_law_near") rfl))
  have G__law_piece := fn_mk (P := P) (w := w) (base := base) (n := "_law_piece") F__law_piece scLPc (F__law_piece.binds fun _ _ _ _ _ _ us hl => match us, hl with | [_, _], _ => rfl) (fun _ _ _ h => by obtain ⟨_, _, rfl, _⟩ := h; rfl) (b_lpiece (free_ok X G (c.fact 42 (f := .free "len") rfl)) (free_ok X G (c.fact 47 (f := .free "sorted") rfl)) G__law_near) (glo_ok X G (c.fact 25 (f := .glo "_law_piece") rfl))
  have G__law_pieces := fn_mk (P := P) (w := w) (base := base) (n := "_law_pieces") F__law_pieces scLPcs (F__law_pieces.binds fun _ _ _ _ _ _ us hl => match us, hl with | [_, _], _ => rfl) (fun _ _ _ h => by obtain ⟨_, _, _, rfl, _⟩ := h; rfl) (b_lpieces (free_ok X G (c.fact 47 (f := .free "sorted") rfl)) (free_ok X G (c.fact 55 (f := .free "zip") rfl)) G__law_piece) (glo_ok X G (c.fact 26 (f := .glo "_law_pieces") rfl))
  have G__law_is := gn_mk (P := P) (w := w) (base := base) (n := "_law_is") F__law_is scLIs (F__law_is.binds fun _ _ _ _ _ _ us hl => match us, hl with | [_, _], _ => rfl) (fun _ _ _ h => by obtain ⟨rfl, _⟩ := h; rfl) (b_lis B (free_ok X G (c.fact 57 (f := .free "repr") rfl)) F T NP G__law_pieces G__law_near) (glo_ok X G (c.fact 27 (f := .glo "_law_is") rfl))
  have G__law_told_model := fn_mk (P := P) (w := w) (base := base) (n := "_law_told_model") F__law_told_model scTold (F__law_told_model.binds fun _ _ _ _ _ _ us hl => match us, hl with | [_, _], _ => rfl) (fun _ _ _ h => by obtain ⟨_, _, _, rfl, _⟩ := h; rfl) (b_told (free_ok X G (c.fact 47 (f := .free "sorted") rfl)) (free_ok X G (c.fact 56 (f := .free "set") rfl)) G__law_link) (glo_ok X G (c.fact 28 (f := .glo "_law_told_model") rfl))
  have G__law_less := fn_mk (P := P) (w := w) (base := base) (n := "_law_less") F__law_less scLess (F__law_less.binds fun _ _ _ _ _ _ us hl => match us, hl with | [_, _], _ => rfl) (fun _ _ _ h => by obtain ⟨_, rfl, _⟩ := h; rfl) (b_less) (glo_ok X G (c.fact 29 (f := .glo "_law_less") rfl))
  have G__law_at := fn_mk (P := P) (w := w) (base := base) (n := "_law_at") F__law_at scLAt (F__law_at.binds fun _ _ _ _ _ _ us hl => match us, hl with | [_, _], _ => rfl) (fun _ _ _ h => by obtain ⟨_, rfl, _⟩ := h; rfl) (b_lat) (glo_ok X G (c.fact 32 (f := .glo "_law_at") rfl))
  have G__law_without := fn_mk (P := P) (w := w) (base := base) (n := "_law_without") F__law_without scLWo (F__law_without.binds fun _ _ _ _ _ _ us hl => match us, hl with | [_, _, _], _ => rfl) (fun _ _ _ h => by obtain ⟨rfl, _⟩ := h; rfl) (b_lwithout BL F MW G__law_draw G__law_pick G__law_less) (glo_ok X G (c.fact 30 (f := .glo "_law_without") rfl))
  have G__law_together := fn_mk (P := P) (w := w) (base := base) (n := "_law_together") F__law_together scTog (F__law_together.binds fun _ _ _ _ _ _ us hl => match us, hl with | [_, _, _], _ => rfl) (fun _ _ _ h => by obtain ⟨rfl, _⟩ := h; rfl) (b_ltog F DT DK G__law_draw G__law_pick G__law_at G__law_told_model) (glo_ok X G (c.fact 31 (f := .glo "_law_together") rfl))
  have G__law_beside := fn_mk (P := P) (w := w) (base := base) (n := "_law_beside") F__law_beside scBes (F__law_beside.binds fun _ _ _ _ _ _ us hl => match us, hl with | [_, _], _ => rfl) (fun _ _ _ h => by obtain ⟨rfl, _⟩ := h; rfl) (b_lbes BL G__law_draw G__law_named G__law_pick G__law_told_model) (glo_ok X G (c.fact 33 (f := .glo "_law_beside") rfl))
  have G__law_both := gn_mk (P := P) (w := w) (base := base) (n := "_law_both") F__law_both scBoth (F__law_both.binds fun _ _ _ _ _ _ us hl => match us, hl with | [_, _, _], _ => rfl) (fun _ _ _ h => by obtain ⟨rfl, _⟩ := h; rfl) (b_lboth B F OOR OAN G__law_draw G__law_beside G__law_net G__law_told_model G__law_is) (glo_ok X G (c.fact 34 (f := .glo "_law_both") rfl))
  have G__law_moved := fn_mk (P := P) (w := w) (base := base) (n := "_law_moved") F__law_moved scMoved (F__law_moved.binds fun _ _ _ _ _ _ us hl => match us, hl with | [_, _], _ => rfl) (fun _ _ _ h => by obtain ⟨_, _, rfl, _⟩ := h; rfl) (b_moved (free_ok X G (c.fact 58 (f := .free "dict") rfl)) G__law_told_model) (glo_ok X G (c.fact 36 (f := .glo "_law_moved") rfl))
  have G__law_renamed := fn_mk (P := P) (w := w) (base := base) (n := "_law_renamed") F__law_renamed scLRen (F__law_renamed.binds fun _ _ _ _ _ _ us hl => match us, hl with | [_, _, _], _ => rfl) (fun _ _ _ h => by obtain ⟨rfl, _⟩ := h; rfl) (b_lren B F M MR G__law_draw G__law_pick G__law_named G__law_moved) (glo_ok X G (c.fact 35 (f := .glo "_law_renamed") rfl))
  have G__law_step := gn_mk (P := P) (w := w) (base := base) (n := "_law_step") F__law_step scStep (F__law_step.binds fun _ _ _ _ _ _ us hl => match us, hl with | [_, _, _], _ => rfl) (fun _ _ _ h => by obtain ⟨rfl, _⟩ := h; rfl) (b_lstep B F OPL OMI G__law_draw G__law_pick G__law_link G__law_told_model G__law_turned G__law_without G__law_together G__law_both G__law_renamed) (glo_ok X G (c.fact 37 (f := .glo "_law_step") rfl))
  have G__law_right := gn_mk (P := P) (w := w) (base := base) (n := "_law_right") F__law_right scRt (F__law_right.binds fun _ _ _ _ _ _ us hl => match us, hl with | [_], _ => rfl) (fun _ _ _ h => by obtain ⟨rfl, _⟩ := h; rfl) (b_lright B BL F M CE NB G__law_any G__law_net G__law_turned G__law_is G__law_step) (glo_ok X G (c.fact 38 (f := .glo "_law_right") rfl))
  obtain ⟨f, hf, _, q⟩ := (gn_mk (P := P) (w := w) (base := base) (n := "law") F_law scLaw (F_law.binds fun _ _ _ _ _ _ us hl => match us, hl with | [_], _ => rfl) (fun _ _ _ h => by obtain ⟨_, rfl, _⟩ := h; rfl) (b_law B BL (free_ok X G (c.fact 54 (f := .free "min") rfl)) G__law_pot G__law_right) (glo_ok X G (c.fact 39 (f := .glo "law") rfl))).ex
  have e := hf.symm.trans (glo_ok X G (c.fact 39 (f := .glo "law") rfl))
  cases e
  exact @q
end
theorem walk_ofGE {l : PySem.W.OpenLaw} {n k : Nat} {q : Program} {loose : List Str} {XP : (Str → Option Value) → Heap → Prop} {YP : World → Heap → Prop} {d : DefRec} {sp : PySem.W.Frag → Sp} (hn : l.most = some n) (hn2 : n ≤ sizeLine) (hdf : d.params.defaults = []) (hr : Room k callerA)
    (F : ∀ (w : World) (mg : Str → Option Value) (fa : Addr) (h : Heap), YP w h → h.Ns mainGlobals mg → mg d.name = some (.ref fa) → ∃ K : PySem.W.Frag, K.In h ∧ ∀ base : Heap, K.In base → base.Ns mainGlobals mg → FnG l.prog w K mg base k fa (sp K))
    (hsp : ∀ (K : PySem.W.Frag) (H : Hp) (a : Addr) (ns : List Int), ns.length ≤ n → Only H → SqL K H a (ns.map V.int) → sp K [.ref a] H (fun v _ => v = .bl true) fun _ _ _ => False) :
    PySem.W.WalkO q loose XP YP l.row.toRowW d [] (fun f vs => PySem.call f vs) := by
  refine Att.attach_call hn hdf fun w s₀ s₁ mg mb fa o pm cd doc a vs ns G Y ho hd hcd hmg hobj hints hlen hg => ?_
  obtain ⟨K, KX, F'⟩ := F w mg fa _ Y G.T.g hmg
  exact law_callG KX G.T.g G.T.b G.T.builtins G.T.nolimit hg hobj hints (Nat.le_trans hlen hn2) hr F' fun H => hsp K H a ns hlen
end K19
open PySem PySem.W PySem.Calls PyProof.Rows
theorem PySem.Challenge.cw_outsigns_k13_whole_nets_made_of_nets_holds : PySem.Challenge.rw_outsigns_k13_whole_nets_made_of_nets.Holds := by
  w_on; o_law
  refine HandSHeadRun.head_any (r := K19.R) (q := view K19.R.prog [64]) (H := K19.hk) (ob := K19.ob) (M := 40000) (loose := K19.names) (d := HandSHeadRun.topDef K19.R.prog 64) (kwd := []) K19.ob_eq
    (by kernel_rfl) (fun s => by kernel_rfl) K19.run (by kernel_rfl) (by kernel_rfl) (by kernel_rfl) (by rfl) (by first | assumption | decide +kernel) (by decide +kernel) ⟨rfl, rfl, rfl, rfl, rfl, by decide +kernel⟩ ?hw ?hc
  case hw => w_witness2
  case hc =>
    refine K19.walk_ofGE (l := PySem.Challenge.rw_outsigns_k13_whole_nets_made_of_nets) (n := 63) (k := 12) (sp := fun K => LW.SpF (K19.ALaw K) K19.RTrue) rfl (by decide) (by kernel_rfl) ⟨rfl, by decide, by decide⟩ ?F ?S
    case F =>
      intro w mg fa h Y G hmg0
      obtain ⟨K, KX, c⟩ := Y
      have hmg : mg ("law" : PySem.Str) = some (.ref fa) := by
        have e : (HandSHeadRun.topDef K19.R.prog 64).name = ("law" : PySem.Str) := by kernel_rfl
        rw [← e]
        exact hmg0
      have e : fa = LW.atG "law" K := by
        have z := hmg.symm.trans (He.glo_ok KX G (c.fact 39 (f := .glo "law") rfl))
        cases z
        rfl
      subst e
      exact ⟨K, KX, fun base _ _ => K19.law_facts KX G c⟩
    case S =>
      intro K H a ns hl _ hS
      exact ⟨ns, H, Evl.Ex.refl H, fun H' e => ⟨a, rfl, Evl.ex_l e hS, hl⟩, fun v Hn H2 g r => r.now⟩
