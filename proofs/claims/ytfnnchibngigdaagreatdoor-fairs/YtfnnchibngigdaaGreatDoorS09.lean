import Derived.Test.YtfnnchibngigdaaGreatDoorS00
set_option linter.all false
set_option maxRecDepth 100000
set_option maxHeartbeats 0
namespace Go.Proofs.Zz
open Go.RowKit Go.Shelf
variable {fn:Func} {p:Tmp} {ty:TypeId}
def wW(h:fn.results=#[.cell p ty])(tmps:Array Value)(P:Program)(w:World) :
  (results fn tmps).run P w=((asAddr (tmps.getD p undef)).run P w).andThen λa b=>(loadVar ty a).run P b:=by simp only[results,h];simp_all
def xJ(h:fn.results=#[.cell p ty]){tmps:Array Value}{P:Program}{w:World}{B:Nat}{v:Value}(hp:tmps.getD p undef=.pointer (some (aD B 0)))(hl:(loadVar ty (aD B 0)).run P w=.ok v w) :
  (results fn tmps).run P w=.ok v w:=by rw[wW h,hp];simp[go_sem]at hl ⊢;simp[hl]
