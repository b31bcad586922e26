import Derived.Test.YtfnnchibngigdaaGreatDoorS00
set_option linter.all false
set_option maxRecDepth 100000
set_option maxHeartbeats 0
namespace Go.Proofs.Zz
open Go.RowKit Go.Shelf
def VV(w:World)(d:JW)(db:Qu aS):Prop:=uJ w d db/\∀i,i<db.length->yR w (db.getD i rz).ad (db.getD i rz).rs
