import Derived.Test.YtiamlbhkiehilaaGreatDoorKa17
namespace Go.Proofs.YtiamlbhkiehilaaGreatDoor
section
theorem uL(B:Nat)(c:Way)(n:Nat):oD B c n:=by
 intro s a b w G h i f g j;by_cases d:s.rep a=s.rep b
 ·have e:s.merge a b=(false,s):=by
   unfold St.merge;rw[if_pos (by simpa using d)]
  rw[e];exact Am a b w G h f g d
 ·have e:s.merge a b=(true,(((s.fuse (min (s.rep a) (s.rep b)) (max (s.rep a) (s.rep b))).wait (min (s.rep a) (s.rep b))).clear (max (s.rep a) (s.rep b)))):=by
   unfold St.merge;rw[if_neg (by simpa using d)]
  rw[e];exact BB a b _ _ w G h i f g j d rfl rfl
end
end Go.Proofs.YtiamlbhkiehilaaGreatDoor
