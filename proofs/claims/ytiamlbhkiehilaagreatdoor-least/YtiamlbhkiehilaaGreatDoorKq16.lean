import Derived.Test.YtiamlbhkiehilaaGreatDoorKq15
namespace Go.Proofs.YtiamlbhkiehilaaGreatDoor
section
theorem merge_ok(B:Nat)(c:Way)(n:Nat):MergeOK B c n:=by
 intro s a b w G h hw ha hb hu;by_cases he:s.rep a=s.rep b
 ·have e:s.merge a b=(false,s):=by
   unfold St.merge;rw[if_pos (by simpa using he)]
  rw[e];exact gmerge_same a b w G h ha hb he
 ·have e:s.merge a b=(true,(((s.fuse (min (s.rep a) (s.rep b)) (max (s.rep a) (s.rep b))).wait (min (s.rep a) (s.rep b))).clear (max (s.rep a) (s.rep b)))):=by
   unfold St.merge;rw[if_neg (by simpa using he)]
  rw[e];exact gmerge_new a b _ _ w G h hw ha hb hu he rfl rfl
end
end Go.Proofs.YtiamlbhkiehilaaGreatDoor
