/- Nodes and messages as plain values: what a node is, does and sends. -/
import Derived.Test.YtdpcebaggldaiaaTMath
import Derived.Test.YtdpcebaggldaiaaUMath
namespace Go.Proofs.Ytdpcebaggldaiaa
namespace Rft
open Trl
set_option linter.unusedVariables false

structure Nd where
  id : Int
  conf : List Int
  term : Int
  vote : Int
  role : Int
  lead : Int
  b : Int
  k : Int
  l : List En
  snap : ByteArray
  com : Int
  left : Int
  wait : Int
  votes : List Int
  next : List Int
  mat : List Int
structure Mg where
  kind : Int
  fm : Int
  tt : Int
  term : Int
  index : Int
  logt : Int
  com : Int
  yes : Bool
  es : List En
  data : ByteArray
def mg0 : Mg := ⟨0, 0, 0, 0, 0, 0, 0, false, [], ⟨#[]⟩⟩
namespace Nd
def last (r : Nd) : Int := r.b + (r.l.length : Int)
def lastt (r : Nd) : Int := lastT r.k r.l
end Nd
/-- No number comes twice, and each is in the group. -/
def onceIn (conf : List Int) : List Int → List Int → Bool
  | _, [] => true
  | seen, x :: l => Quo.has conf x && !Quo.has seen x && onceIn conf (seen ++ [x]) l
def cand (r : Nd) : Bool :=
  decide (r.vote = r.id) && !decide (r.votes.length = 0) && decide (r.votes.head? = some r.id) && !Quo.wins r.conf r.votes && onceIn r.conf [] r.votes && decide (r.next.length = 0) && decide (r.mat.length = 0)
def numsOk (last : Int) : List Int → List Int → Bool
  | n :: ns, m :: ms => decide (0 ≤ m) && decide (m ≤ last) && decide (m < n) && decide (n ≤ last + 1) && numsOk last ns ms
  | _, _ => true
def leads (r : Nd) : Bool :=
  decide (r.vote = r.id) && decide (r.lead = r.id) && decide (r.votes.length = 0) && decide (r.next.length = r.conf.length) && decide (r.mat.length = r.conf.length) && numsOk r.last r.next r.mat
/-- A right node. -/
def ok (r : Nd) : Bool :=
  (Quo.chk r.conf && Quo.has r.conf r.id && decide (0 ≤ r.term) && decide (r.term ≤ 1099511627776) && chk r.b r.k r.l) &&
  ((decide (r.vote = 0) || Quo.has r.conf r.vote) && (decide (r.lead = 0) || Quo.has r.conf r.lead)) &&
  (decide (r.lastt ≤ r.term) && decide (r.snap.size ≤ 60000) && decide (r.b ≤ r.com) && decide (r.com ≤ r.last)) &&
  (decide (0 ≤ r.left) && decide (r.left ≤ 100) && decide (10 ≤ r.wait) && decide (r.wait ≤ 19)) &&
  (if r.role = 0 then decide (r.votes.length = 0) && decide (r.next.length = 0) && decide (r.mat.length = 0) else if r.role = 1 then cand r else if r.role = 2 then leads r else false)
/-- A message more. -/
def say (r : Nd) (L : List Mg) (m : Mg) : List Mg := L ++ [{ m with fm := r.id, term := r.term }]
def at0 (l : List Int) (i : Nat) : Int := l.getD i 0
/-- What is pushed to the node at a place. -/
def pushM (r : Nd) (i : Nat) : Mg :=
  if at0 r.next i ≤ r.b then { mg0 with kind := 5, tt := at0 r.conf i, index := r.b, logt := r.k, data := r.snap }
  else { mg0 with kind := 3, tt := at0 r.conf i, index := at0 r.next i - 1, logt := tm r.b r.k r.l (at0 r.next i - 1), com := r.com, es := (r.l.drop (at0 r.next i - 1 - r.b).toNat).take 8 }
def push (r : Nd) (L : List Mg) (i : Nat) : List Mg := say r L (pushM r i)
/-- To all others, up to a place. -/
def pushTo (r : Nd) (L : List Mg) : Nat → List Mg
  | 0 => L
  | i + 1 => if at0 r.conf i = r.id then pushTo r L i else push r (pushTo r L i) i
def pushAll (r : Nd) (L : List Mg) : List Mg := pushTo r L r.conf.length
/-- Each node with a number. -/
def items : List Int → List Int → List (Int × Int)
  | a :: l, b :: m => (a, b) :: items l m
  | _, _ => []
def agree (r : Nd) : Nd :=
  if Quo.rea r.conf (items r.conf r.mat) ≤ r.com then r
  else if Quo.rea r.conf (items r.conf r.mat) ≤ r.last ∧ r.b ≤ Quo.rea r.conf (items r.conf r.mat) ∧ tm r.b r.k r.l (Quo.rea r.conf (items r.conf r.mat)) = r.term then { r with com := Quo.rea r.conf (items r.conf r.mat) } else r
/-- The place of a node. -/
def place (conf : List Int) (id : Int) : Nat := conf.findIdx (· == id)
def own (r : Nd) : Nd := { r with mat := r.mat.set (place r.conf r.id) r.last, next := r.next.set (place r.conf r.id) (r.last + 1) }
def clear (r : Nd) : Nd := { r with votes := [], next := [], mat := [] }
/-- An entry more. -/
def more (b k : Int) (l : List En) (e : En) : Option (List En) := if chk b k (l ++ [e]) = true then some (l ++ [e]) else none
def lead0 (r : Nd) : Nd := { r with role := 2, lead := r.id, left := 2, votes := [], next := r.conf.map fun _ => r.last + 1, mat := r.conf.map fun _ => 0 }
def lead1 (r : Nd) : Nd := match more r.b r.k r.l (r.term, ⟨#[]⟩) with
  | some l => { lead0 r with l := l }
  | none => lead0 r
def leadN (r : Nd) : Nd := agree (own (lead1 r))
def leadL (r : Nd) (L : List Mg) : List Mg := pushAll (leadN r) L
def drawn (d : Int) : Int := 10 + (if d < 0 then 0 - (d + 1) else d).tmod 10
def stand0 (r : Nd) (d : Int) : Nd := { clear r with term := r.term + 1, vote := r.id, role := 1, lead := 0, votes := [r.id], wait := drawn d, left := drawn d }
/-- Asks to all others, up to a place. -/
def askTo (r : Nd) (L : List Mg) : Nat → List Mg
  | 0 => L
  | i + 1 => if at0 r.conf i = r.id then askTo r L i else say r (askTo r L i) { mg0 with kind := 1, tt := at0 r.conf i, index := r.last, logt := r.lastt }
def standN (r : Nd) (d : Int) : Nd := if r.term = 1099511627776 then r else if r.conf.length = 1 then leadN (stand0 r d) else stand0 r d
def standL (r : Nd) (L : List Mg) (d : Int) : List Mg := if r.term = 1099511627776 then L else if r.conf.length = 1 then leadL (stand0 r d) L else askTo (stand0 r d) L r.conf.length
def less (r : Nd) : Nd := if 0 < r.left then { r with left := r.left - 1 } else r
/-- A tick. -/
def tickN (r : Nd) (d : Int) : Nd :=
  if ok r = false then r
  else if 0 < (less r).left then less r
  else if r.role = 2 then { less r with left := 2 }
  else standN (less r) d
def tickL (r : Nd) (d : Int) : List Mg :=
  if ok r = false then []
  else if 0 < (less r).left then []
  else if r.role = 2 then pushAll { less r with left := 2 } []
  else standL (less r) [] d
def restart (r : Nd) : Nd := ⟨r.id, r.conf, r.term, r.vote, 0, 0, r.b, r.k, r.l, r.snap, r.b, 10, 10, [], [], []⟩
/-- Is a message taken? -/
def takes (r : Nd) (m : Mg) : Bool :=
  (decide (1 ≤ m.kind) && decide (m.kind ≤ 5) && decide (m.tt = r.id) && !decide (m.fm = r.id) && Quo.has r.conf m.fm) &&
  (decide (1 ≤ m.term) && decide (m.term ≤ 1099511627776) && decide (0 ≤ m.index) && decide (m.index ≤ 1099511627776) && decide (0 ≤ m.logt) && decide (m.logt ≤ m.term) && decide (0 ≤ m.com) && decide (m.com ≤ 1099511627776)) &&
  (decide (m.es.length ≤ 8) && decide (m.data.size ≤ 60000) && foll m.logt m.es) && (decide (m.es.length = 0) || decide (lastT 0 m.es ≤ m.term))
def heard (r : Nd) (m : Mg) : Nd := { clear r with role := 0, lead := m.fm, left := r.wait }
/-- The lesser of two. -/
def mn (a b : Int) : Int := if a < b then a else b
def hint (r : Nd) (m : Mg) : Int := mn r.last (if m.index - 1 < 0 then 0 else m.index - 1)
def pushedN (r : Nd) (m : Mg) : Nd := match Put r.b r.k r.l m.index m.logt m.es r.com with
  | none => heard r m
  | some l =>
    let c := mn (r.b + (l.length : Int)) (mn (m.index + (m.es.length : Int)) m.com)
    { heard r m with l := l, com := if r.com < c then c else r.com }
def pushedL (r : Nd) (m : Mg) (L : List Mg) : List Mg := match Put r.b r.k r.l m.index m.logt m.es r.com with
  | none => say r L { mg0 with kind := 4, tt := m.fm, index := hint r m }
  | some l => say r L { mg0 with kind := 4, tt := m.fm, yes := true, index := if m.index + (m.es.length : Int) < r.b then r.b else m.index + (m.es.length : Int) }
def bundledN (r : Nd) (m : Mg) : Nd :=
  if r.com < m.index then
    (if r.b ≤ m.index ∧ m.index ≤ r.last ∧ tm r.b r.k r.l m.index = m.logt then { heard r m with b := m.index, k := m.logt, l := r.l.drop (m.index - r.b).toNat, snap := m.data, com := m.index }
     else { heard r m with b := m.index, k := m.logt, l := [], snap := m.data, com := m.index })
  else heard r m
def bundledL (r : Nd) (m : Mg) (L : List Mg) : List Mg := say r L { mg0 with kind := 4, tt := m.fm, yes := true, index := (bundledN r m).com }
def ackY (r : Nd) (m : Mg) : Nd :=
  let i := place r.conf m.fm
  let x := if at0 r.mat i < m.index then m.index else at0 r.mat i
  agree { r with mat := r.mat.set i x, next := r.next.set i (x + 1) }
def ackNext (r : Nd) (m : Mg) : Int :=
  let i := place r.conf m.fm
  let n := if m.index + 1 < at0 r.next i - 1 then m.index + 1 else at0 r.next i - 1
  if n < at0 r.mat i + 1 then at0 r.mat i + 1 else n
def ackF (r : Nd) (m : Mg) : Nd := { r with next := r.next.set (place r.conf m.fm) (ackNext r m) }
def ackedN (r : Nd) (m : Mg) : Nd := if r.last < m.index then r else if m.yes then ackY r m else ackF r m
def ackedL (r : Nd) (m : Mg) (L : List Mg) : List Mg :=
  if r.last < m.index then L
  else if m.yes then (if at0 (ackY r m).next (place r.conf m.fm) ≤ r.last then push (ackY r m) L (place r.conf m.fm) else L)
  else push (ackF r m) L (place r.conf m.fm)
def newer (r : Nd) (n q : Int) : Bool := decide (r.lastt < q) || (decide (q = r.lastt) && decide (r.last ≤ n))
def asks (r : Nd) (m : Mg) : Bool := (decide (r.vote = 0) || decide (r.vote = m.fm)) && decide (r.role = 0) && newer r m.index m.logt
def askN (r : Nd) (m : Mg) : Nd := if asks r m then { r with vote := m.fm, left := r.wait } else r
def askL (r : Nd) (m : Mg) (L : List Mg) : List Mg := say r L { mg0 with kind := 2, tt := m.fm, yes := asks r m }
def grants (r : Nd) (m : Mg) : Bool := decide (r.role = 1) && m.yes && !Quo.has r.votes m.fm
def voted (r : Nd) (m : Mg) : Nd := { r with votes := r.votes ++ [m.fm] }
def grantN (r : Nd) (m : Mg) : Nd := if grants r m then (if Quo.wins r.conf (r.votes ++ [m.fm]) then leadN (voted r m) else voted r m) else r
def grantL (r : Nd) (m : Mg) (L : List Mg) : List Mg := if grants r m then (if Quo.wins r.conf (r.votes ++ [m.fm]) then leadL (voted r m) L else L) else L
/-- A later term. -/
def later (r : Nd) (m : Mg) : Nd := if r.term < m.term then { clear r with term := m.term, vote := 0, role := 0, lead := 0 } else r
def armN (r : Nd) (m : Mg) : Nd :=
  if m.kind = 1 then askN r m else if m.kind = 2 then grantN r m else if m.kind = 3 then (if r.role = 2 then r else pushedN r m)
  else if m.kind = 5 then (if r.role = 2 then r else bundledN r m) else (if r.role = 2 then ackedN r m else r)
def armL (r : Nd) (m : Mg) (L : List Mg) : List Mg :=
  if m.kind = 1 then askL r m L else if m.kind = 2 then grantL r m L else if m.kind = 3 then (if r.role = 2 then L else pushedL r m L)
  else if m.kind = 5 then (if r.role = 2 then L else bundledL r m L) else (if r.role = 2 then ackedL r m L else L)
/-- A message. -/
def handN (r : Nd) (m : Mg) : Nd :=
  if (ok r && takes r m) = false then r
  else if m.term < (later r m).term then later r m
  else armN (later r m) m
def handL (r : Nd) (m : Mg) : List Mg :=
  if (ok r && takes r m) = false then []
  else if m.term < (later r m).term then
    (if m.kind = 1 then say (later r m) [] { mg0 with kind := 2, tt := m.fm } else if m.kind = 3 ∨ m.kind = 5 then say (later r m) [] { mg0 with kind := 4, tt := m.fm } else [])
  else armL (later r m) m []
end Rft
end Go.Proofs.Ytdpcebaggldaiaa
