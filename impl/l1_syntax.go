package impl

import (
	"strconv"
	"strings"
)

const (
	CodeOK      = 0
	CodeSyntax  = 1
	CodeLimit   = 2
	CodeBudget  = 3
	CodeBad     = 4
	CodeCorrupt = 5
	CodeFull    = 6
	CodeRange   = 7
)

const (
	MaxPattern = 2000
	MaxDepth   = 100
	MaxRepeat  = 250
	MaxSize    = 500
	MaxOps     = 3000
)

const (
	OpEmpty = 0
	OpSet   = 1
	OpCat   = 2
	OpAlt   = 3
	OpRep   = 4
)

const (
	newline     = 10
	unbounded   = -1
	noByte      = -1
	endOfText   = -1
	maxDigits   = 4
	specials    = `\.[](){}|*+?^$`
	hexDigits   = "0123456789abcdef"
	firstShown  = 32
	lastShown   = 126
	bytesInAll  = 256
	bitsPerWord = 64
)

// How tightly the text of a node holds together: an operand that is looser
// than its place asks for stands in parentheses.
const (
	tightAlt = iota
	tightCat
	tightRep
	tightAtom
)

// Op is one element of a tree in postfix order.
type Op struct {
	Kind int
	Set  []int
	Min  int
	Max  int
}

// Pattern is a tree with its anchors.
type Pattern struct {
	Left  bool
	Right bool
	Tree  []Op
}

// ValidPattern answers whether the tree of p is valid.
func ValidPattern(p Pattern) bool {
	_, ok := nodeOf(p.Tree)
	return ok
}

// ParsePattern reads a pattern text.
func ParsePattern(text []byte) (p Pattern, code int) {
	if len(text) > MaxPattern {
		return Pattern{}, CodeLimit
	}
	defer func() {
		if stop := recover(); stop != nil {
			p, code = Pattern{}, faultCode(stop)
		}
	}()
	r := reader{text: text}
	left, root, right := r.readPattern()
	if r.overLimit || root.size() > MaxSize {
		return Pattern{}, CodeLimit
	}
	return Pattern{Left: left, Right: right, Tree: root.appendOps(nil)}, CodeOK
}

// PrintPattern writes the text that reads back as p.
func PrintPattern(p Pattern) []byte {
	root, ok := nodeOf(p.Tree)
	if !ok {
		return nil
	}
	var out []byte
	if p.Left {
		out = append(out, '^')
	}
	out = appendText(out, root)
	if p.Right {
		out = append(out, '$')
	}
	return out
}

// ExpandTree writes out every counted repetition of t.
func ExpandTree(t []Op) []Op {
	root, ok := nodeOf(t)
	if !ok {
		return nil
	}
	return expand(root).appendOps(nil)
}

// byteSet is a set of bytes, one bit for each.
type byteSet [bytesInAll / bitsPerWord]uint64

func (s byteSet) with(lo, hi int) byteSet {
	for b := lo; b <= hi; b++ {
		s[b/bitsPerWord] |= 1 << (b % bitsPerWord)
	}
	return s
}

func (s byteSet) has(b int) bool {
	return s[b/bitsPerWord]>>(b%bitsPerWord)&1 == 1
}

func (s byteSet) union(other byteSet) byteSet {
	for i := range s {
		s[i] |= other[i]
	}
	return s
}

func (s byteSet) complement() byteSet {
	for i := range s {
		s[i] = ^s[i]
	}
	return s
}

// pairs answers the canonical list of the set.
func (s byteSet) pairs() []int {
	var out []int
	for b := range bytesInAll {
		if !s.has(b) {
			continue
		}
		last := len(out) - 1
		if last > 0 && out[last] == b-1 {
			out[last] = b
		} else {
			out = append(out, b, b)
		}
	}
	return out
}

// members answers the bytes of the set in ascending order.
func (s byteSet) members() []int {
	var out []int
	for b := range bytesInAll {
		if s.has(b) {
			out = append(out, b)
		}
	}
	return out
}

func setOf(pairs []int) byteSet {
	var s byteSet
	for i := 0; i < len(pairs); i += 2 {
		s = s.with(pairs[i], pairs[i+1])
	}
	return s
}

func singleByte(b int) byteSet {
	return byteSet{}.with(b, b)
}

func allBytes() byteSet {
	return byteSet{}.complement()
}

func allButNewline() byteSet {
	return singleByte(newline).complement()
}

// node is a tree, or a part of one. A node is never changed once it is made, so
// that a tree may hold the same one in several places.
type node interface {
	// size stops counting at MaxSize + 1.
	size() int
	// appendOps puts the node's elements in postfix order behind out.
	appendOps(out []Op) []Op
}

type emptyNode struct{}

type setNode struct {
	set byteSet
}

type catNode struct {
	left, right node
}

type altNode struct {
	left, right node
}

type repNode struct {
	operand  node
	min, max int
}

// cappedSize keeps sizes small enough to be added and multiplied. A node is
// never smaller than its operand, so a cap below is still seen above.
func cappedSize(n int) int {
	return min(n, MaxSize+1)
}

func (emptyNode) size() int {
	return 1
}

func (setNode) size() int {
	return 1
}

func (n catNode) size() int {
	return cappedSize(n.left.size() + n.right.size())
}

func (n altNode) size() int {
	return cappedSize(n.left.size() + n.right.size())
}

func (n repNode) size() int {
	c := n.operand.size()
	switch n.max {
	case unbounded:
		return cappedSize(max(1, n.min)*c + 1)
	case 0:
		return c
	}
	return cappedSize(n.min*c + (n.max-n.min)*(c+1))
}

func (emptyNode) appendOps(out []Op) []Op {
	return append(out, Op{Kind: OpEmpty})
}

func (n setNode) appendOps(out []Op) []Op {
	return append(out, Op{Kind: OpSet, Set: n.set.pairs()})
}

func (n catNode) appendOps(out []Op) []Op {
	out = n.right.appendOps(n.left.appendOps(out))
	return append(out, Op{Kind: OpCat})
}

func (n altNode) appendOps(out []Op) []Op {
	out = n.right.appendOps(n.left.appendOps(out))
	return append(out, Op{Kind: OpAlt})
}

func (n repNode) appendOps(out []Op) []Op {
	out = n.operand.appendOps(out)
	return append(out, Op{Kind: OpRep, Min: n.min, Max: n.max})
}

// nodeOf answers the tree of a postfix list, and false if the list is no valid
// tree.
func nodeOf(ops []Op) (node, bool) {
	if len(ops) < 1 || len(ops) > MaxOps {
		return nil, false
	}
	var stack []node
	for _, op := range ops {
		if !validElement(op) || len(stack) < operandCount(op.Kind) {
			return nil, false
		}
		stack = pushElement(stack, op)
	}
	if len(stack) != 1 || stack[0].size() > MaxSize {
		return nil, false
	}
	return stack[0], true
}

func validElement(op Op) bool {
	switch op.Kind {
	case OpSet:
		return canonical(op.Set) && op.Min == 0 && op.Max == 0
	case OpRep:
		return len(op.Set) == 0 && validBounds(op.Min, op.Max)
	case OpEmpty, OpCat, OpAlt:
		return len(op.Set) == 0 && op.Min == 0 && op.Max == 0
	}
	return false
}

func validBounds(low, high int) bool {
	if low < 0 || low > MaxRepeat {
		return false
	}
	return high == unbounded || low <= high && high <= MaxRepeat
}

func canonical(set []int) bool {
	if len(set)%2 != 0 {
		return false
	}
	least := 0
	for i := 0; i < len(set); i += 2 {
		lo, hi := set[i], set[i+1]
		if lo < least || hi < lo || hi >= bytesInAll {
			return false
		}
		least = hi + 2
	}
	return true
}

func operandCount(kind int) int {
	switch kind {
	case OpRep:
		return 1
	case OpCat, OpAlt:
		return 2
	}
	return 0
}

// pushElement puts op on the stack in place of its operands, which must be
// there.
func pushElement(stack []node, op Op) []node {
	rest := len(stack) - operandCount(op.Kind)
	operands := stack[rest:]
	var made node
	switch op.Kind {
	case OpEmpty:
		made = emptyNode{}
	case OpSet:
		made = setNode{setOf(op.Set)}
	case OpCat:
		made = catNode{operands[0], operands[1]}
	case OpAlt:
		made = altNode{operands[0], operands[1]}
	case OpRep:
		made = repNode{operands[0], op.Min, op.Max}
	}
	return append(stack[:rest], made)
}

// expand answers n with every counted repetition written out.
func expand(n node) node {
	switch x := n.(type) {
	case catNode:
		return catNode{expand(x.left), expand(x.right)}
	case altNode:
		return altNode{expand(x.left), expand(x.right)}
	case repNode:
		return expandRep(x)
	}
	return n
}

func expandRep(n repNode) node {
	if n.max == 0 {
		return emptyNode{}
	}
	operand := expand(n.operand)
	if n.max == unbounded {
		last := repNode{operand, min(n.min, 1), unbounded}
		return joinParts(append(copies(operand, n.min-1), last))
	}
	optional := altNode{operand, emptyNode{}}
	return joinParts(append(copies(operand, n.min), copies(optional, n.max-n.min)...))
}

// copies answers a list of n times the same part, with none if n is below 1.
func copies(part node, n int) []node {
	var out []node
	for range n {
		out = append(out, part)
	}
	return out
}

// joinParts joins one or more parts by cat, leftmost first.
func joinParts(parts []node) node {
	joined := parts[0]
	for _, part := range parts[1:] {
		joined = catNode{joined, part}
	}
	return joined
}

func appendText(out []byte, n node) []byte {
	switch x := n.(type) {
	case emptyNode:
		return append(out, "()"...)
	case setNode:
		return appendSet(out, x.set)
	case catNode:
		out = appendOperand(out, x.left, tightCat)
		return appendOperand(out, x.right, tightRep)
	case altNode:
		out = appendOperand(out, x.left, tightAlt)
		return appendOperand(append(out, '|'), x.right, tightCat)
	case repNode:
		out = appendOperand(out, x.operand, tightAtom)
		return appendBounds(out, x.min, x.max)
	}
	return out
}

// appendOperand puts parentheses around an operand that is looser than least.
func appendOperand(out []byte, n node, least int) []byte {
	if tightness(n) >= least {
		return appendText(out, n)
	}
	return append(appendText(append(out, '('), n), ')')
}

func tightness(n node) int {
	switch n.(type) {
	case altNode:
		return tightAlt
	case catNode:
		return tightCat
	case repNode:
		return tightRep
	}
	return tightAtom
}

func appendBounds(out []byte, low, high int) []byte {
	switch {
	case low == 0 && high == unbounded:
		return append(out, '*')
	case low == 1 && high == unbounded:
		return append(out, '+')
	case low == 0 && high == 1:
		return append(out, '?')
	}
	out = strconv.AppendInt(append(out, '{'), int64(low), 10)
	if high != low {
		out = append(out, ',')
	}
	if high != low && high != unbounded {
		out = strconv.AppendInt(out, int64(high), 10)
	}
	return append(out, '}')
}

func appendSet(out []byte, set byteSet) []byte {
	if set == allBytes() {
		return append(out, "[^]"...)
	}
	if set == allButNewline() {
		return append(out, '.')
	}
	pairs := set.pairs()
	if len(pairs) == 2 && pairs[0] == pairs[1] {
		return appendByte(out, pairs[0])
	}
	out = append(out, '[')
	for i := 0; i < len(pairs); i += 2 {
		out = appendRange(out, pairs[i], pairs[i+1])
	}
	return append(out, ']')
}

func appendRange(out []byte, lo, hi int) []byte {
	out = appendByte(out, lo)
	if hi == lo {
		return out
	}
	if hi > lo+1 {
		out = append(out, '-')
	}
	return appendByte(out, hi)
}

func appendByte(out []byte, b int) []byte {
	switch {
	case b == '\n':
		return append(out, `\n`...)
	case b == '\t':
		return append(out, `\t`...)
	case b == '\r':
		return append(out, `\r`...)
	case b == '-' || isSpecial(b):
		return append(out, '\\', byte(b))
	case b >= firstShown && b <= lastShown:
		return append(out, byte(b))
	}
	return append(out, '\\', 'x', hexDigits[b/16], hexDigits[b%16])
}

func isSpecial(b int) bool {
	return strings.IndexByte(specials, byte(b)) >= 0
}

// fault is what the reader panics with: the text is outside the grammar.
type fault struct {
	at int
}

func (f fault) Error() string {
	return "outside the grammar ahead of byte " + strconv.Itoa(f.at)
}

// faultCode answers the code of a fault. Any other panic is no fault of the
// text, and goes on.
func faultCode(stop any) int {
	if _, ok := stop.(fault); ok {
		return CodeSyntax
	}
	panic(stop)
}

// reader reads a pattern text from left to right. A broken limit is only kept
// in mind, as a fault further on in the text goes first.
type reader struct {
	text      []byte
	at        int
	depth     int
	overLimit bool
}

func (r *reader) fail() {
	panic(fault{r.at})
}

func (r *reader) peek() int {
	if r.at == len(r.text) {
		return endOfText
	}
	return int(r.text[r.at])
}

func (r *reader) next() int {
	b := r.peek()
	if b == endOfText {
		r.fail()
	}
	r.at++
	return b
}

// take steps over b if it comes next, and answers whether it did.
func (r *reader) take(b int) bool {
	if r.peek() != b {
		return false
	}
	r.at++
	return true
}

func (r *reader) expect(b int) {
	if !r.take(b) {
		r.fail()
	}
}

func (r *reader) readPattern() (left bool, root node, right bool) {
	left = r.take('^')
	root = r.readAlt()
	right = r.take('$')
	if r.peek() != endOfText {
		r.fail()
	}
	return left, root, right
}

func (r *reader) readAlt() node {
	root := r.readCat()
	for r.take('|') {
		root = altNode{root, r.readCat()}
	}
	return root
}

func (r *reader) readCat() node {
	var items []node
	for !r.atCatEnd() {
		items = append(items, r.readItem())
	}
	if len(items) == 0 {
		return emptyNode{}
	}
	return joinParts(items)
}

func (r *reader) atCatEnd() bool {
	switch r.peek() {
	case '|', ')', '$', endOfText:
		return true
	}
	return false
}

func (r *reader) readItem() node {
	atom := r.readAtom()
	switch {
	case r.take('*'):
		return repNode{atom, 0, unbounded}
	case r.take('+'):
		return repNode{atom, 1, unbounded}
	case r.take('?'):
		return repNode{atom, 0, 1}
	case r.take('{'):
		low, high := r.readBounds()
		return repNode{atom, low, high}
	}
	return atom
}

func (r *reader) readAtom() node {
	b := r.next()
	switch b {
	case '(':
		return r.readGroup()
	case '.':
		return setNode{allButNewline()}
	case '[':
		return setNode{r.readClass()}
	case '\\':
		set, _ := r.readEscape()
		return setNode{set}
	}
	if isSpecial(b) {
		r.fail()
	}
	return setNode{singleByte(b)}
}

func (r *reader) readGroup() node {
	r.depth++
	if r.depth > MaxDepth {
		r.overLimit = true
	}
	root := r.readAlt()
	r.expect(')')
	r.depth--
	return root
}

// readBounds reads what follows the opening brace of a counted repetition.
func (r *reader) readBounds() (low, high int) {
	low = r.readNumber()
	if r.take('}') {
		return low, low
	}
	r.expect(',')
	if r.take('}') {
		return low, unbounded
	}
	high = r.readNumber()
	r.expect('}')
	if low > high {
		r.fail()
	}
	return low, high
}

func (r *reader) readNumber() int {
	number, digits := 0, 0
	for digits < maxDigits && isDigit(r.peek()) {
		number = number*10 + r.next() - '0'
		digits++
	}
	if digits == 0 {
		r.fail()
	}
	if number > MaxRepeat {
		r.overLimit = true
	}
	return number
}

func isDigit(b int) bool {
	return b >= '0' && b <= '9'
}

// readClass reads what follows the opening bracket of a class.
func (r *reader) readClass() byteSet {
	negated := r.take('^')
	var set byteSet
	for !r.take(']') {
		set = set.union(r.readMember())
	}
	if negated {
		return set.complement()
	}
	return set
}

func (r *reader) readMember() byteSet {
	set, lo := r.readClassPart()
	if lo == noByte || !r.take('-') {
		return set
	}
	_, hi := r.readClassPart()
	if hi == noByte || hi < lo {
		r.fail()
	}
	return set.with(lo, hi)
}

// readClassPart reads a char or a setescape, and answers noByte beside the
// latter.
func (r *reader) readClassPart() (byteSet, int) {
	b := r.next()
	switch b {
	case '\\':
		return r.readEscape()
	case '[', ']', '^', '-':
		r.fail()
	}
	return singleByte(b), b
}

// readEscape reads what follows a backslash, and answers noByte beside the set
// of a setescape.
func (r *reader) readEscape() (byteSet, int) {
	var set byteSet
	letter := r.next()
	switch letter {
	case 'w':
		set = set.with('A', 'Z').with('a', 'z').with('_', '_')
		fallthrough
	case 'd':
		set = set.with('0', '9')
	case 's':
		set = set.with('\t', '\n').with('\r', '\r').with(' ', ' ')
	default:
		b := r.escapedByte(letter)
		return singleByte(b), b
	}
	return set, noByte
}

func (r *reader) escapedByte(letter int) int {
	switch letter {
	case 'n':
		return '\n'
	case 't':
		return '\t'
	case 'r':
		return '\r'
	case 'x':
		return r.readHexDigit()*16 + r.readHexDigit()
	}
	if letter != '-' && !isSpecial(letter) {
		r.fail()
	}
	return letter
}

func (r *reader) readHexDigit() int {
	b := r.next()
	switch {
	case isDigit(b):
		return b - '0'
	case b >= 'a' && b <= 'f':
		return b - 'a' + 10
	case b >= 'A' && b <= 'F':
		return b - 'A' + 10
	}
	r.fail()
	return noByte
}
