package lcs

// table is rows of cells, of any lengths: the row that was added last is taken first.
type table[T any] struct {
	cells []T
	from  []int
}

// newTable is a table without rows.
func newTable[T any]() *table[T] { return &table[T]{} }

// add lays a copy of a row behind the others.
func (t *table[T]) add(row []T) {
	t.from = append(t.from, len(t.cells))
	t.cells = append(t.cells, row...)
}

// take is the last row, which the table has no more. It stands in the table's memory till the next row is added.
func (t *table[T]) take() []T {
	last := len(t.from) - 1
	from := t.from[last]
	row := t.cells[from:]
	t.cells, t.from = t.cells[:from], t.from[:last]
	return row
}
