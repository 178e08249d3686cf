"""The tests of raggedtotals."""
