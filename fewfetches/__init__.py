"""Answer questions over stores of far pages, reading little more than anybody must."""
