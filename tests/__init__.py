"""The tests of Sealshelf."""
