"""The tests of ownfears."""
