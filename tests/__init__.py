"""The tests of onewayread."""
