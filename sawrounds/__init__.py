"""Sawrounds: a level that rises by steps and is cut by a part."""
