"""Shutways: bridges that find a tree."""
